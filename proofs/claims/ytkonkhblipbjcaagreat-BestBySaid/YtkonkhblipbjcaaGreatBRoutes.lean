/- best.Routes: the first k of all routes, in order. It makes new memory alone. Conditions: up to 500 edges, k up to 800. -/
import Derived.Test.YtkonkhblipbjcaaGreatBRoutesM
import Derived.Maps.AppendAt
namespace Go.Proofs.YtkonkhblipbjcaaGreat
open Go.ChangeShapes Go.WideShapes Go.ChangeAt Go.RowKit Go.Sort Go.Maps Bp
set_option linter.unusedSimpArgs false
set_option linter.unusedVariables false
def RoutesP (w : World) (R : List Rtp) (e : Ending) (w' : World) : Prop := ∃ v, e = .returned v ∧ RO w' w.heap.size v R ∧ Below w.heap.size w w'
theorem own_apart {w : World} {b b' : Nat} {e e' : TypeId} {s s' n n' : Nat} {v v' : Value} {xs xs' : List Value} (h : w.ownsRow b e s v n xs) (h' : w.ownsRow b' e' s' v' n' xs') (hne : e ≠ e') : ∀ g, v.ownBlock = some g → v'.ownBlock ≠ some g := fun g hg hc => by
  rcases h.2 with ⟨rfl, _⟩ | ⟨g1, _, _, rfl, _, h1, _⟩
  · cases hg
  · rcases h'.2 with ⟨rfl, _⟩ | ⟨g2, _, _, rfl, _, h2, _⟩
    · cases hc
    · simp only [Value.ownBlock, Option.some.injEq] at hg hc
      subst hg hc
      rw [h1] at h2
      injection h2 with h2
      injection h2 with _ h3
      exact hne h3
/-- The append's world: all but the routes' own row is as it was. -/
theorem HB.keptR {S : Nat → Prop} {w w' : World} {wb : Nat} {v : Value} {d : List Bx} (h : HB w wb v d) (hk : Kept S w w') (h1 : ¬ S wb) (h2 : ∀ g, v.ownBlock = some g → ¬ S g) (h3 : ∀ x ∈ d, ∀ g, S g → x.off g) : HB w' wb v d :=
  ⟨h.head.kept hk h1, h.row.kept hk h3 h2, h.off⟩
set_option maxHeartbeats 8000000 in
set_option maxRecDepth 100000 in
theorem broutes_any (A : Option Addr) (n c : Nat) (l : List Ed) (f q now size by_ k : Int) (w : World) (hd : l.length = n) (hn : n ≤ 500) (hk : k ≤ 800) (hle : Sl w w.heap.size 8 A n c (flatEd l)) :
    Calls Tryz.prog 10 #[.slice A n c, .int .i64 f, .int .i64 q, .int .i64 now, .int .i64 size, .int .i64 by_, .int .i64 k] w (RoutesP w ((allR l f q now size by_).take k.toNat)) := by
  by_cases hk1 : k < 1
  · have hk0 : k.toNat = 0 := by omega
    rw [hk0, List.take_zero]
    clear hk0 hd hle
    go_enter Tryz.func10, Tryz.ntmps10
    go_wp2
    go_ret
    exact ⟨_, rfl, RO.nil _ _, by (repeat (first | exact Below.refl _ _ | refine Below.alloc ?_ (by first | omega | (simp; done) | (simp; omega)) _ | refine Below.setCell ?_ (by first | omega | (simp; done) | (simp; omega)) _ | refine Below.drew ?_))⟩
  obtain ⟨km, rfl⟩ : ∃ km : Nat, k = (km : Int) := ⟨k.toNat, by omega⟩
  have hkm1 : 1 ≤ km := by omega
  have hkm2 : km ≤ 800 := by omega
  rw [Int.toNat_natCast]
  have hk2 : decide ((km : Int) < 1) = false := decide_eq_false hk1
  have hk3 : ¬ km < 1 := by omega
  clear hk hk1
  have HD := Lib.hid hd
  have HLE := Lib.hid (fun w' (hb : Below w.heap.size w w') => hle.up hb)
  have HLB := Lib.hid (show 0 < n → ∀ ad, A = some ad → ad.block < w.heap.size from fun h0 ad e => hle.off_new h0 e)
  clear hd hle
  obtain ⟨B, hB⟩ : ∃ z, w.heap.size = z := ⟨_, rfl⟩

  obtain ⟨w1, hw1⟩ : ∃ z, w.alloc (.cells #[.slice A n c] 22) = z := ⟨_, rfl⟩
  have n0 : Blok w1 B 22 #[.slice A n c] := by have h := Blok.new w 22 #[.slice A n c]; rw [hw1, hB] at h; exact h
  have s1 : w1.heap.size = B + 1 := by rw [← hw1]; simp [hB]
  have hb : Below w.heap.size w w1 := hw1 ▸ (Below.refl _ _).alloc (Nat.le_refl _) _
  obtain ⟨w2, hw2⟩ : ∃ z, w1.alloc (.cells #[.int .i64 f] 3) = z := ⟨_, rfl⟩
  have n1 : Blok w2 (B + 1) 3 #[.int .i64 f] := by have h := Blok.new w1 3 #[.int .i64 f]; rw [hw2, s1] at h; exact h
  have s2 : w2.heap.size = B + 2 := by rw [← hw2]; simp [s1]
  replace hb : Below w.heap.size w w2 := hw2 ▸ hb.alloc hb.size _
  replace n0 := hw2 ▸ n0.alloc (.cells #[.int .i64 f] 3)
  obtain ⟨w3, hw3⟩ : ∃ z, w2.alloc (.cells #[.int .i64 q] 3) = z := ⟨_, rfl⟩
  have n2 : Blok w3 (B + 2) 3 #[.int .i64 q] := by have h := Blok.new w2 3 #[.int .i64 q]; rw [hw3, s2] at h; exact h
  have s3 : w3.heap.size = B + 3 := by rw [← hw3]; simp [s2]
  replace hb : Below w.heap.size w w3 := hw3 ▸ hb.alloc hb.size _
  replace n0 := hw3 ▸ n0.alloc (.cells #[.int .i64 q] 3)
  replace n1 := hw3 ▸ n1.alloc (.cells #[.int .i64 q] 3)
  obtain ⟨w4, hw4⟩ : ∃ z, w3.alloc (.cells #[.int .i64 now] 3) = z := ⟨_, rfl⟩
  have n3 : Blok w4 (B + 3) 3 #[.int .i64 now] := by have h := Blok.new w3 3 #[.int .i64 now]; rw [hw4, s3] at h; exact h
  have s4 : w4.heap.size = B + 4 := by rw [← hw4]; simp [s3]
  replace hb : Below w.heap.size w w4 := hw4 ▸ hb.alloc hb.size _
  replace n0 := hw4 ▸ n0.alloc (.cells #[.int .i64 now] 3)
  replace n1 := hw4 ▸ n1.alloc (.cells #[.int .i64 now] 3)
  replace n2 := hw4 ▸ n2.alloc (.cells #[.int .i64 now] 3)
  obtain ⟨w5, hw5⟩ : ∃ z, w4.alloc (.cells #[.int .i64 size] 3) = z := ⟨_, rfl⟩
  have n4 : Blok w5 (B + 4) 3 #[.int .i64 size] := by have h := Blok.new w4 3 #[.int .i64 size]; rw [hw5, s4] at h; exact h
  have s5 : w5.heap.size = B + 5 := by rw [← hw5]; simp [s4]
  replace hb : Below w.heap.size w w5 := hw5 ▸ hb.alloc hb.size _
  replace n0 := hw5 ▸ n0.alloc (.cells #[.int .i64 size] 3)
  replace n1 := hw5 ▸ n1.alloc (.cells #[.int .i64 size] 3)
  replace n2 := hw5 ▸ n2.alloc (.cells #[.int .i64 size] 3)
  replace n3 := hw5 ▸ n3.alloc (.cells #[.int .i64 size] 3)
  obtain ⟨w6, hw6⟩ : ∃ z, w5.alloc (.cells #[.int .i64 by_] 3) = z := ⟨_, rfl⟩
  have n5 : Blok w6 (B + 5) 3 #[.int .i64 by_] := by have h := Blok.new w5 3 #[.int .i64 by_]; rw [hw6, s5] at h; exact h
  have s6 : w6.heap.size = B + 6 := by rw [← hw6]; simp [s5]
  replace hb : Below w.heap.size w w6 := hw6 ▸ hb.alloc hb.size _
  replace n0 := hw6 ▸ n0.alloc (.cells #[.int .i64 by_] 3)
  replace n1 := hw6 ▸ n1.alloc (.cells #[.int .i64 by_] 3)
  replace n2 := hw6 ▸ n2.alloc (.cells #[.int .i64 by_] 3)
  replace n3 := hw6 ▸ n3.alloc (.cells #[.int .i64 by_] 3)
  replace n4 := hw6 ▸ n4.alloc (.cells #[.int .i64 by_] 3)
  obtain ⟨w7, hw7⟩ : ∃ z, w6.alloc (.cells #[.slice none 0 0] 42) = z := ⟨_, rfl⟩
  have n6 : Blok w7 (B + 6) 42 #[.slice none 0 0] := by have h := Blok.new w6 42 #[.slice none 0 0]; rw [hw7, s6] at h; exact h
  have s7 : w7.heap.size = B + 7 := by rw [← hw7]; simp [s6]
  replace hb : Below w.heap.size w w7 := hw7 ▸ hb.alloc hb.size _
  replace n0 := hw7 ▸ n0.alloc (.cells #[.slice none 0 0] 42)
  replace n1 := hw7 ▸ n1.alloc (.cells #[.slice none 0 0] 42)
  replace n2 := hw7 ▸ n2.alloc (.cells #[.slice none 0 0] 42)
  replace n3 := hw7 ▸ n3.alloc (.cells #[.slice none 0 0] 42)
  replace n4 := hw7 ▸ n4.alloc (.cells #[.slice none 0 0] 42)
  replace n5 := hw7 ▸ n5.alloc (.cells #[.slice none 0 0] 42)
  have HX7 : Hid (Boxes w7 B (B + 1) (B + 2) (B + 3) (B + 4) (B + 5) A n c f q now size by_) := ⟨n0, n1, n2, n3, n4, n5⟩
  have H07 : Hid (HB w7 (B + 6) (.slice none 0 0) []) := ⟨n6, ⟨World.ownsRow_nil _ _ _ _, fun x hx => (by cases hx), fun x hx => (by cases hx)⟩, fun x hx => (by cases hx)⟩
  have HB7 := Lib.hid hb
  have HBE := Lib.hid hB
  clear n0 n1 n2 n3 n4 n5 n6 hb
  go_enter Tryz.func10, Tryz.ntmps10
  go_upto_region 5 with fail
  clear hw1 s1 hw2 s2 hw3 s3 hw4 s4 hw5 s5 hw6 s6 hw7 s7 hB
  go_wp2_with fail
  refine (look_any B (B + 1) (B + 2) (B + 3) (B + 4) (B + 5) (B + 6) w.heap.size A n c l f q now size by_ (.slice none 0 0) [] none 0 0 [] none 0 0 [] w7 HD.out (by omega) rfl (by omega) (fun k hk => by omega) rfl (by omega) (fun k hk => by omega) HX7.out (HLE.out _ HB7.out) (Sl.nil0 _ _ _) (Sl.nil0 _ _ _) H07.out (fun j hj h => by simp at h) (by simp) HB7.out.size (fun h => by omega) _ rfl).mono ?_
  rintro e w8 ⟨rfl, hG⟩
  have hwb : w.heap.size ≤ B + 6 := by have := HBE.out; omega
  have HWB := Lib.hid hwb
  obtain ⟨v8, d8, hS8⟩ := RoutesS.start hwb HB7.out HX7.out H07.out hkm1 hG
  obtain ⟨wb, hwbe⟩ : ∃ z, B + 6 = z := ⟨_, rfl⟩
  have HS8 := Lib.hid hS8
  rw [hwbe] at HS8 HWB
  try rw [hwbe]
  clear hG hwb hS8 HX7 H07 HB7 hwbe
  go_wp2_with fail
  go_loopw [17] (fun rv wr => ∃ v L d, RoutesS l f q now size by_ w B (B + 1) (B + 2) (B + 3) (B + 4) (B + 5) wb A n c km wr rv v L d) (fun rv _ => km - lenV rv)
  case atStart => exact ⟨v8, [], d8, HS8.out⟩
  case round =>
    clear HS8 v8 d8 w8
    obtain ⟨v, L, d, hS⟩ := hrel
    rename_i rv
    obtain ⟨Ar, cr, rfl⟩ := slice_of_own hS.row.row
    have hLk : L.length < km := hS.lt
    by_cases hdd : d = []
    · subst hdd
      obtain ⟨A', c', rfl⟩ := slice_of_own hS.hb.row.row
      have cb := hS.hb.head.cell0
      have lb := hS.hb.head.lt
      have HF : RoutesP w ((allR l f q now size by_).take km) (.returned (.slice Ar L.length cr)) wr := ⟨_, rfl, hS.done, hS.below⟩
      have HFF := Lib.hid HF
      simp only [List.length_nil] at cb
      clear HF hS
      go_wp2
      go_ret
      exact HFF.out
    · obtain ⟨m, hm⟩ : ∃ m, d.length = m + 1 := ⟨d.length - 1, by cases d with | nil => exact absurd rfl hdd | cons a b => simp⟩
      obtain ⟨g, cg, rfl, hcap⟩ := own_posB hS.hb.row.row (by omega)
      rw [hm] at hS
      have hd0 : 0 < d.length := by omega
      obtain ⟨x, hx⟩ : ∃ x, gt d 0 = x := ⟨_, rfl⟩
      have hxd : x ∈ d := hx ▸ gt_mem hd0
      have hrow : BrRow wr 0 (.slice (some ⟨g, 0, none⟩) d.length cg) d := hm ▸ hS.hb.row
      have c0 : wr.cell? ⟨g, 0, none⟩ = some (.slice x.A x.n x.c) := by have h := hrow.cell (k := 0) (j := 0) hd0 (by omega); rw [hx] at h; simpa [Bx.cs] using h
      have c1 : wr.cell? ⟨g, 1, none⟩ = some (.int .i64 x.t) := by have h := hrow.cell (k := 0) (j := 1) hd0 (by omega); rw [hx] at h; simpa [Bx.cs] using h
      have c2 : wr.cell? ⟨g, 2, none⟩ = some (.int .i64 (x.r : Int)) := by have h := hrow.cell (k := 0) (j := 2) hd0 (by omega); rw [hx] at h; simpa [Bx.cs] using h
      have c3 : wr.cell? ⟨g, 3, none⟩ = some (.slice x.Ab x.nb x.cb) := by have h := hrow.cell (k := 0) (j := 3) hd0 (by omega); rw [hx] at h; simpa [Bx.cs] using h
      have cb := hS.hb.head.cell0
      have lb := hS.hb.head.lt
      have lg : g < wr.heap.size := (hS.hb.row.row.lt g rfl).2
      have hmb : m < 900000 := by have := hS.few; omega
      have HM := Lib.hid hm
      have HXE := Lib.hid hx
      have HXD := Lib.hid hxd
      have HS := Lib.hid hS
      obtain ⟨wA, hwA⟩ : ∃ z, wr.alloc (.cells #[.slice x.A x.n x.c, .int .i64 x.t, .int .i64 (x.r : Int), .slice x.Ab x.nb x.cb] 47) = z := ⟨_, rfl⟩
      have hbA : Below wr.heap.size wr wA := hwA ▸ (Below.refl _ _).alloc (Nat.le_refl _) _
      have hXA : Blok wA wr.heap.size 47 #[.slice x.A x.n x.c, .int .i64 x.t, .int .i64 (x.r : Int), .slice x.Ab x.nb x.cb] := hwA ▸ Blok.new wr _ _
      have HPOP := Lib.hid (hpop_any wb g cg m d wA hm hmb (hS.hb.below hbA) hS.heap)
      obtain ⟨nb, hnb⟩ : ∃ z, wr.heap.size = z := ⟨_, rfl⟩
      rw [hnb] at hXA
      have HXA := Lib.hid hXA
      have HBA := Lib.hid hbA
      have HNB := Lib.hid hnb
      clear hrow hm hx hxd hS hbA hXA hdd hd0 hcap
      go_upto_region 9 with fail
      clear c0 c1 c2 c3 cb lb hwA hnb
      go_wp2_with fail
      refine HPOP.out.mono ?_
      rintro e wB ⟨rfl, d', hHB, hl', hp', hh', hK'⟩
      rw [HXE.out] at hp'
      have hlw := HS.out.hb.head.lt
      have hXB := HXA.out.kept hK' (fun hc => by have := HNB.out; rcases hc with h | h <;> omega)
      have hne1 := own_apart HS.out.row.row HS.out.hb.row.row (by decide)
      have hne2 := Blok.ne_own HS.out.row.row HS.out.hb.head (by decide)
      have hrB : RtRow wB w.heap.size (.slice Ar L.length cr) L := (HS.out.row.below HBA.out).kept hK' (fun y hy g' hg => by
        rcases hg with rfl | rfl
        · exact HS.out.offw y hy
        · exact HS.out.offv y hy _ rfl) (fun g' hg hc => by
        rcases hc with rfl | rfl
        · exact hne2 hg
        · exact hne1 _ hg rfl)
      have hbB : Below w.heap.size w wB := below_kept (HS.out.below.trans (HBA.out.mono HS.out.below.size)) (Nat.le_refl _) hK' (fun k hk => by
        rcases hk with rfl | rfl
        · exact HWB.out
        · exact HS.out.vnew _ rfl)
      have hxB := (HS.out.box.below HBA.out).apart (HS.out.hb.below HBA.out) (hK'.trans (S' := fun _ => False) (Kept.refl _ _) (fun _ _ h => h.elim) |> fun (h : Kept (fun k => k = wb ∨ k = g) wA wB) => ⟨h.os, h.tape, h.output, h.size, fun k hk hn => h.block k hk (fun e => hn (by rcases e with e | e; exact .inl e; exact .inr (by rw [e]; rfl)))⟩)
      obtain ⟨i0, hi0, hz0, hz1, hz2⟩ := info_parts infoRh
      have z0 : wB.cell? ⟨nb, 0, none⟩ = some (.slice x.A x.n x.c) := hXB.cell 0
      have z1 : wB.cell? ⟨nb, 1, none⟩ = some (.int .i64 x.t) := hXB.cell 1
      have zl := hXB.lt
      have HRB := Lib.hid hrB
      have HBB := Lib.hid hbB
      have HHB := Lib.hid hHB
      have HXB := Lib.hid hXB
      have HBXB := Lib.hid hxB
      have HP := Lib.hid hp'
      have HHH := Lib.hid hh'
      have HL' := Lib.hid hl'
      have hlL : L.length ≤ 1000 := by omega
      have hwsB : w.heap.size ≤ wB.heap.size := hbB.size
      have hxoB : x.ok wB := ((HS.out.hb.row.ok x HXD.out).below HBA.out).kept hK' (fun g' hg => by
        rcases hg with rfl | rfl
        · exact HS.out.hb.off x HXD.out
        · exact HS.out.hb.row.off x HXD.out _ rfl)
      have HXO := Lib.hid hxoB
      clear HPOP hHB hl' hp' hh' hK' hXB hrB hbB hxB hne1 hne2 hlw hxoB
      go_upto_region 11 with (first | (at_builtin; refine wpList_append_own_at _ rfl (.tmp 32) (.tmp 35) 25 rfl w.heap.size 30 i0 _ 2 32 Tryz.underlying25 hi0 hz0 hz1 hz2 rfl (by decide) (.slice Ar L.length cr) L.length (flatRh (hdRx L)) rfl (HRB.out.row.alloc _) ⟨wB.heap.size, 0, none⟩ 1 1 [.slice x.A x.n x.c, .int .i64 x.t] rfl rfl (by exact lit_cells _ #[.slice x.A x.n x.c, .int .i64 x.t] _ _ rfl) (by simp [Value.oneCell']) (by unfold maxLen; omega) (by omega) (by simp; omega) ?_; intro v1 wC hown1 hg1 hx1 hat1))
      clear z0 z1 zl hi0 hz0 hz1 hz2 hx1
      have hg1' : Kept (fun k => (Value.slice Ar L.length cr).ownBlock = some k) wB wC := ((Kept.refl _ wB).alloc _).grow_ hg1 (fun i _ h => h)
      have hwsC := hg1'.size
      have hrw : ∀ g', (Value.slice Ar L.length cr).ownBlock = some g' → w.heap.size ≤ g' := fun g' hg => (HRB.out.row.lt g' hg).1
      have hnB1 := own_apart HHB.out.row.row HRB.out.row (by decide)
      have hnB2 := Blok.ne_own HRB.out.row HHB.out.head (by decide)
      have hHC : HB wC wb (.slice (some ⟨g, 0, none⟩) m cg) d' := HHB.out.keptR hg1' hnB2 (fun g' hg hc => hnB1 g' hg hc) (fun y hy g' hg => HS.out.offr y (HP.out.mem_iff.1 (List.mem_cons_of_mem _ hy)) g' hg)
      have hbox : ∀ (b' : Nat) (T : TypeId) (cs : Array Value), Blok wB b' T cs → 30 ≠ T → ¬ (Value.slice Ar L.length cr).ownBlock = some b' := fun b' T cs hb hT => Blok.ne_own HRB.out.row hb hT
      have hxC : Boxes wC B (B + 1) (B + 2) (B + 3) (B + 4) (B + 5) A n c f q now size by_ := HBXB.out.kept hg1' (hbox _ _ _ HBXB.out.l (by decide)) (hbox _ _ _ HBXB.out.f (by decide)) (hbox _ _ _ HBXB.out.q (by decide)) (hbox _ _ _ HBXB.out.n (by decide)) (hbox _ _ _ HBXB.out.s (by decide)) (hbox _ _ _ HBXB.out.b (by decide))
      have hXC := HXB.out.kept hg1' (hbox _ _ _ HXB.out (by decide))
      have hbC : Below w.heap.size w wC := below_kept HBB.out (Nat.le_refl _) hg1' hrw
      have hxC' : x.ok wC := HXO.out.kept hg1' (fun g' hg => HS.out.offr x HXD.out g' hg)
      have hfl : flatRh (hdRx (L ++ [x.rx])) = flatRh (hdRx L) ++ [.slice x.A x.n x.c, .int .i64 x.t] := by
        unfold hdRx
        rw [List.map_append, flatRh_append]
        rfl
      have hLl : (L ++ [x.rx]).length = L.length + 1 := by rw [List.length_append]; rfl
      have hal : ∀ g', v1.ownBlock = some g' → (Value.slice Ar L.length cr).ownBlock = some g' ∨ wB.heap.size ≤ g' := fun g' hg => by
        rcases hat1 with h | h
        · exact .inl (h.symm.trans hg)
        · rw [h] at hg
          simp only [Option.some.injEq] at hg
          right
          rw [← hg]
          simp
      have hrC : RtRow wC w.heap.size v1 (L ++ [x.rx]) := by
        refine ⟨by rw [hLl, hfl]; exact hown1, fun y hy => ?_, fun y hy g' hg => ?_⟩
        · rcases List.mem_append.1 hy with hy | hy
          · exact (HRB.out.ok y hy).keptP hg1' (fun g' hg => HRB.out.off y hy g' hg)
          · rw [List.mem_singleton.1 hy]; exact hxC'.rx
        · rcases List.mem_append.1 hy with hy | hy
          · rcases hal g' hg with h | h
            · exact HRB.out.off y hy g' h
            · exact (HRB.out.ok y hy).offP_new h
          · rw [List.mem_singleton.1 hy]
            rcases hal g' hg with h | h
            · exact (HS.out.offr x HXD.out g' h).rx
            · exact HXO.out.rx.offP_new h
      have how : ∀ y ∈ L ++ [x.rx], y.offP wb := fun y hy => by
        rcases List.mem_append.1 hy with hy | hy
        · exact HS.out.offw y hy
        · rw [List.mem_singleton.1 hy]; exact (HS.out.hb.off x HXD.out).rx
      have hov : ∀ y ∈ L ++ [x.rx], ∀ g', (Value.slice (some ⟨g, 0, none⟩) m cg).ownBlock = some g' → y.offP g' := fun y hy g' hg => by
        rcases List.mem_append.1 hy with hy | hy
        · exact HS.out.offv y hy g' hg
        · rw [List.mem_singleton.1 hy]; exact (HS.out.hb.row.off x HXD.out g' hg).rx
      have hor : ∀ y ∈ d', ∀ g', v1.ownBlock = some g' → y.off g' := fun y hy g' hg => by
        rcases hal g' hg with h | h
        · exact HS.out.offr y (HP.out.mem_iff.1 (List.mem_cons_of_mem _ hy)) g' h
        · exact (HHB.out.row.ok y hy).off_new h
      have hrw1 := Blok.ne_own hrC.row hHC.head (by decide)
      have hrv1 := own_apart hrC.row hHC.row.row (by decide)
      have hdp : 0 < d.length := by have := HM.out; omega
      have hPX : (gt d 0 :: d').Perm d := by rw [HXE.out]; exact HP.out
      obtain ⟨g1, c1, rfl, hc1⟩ := own_posB hown1 (by omega)
      have hlI : ((L.length : Nat) : Int) + 1 = ((L.length + 1 : Nat) : Int) := by omega
      by_cases hkk : L.length + 1 = km
      · have HF : RoutesP w ((allR l f q now size by_).take km) (.returned (.slice (some ⟨g1, 0, none⟩) (L.length + 1) c1)) wC := ⟨_, rfl, HS.out.full hdp hPX (by rw [HXE.out]; exact hrC) hkk, hbC⟩
        have HFF := Lib.hid HF
        have e1 : (((L.length + 1 : Nat) : Int) == (km : Int)) = true := by simp; omega
        have e2 : (((L.length : Nat) : Int) + 1 == (km : Int)) = true := by simp; omega
        clear HF hkk hPX hrv1 hrw1 hor hov how hrC hal hLl hfl hxC' hbC hXC hxC hbox hHC hnB1 hnB2 hrw hwsC hg1' hg1 hown1 hat1 hdp hlI hc1
        go_wp2
        go_ret
        exact HFF.out
      · have hlk2 : L.length + 1 < km := by omega
        have e1 : (((L.length + 1 : Nat) : Int) == (km : Int)) = false := by simp; omega
        have e2 : (((L.length : Nat) : Int) + 1 == (km : Int)) = false := by simp; omega
        have hok := HS.out.seek.ok x.br (List.mem_map_of_mem HXD.out)
        have hwH := rtok_wf hok.mem.1
        have hbn := HS.out.bans x HXD.out
        have hrn : x.r ≤ x.n := by
          have h := hok.le
          rw [← HXO.out.hl]
          have e : (idsT x.br.p).length = x.H.length := by show (x.H.map Hp.id).length = _; rw [List.length_map]
          rw [e] at h
          exact h
        have hnb9 : x.nb ≤ 90000 := by have h := hbn.1; rw [HXO.out.bl] at h; omega
        have hsz9 : d'.length + x.n < 900000 := by have h1 := HL'.out; have h2 := HXO.out.hn; have h3 := HS.out.few; have h4 := HM.out; omega
        have hlo9 : 0 < n → ∀ ad, A = some ad → ad.block ≠ wb ∧ (Value.slice (some ⟨g, 0, none⟩) m cg).ownBlock ≠ some ad.block := fun h0 ad e => by
          have h1 := HLB.out h0 ad e
          refine ⟨by have := HWB.out; omega, fun hc => ?_⟩
          have := HS.out.vnew _ hc
          omega
        have HPART := Lib.hid (part_w B (B + 1) (B + 2) (B + 3) (B + 4) (B + 5) wb A n c l f q now size by_ (.slice (some ⟨g, 0, none⟩) m cg) d' x.A x.n x.c x.t x.r x.Ab x.nb x.cb x.H x.bans wC HD.out (by omega) hxC (HLE.out _ hbC) hlo9 hHC HHH.out hsz9 hxC' hrn hwH hbn.2 hnb9)
        have HGO := Lib.hid (fun wE (hG : PartG wC.heap.size wb (.slice (some ⟨g, 0, none⟩) m cg) d' (partsTo l f q now size by_ x.br (x.n - x.r)) wC wE) => HS.out.go (wd := wC) (we := wE) (vd := .slice (some ⟨g, 0, none⟩) m cg) HWB.out hn hdp hPX hlk2 hbC hxC hHC (fun g' hg => HS.out.vnew g' hg) (by rw [HXE.out]; exact hrC) hrw1 hrv1 (by rw [HXE.out]; exact how) (by rw [HXE.out]; exact hov) hor (by rw [HXE.out]; exact hG))
        rw [HXE.out] at HGO
        have z0 : wC.cell? ⟨nb, 0, none⟩ = some (.slice x.A x.n x.c) := hXC.cell 0
        have z1 : wC.cell? ⟨nb, 1, none⟩ = some (.int .i64 x.t) := hXC.cell 1
        have z2 : wC.cell? ⟨nb, 2, none⟩ = some (.int .i64 (x.r : Int)) := hXC.cell 2
        have z3 : wC.cell? ⟨nb, 3, none⟩ = some (.slice x.Ab x.nb x.cb) := hXC.cell 3
        have zl := hXC.lt
        clear hkk hPX hrv1 hrw1 hor hov how hrC hal hLl hfl hxC' hbC hXC hxC hbox hHC hnB1 hnB2 hrw hwsC hg1' hg1 hown1 hat1 hdp hok hwH hbn hrn hnb9 hsz9 hlo9 hlI hc1
        go_wp2_with fail
        clear z0 z1 z2 z3 zl
        refine HPART.out.mono ?_
        rintro e wE ⟨rfl, hG⟩
        obtain ⟨v2, d2, hS2⟩ := HGO.out wE hG
        have HS2 := Lib.hid hS2
        clear hS2 hG HPART HGO
        go_wp2_with fail
        go_roundw
        case rel => exact ⟨v2, L ++ [x.rx], d2, HS2.out⟩
        case measure => simp [lenV]; omega
/-- The same, its answer spelt as a slice. -/
theorem broutes_v (A : Option Addr) (n c : Nat) (l : List Ed) (f q now size by_ k : Int) (w : World) (hd : l.length = n) (hn : n ≤ 500) (hk : k ≤ 800) (hle : Sl w w.heap.size 8 A n c (flatEd l)) (R : List Rtp) (hR : (allR l f q now size by_).take k.toNat = R) (m : Nat) (hm : R.length = m) :
    Calls Tryz.prog 10 #[.slice A n c, .int .i64 f, .int .i64 q, .int .i64 now, .int .i64 size, .int .i64 by_, .int .i64 k] w fun e w' => ∃ Av cv, e = .returned (.slice Av m cv) ∧ RO w' w.heap.size (.slice Av m cv) R ∧ Below w.heap.size w w' := by
  refine (broutes_any A n c l f q now size by_ k w hd hn hk hle).mono ?_
  rintro e w' ⟨v, rfl, h, hb⟩
  rw [hR] at h
  obtain ⟨Av, cv, rfl⟩ := h.sl
  rw [hm] at h ⊢
  exact ⟨Av, cv, rfl, h, hb⟩
end Go.Proofs.YtkonkhblipbjcaaGreat
