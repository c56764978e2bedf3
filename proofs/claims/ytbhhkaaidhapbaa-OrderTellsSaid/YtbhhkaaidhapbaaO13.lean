/- The document's order of routes: Compare, Less. It makes new memory alone. No condition but on sizes. -/
import Derived.Test.YtbhhkaaidhapbaaGQ7
import Derived.Test.YtbhhkaaidhapbaaGQ3
import Derived.Test.YtbhhkaaidhapbaaKeptJ
import Derived.Test.YtbhhkaaidhapbaaCatI
import Derived.Maps.AppendAt
import Derived.BigQuiet
import Derived.Deep.QuietTactic
namespace Go.Proofs.Ytbhhkaaidhapbaa
open Go.ChangeShapes Go.WideShapes Go.ChangeAt Go.RowKit Go.Sort
set_option linter.unusedSimpArgs false
set_option linter.unusedVariables false
theorem intAt {l : List Int} {k : Nat} (h : k < l.length) : (l.map (Value.int .i64))[k]? = some (.int .i64 (l.getD k 0)) := by
  simp [List.getD_eq_getElem?_getD, List.getElem?_eq_getElem h]
theorem Lst.atI {w : World} {B : Nat} {A : Option Addr} {n : Nat} {l : List Int} (h : Lst w B 1 A n (l.map (Value.int .i64))) (hl : l.length = n) {k : Nat} (hk : k < n) : ∃ ad, A = some ad ∧ ad.block < B ∧ w.cell? (ad.add k) = some (.int .i64 (l.getD k 0)) := by
  obtain ⟨ad, e, hb, hc⟩ := h.at_ (by omega)
  exact ⟨ad, e, hb, hc _ _ (intAt (by omega))⟩
theorem cmpR_cut (t : Int) (d : List Hp) (t' : Int) (d' : List Hp) : cmpR t d t' d' = cmpL (t :: (d.length : Int) :: (d.map Hp.id).take (min d.length d'.length)) (t' :: (d'.length : Int) :: (d'.map Hp.id).take (min d.length d'.length)) := by
  rw [cmpR_key]
  unfold keyR
  simp only [cmpL]
  by_cases e : cmpI t t' = 0
  · rw [if_pos e, if_pos e]
    by_cases e2 : cmpI (d.length : Int) (d'.length : Int) = 0
    · rw [if_pos e2, if_pos e2]
      have h := cmpI_zero.1 e2
      rw [List.take_of_length_le (by rw [List.length_map]; omega), List.take_of_length_le (by rw [List.length_map]; omega)]
    · rw [if_neg e2, if_neg e2]
  · rw [if_neg e, if_neg e]
theorem take_nextHpI {d : List Hp} {k : Nat} (h : k < d.length) : (d.map Hp.id).take (k + 1) = (d.map Hp.id).take k ++ [(gHp d k).id] := by
  rw [List.take_succ_eq_append_getElem (by rw [List.length_map]; exact h), List.getElem_map, gHp_eq h]
/-- Two rows of ints of the call's own, one apart from the other. -/
structure TwoI (base : Nat) (w : World) (xv yv : Value) (X Y : List Int) (m : Nat) : Prop where
  x : w.ownsRow base 3 1 xv m (X.map (Value.int .i64))
  y : w.ownsRow base 3 1 yv m (Y.map (Value.int .i64))
  ne : ∀ g, xv.ownBlock = some g → yv.ownBlock ≠ some g
theorem TwoI.xup {base : Nat} {w w' : World} {xv yv xv' : Value} {X Y X' : List Int} {m m' : Nat} (h : TwoI base w xv yv X Y m) (hx : w'.ownsRow base 3 1 xv' m' (X'.map (Value.int .i64))) (hg : w.grownBy w' xv.ownBlock) (hat : xv'.ownBlock = xv.ownBlock ∨ ∃ k, w.heap.size ≤ k ∧ xv'.ownBlock = some k) : w'.ownsRow base 3 1 yv m (Y.map (Value.int .i64)) ∧ ∀ g, xv'.ownBlock = some g → yv.ownBlock ≠ some g := by
  refine ⟨own_keptJ h.y (S := fun k => xv.ownBlock = some k) (Kept.of_grown hg (fun k e _ => e)) (fun g hg hc => h.ne g hc hg), fun g hg hc => ?_⟩
  rcases hat with e | ⟨k, hk, e⟩
  · exact h.ne g (e.symm.trans hg) hc
  · rw [e] at hg; injection hg with hg; subst hg
    have := (h.y.lt _ hc).2
    omega
set_option maxHeartbeats 8000000 in
set_option maxRecDepth 100000 in
theorem rcmp13_any (A A' : Option Addr) (n c n' c' : Nat) (d d' : List Hp) (t t' : Int) (w : World) (hd : d.length = n) (hd' : d'.length = n') (hn : n ≤ 1000000) (hn' : n' ≤ 1000000) (h : Sl w w.heap.size 3 A n c (flatHp d)) (h' : Sl w w.heap.size 3 A' n' c' (flatHp d')) (z : Int) (hz : cmpR t d t' d' = z) :
    Calls Try.prog 18 #[.agg #[.slice A n c, .int .i64 t], .agg #[.slice A' n' c', .int .i64 t']] w fun e w' => e = .returned (.int .i64 z) ∧ Below w.heap.size w w' := by
  obtain ⟨i0, hi0, hz0, hz1, hz2⟩ := info_parts infoIq
  rw [cmpR_cut, hd, hd'] at hz
  obtain ⟨m, hm⟩ : ∃ m, min n n' = m := ⟨_, rfl⟩
  rw [hm] at hz
  have hmn : m ≤ n := by omega
  have hmn' : m ≤ n' := by omega
  have hmm : m = n ∨ m = n' := by omega
  have HZ := Lib.hid hz
  have HD := Lib.hid hd
  have HD' := Lib.hid hd'
  have HH := Lib.hid (fun w' (hb : Below w.heap.size w w') => h.up hb)
  have HH' := Lib.hid (fun w' (hb : Below w.heap.size w w') => h'.up hb)
  clear hz hd hd' h h' hm
  obtain ⟨B, hB⟩ : ∃ z, w.heap.size = z := ⟨_, rfl⟩
  obtain ⟨w1, hw1⟩ : ∃ z, w.alloc (.cells #[.slice A n c, .int .i64 t] 25) = z := ⟨_, rfl⟩
  have n0 : Blok w1 B 25 #[.slice A n c, .int .i64 t] := by have h := Blok.new w 25 #[.slice A n c, .int .i64 t]; rw [hw1, hB] at h; exact h
  have s1 : w1.heap.size = B + 1 := by rw [← hw1]; simp [hB]
  have hb1 : Below w.heap.size w w1 := hw1 ▸ (Below.refl _ _).alloc (Nat.le_refl _) _
  obtain ⟨w2, hw2⟩ : ∃ z, w1.alloc (.cells #[.slice A' n' c', .int .i64 t'] 25) = z := ⟨_, rfl⟩
  have n1 : Blok w2 (B + 1) 25 #[.slice A' n' c', .int .i64 t'] := by have h := Blok.new w1 25 #[.slice A' n' c', .int .i64 t']; rw [hw2, s1] at h; exact h
  have s2 : w2.heap.size = B + 2 := by rw [← hw2]; simp [s1]
  replace n0 := hw2 ▸ n0.alloc (.cells #[.slice A' n' c', .int .i64 t'] 25)
  have hb2 : Below w.heap.size w w2 := hw2 ▸ hb1.alloc hb1.size _
  have N0 := Lib.hid n0
  have N1 := Lib.hid n1
  have HB2 := Lib.hid hb2
  have HS2 := Lib.hid s2
  have HBE := Lib.hid hB
  clear n0 n1 hb1 hb2
  go_enter Try.func18, Try.ntmps18
  go_upto_region 1 with fail
  clear hw1 hw2 s1 s2 hB w1
  have k0 : w2.cell? ⟨B, 0, none⟩ = some (.slice A n c) := N0.out.cell 0
  have k1 : w2.cell? ⟨B, 1, none⟩ = some (.int .i64 t) := N0.out.cell 1
  have kl := N0.out.lt
  go_upto_region 2 with fail
  clear k0 k1 kl
  obtain ⟨w3, hw3⟩ : ∃ z, w2.alloc (.cells #[.int .i64 t, .int .i64 (n : Int)] 3) = z := ⟨_, rfl⟩
  have hb3 : Below w2.heap.size w2 w3 := hw3 ▸ (Below.refl _ _).alloc (Nat.le_refl _) _
  have x3 : w3.ownsRow w.heap.size 3 1 (.slice (some ⟨w2.heap.size, 0, none⟩) 2 2) 2 (([t, (n : Int)] : List Int).map (Value.int .i64)) := by
    have h := own_lit w2 w.heap.size 3 1 2 #[.int .i64 t, .int .i64 (n : Int)] HB2.out.size rfl (by simp [maxLen])
    rw [hw3] at h; exact h
  have s3 : w3.heap.size = w2.heap.size + 1 := by rw [← hw3]; simp
  rw [hw3]
  obtain ⟨B2, hB2⟩ : ∃ z, w2.heap.size = z := ⟨_, rfl⟩
  rw [hB2] at x3 s3
  try rw [hB2]
  have k2 : w3.cell? ⟨B + 1, 0, none⟩ = some (.slice A' n' c') := (N1.out.below hb3 N1.out.lt).cell 0
  have k3 : w3.cell? ⟨B + 1, 1, none⟩ = some (.int .i64 t') := (N1.out.below hb3 N1.out.lt).cell 1
  have kl := (N1.out.below hb3 N1.out.lt).lt
  have HS3 := Lib.hid s3
  have HX3 := Lib.hid x3
  have HB3 := Lib.hid hb3
  have HBE2 := Lib.hid hB2
  clear hw3 s3 x3 hb3 hB2
  go_upto_region 3 with fail
  clear k2 k3 kl
  obtain ⟨w4, hw4⟩ : ∃ z, w3.alloc (.cells #[.int .i64 t', .int .i64 (n' : Int)] 3) = z := ⟨_, rfl⟩
  have hb4 : Below w3.heap.size w3 w4 := hw4 ▸ (Below.refl _ _).alloc (Nat.le_refl _) _
  have hB3 : Below w.heap.size w w3 := HB2.out.trans (HB3.out.mono HB2.out.size)
  have y4 : w4.ownsRow w.heap.size 3 1 (.slice (some ⟨w3.heap.size, 0, none⟩) 2 2) 2 (([t', (n' : Int)] : List Int).map (Value.int .i64)) := by
    have h := own_lit w3 w.heap.size 3 1 2 #[.int .i64 t', .int .i64 (n' : Int)] hB3.size rfl (by simp [maxLen])
    rw [hw4] at h; exact h
  have hB4 : Below w.heap.size w w4 := hB3.trans (hb4.mono hB3.size)
  rw [hw4]
  have n04 := (N0.out.below HB3.out N0.out.lt).below hb4 (N0.out.below HB3.out N0.out.lt).lt
  have n14 := (N1.out.below HB3.out N1.out.lt).below hb4 (N1.out.below HB3.out N1.out.lt).lt
  have HT4 : Hid (TwoI w.heap.size w4 (.slice (some ⟨B2, 0, none⟩) (0 + 2) 2) (.slice (some ⟨w3.heap.size, 0, none⟩) (0 + 2) 2) (t :: (n : Int) :: (d.map Hp.id).take 0) (t' :: (n' : Int) :: (d'.map Hp.id).take 0) (0 + 2)) :=
    ⟨by have h := own_belowK HX3.out hb4; simpa using h, by simpa using y4, fun g e e2 => by
      simp only [Value.ownBlock, Option.some.injEq] at e e2
      have := HS3.out
      omega⟩
  obtain ⟨B3, hB3e⟩ : ∃ z, w3.heap.size = z := ⟨_, rfl⟩
  rw [hB3e] at HT4
  try rw [hB3e]
  have N04 := Lib.hid n04
  have N14 := Lib.hid n14
  have HB4 := Lib.hid hB4
  clear hw4 hb4 hB3 y4 hB4 n04 n14 hB3e N0 N1 HX3 HB3 HB2 HBE2 HS3 HS2
  go_wp2_with fail
  go_loopw [5, 6, 7] (fun xv yv iv wr => ∃ (k cx cy : Nat) (Ax Ay : Option Addr), k ≤ m ∧ iv = .int .i64 (k : Int) ∧ xv = .slice Ax (k + 2) cx ∧ yv = .slice Ay (k + 2) cy ∧ Hid (TwoI w.heap.size wr (.slice Ax (k + 2) cx) (.slice Ay (k + 2) cy) (t :: (n : Int) :: (d.map Hp.id).take k) (t' :: (n' : Int) :: (d'.map Hp.id).take k) (k + 2)) ∧ Hid (Blok wr B 25 #[.slice A n c, .int .i64 t]) ∧ Hid (Blok wr (B + 1) 25 #[.slice A' n' c', .int .i64 t']) ∧ Below w.heap.size w wr) (fun _ _ iv _ => m - (intOf iv).toNat)
  case atStart => exact ⟨0, 2, 2, some ⟨B2, 0, none⟩, some ⟨B3, 0, none⟩, Nat.zero_le _, rfl, rfl, rfl, HT4, N04, N14, HB4.out⟩
  case round =>
    clear HT4 N04 N14 HB4
    obtain ⟨k, cx, cy, Ax, Ay, hk, rfl, rfl, rfl, HT, N0, N1, hB⟩ := hrel
    have k0 : wr.cell? ⟨B, 0, none⟩ = some (.slice A n c) := N0.out.cell 0
    have k2 : wr.cell? ⟨B + 1, 0, none⟩ = some (.slice A' n' c') := N1.out.cell 0
    have kl := N0.out.lt
    have kl2 := N1.out.lt
    by_cases hkm : k < m
    · have hkn : k < n := by omega
      have hkn' : k < n' := by omega
      obtain ⟨ad, rfl, hab, p0, _, _⟩ := (HH.out _ hB).lst.atHp HD.out hkn
      obtain ⟨i1, hi1⟩ : ∃ z, (gHp d k).id = z := ⟨_, rfl⟩
      obtain ⟨i2, hi2⟩ : ∃ z, (gHp d' k).id = z := ⟨_, rfl⟩
      rw [hi1] at p0
      have e1 : (d.map Hp.id).take (k + 1) = (d.map Hp.id).take k ++ [i1] := by rw [take_nextHpI (by rw [HD.out]; exact hkn), hi1]
      have e2 : (d'.map Hp.id).take (k + 1) = (d'.map Hp.id).take k ++ [i2] := by rw [take_nextHpI (by rw [HD'.out]; exact hkn'), hi2]
      have HE1 := Lib.hid e1
      have HE2 := Lib.hid e2
      have HI2 := Lib.hid hi2
      have hws := hB.size
      clear hi1 hi2 e1 e2
      go_upto_region 7 with (first | (at_builtin; refine wpList_append_own_at _ rfl (.tmp 35) (.tmp 42) 46 rfl w.heap.size 3 i0 _ 1 8 Try.underlying46 hi0 hz0 hz1 hz2 rfl (by decide) (.slice Ax (k + 2) cx) (k + 2) _ rfl (HT.out.x.alloc _) ⟨wr.heap.size, 0, none⟩ 1 1 [.int .i64 i1] rfl rfl (by exact lit_cells _ #[.int .i64 i1] _ _ rfl) (by simp [Value.oneCell']) (by unfold maxLen; omega) (by omega) (by simp; omega) ?_; intro v1 wA hown1 hg1 hx1 hat1))
      clear p0 k0 k2 hx1 kl kl2
      have hgK : Kept (fun k' => (Value.slice Ax (k + 2) cx).ownBlock = some k') wr wA := ((Kept.refl _ wr).alloc _).grow_ hg1 (fun i _ h => h)
      have hown1' : wA.ownsRow w.heap.size 3 1 v1 (k + 2 + 1) ((t :: (n : Int) :: (d.map Hp.id).take (k + 1)).map (Value.int .i64)) := by
        rw [HE1.out]
        simpa using hown1
      have hal : v1.ownBlock = (Value.slice Ax (k + 2) cx).ownBlock ∨ ∃ k', wr.heap.size ≤ k' ∧ v1.ownBlock = some k' := by
        rcases hat1 with h | h
        · exact .inl h
        · exact .inr ⟨_, by simp, h⟩
      have hyA : wA.ownsRow w.heap.size 3 1 (.slice Ay (k + 2) cy) (k + 2) ((t' :: (n' : Int) :: (d'.map Hp.id).take k).map (Value.int .i64)) := own_keptJ HT.out.y hgK (fun g hg hc => HT.out.ne g hc hg)
      have hneA : ∀ g, v1.ownBlock = some g → (Value.slice Ay (k + 2) cy).ownBlock ≠ some g := fun g hg hc => by
        rcases hal with e | ⟨k', hk', e⟩
        · exact HT.out.ne g (e.symm.trans hg) hc
        · rw [e] at hg; injection hg with hg; subst hg
          have := (HT.out.y.lt _ hc).2
          omega
      have hBA : Below w.heap.size w wA := below_keptJ hB (Nat.le_refl _) hgK (fun k' hk' => (HT.out.x.lt k' hk').1)
      have N0A : Hid (Blok wA B 25 #[.slice (some ad) n c, .int .i64 t]) := N0.out.kept hgK (Blok.ne_own HT.out.x N0.out (by decide))
      have N1A : Hid (Blok wA (B + 1) 25 #[.slice A' n' c', .int .i64 t']) := N1.out.kept hgK (Blok.ne_own HT.out.x N1.out (by decide))
      obtain ⟨Ax', cx', rfl⟩ := slice_of_own hown1'
      clear hat1 hown1 hg1 hab
      obtain ⟨ad', hA', hab', r0, _, _⟩ := (HH'.out _ hBA).lst.atHp HD'.out hkn'
      subst hA'
      rw [HI2.out] at r0
      have k2 : wA.cell? ⟨B + 1, 0, none⟩ = some (.slice (some ad') n' c') := N1A.out.cell 0
      have kl2 := N1A.out.lt
      have hwsA := hBA.size
      have HYA := Lib.hid hyA
      have HXA := Lib.hid hown1'
      have HNEA := Lib.hid hneA
      have HBA := Lib.hid hBA
      clear hyA hown1' hneA hBA hal hgK HT N0 N1 hB hws
      go_wp2_with (first | (at_builtin; refine wpList_append_own_at _ rfl (.tmp 44) (.tmp 51) 46 rfl w.heap.size 3 i0 _ 1 8 Try.underlying46 hi0 hz0 hz1 hz2 rfl (by decide) (.slice Ay (k + 2) cy) (k + 2) _ rfl (HYA.out.alloc _) ⟨wA.heap.size, 0, none⟩ 1 1 [.int .i64 i2] rfl rfl (by exact lit_cells _ #[.int .i64 i2] _ _ rfl) (by simp [Value.oneCell']) (by unfold maxLen; omega) (by omega) (by simp; omega) ?_; intro v2 wB hown2 hg2 hx2 hat2))
      have hgK2 : Kept (fun k' => (Value.slice Ay (k + 2) cy).ownBlock = some k') wA wB := ((Kept.refl _ wA).alloc _).grow_ hg2 (fun i _ h => h)
      have hown2' : wB.ownsRow w.heap.size 3 1 v2 (k + 2 + 1) ((t' :: (n' : Int) :: (d'.map Hp.id).take (k + 1)).map (Value.int .i64)) := by
        rw [HE2.out]
        simpa using hown2
      obtain ⟨Ay', cy', rfl⟩ := slice_of_own hown2'
      have HT2 : Hid (TwoI w.heap.size wB (.slice Ax' (k + 1 + 2) cx') (.slice Ay' (k + 1 + 2) cy') (t :: (n : Int) :: (d.map Hp.id).take (k + 1)) (t' :: (n' : Int) :: (d'.map Hp.id).take (k + 1)) (k + 1 + 2)) := by
        have e : k + 2 + 1 = k + 1 + 2 := by omega
        rw [e] at hown2' HXA
        refine ⟨?_, hown2', fun g hg hc => ?_⟩
        · exact own_keptJ HXA.out hgK2 (fun g hg hc => HNEA.out g hg hc)
        · rcases hat2 with e | e
          · exact HNEA.out g hg (e.symm.trans hc)
          · rw [e] at hc; simp only [Option.some.injEq] at hc
            have := (HXA.out.lt g hg).2
            rw [← hc] at this
            simp at this
            omega
      have hBB : Below w.heap.size w wB := below_keptJ HBA.out (Nat.le_refl _) hgK2 (fun k' hk' => (HYA.out.lt k' hk').1)
      have N0B : Hid (Blok wB B 25 #[.slice (some ad) n c, .int .i64 t]) := N0A.out.kept hgK2 (Blok.ne_own HYA.out N0A.out (by decide))
      have N1B : Hid (Blok wB (B + 1) 25 #[.slice (some ad') n' c', .int .i64 t']) := N1A.out.kept hgK2 (Blok.ne_own HYA.out N1A.out (by decide))
      have e3 : k + 2 + 1 = k + 1 + 2 := by omega
      clear hown2 hown2' hg2 hx2 hat2 hgK2 r0 k2 kl2 hwsA HXA HYA HNEA HBA N0A N1A
      go_wp2_with fail
      go_roundw
      case rel => exact ⟨k + 1, cx', cy', Ax', Ay', by omega, by go_num, by rw [e3], by rw [e3], HT2, N0B, N1B, hBB⟩
      case measure => simp [intOf]; omega
    · obtain rfl : k = m := by omega
      obtain ⟨X, hX⟩ : ∃ X, t :: (n : Int) :: (d.map Hp.id).take k = X := ⟨_, rfl⟩
      obtain ⟨Y, hY⟩ : ∃ Y, t' :: (n' : Int) :: (d'.map Hp.id).take k = Y := ⟨_, rfl⟩
      rw [hX, hY] at HT HZ
      have HXL : Hid (X.length = k + 2) := by show _ = _; rw [← hX, List.length_cons, List.length_cons, List.length_take, List.length_map, HD.out]; omega
      have HYL : Hid (Y.length = k + 2) := by show _ = _; rw [← hY, List.length_cons, List.length_cons, List.length_take, List.length_map, HD'.out]; omega
      obtain ⟨wA, hwA⟩ : ∃ x, x = wr := ⟨_, rfl⟩
      subst hwA
      have HX := Lib.hid (fun w' (hb : Below wA.heap.size wA w') => (Sl.of_own HT.out.x).up hb)
      have HY := Lib.hid (fun w' (hb : Below wA.heap.size wA w') => (Sl.of_own HT.out.y).up hb)
      have HBA := Lib.hid hB
      have HZ0 : Hid (cmpL (X.drop 0) (Y.drop 0) = z) := by show cmpL (X.drop 0) (Y.drop 0) = z; rw [List.drop_zero, List.drop_zero]; exact HZ.out
      have hkk : decide (k < n) = decide (k < n) := rfl
      clear hX hY HT N0 N1 hB hkk HZ
      have hcase : (k < n ∧ ¬ k < n') ∨ ¬ k < n := by omega
      rcases hcase with ⟨q1, q2⟩ | q1
      all_goals
        go_wp2_with fail
        clear k0 k2 kl kl2
        go_loopw [8] (fun iv wr => ∃ (i : Nat), iv = .int .i64 (i : Int) ∧ i ≤ k + 2 ∧ Hid (cmpL (X.drop i) (Y.drop i) = z) ∧ Below wA.heap.size wA wr) (fun iv _ => k + 2 - (intOf iv).toNat)
        case atStart => exact ⟨0, rfl, by omega, HZ0, Below.refl _ _⟩
        case round =>
          clear HZ0
          obtain ⟨i, rfl, hi, HZ, hBr⟩ := hrel
          by_cases him : i < k + 2
          · obtain ⟨ax, hax, hab, c0⟩ := (HX.out _ hBr).lst.atI HXL.out him
            obtain ⟨ay, hay, hab', d0⟩ := (HY.out _ hBr).lst.atI HYL.out him
            subst hax hay
            obtain ⟨x, hx⟩ : ∃ x, X.getD i 0 = x := ⟨_, rfl⟩
            obtain ⟨y, hy⟩ : ∃ y, Y.getD i 0 = y := ⟨_, rfl⟩
            have hdx : X.drop i = x :: X.drop (i + 1) := by
              rw [List.drop_eq_getElem_cons (by rw [HXL.out]; exact him), ← hx, List.getD_eq_getElem?_getD, List.getElem?_eq_getElem (by rw [HXL.out]; exact him)]; rfl
            have hdy : Y.drop i = y :: Y.drop (i + 1) := by
              rw [List.drop_eq_getElem_cons (by rw [HYL.out]; exact him), ← hy, List.getD_eq_getElem?_getD, List.getElem?_eq_getElem (by rw [HYL.out]; exact him)]; rfl
            rw [hx] at c0
            rw [hy] at d0
            have hz := HZ.out
            rw [hdx, hdy, cmpL] at hz
            have HZ1 := Lib.hid hz
            have hiI : (i : Int) < ((k + 2 : Nat) : Int) := by omega
            have hiI2 : (i : Int) < (k : Int) + 2 := by omega
            clear hx hy hdx hdy hz HZ
            have hc3 : x < y ∨ y < x ∨ x = y := by omega
            rcases hc3 with hlt | hgt | heq
            · obtain rfl : z = -1 := by have := HZ1.out; rw [cmpI_lt hlt, if_neg (by decide)] at this; exact this.symm
              have g1 : decide (x < y) = true := decide_eq_true hlt
              clear hlt
              go_wp2_with fail
              have q_c0 := fun d os => cell_regrown c0 d os
              have q_d0 := fun d os => cell_regrown d0 d os
              try simp only [List.append]
              first | refine wp_region_text_below ?_ | refine wp_region_quiet_below (by kernel_rfl) (by kernel_rfl) ?_
              repeat (go_big_quiet_step ((fail)))
              refine wpQuiet_nil ?_
              intro _ hqw
              obtain ⟨pq, hqw⟩ := hqw
              subst hqw
              clear q_c0 q_d0
              have hbel := below_regrown wr pq.d pq.os
              have hB := HBA.out.trans ((hBr.trans (hbel.mono hBr.size)).mono HBA.out.size)
              clear hbel c0 d0 hab hab' g1 hBr
              generalize grow (redrawn wr pq.d) pq.os = wq at *
              go_wp2_with fail
              go_ret
              exact ⟨rfl, hB⟩
            · obtain rfl : z = 1 := by have := HZ1.out; rw [cmpI_gt hgt, if_neg (by decide)] at this; exact this.symm
              have g1 : decide (x < y) = false := decide_eq_false (by omega)
              have g2 : decide (y < x) = true := decide_eq_true hgt
              clear hgt
              go_wp2_with fail
              have q_c0 := fun d os => cell_regrown c0 d os
              have q_d0 := fun d os => cell_regrown d0 d os
              try simp only [List.append]
              first | refine wp_region_text_below ?_ | refine wp_region_quiet_below (by kernel_rfl) (by kernel_rfl) ?_
              repeat (go_big_quiet_step ((fail)))
              refine wpQuiet_nil ?_
              intro _ hqw
              obtain ⟨pq, hqw⟩ := hqw
              subst hqw
              clear q_c0 q_d0
              have hbel := below_regrown wr pq.d pq.os
              have c1 := (cell_regrown c0 pq.d pq.os)
              have d1 := (cell_regrown d0 pq.d pq.os)
              have hab1 := Nat.lt_of_lt_of_le hab hbel.size
              have hab2 := Nat.lt_of_lt_of_le hab' hbel.size
              have hBq := hBr.trans (hbel.mono hBr.size)
              clear hbel c0 d0 hab hab' hBr
              generalize grow (redrawn wr pq.d) pq.os = wq at *
              go_wp2_with fail
              have q_c1 := fun d os => cell_regrown c1 d os
              have q_d1 := fun d os => cell_regrown d1 d os
              try simp only [List.append]
              first | refine wp_region_text_below ?_ | refine wp_region_quiet_below (by kernel_rfl) (by kernel_rfl) ?_
              repeat (go_big_quiet_step ((fail)))
              refine wpQuiet_nil ?_
              intro _ hqw
              obtain ⟨pq, hqw⟩ := hqw
              subst hqw
              clear q_c1 q_d1
              have hbel := below_regrown wq pq.d pq.os
              have hB := HBA.out.trans ((hBq.trans (hbel.mono hBq.size)).mono HBA.out.size)
              clear hbel c1 d1 hab1 hab2 g1 g2 hBq
              generalize grow (redrawn wq pq.d) pq.os = wq2 at *
              go_wp2_with fail
              go_ret
              exact ⟨rfl, hB⟩
            · subst heq
              have HZ2 : Hid (cmpL (X.drop (i + 1)) (Y.drop (i + 1)) = z) := by have := HZ1.out; rw [cmpI_eq, if_pos rfl] at this; exact this
              have g1 : decide (x < x) = false := decide_eq_false (by omega)
              have g0 : ¬ x < x := by omega
              clear HZ1
              go_wp2_with fail
              have q_c0 := fun d os => cell_regrown c0 d os
              have q_d0 := fun d os => cell_regrown d0 d os
              try simp only [List.append]
              first | refine wp_region_text_below ?_ | refine wp_region_quiet_below (by kernel_rfl) (by kernel_rfl) ?_
              repeat (go_big_quiet_step ((fail)))
              refine wpQuiet_nil ?_
              intro _ hqw
              obtain ⟨pq, hqw⟩ := hqw
              subst hqw
              clear q_c0 q_d0
              have hbel := below_regrown wr pq.d pq.os
              have c1 := (cell_regrown c0 pq.d pq.os)
              have d1 := (cell_regrown d0 pq.d pq.os)
              have hab1 := Nat.lt_of_lt_of_le hab hbel.size
              have hab2 := Nat.lt_of_lt_of_le hab' hbel.size
              have hBq := hBr.trans (hbel.mono hBr.size)
              clear hbel c0 d0 hab hab' hBr
              generalize grow (redrawn wr pq.d) pq.os = wq at *
              go_wp2_with fail
              have q_c1 := fun d os => cell_regrown c1 d os
              have q_d1 := fun d os => cell_regrown d1 d os
              try simp only [List.append]
              first | refine wp_region_text_below ?_ | refine wp_region_quiet_below (by kernel_rfl) (by kernel_rfl) ?_
              repeat (go_big_quiet_step ((fail)))
              refine wpQuiet_nil ?_
              intro _ hqw
              obtain ⟨pq, hqw⟩ := hqw
              subst hqw
              clear q_c1 q_d1
              have hbel := below_regrown wq pq.d pq.os
              have hBr := hBq.trans (hbel.mono hBq.size)
              clear hbel c1 d1 hab1 hab2 g1 g0 hBq
              generalize grow (redrawn wq pq.d) pq.os = wq2 at *
              go_wp2_with fail
              go_roundw
              case rel => exact ⟨i + 1, by go_num, by omega, HZ2, hBr⟩
              case measure => simp [intOf]; omega
          · obtain rfl : i = k + 2 := by omega
            obtain rfl : z = 0 := by
              have := HZ.out
              rw [List.drop_of_length_le (by rw [HXL.out]; exact Nat.le_refl _), List.drop_of_length_le (by rw [HYL.out]; exact Nat.le_refl _), cmpL] at this
              exact this.symm
            have hB := HBA.out.trans (hBr.mono HBA.out.size)
            clear hBr him
            go_wp2_with fail
            go_ret
            exact ⟨rfl, hB⟩
theorem rless13_any (A A' : Option Addr) (n c n' c' : Nat) (d d' : List Hp) (t t' : Int) (w : World) (hd : d.length = n) (hd' : d'.length = n') (hn : n ≤ 1000000) (hn' : n' ≤ 1000000) (h : Sl w w.heap.size 3 A n c (flatHp d)) (h' : Sl w w.heap.size 3 A' n' c' (flatHp d')) (b : Bool) (hb : decide (cmpR t d t' d' < 0) = b) :
    Calls Try.prog 20 #[.agg #[.slice A n c, .int .i64 t], .agg #[.slice A' n' c', .int .i64 t']] w fun e w' => e = .returned (.bool b) ∧ Below w.heap.size w w' := by
  obtain ⟨z, hz⟩ : ∃ z, cmpR t d t' d' = z := ⟨_, rfl⟩
  rw [hz] at hb
  have HBB := Lib.hid hb
  have hB : Below w.heap.size w ((w.alloc (.cells #[.slice A n c, .int .i64 t] 25)).alloc (.cells #[.slice A' n' c', .int .i64 t'] 25)) := by (repeat (first | exact Below.refl _ _ | refine Below.alloc ?_ (by first | omega | (simp; done) | (simp; omega)) _ | refine Below.setCell ?_ (by first | omega | (simp; done) | (simp; omega)) _ | refine Below.drew ?_))
  have HC := Lib.hid (rcmp13_any A A' n c n' c' d d' t t' _ hd hd' hn hn' (h.up hB) (h'.up hB) z hz)
  clear hd hd' h h' hz hb
  go_enter Try.func20, Try.ntmps20
  go_wp2_with fail
  refine HC.out.mono ?_
  rintro e w1 ⟨rfl, hb⟩
  have hB1 := hB.trans (hb.mono hB.size)
  clear HC hb hB
  go_wp2
  rw [HBB.out]
  go_ret
  exact ⟨rfl, hB1⟩
end Go.Proofs.Ytbhhkaaidhapbaa
