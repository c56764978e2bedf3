/- The document's rows of IDs: in, grown. They make new memory alone. -/
import Derived.Test.YtmbaklodgpcegaaGreatGrown
import Derived.Test.YtmbaklodgpcegaaGreatRef12c
import Derived.Test.YtmbaklodgpcegaaGreatGQ22
import Derived.Test.YtmbaklodgpcegaaGreatGQ4
import Derived.Maps.AppendAt
import Derived.Deep.RegionLaw
import Derived.Deep.CutBlock
import Derived.Deep.DeepCutAuto
namespace Go.Proofs.YtmbaklodgpcegaaGreat
open Go.ChangeShapes Go.WideShapes Go.ChangeAt Go.RowKit Go.Sort Go.Maps
set_option linter.unusedSimpArgs false
set_option linter.unusedVariables false
theorem take_nextI17 {l : List Int} {k : Nat} (h : k < l.length) : l.take (k + 1) = l.take k ++ [l.getD k 0] := by
  rw [List.take_succ_eq_append_getElem h, List.getD_eq_getElem?_getD, List.getElem?_eq_getElem h]; rfl
set_option maxHeartbeats 2000000 in
theorem rin17_any (A : Option Addr) (n c : Nat) (l : List Int) (x : Int) (w : World) (hd : l.length = n) (hn : n ≤ 1000000) (h : Sl w w.heap.size 1 A n c (l.map (Value.int .i64))) (b : Bool) (hb : decide (x ∈ l) = b) :
    Calls Tryz.prog 58 #[.slice A n c, .int .i64 x] w fun e w' => e = .returned (.bool b) ∧ w = w' := by
  have HD := Lib.hid hd
  have HB := Lib.hid hb
  clear hd hb
  go_enter Tryz.func58, Tryz.ntmps58
  go_wp2
  go_loop [5] (fun i => ∃ k : Nat, k ≤ n ∧ i = .int .i64 (k : Int) ∧ Hid (x ∉ l.take k)) (fun i => n - (intOf i).toNat)
  case atStart => exact ⟨0, by omega, rfl, (fun hc => by cases hc)⟩
  case round =>
    obtain ⟨k, hk, rfl, HN⟩ := hrel
    by_cases hkn : k < n
    · obtain ⟨ad, rfl, hab, c0⟩ := h.lst.atI HD.out hkn
      obtain ⟨y, hy⟩ : ∃ y, l.getD k 0 = y := ⟨_, rfl⟩
      rw [hy] at c0
      have HTK := Lib.hid (take_nextI17 (l := l) (k := k) (by rw [HD.out]; exact hkn))
      rw [hy] at HTK
      have HY := Lib.hid hy
      clear hy
      by_cases e : y = x
      · have hbt : b = true := by
          rw [← HB.out]
          refine decide_eq_true ?_
          rw [← e, ← HY.out, List.getD_eq_getElem?_getD, List.getElem?_eq_getElem (by rw [HD.out]; exact hkn)]
          exact List.getElem_mem _
        subst hbt
        have g : (y == x) = true := beq_iff_eq.2 e
        clear e
        go_wp2
        go_ret
        exact ⟨rfl, rfl⟩
      · have g : (y == x) = false := beq_eq_false_iff_ne.2 e
        have HN2 : Hid (x ∉ l.take (k + 1)) := fun hc => by
          rw [HTK.out] at hc
          rcases List.mem_append.1 hc with h1 | h1
          · exact HN.out h1
          · exact e (List.mem_singleton.1 h1).symm
        clear e
        go_wp2
        go_round
        case rel => exact ⟨k + 1, by omega, by go_num, HN2⟩
        case measure => simp [intOf]; omega
    · obtain rfl : k = n := by omega
      have hbf : b = false := by
        rw [← HB.out]
        refine decide_eq_false fun hc => HN.out ?_
        rw [List.take_of_length_le (by rw [HD.out]; omega)]; exact hc
      subst hbf
      go_wp2
      go_ret
      exact ⟨rfl, rfl⟩
/-- A row of ints in memory: its head, its ints. -/
structure Ix where
  A : Option Addr
  n : Nat
  c : Nat
  l : List Int
def Ix.v (x : Ix) : Value := .slice x.A x.n x.c
def Ix.ok (w : World) (x : Ix) : Prop := x.l.length = x.n ∧ Sl w w.heap.size 1 x.A x.n x.c (x.l.map (Value.int .i64))
def Ix.new (B : Nat) (x : Ix) : Prop := 0 < x.n → ∀ ad, x.A = some ad → B ≤ ad.block
def Ix.off (g : Nat) (x : Ix) : Prop := 0 < x.n → ∀ ad, x.A = some ad → ad.block ≠ g
theorem Ix.ok.below {w w' : World} {x : Ix} (h : x.ok w) (hb : Below w.heap.size w w') : x.ok w' := ⟨h.1, h.2.up hb⟩
theorem Ix.ok.kept {S : Nat → Prop} {w w' : World} {x : Ix} (h : x.ok w) (hk : Kept S w w') (ho : ∀ g, S g → x.off g) : x.ok w' := ⟨h.1, h.2.keptJ hk (fun hn ad e hS => ho _ hS hn ad e rfl)⟩
theorem Ix.ok.off_new {w : World} {x : Ix} (h : x.ok w) {g : Nat} (hg : w.heap.size ≤ g) : x.off g := fun hn ad e => by have := h.2.off_newJ hn e; omega
theorem Ix.ok.lt {w : World} {x : Ix} (h : x.ok w) : 0 < x.n → ∀ ad, x.A = some ad → ad.block < w.heap.size := fun hn ad e => h.2.off_newJ hn e
/-- What grown answers. -/
def GrownP (w : World) (x0 : Ix) (rows : List (List Int)) (e : Ending) (w' : World) : Prop :=
  ∃ (v : Value) (L : List Ix), e = .returned v ∧ w'.ownsRow w.heap.size 23 1 v L.length (L.map Ix.v) ∧ L.map Ix.l = rows ∧ (∀ x ∈ L, x.ok w') ∧ (∀ x ∈ L, x = x0 ∨ x.new w.heap.size) ∧ Below w.heap.size w w'
theorem infoRI : (Tryz.prog.info? 23).map (fun i => (i.zero, i.size, i.bytes)) = some (some (.slice none 0 0), 1, 24) := by kernel_rfl
theorem infoR17 : (Tryz.prog.info? 3).map (fun i => (i.zero, i.size, i.bytes)) = some (some (.int .i64 0), 1, 8) := by kernel_rfl
theorem ixv_one (L : List Ix) : ∀ u ∈ L.map Ix.v, u.oneCell' = true := by
  intro u hu
  obtain ⟨x, _, rfl⟩ := List.mem_map.1 hu
  rfl
theorem ints_one17g (l : List Int) : ∀ u ∈ l.map (Value.int .i64), u.oneCell' = true := by
  intro u hu
  obtain ⟨x, _, rfl⟩ := List.mem_map.1 hu
  rfl
/-- What one edge adds. -/
def growG (size : Int) (sh : List Int) (f : Int) (R : Ed → List (List Int)) (es : List Ed) (m t : Int) (e : Ed) : List (List Int) :=
  if e.fr = m ∧ e.tn ∉ nodesE f es ∧ e.tn ∉ sh then (match e.pass t size with | none => [] | some _ => R e) else []
def MoreP (wr : World) (k : Nat) (ids : List Int) (mv : Value) (wx : World) : Prop := ∃ (A9 : Option Addr) (c9 : Nat), mv = .slice A9 k c9 ∧ ids.length = k ∧ Sl wx wx.heap.size 1 A9 k c9 (ids.map (Value.int .i64)) ∧ (∀ ad, A9 = some ad → wr.heap.size ≤ ad.block) ∧ Below wr.heap.size wr wx
theorem lit_grown {W w3 : World} {b : Nat} {row : Option Nat} {cs : Array Value} {T : TypeId} (hB : Blok W b T cs) (hg : W.grownBy w3 row) (hr : some b ≠ row) : ∀ j u, cs.toList[j]? = some u → w3.cell? ((⟨b, 0, none⟩ : Addr).add j) = some u := fun j u hj => by
  have h := (hB.grown hg hr).cell j
  have e : ((⟨b, 0, none⟩ : Addr).add j) = ⟨b, j, none⟩ := by
    unfold Addr.add; split <;> simp_all
  rw [e, h]
  simpa using hj
theorem own_downG {w : World} {b b' : Nat} {e : TypeId} {s n : Nat} {v : Value} {xs : List Value} (h : w.ownsRow b e s v n xs) (hb : b' ≤ b) : w.ownsRow b' e s v n xs := by
  refine ⟨h.1, ?_⟩
  rcases h.2 with hn | ⟨g, cap, cur, h1, h2, rest⟩
  · exact .inl hn
  · exact .inr ⟨g, cap, cur, h1, Nat.le_trans hb h2, rest⟩
theorem own_apartG {w : World} {b b' : Nat} {e e' : TypeId} {s s' n n' : Nat} {v v' : Value} {xs xs' : List Value} (h : w.ownsRow b e s v n xs) (h' : w.ownsRow b' e' s' v' n' xs') (hne : e ≠ e') : ∀ g, v.ownBlock = some g → v'.ownBlock ≠ some g := fun g hg hc => by
  rcases h.2 with ⟨rfl, _⟩ | ⟨g1, _, _, rfl, _, h1, _⟩
  · cases hg
  · rcases h'.2 with ⟨rfl, _⟩ | ⟨g2, _, _, rfl, _, h2, _⟩
    · cases hc
    · simp only [Value.ownBlock, Option.some.injEq] at hg hc
      subst hg hc
      rw [h1] at h2
      injection h2 with h2
      injection h2 with _ h3
      exact hne h3
def growT (l : List Ed) (size q : Int) (sh : List Int) (f : Int) (R : Ed → List (List Int)) (es : List Ed) (m t : Int) : List (List Int) := es.map Ed.id :: (if m = q then [] else l.flatMap (growG size sh f R es m t))
set_option maxHeartbeats 8000000 in
set_option maxRecDepth 100000 in
theorem grown_step (A : Option Addr) (n c : Nat) (l : List Ed) (f q now size : Int) (As : Option Addr) (ns cs : Nat) (sh : List Int) (es : List Ed) (m t : Int) (Ai : Option Addr) (ni ci : Nat) (w : World) (R : Ed → List (List Int)) (cR : Nat)
    (hd : l.length = n) (hn : n ≤ 10) (hds : sh.length = ns) (hns : ns ≤ 1000000) (hask : askE l f now size = true) (hst : IsRte l f m now size sh es t) (hni : es.length = ni) (hcR : cR ≤ 1111111111) (hR : ∀ e, (R e).length ≤ cR)
    (hle : Sl w w.heap.size 8 A n c (flatEd l)) (hls : Sl w w.heap.size 1 As ns cs (sh.map (Value.int .i64))) (hli : Sl w w.heap.size 1 Ai ni ci ((es.map Ed.id).map (Value.int .i64)))
    (hrec : ∀ (e : Ed) (s a : Int), e ∈ l → e.fr = m → e.tn ∉ nodesE f es → e.tn ∉ sh → e.pass t size = some (s, a) → ∀ (A9 : Option Addr) (c9 : Nat) (w' : World), Below w.heap.size w w' → Sl w' w'.heap.size 1 A9 (ni + 1) c9 (((es ++ [e]).map Ed.id).map (Value.int .i64)) → Calls Tryz.prog 39 #[.slice A n c, .slice A9 (ni + 1) c9, .int .i64 f, .int .i64 q, .int .i64 now, .int .i64 size, .slice As ns cs] w' (GrownP w' ⟨A9, ni + 1, c9, (es ++ [e]).map Ed.id⟩ (R e))) :
    Calls Tryz.prog 39 #[.slice A n c, .slice Ai ni ci, .int .i64 f, .int .i64 q, .int .i64 now, .int .i64 size, .slice As ns cs] w (GrownP w ⟨Ai, ni, ci, es.map Ed.id⟩ (growT l size q sh f R es m t)) := by
  have hre := (askE_spec.1 hask).2.2.2
  obtain ⟨h1, h2, h3, h4⟩ := runE_follow hre hst.mem hst.run
  have hnl : ni ≤ 10 := by have := hst.len; omega
  have hends : endsE l (es.map Ed.id) f = some (nodesE f es) := by unfold endsE; rw [if_pos (askE_ends hask), h1]; rfl
  have hnod : (nodesE f es).length = ni + 1 := by rw [nodesE_len, hni]
  have HD := Lib.hid hd
  have HDS := Lib.hid hds
  have HASK := Lib.hid hask
  have HST := Lib.hid hst
  have HNI := Lib.hid hni
  have HR := Lib.hid hR
  have HL := Lib.hid (fun w' (hb : Below w.heap.size w w') => hle.up hb)
  have HLS := Lib.hid (fun w' (hb : Below w.heap.size w w') => hls.up hb)
  have HLI := Lib.hid (fun w' (hb : Below w.heap.size w w') => hli.up hb)
  have HREC := Lib.hid hrec
  have HENDS := Lib.hid hends
  have HNOD := Lib.hid hnod
  have HLAST := Lib.hid h4
  have HIDL : Hid ((es.map Ed.id).length = ni) := by show _ = _; rw [List.length_map]; exact hni
  clear hd hds hask hst hni hR hle hls hli hrec hends hnod h1 h2 h3 h4 hre
  have hB0 : Below w.heap.size w (w.alloc (.cells #[.slice Ai ni ci] 23)) := (Below.refl _ _).alloc (Nat.le_refl _) _
  have hO0 := own_lit w w.heap.size 23 1 1 #[.slice Ai ni ci] (Nat.le_refl _) rfl (by simp [maxLen])
  go_enter Tryz.func39, Tryz.ntmps39
  go_upto_region 2 with fail
  obtain ⟨w1, hw1⟩ : ∃ z, w.alloc (.cells #[.slice Ai ni ci] 23) = z := ⟨_, rfl⟩
  rw [hw1] at hB0 hO0
  rw [hw1]
  obtain ⟨g0, hg0⟩ : ∃ z, w.heap.size = z := ⟨_, rfl⟩
  have HG0 := Lib.hid hg0
  have HO0 : Hid (w1.ownsRow w.heap.size 23 1 (.slice (some ⟨g0, 0, none⟩) 1 1) 1 [.slice Ai ni ci]) := by rw [← hg0]; exact hO0
  try rw [hg0]
  have HB0 := Lib.hid hB0
  clear hw1 hO0 hB0 hg0
  go_wp2_with fail
  refine (rEnds12_any A n c l Ai ni ci (es.map Ed.id) f w1 HD.out (by omega) HIDL.out (by omega) (HL.out _ HB0.out) (HLI.out _ HB0.out) _ HENDS.out).mono ?_
  rintro e w2 ⟨vn, rfl, hown, hb2⟩
  have e9 : ((some (nodesE f es)).getD []) = nodesE f es := rfl
  rw [e9, HNOD.out] at hown
  obtain ⟨An, cn, rfl⟩ := slice_of_own hown
  have hB2 : Below w.heap.size w w2 := HB0.out.trans (hb2.mono HB0.out.size)
  have HNR := Lib.hid (own_downG hown HB0.out.size)
  have HO2 := Lib.hid (own_belowK HO0.out hb2)
  have HB2 := Lib.hid hB2
  have hws2 := hB2.size
  clear HO0 HB0 hown hb2 hB2 e9
  obtain ⟨ad, hA, hab, c0⟩ := (Sl.of_own HNR.out).lst.atI HNOD.out (show ni < ni + 1 by omega)
  have hm9 : (nodesE f es).getD ni 0 = m := by rw [← HNI.out]; exact HLAST.out
  rw [hm9] at c0
  subst hA
  have hw1 : IntKind.i64.wrap (((ni + 1 : Nat) : Int) - 1) = (ni : Int) := by rw [IntWalk.i64_in _ (by omega)]; omega
  have hw2 : ((ni : Int) + 1 - 1) = (ni : Int) := by omega
  have hnI : (ni : Int) < ((ni + 1 : Nat) : Int) := by omega
  have hnI2 : (ni : Int) < (ni : Int) + 1 := by omega
  have hiok : (⟨Ai, ni, ci, es.map Ed.id⟩ : Ix).ok w := ⟨HIDL.out, HLI.out _ (Below.refl _ _)⟩
  have HIOK := Lib.hid hiok
  clear hm9 hiok
  go_upto_region 4 with fail
  clear c0 hab hw1 hw2 hnI hnI2
  by_cases hmq : m = q
  · have g1 : (m == q) = true := beq_iff_eq.2 hmq
    have HF : GrownP w ⟨Ai, ni, ci, es.map Ed.id⟩ (growT l size q sh f R es m t) (.returned (.slice (some ⟨g0, 0, none⟩) 1 1)) w2 := by
      unfold growT
      rw [if_pos hmq]
      refine ⟨_, [⟨Ai, ni, ci, es.map Ed.id⟩], rfl, HO2.out, rfl, fun x hx => ?_, fun x hx => .inl (List.mem_singleton.1 hx), HB2.out⟩
      rw [List.mem_singleton.1 hx]; exact HIOK.out.below HB2.out
    have HFF := Lib.hid HF
    clear HF hmq
    go_wp2
    go_ret
    exact HFF.out
  · have g1 : (m == q) = false := beq_eq_false_iff_ne.2 hmq
    have HMQ := Lib.hid hmq
    obtain ⟨i0, hi0, hz0, hz1, hz2⟩ := info_parts infoRI
    obtain ⟨j0, hj0, hy0, hy1, hy2⟩ := info_parts infoR17
    clear hmq
    go_wp2_with fail
    go_loopw [15, 19] (fun ov iv wr => ∃ (i : Nat) (L : List Ix) (A5 : Option Addr) (c5 : Nat), iv = .int .i64 (i : Int) ∧ i ≤ n ∧ ov = .slice A5 L.length c5 ∧ Hid (wr.ownsRow w.heap.size 23 1 (.slice A5 L.length c5) L.length (L.map Ix.v)) ∧ Hid (L.map Ix.l = es.map Ed.id :: (l.take i).flatMap (growG size sh f R es m t)) ∧ Hid (∀ x ∈ L, x.ok wr) ∧ Hid (∀ x ∈ L, x = ⟨Ai, ni, ci, es.map Ed.id⟩ ∨ x.new w.heap.size) ∧ Hid (∀ x ∈ L, ∀ g, (Value.slice A5 L.length c5).ownBlock = some g → x.off g) ∧ L.length ≤ 1 + i * cR ∧ Hid (wr.ownsRow w.heap.size 3 1 (.slice (some ad) (ni + 1) cn) (ni + 1) ((nodesE f es).map (Value.int .i64))) ∧ Below w.heap.size w wr) (fun _ iv _ => n - (intOf iv).toNat)
    case atStart =>
      refine ⟨0, [⟨Ai, ni, ci, es.map Ed.id⟩], some ⟨g0, 0, none⟩, 1, rfl, by omega, rfl, HO2.out, rfl, fun x hx => ?_, fun x hx => .inl (List.mem_singleton.1 hx), fun x hx g hg => ?_, by simp, HNR, HB2.out⟩
      · rw [List.mem_singleton.1 hx]; exact HIOK.out.below HB2.out
      · rw [List.mem_singleton.1 hx]
        simp only [Value.ownBlock, Option.some.injEq] at hg
        exact HIOK.out.off_new (by rw [← hg, HG0.out]; exact Nat.le_refl _)
    case round =>
      clear HO2 HNR
      obtain ⟨i, L, A5, c5, rfl, hi, rfl, HO, HM, HOK, HNW, HOF, hLc, HNR, hBr⟩ := hrel
      by_cases hin : i < n
      · obtain ⟨ae, rfl, hae, p0, p1, p2, p3, p4, p5, p6, p7⟩ := (HL.out _ (hBr)).lst.atEd HD.out hin
        obtain ⟨x, hx⟩ : ∃ x, gEd l i = x := ⟨_, rfl⟩
        rw [hx] at p0 p1 p2 p3 p4 p5 p6 p7
        have HTK : Hid (l.take (i + 1) = l.take i ++ [x]) := by
          show _ = _
          rw [← hx, gEd_eq (by rw [HD.out]; exact hin), List.take_succ_eq_append_getElem (by rw [HD.out]; exact hin)]
        have HXL : Hid (x ∈ l) := by show _ ∈ _; rw [← hx, gEd_eq (by rw [HD.out]; exact hin)]; exact List.getElem_mem _
        have hcRi : L.length + cR ≤ 1 + (i + 1) * cR := by rw [Nat.add_mul]; omega
        have hmul : i * cR ≤ 9 * 1111111111 := Nat.mul_le_mul (by omega) hcR
        have hLb : L.length ≤ 10000000000 := by omega
        have HLC := Lib.hid hcRi
        have HLC0 := Lib.hid hLc
        have hsn := Sl.of_own HNR.out
        have hss := HLS.out _ (hBr)
        clear hx p3 p4 p5 p6 p7 hcRi hmul hLc
        have hskip : growG size sh f R es m t x = [] → Hid (L.map Ix.l = es.map Ed.id :: (l.take (i + 1)).flatMap (growG size sh f R es m t)) := fun h0 => by
          show _ = _
          rw [HM.out, HTK.out, List.flatMap_append, List.flatMap_cons, List.flatMap_nil, h0]
          simp
        have hLs : L.length ≤ 1 + (i + 1) * cR := by have := HLC.out; omega
        by_cases h1 : x.fr = m
        · have gf : (x.fr != m) = false := by simp [h1]
          obtain ⟨b1, hb1⟩ : ∃ b, decide (x.tn ∈ nodesE f es) = b := ⟨_, rfl⟩
          have HB1 := Lib.hid hb1
          have H1 := Lib.hid h1
          clear hb1 h1
          go_wp2_with fail
          refine (rin17_any (some ad) (ni + 1) cn (nodesE f es) x.tn wr HNOD.out (by omega) hsn b1 HB1.out).mono ?_
          rintro e w' ⟨rfl, rfl⟩
          cases b1 with
          | true =>
            have h0 : growG size sh f R es m t x = [] := by unfold growG; rw [if_neg (fun hc => hc.2.1 (of_decide_eq_true HB1.out))]
            have HM2 := hskip h0
            clear p0 p1 p2 gf h0 hskip hsn hss hae HM
            go_wp2_with fail
            go_roundw
            case rel => exact ⟨i + 1, L, A5, c5, by go_num, by omega, rfl, HO, HM2, HOK, HNW, HOF, hLs, HNR, hBr⟩
            case measure => simp [intOf]; omega
          | false =>
            obtain ⟨b2, hb2⟩ : ∃ b, decide (x.tn ∈ sh) = b := ⟨_, rfl⟩
            have HB2' := Lib.hid hb2
            clear hb2
            go_wp2_with fail
            refine (rin17_any As ns cs sh x.tn wr HDS.out hns hss b2 HB2'.out).mono ?_
            rintro e w' ⟨rfl, rfl⟩
            cases b2 with
            | true =>
              have h0 : growG size sh f R es m t x = [] := by unfold growG; rw [if_neg (fun hc => hc.2.2 (of_decide_eq_true HB2'.out))]
              have HM2 := hskip h0
              clear p0 p1 p2 gf h0 hskip hsn hss hae HM
              go_wp2_with fail
              go_roundw
              case rel => exact ⟨i + 1, L, A5, c5, by go_num, by omega, rfl, HO, HM2, HOK, HNW, HOF, hLs, HNR, hBr⟩
              case measure => simp [intOf]; omega
            | false =>
              have hcnd : x.fr = m ∧ x.tn ∉ nodesE f es ∧ x.tn ∉ sh := ⟨H1.out, of_decide_eq_false HB1.out, of_decide_eq_false HB2'.out⟩
              have HCND := Lib.hid hcnd
              have hwsr := hBr.size
              have hab2 : (ae.add (i * 8)).block < wr.heap.size := by rw [add_block]; exact hae
              have P0 := Lib.hid p0
              have HLIR := Lib.hid (fun w' (hb : Below wr.heap.size wr w') => (HLI.out _ (hBr)).up hb)
              clear hcnd gf hsn hss hskip
              go_upto_region 10 with fail
              clear p1 p2
              go_cut [20] (fun mv wx => MoreP wr (ni + 1) ((es ++ [x]).map Ed.id) mv wx)
              case first =>
                go_region_law (first
                  | (refine step_append_lst _ rfl (.tmp 73) (.tmp 74) 23 rfl wr.heap.size 3 j0 _ 1 8 Tryz.underlying23 hj0 hy0 hy1 hy2 rfl (by decide) (.slice (some ⟨wr.heap.size, 0, none⟩) 0 0) 0 [] rfl (by first | exact own_lit wr wr.heap.size 3 1 0 #[] (Nat.le_refl _) rfl (by simp) | exact (own_lit wr wr.heap.size 3 1 0 #[] (Nat.le_refl _) rfl (by simp)).alloc _) _ Ai ni ci ((es.map Ed.id).map (Value.int .i64)) rfl (HLIR.out _ (by (repeat (first | exact Below.refl _ _ | refine Below.alloc ?_ (by first | omega | (simp; done) | (simp; omega)) _ | refine Below.setCell ?_ (by first | omega | (simp; done) | (simp; omega)) _ | refine Below.drew ?_)))).lst (ints_one17g _) (by unfold maxLen; omega) (by omega) (by first | (simp; done) | (simp; omega)) ?_
                     intro v3 w3 hown3 hg3 hat3
                     have hB3 : Below wr.heap.size wr w3 := Below.grown (by (repeat (first | exact Below.refl _ _ | refine Below.alloc ?_ (by first | omega | (simp; done) | (simp; omega)) _ | refine Below.setCell ?_ (by first | omega | (simp; done) | (simp; omega)) _ | refine Below.drew ?_))) hg3 (by first | (simp; done) | (simp; omega)) (fun g hg => by have h : wr.heap.size = g := Option.some.inj hg; omega)
                     have p0' : w3.cell? (ae.add (i * 8)) = some (.int .i64 x.id) := (hB3.cell (p := ae.add (i * 8)) hab2).trans P0.out
                     have hab3 : (ae.add (i * 8)).block < w3.heap.size := Nat.lt_of_lt_of_le hab2 hB3.size
                     have hws3 := hB3.size
                     simp only [Nat.zero_add, List.nil_append] at hown3
                     obtain ⟨A3, c3, rfl⟩ := slice_of_own hown3
                     have HW3 := Lib.hid hown3
                     have HB3 := Lib.hid hB3
                     have HG3 := Lib.hid hg3
                     clear hat3 hg3 hown3 hB3)
                  | (refine step_append_lst _ rfl (.tmp 73) (.tmp 74) 23 rfl wr.heap.size 3 j0 _ 1 8 Tryz.underlying23 hj0 hy0 hy1 hy2 rfl (by decide) (.slice (some ⟨wr.heap.size + 1, 0, none⟩) 0 0) 0 [] rfl (by have h := own_lit (wr.alloc (.cells #[.int .i64 x.id] 3)) wr.heap.size 3 1 0 #[] (by simp) rfl (by simp); rw [World.size_alloc] at h; exact h) _ Ai ni ci ((es.map Ed.id).map (Value.int .i64)) rfl (HLIR.out _ (by (repeat (first | exact Below.refl _ _ | refine Below.alloc ?_ (by first | omega | (simp; done) | (simp; omega)) _ | refine Below.setCell ?_ (by first | omega | (simp; done) | (simp; omega)) _ | refine Below.drew ?_)))).lst (ints_one17g _) (by unfold maxLen; omega) (by omega) (by first | (simp; done) | (simp; omega)) ?_
                     intro v3 w3 hown3 hg3 hat3
                     have hB3 : Below wr.heap.size wr w3 := Below.grown (by (repeat (first | exact Below.refl _ _ | refine Below.alloc ?_ (by first | omega | (simp; done) | (simp; omega)) _ | refine Below.setCell ?_ (by first | omega | (simp; done) | (simp; omega)) _ | refine Below.drew ?_))) hg3 (by first | (simp; done) | (simp; omega)) (fun g hg => by have h : wr.heap.size + 1 = g := Option.some.inj hg; omega)
                     have p0' : w3.cell? (ae.add (i * 8)) = some (.int .i64 x.id) := (hB3.cell (p := ae.add (i * 8)) hab2).trans P0.out
                     have hab3 : (ae.add (i * 8)).block < w3.heap.size := Nat.lt_of_lt_of_le hab2 hB3.size
                     have hws3 := hB3.size
                     simp only [Nat.zero_add, List.nil_append] at hown3
                     obtain ⟨A3, c3, rfl⟩ := slice_of_own hown3
                     have HW3 := Lib.hid hown3
                     have HB3 := Lib.hid hB3
                     have HG3 := Lib.hid hg3
                     clear hat3 hg3 hown3 hB3)
                  | (refine step_append_own rfl (.tmp 75) (.tmp 81) 23 rfl wr.heap.size 3 j0 _ 1 8 Tryz.underlying23 hj0 hy0 hy1 hy2 rfl (by decide) (.slice A3 ni c3) ni ((es.map Ed.id).map (Value.int .i64)) rfl (by first | exact HW3.out | exact HW3.out.alloc _) _ 1 1 [.int .i64 x.id] rfl rfl (by first | exact lit_cells w3 #[.int .i64 x.id] _ _ rfl | exact lit_grown (by have h := Blok.new (wr.alloc (.cells #[] 3)) 3 #[.int .i64 x.id]; rw [World.size_alloc] at h; exact h) HG3.out (by simp [Value.ownBlock]) | exact lit_grown (by exact (Blok.new wr 3 #[.int .i64 x.id]).alloc (.cells #[] 3)) HG3.out (by simp [Value.ownBlock])) (by simp [Value.oneCell']) (by unfold maxLen; omega) (by omega) (by first | exact hws3 | (simp; omega)) ?_
                     intro v4 w4 hown4 hg4 hx4 hat4
                     have hB4 : Below wr.heap.size wr w4 := Below.grown (by first | exact HB3.out | exact HB3.out.alloc HB3.out.size _) hg4 (by first | exact hws3 | (simp; omega)) (fun g hg => (HW3.out.lt g hg).1)
                     have HW4 := Lib.hid hown4
                     have HB4 := Lib.hid hB4
                     clear hown4 hg4 hx4 hat4 hB4))
                all_goals
                  have HMP : MoreP wr (ni + 1) ((es ++ [x]).map Ed.id) v4 w4 := by
                    have h4 := HW4.out
                    have e4 : ((es ++ [x]).map Ed.id).map (Value.int .i64) = (es.map Ed.id).map (Value.int .i64) ++ [.int .i64 x.id] := by simp
                    rw [← e4] at h4
                    obtain ⟨A4, c4, rfl⟩ := slice_of_own h4
                    obtain ⟨g4, c4', e5, _⟩ := own_posJ h4 (by omega)
                    simp only [Value.slice.injEq] at e5
                    obtain ⟨rfl, _, _⟩ := e5
                    refine ⟨_, c4, rfl, by rw [List.length_map, List.length_append, HNI.out]; rfl, Sl.of_own h4, fun ad e => ?_, HB4.out⟩
                    injection e with e
                    subst e
                    exact (h4.lt g4 rfl).1
                  have HMPH := Lib.hid HMP
                  clear HMP HW4 HB4
                  go_wp2_with fail
                  go_meet
                  exact HMPH.out
              case rest =>
                obtain ⟨A9, c9, rfl, hl9, s9, hn9, hb9⟩ := hcut
                generalize wc = wy at *
                have hB9 : Below w.heap.size w wy := hBr.trans (hb9.mono hBr.size)
                obtain ⟨o, ho⟩ : ∃ o, walkE l ((es ++ [x]).map Ed.id) f now size = o := ⟨_, rfl⟩
                have hwo : o.isSome = (x.pass t size).isSome := by rw [← ho]; exact walk_one HASK.out HST.out HXL.out H1.out
                have HWO := Lib.hid hwo
                have HO9 := Lib.hid ho
                have HL9 := Lib.hid hl9
                have HS9 := Lib.hid (fun w' (hb : Below wy.heap.size wy w') => s9.up hb)
                have HN9 := Lib.hid hn9
                have HB9 := Lib.hid hB9
                have HY9 := Lib.hid hb9
                clear hwo ho hl9 s9 hn9 hB9 hb9 p0
                go_wp2_with fail
                refine (rWalk12_any _ n c l A9 (ni + 1) c9 ((es ++ [x]).map Ed.id) f now size wy HD.out (by omega) HL9.out (by omega) (HL.out _ HB9.out) (HS9.out _ (Below.refl _ _)) o HO9.out).mono ?_
                rintro e wz ⟨vz, rfl, hownz, hbz⟩
                obtain ⟨Az, cz, rfl⟩ := slice_of_own hownz
                obtain ⟨ok, hok⟩ : ∃ b, o.isSome = b := ⟨_, rfl⟩
                rw [hok]
                have HOKZ := Lib.hid hok
                have HYZ := Lib.hid (HY9.out.trans (hbz.mono HY9.out.size))
                have HSZ := Lib.hid (HS9.out _ hbz)
                clear hownz hok
                cases ok with
                | false =>
                  have hpn : x.pass t size = none := by
                    have h := HWO.out
                    rw [HOKZ.out] at h
                    cases hp : x.pass t size with
                    | none => rfl
                    | some p => rw [hp] at h; cases h
                  have h0 : growG size sh f R es m t x = [] := by unfold growG; rw [if_pos HCND.out, hpn]
                  have HM2 : Hid (L.map Ix.l = es.map Ed.id :: (l.take (i + 1)).flatMap (growG size sh f R es m t)) := by
                    show _ = _
                    rw [HM.out, HTK.out, List.flatMap_append, List.flatMap_cons, List.flatMap_nil, h0]
                    simp
                  have HO2 : Hid (wz.ownsRow w.heap.size 23 1 (.slice A5 L.length c5) L.length (L.map Ix.v)) := own_belowK HO.out HYZ.out
                  have HOK2 : Hid (∀ x ∈ L, x.ok wz) := fun y hy => (HOK.out y hy).below HYZ.out
                  have hBz := hBr.trans (HYZ.out.mono hBr.size)
                  have HNZ : Hid (wz.ownsRow w.heap.size 3 1 (.slice (some ad) (ni + 1) cn) (ni + 1) ((nodesE f es).map (Value.int .i64))) := own_belowK HNR.out HYZ.out
                  clear hpn h0 HM HO HOK hbz hBr hab2
                  go_wp2_with fail
                  go_roundw
                  case rel => exact ⟨i + 1, L, A5, c5, by go_num, by omega, rfl, HO2, HM2, HOK2, HNW, HOF, hLs, HNZ, hBz⟩
                  case measure => simp [intOf]; omega
                | true =>
                  obtain ⟨p, hp⟩ : ∃ p, x.pass t size = some p := Option.isSome_iff_exists.1 (HWO.out.symm.trans HOKZ.out)
                  have HP := Lib.hid hp
                  have hBz : Below w.heap.size w wz := HB9.out.trans (hbz.mono HB9.out.size)
                  have HBZ := Lib.hid hBz
                  have HCALL := Lib.hid (HREC.out x p.1 p.2 HXL.out HCND.out.1 HCND.out.2.1 HCND.out.2.2 hp A9 c9 wz hBz HSZ.out)
                  clear hp hBz hbz hab2
                  go_wp2_with fail
                  refine HCALL.out.mono ?_
                  rintro e wu ⟨vu, L2, rfl, hown2, hm2, hok2, hnw2, hbu⟩
                  obtain ⟨Au, cu, rfl⟩ := slice_of_own hown2
                  have hR2 : L2.length ≤ cR := by
                    have h := HR.out x
                    rw [← hm2, List.length_map] at h
                    exact h
                  have HOU : Hid (wu.ownsRow w.heap.size 23 1 (.slice A5 L.length c5) L.length (L.map Ix.v)) := own_belowK (own_belowK HO.out HYZ.out) hbu
                  have HW2 := Lib.hid hown2
                  have HSRC := Lib.hid (Sl.of_own hown2)
                  have HM2 := Lib.hid hm2
                  have HK2 := Lib.hid hok2
                  have HN2 := Lib.hid hnw2
                  have HBU := Lib.hid hbu
                  have hwsz := HBZ.out.size
                  have hwsu := hbu.size
                  have HWR := Lib.hid (show wr.heap.size ≤ wz.heap.size from HYZ.out.size)
                  clear hown2 hm2 hok2 hnw2 hbu HCALL
                  go_wp2_with (first | (at_builtin; refine wpList_append_lst _ rfl (.tmp 93) (.tmp 101) 77 rfl w.heap.size 23 i0 _ 1 24 Tryz.underlying77 hi0 hz0 hz1 hz2 rfl (by decide) (.slice A5 L.length c5) L.length (L.map Ix.v) rfl HOU.out wu.heap.size Au L2.length cu (L2.map Ix.v) rfl HSRC.out.lst (ixv_one _) (by unfold maxLen; omega) (by omega) (by omega) ?_; intro vv wv hownv hgv hatv))
                  obtain ⟨Av, cv, rfl⟩ := slice_of_own hownv
                  have hKv : Kept (fun g => (Value.slice A5 L.length c5).ownBlock = some g) wu wv := Kept.of_grown hgv (fun k e _ => e)
                  have hg5 : ∀ g, (Value.slice A5 L.length c5).ownBlock = some g → w.heap.size ≤ g ∧ g < wr.heap.size := fun g hg => HO.out.lt g hg
                  have hnew2 : ∀ y ∈ L2, y.new wr.heap.size := fun y hy => by
                    rcases HN2.out y hy with rfl | h
                    · exact fun _ ad e => HN9.out ad e
                    · exact fun hn ad e => Nat.le_trans HWR.out (h hn ad e)
                  have hall : ∀ y ∈ L ++ L2, y.ok wu ∧ (∀ g, (Value.slice A5 L.length c5).ownBlock = some g → y.off g) := fun y hy => by
                    rcases List.mem_append.1 hy with hy | hy
                    · exact ⟨((HOK.out y hy).below HYZ.out).below HBU.out, fun g hg => HOF.out y hy g hg⟩
                    · exact ⟨HK2.out y hy, fun g hg hn ad e => by have h1 := hnew2 y hy hn ad e; have h2 := (hg5 g hg).2; omega⟩
                  have hlen : (L ++ L2).length = L.length + L2.length := List.length_append
                  have HO3 : Hid (wv.ownsRow w.heap.size 23 1 (.slice Av (L ++ L2).length cv) (L ++ L2).length ((L ++ L2).map Ix.v)) := by
                    rw [hlen, List.map_append]; exact hownv
                  have HM3 : Hid ((L ++ L2).map Ix.l = es.map Ed.id :: (l.take (i + 1)).flatMap (growG size sh f R es m t)) := by
                    have hgx : growG size sh f R es m t x = R x := by unfold growG; rw [if_pos HCND.out, HP.out]
                    show _ = _
                    rw [List.map_append, HM.out, HM2.out, HTK.out, List.flatMap_append, List.flatMap_cons, List.flatMap_nil, hgx]
                    simp
                  have HOK3 : Hid (∀ y ∈ L ++ L2, y.ok wv) := fun y hy => (hall y hy).1.kept hKv (fun g hg => (hall y hy).2 g hg)
                  have HNW3 : Hid (∀ y ∈ L ++ L2, y = ⟨Ai, ni, ci, es.map Ed.id⟩ ∨ y.new w.heap.size) := fun y hy => by
                    rcases List.mem_append.1 hy with hy | hy
                    · exact HNW.out y hy
                    · refine .inr fun hn ad e => ?_
                      have h1 := hnew2 y hy hn ad e
                      have h2 := hBr.size
                      omega
                  have HOF3 : Hid (∀ y ∈ L ++ L2, ∀ g, (Value.slice Av (L ++ L2).length cv).ownBlock = some g → y.off g) := fun y hy g hg => by
                    have hg' : (Value.slice Av (L.length + L2.length) cv).ownBlock = some g := by rw [hlen] at hg; exact hg
                    rcases hatv with h | h
                    · exact (hall y hy).2 g (h.symm.trans hg')
                    · skip
                      rw [hg'] at h
                      simp only [Option.some.injEq] at h
                      exact (hall y hy).1.off_new (by rw [h]; exact Nat.le_refl _)
                  have hL3 : (L ++ L2).length ≤ 1 + (i + 1) * cR := by rw [hlen]; have := HLC.out; omega
                  have hBv : Below w.heap.size w wv := below_keptJ (HBZ.out.trans (HBU.out.mono HBZ.out.size)) (Nat.le_refl _) hKv (fun g hg => (hg5 g hg).1)
                  have HNV : Hid (wv.ownsRow w.heap.size 3 1 (.slice (some ad) (ni + 1) cn) (ni + 1) ((nodesE f es).map (Value.int .i64))) := own_keptJ (own_belowK (own_belowK HNR.out HYZ.out) HBU.out) hKv (own_apartG (own_belowK (own_belowK HNR.out HYZ.out) HBU.out) HOU.out (by decide))
                  clear hownv hgv hatv hKv hg5 hnew2 hall HOU HSRC HW2 HK2 HN2 HM2 HM HO HOK HNW HOF
                  rw [← hlen]
                  go_wp2_with fail
                  go_roundw
                  case rel => exact ⟨i + 1, L ++ L2, Av, cv, by go_num, by omega, by rw [hlen], HO3, HM3, HOK3, HNW3, HOF3, hL3, HNV, hBv⟩
                  case measure => simp [intOf]; omega
        · have gf : (x.fr != m) = true := by simpa using h1
          have h0 : growG size sh f R es m t x = [] := by unfold growG; rw [if_neg (fun hc => h1 hc.1)]
          have HM2 := hskip h0
          clear h1 h0 hskip hsn hss HM
          go_wp2_with fail
          clear p0 p1 p2 gf hae
          go_wp2_with fail
          go_roundw
          case rel => exact ⟨i + 1, L, A5, c5, by go_num, by omega, rfl, HO, HM2, HOK, HNW, HOF, hLs, HNR, hBr⟩
          case measure => simp [intOf]; omega
      · obtain rfl : i = n := by omega
        have HF : GrownP w ⟨Ai, ni, ci, es.map Ed.id⟩ (growT l size q sh f R es m t) (.returned (.slice A5 L.length c5)) wr := by
          unfold growT
          rw [if_neg HMQ.out]
          have hm := HM.out
          rw [List.take_of_length_le (by rw [HD.out]; exact Nat.le_refl _)] at hm
          exact ⟨_, L, rfl, HO.out, hm, HOK.out, HNW.out, hBr⟩
        have HFF := Lib.hid HF
        clear HF HO HM HOK HNW HOF hLc hBr
        go_wp2_with fail
        go_ret
        exact HFF.out
end Go.Proofs.YtmbaklodgpcegaaGreat
