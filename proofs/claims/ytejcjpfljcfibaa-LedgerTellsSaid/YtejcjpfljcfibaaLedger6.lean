/- Package ledger: Drop. No condition. -/
import Derived.Test.YtejcjpfljcfibaaLedger5
import Derived.Test.YtejcjpfljcfibaaStBk
namespace Go.Proofs.Ytejcjpfljcfibaa
open Go.ChangeShapes Go.WideShapes Go.ChangeAt Go.RowKit Go.Sort
set_option linter.unusedSimpArgs false
set_option linter.unusedVariables false
theorem run_makeMap_hint {P : Program} (t k e : TypeId) (kd : IntKind) (n : Int) (ht : P.underlying t = some (.map k e)) (w : World) :
    (Instr.makeMap t (some (.int kd n))).run P w = .ok (.map (some w.heap.size)) (w.alloc (.map #[] 0)) := by
  simp [Instr.makeMap, run_underlying ht]; rfl
theorem intAt {l : List Int} {k : Nat} (h : k < l.length) : (l.map (Value.int .i64))[k]? = some (.int .i64 (l.getD k 0)) := by
  simp [List.getD_eq_getElem?_getD, List.getElem?_eq_getElem h]
theorem Lst.atI {w : World} {B : Nat} {A : Option Addr} {n : Nat} {l : List Int} (h : Lst w B 1 A n (l.map (Value.int .i64))) (hl : l.length = n) {k : Nat} (hk : k < n) : ∃ ad, A = some ad ∧ ad.block < B ∧ w.cell? (ad.add k) = some (.int .i64 (l.getD k 0)) := by
  obtain ⟨ad, e, hb, hc⟩ := h.at_ (by omega)
  exact ⟨ad, e, hb, hc _ _ (intAt (by omega))⟩
def inL (l : List Int) (x : Int) : Bool := l.any (fun j => j == x)
theorem inL_next {l : List Int} {k : Nat} (h : k < l.length) (j : Int) : inL (l.take (k + 1)) j = (if j = l.getD k 0 then true else inL (l.take k) j) := by
  have e : l.take (k + 1) = l.take k ++ [l.getD k 0] := by
    rw [List.take_add_one, List.getD_eq_getElem?_getD, List.getElem?_eq_getElem h]; rfl
  unfold inL
  rw [e, List.any_append]
  by_cases e : j = l.getD k 0
  · subst e; simp
  · rw [if_neg e]; simp; intro e2; exact absurd e2.symm e
def dropL (d : List Bk) (l : List Int) : List Bk := d.filter (fun x => !inL l x.id)
set_option maxHeartbeats 1000000 in
set_option maxRecDepth 100000 in
theorem drop1_any (x : Bk) (b0 b1 m : Nat) (S : Int → Bool) (w : World) (hK : Blok w b1 55 #[.map (some b0)]) (hS : SetW w b0 m S) (hwf : (Lit.int .i64 x.id).wf = true) :
    Calls Try.prog 38 #[.agg #[.int .i64 x.id, .int .i64 x.ua, .int .i64 x.ub, .int .i64 x.uc], .pointer (some ⟨b1, 0, none⟩)] w fun e w' => e = .returned (.bool (S x.id)) ∧ Below w.heap.size w w' := by
  have hBa : Below w.heap.size w (w.alloc (.cells #[.int .i64 x.id, .int .i64 x.ua, .int .i64 x.ub, .int .i64 x.uc] 43)) := by (repeat (first | exact Below.refl _ _ | refine Below.alloc ?_ (by first | omega | (simp; done) | (simp; omega)) _ | refine Below.setCell ?_ (by first | omega | (simp; done) | (simp; omega)) _ | refine Below.drew ?_))
  have hX := Blok.new w 43 #[.int .i64 x.id, .int .i64 x.ua, .int .i64 x.ub, .int .i64 x.uc]
  have hK2 := hK.below hBa hK.lt
  have hS2 := hS.below hBa
  have hlk := hS2.look hwf
  have hl1 := hK.lt
  obtain ⟨s, hs⟩ : ∃ s, S x.id = s := ⟨_, rfl⟩
  rw [hs] at hlk
  rw [hs]
  have k0 : (w.alloc (.cells #[.int .i64 x.id, .int .i64 x.ua, .int .i64 x.ub, .int .i64 x.uc] 43)).cell? ⟨b1, 0, none⟩ = some (.map (some b0)) := hK2.cell 0
  clear hK hS hK2 hS2 hX hs
  go_enter Try.func38, Try.ntmps38
  go_wp2
  go_ret
  exact ⟨rfl, hBa⟩
def DropR (b0 b1 m : Nat) (S : Int → Bool) (_ : Nat) (w : World) : Prop := Blok w b1 55 #[.map (some b0)] ∧ SetW w b0 m S
theorem pred_drop (b0 b1 m g0 base : Nat) (S : Int → Bool) (d : List Bk) (h0 : b0 ≠ g0) (h1 : b1 ≠ g0) (hwf : ∀ x ∈ d, (Lit.int .i64 x.id).wf = true) :
    PredS 38 #[.pointer (some ⟨b1, 0, none⟩)] g0 base d (fun x => S x.id) (DropR b0 b1 m S) :=
  ⟨enter_run Try.func38 rfl rfl,
   fun k hk W w' hR hb hg hbs => (drop1_any (gBk d k) b0 b1 m S w' (hR.1.below hb hR.1.lt) (hR.2.below hb) (hwf _ (gBk_mem hk))).mono (fun e w'' ⟨he, hB⟩ => ⟨he, ⟨(hR.1.below hb hR.1.lt).below hB ((hR.1.below hb hR.1.lt).lt), (hR.2.below hb).below hB⟩, hB.mono (by have := hb.size; omega), hB.block g0 (by have := hb.size; omega), fun b _ h2 => hB.block b h2⟩),
   fun k w w' hR hgr => ⟨hR.1.grown hgr (fun e => h1 (by simpa using e)), hR.2.kept hgr (fun e => h0 (by simpa using e))⟩⟩
set_option maxHeartbeats 2000000 in
set_option maxRecDepth 100000 in
theorem drop_any (A : Option Addr) (n c : Nat) (d : List Bk) (A' : Option Addr) (m c' : Nat) (l : List Int) (w : World) (hd : d.length = n) (hn : n ≤ 1000000) (hl : l.length = m) (hm : m ≤ 1000) (h : Sl w w.heap.size 4 A n c (flatBk d)) (h' : Sl w w.heap.size 1 A' m c' (l.map (Value.int .i64))) (hwf : ∀ x ∈ d, (Lit.int .i64 x.id).wf = true) (hlw : ∀ k, k < m → (Lit.int .i64 (l.getD k 0)).wf = true) :
    Calls Try.prog 19 #[.slice A n c, .slice A' m c'] w fun e w' => ∃ v, e = .returned v ∧ w'.ownsRow w.heap.size 43 4 v (dropL d l).length (flatBk (dropL d l)) ∧ Below w.heap.size w w' := by
  have HD := Lib.hid hd
  have HLL := Lib.hid hl
  have HW := Lib.hid hwf
  have HLW := Lib.hid hlw
  have hmk := run_makeMap_hint (P := Try.prog) 55 3 4 .i64 (m : Int) Try.underlying55 w
  obtain ⟨b0, hb0⟩ : ∃ b0, w.heap.size = b0 := ⟨_, rfl⟩
  rw [hb0] at hmk
  have HB0 := Lib.hid hb0
  have hS0 := SetW.made w
  rw [hb0] at hS0
  have hB0 : Below w.heap.size w (w.alloc (.map #[] 0)) := (Below.refl _ _).alloc (Nat.le_refl _) _
  have h0 := h.below hB0
  have h0' := h'.below hB0
  clear hb0 h h' hwf hlw hd hl
  go_enter Try.func19, Try.ntmps19
  go_wp2
  obtain ⟨b1, hb1⟩ : ∃ b1, w.heap.size + 1 = b1 := ⟨_, rfl⟩
  have hK0 := Blok.new (w.alloc (.map #[] 0)) 55 #[.map (some b0)]
  rw [World.size_alloc] at hK0
  rw [hb1] at hK0
  rw [hb1]
  replace hS0 := hS0.alloc (.cells #[.map (some b0)] 55)
  replace h0 := h0.below ((Below.refl _ _).alloc hB0.size (.cells #[.map (some b0)] 55))
  replace h0' := h0'.below ((Below.refl _ _).alloc hB0.size (.cells #[.map (some b0)] 55))
  replace hB0 := hB0.alloc hB0.size (.cells #[.map (some b0)] 55)
  generalize (w.alloc (.map #[] 0)).alloc (.cells #[.map (some b0)] 55) = w2 at *
  have HB1 := Lib.hid hb1
  clear hmk hb1
  go_loopw [13] (fun i wr => ∃ k : Nat, k ≤ m ∧ i = .int .i64 k ∧ Below w.heap.size w wr ∧ Blok wr b1 55 #[.map (some b0)] ∧ SetW wr b0 k (inL (l.take k)) ∧ Hid (Sl wr w.heap.size 4 A n c (flatBk d)) ∧ Hid (Sl wr w.heap.size 1 A' m c' (l.map (Value.int .i64)))) (fun i _ => m - (intOf i).toNat)
  case atStart => exact ⟨0, by omega, rfl, hB0, hK0, hS0.congr (fun k _ => by simp [inL]), h0, h0'⟩
  case round =>
    clear hB0 hK0 hS0 h0 h0'
    obtain ⟨k, hk, rfl, hB, hK, hS, HL, HL'⟩ := hrel
    by_cases hkn : k < m
    · obtain ⟨ad, rfl, hab, c0⟩ := HL'.out.lst.atI HLL.out hkn
      have hwf := HLW.out k hkn
      have HNX := Lib.hid (inL_next (l := l) (k := k) (by have := HLL.out; omega))
      have HLL2 := Lib.hid HLL.out
      generalize l.getD k 0 = y at *
      have hsw := hB.size
      have k0 : wr.cell? ⟨b1, 0, none⟩ = some (.map (some b0)) := hK.cell 0
      go_wp2_with (at_mapUpdate; refine wpList_put_set rfl _ _ _ rfl b0 k _ y true rfl hS (by unfold maxLen; omega) rfl hwf rfl ?_; intro w4 hS4 hg4)
      try simp only [Act.put, List.setIfInBounds_toArray, List.set_cons_succ, List.set_cons_zero]
      clear c0 k0
      have hK4 := hK.grown hg4 (fun e => by have e1 := HB0.out; have e2 := HB1.out; have e3 : b1 = b0 := (by simpa using e); omega)
      have hB4 : Below w.heap.size w w4 := hB.grown hg4 hsw (fun j hj => by have := HB0.out; simp at hj; omega)
      have hbw : Below w.heap.size wr w4 := Below.grown (Below.refl _ _) hg4 hsw (fun j hj => by have := HB0.out; simp at hj; omega)
      have hL4 := HL.out.below hbw
      have hL4' := HL'.out.below hbw
      have hS5 : SetW w4 b0 (k + 1) (inL (l.take (k + 1))) := hS4.congr (fun j _ => by rw [HNX.out j])
      clear hS hS4 hg4 hK HL HL' hB hbw
      go_wp2
      go_roundw
      case rel => exact ⟨k + 1, by omega, by go_num, hB4, hK4, hS5, hL4, hL4'⟩
      case measure => simp [intOf]; omega
    · obtain rfl : k = m := by omega
      have hS2 : SetW wr b0 k (inL l) := hS.congr (fun j _ => by rw [List.take_of_length_le (by have := HLL.out; omega)])
      have hL2 := HL.out.more hB.size
      clear hS HL HL'
      go_wp2_with fail
      refine (cloneBk A n c d wr HD.out hn hL2).mono ?_
      rintro e w3 ⟨v, rfl, hown, hb3⟩
      have hK3 := hK.below hb3 hK.lt
      have hS3 := hS2.below hb3
      have hB3 := hB.trans (hb3.mono hB.size)
      have hown3 := own_down (base' := w.heap.size) hown hB.size
      have hlow : ∀ g, v.ownBlock = some g → b0 ≠ g ∧ b1 ≠ g := fun g e => by
        have h1 := (hown.lt _ e).1
        have h2 := hS2.lt
        have h3 := hK.lt
        omega
      clear hb3 hK hS2 hB hL2 hown
      go_wp2_with fail
      refine Calls.mono (R := fun e w' => ∃ v, e = .returned v ∧ w'.ownsRow w.heap.size 43 4 v (dropL d l).length (flatBk (dropL d l)) ∧ Below w.heap.size w w') ?_ ?_
      · by_cases hn0 : n = 0
        · subst hn0
          have hd0 : d = [] := List.length_eq_zero_iff.1 HD.out
          subst hd0
          obtain ⟨A3, c3, rfl⟩ := slice_of_own hown3
          refine (delete0 A3 c3 _ _ w3 (enter_run Try.func38 rfl rfl)).mono ?_
          rintro e w4 ⟨rfl, rfl⟩
          exact ⟨_, rfl, hown3, hB3⟩
        · obtain ⟨g0, c3, rfl, hnc, hcm, hgb, hgl⟩ := own_at hown3 (by omega)
          have hne := hlow g0 rfl
          refine (deleteS g0 n c3 d _ _ w.heap.size _ _ w3 HD.out hn hown3 (by omega) (pred_drop b0 b1 k g0 w.heap.size (inL l) d hne.1 hne.2 HW.out) ⟨hK3, hS3⟩ hB3.size).mono ?_
          rintro e w4 ⟨v4, rfl, hv4, _, hb4⟩
          exact ⟨v4, rfl, hv4, hB3.trans hb4⟩
      · rintro e w4 ⟨v4, rfl, hv4, hB4⟩
        obtain ⟨m6, hm6⟩ : ∃ q, (dropL d l).length = q := ⟨_, rfl⟩
        rw [hm6] at hv4
        have HM6 := Lib.hid hm6
        clear hm6 hown3 hK3 hS3 hB3
        obtain ⟨A6, c6, rfl⟩ := slice_of_own hv4
        go_wp2
        go_ret
        exact ⟨_, rfl, by rw [HM6.out]; exact hv4, hB4⟩
end Go.Proofs.Ytejcjpfljcfibaa
