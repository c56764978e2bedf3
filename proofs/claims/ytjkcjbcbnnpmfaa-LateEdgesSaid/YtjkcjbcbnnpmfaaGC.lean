/- Several texts of mine in one: HeapQ, HeapN, HeapC. No condition. -/
import Derived.Test.YtjkcjbcbnnpmfaaHeapP
import Derived.Test.YtjkcjbcbnnpmfaaMem2
import Derived.Test.YtjkcjbcbnnpmfaaOpen

/- Package heap: Len, Peek, Pop, New. -/
namespace Go.Proofs.Ytjkcjbcbnnpmfaa
open Go.ChangeShapes Go.WideShapes Go.ChangeAt Go.RowKit Go.Sort Hp
set_option linter.unusedSimpArgs false
set_option linter.unusedVariables false
set_option maxRecDepth 100000 in
theorem peek_none (hb : Nat) (v : Value) (w : World) (h0 : HeapV w hb v []) :
    Calls Try.prog 78 #[.pointer (some ⟨hb, 0, none⟩)] w fun e w' => e = .returned (.tuple #[.agg #[.int .i64 0, .int .i64 0], .bool false]) ∧ Below w.heap.size w w' := by
  have cb : w.cell? ⟨hb, 0, none⟩ = some v := h0.head.cell 0
  obtain ⟨A, c, rfl⟩ := slice_of_own h0.row
  have hl := h0.head.lt
  clear h0
  go_enter Try.func78, Try.ntmps78
  go_wp2
  exact bodyPost_ret (v := .tuple #[.agg #[.int .i64 0, .int .i64 0], .bool false]) (by simp [results, Try.results78, go_sem]) rfl ⟨rfl, by (repeat (first | exact Below.refl _ _ | refine Below.alloc ?_ (by first | omega | (simp; done) | (simp; omega)) _ | refine Below.setCell ?_ (by first | omega | (simp; done) | (simp; omega)) _ | refine Below.drew ?_))⟩
set_option maxHeartbeats 1000000 in
set_option maxRecDepth 100000 in
theorem peek_some (hb g cap : Nat) (d : List (Int × Int)) (w : World) (h0 : HeapAt w hb g cap d) (hd : 0 < d.length) :
    Calls Try.prog 78 #[.pointer (some ⟨hb, 0, none⟩)] w fun e w' => e = .returned (.tuple #[.agg #[.int .i64 (gt d 0).1, .int .i64 (gt d 0).2], .bool true]) ∧ Below w.heap.size w w' := by
  have cb : w.cell? ⟨hb, 0, none⟩ = some (.slice (some ⟨g, 0, none⟩) d.length cap) := h0.head.cell 0
  have c0 : w.cell? ⟨g, 0, none⟩ = some (.int .i64 (gt d 0).1) := by have := h0.fst hd; rw [Nat.zero_mul] at this; exact this
  have c1 : w.cell? ⟨g, 1, none⟩ = some (.int .i64 (gt d 0).2) := by have := h0.snd hd; rw [Nat.zero_mul, Nat.zero_add] at this; exact this
  have hl := h0.head.lt
  have hgl : g < w.heap.size := (h0.row.lt g rfl).2
  have hz : ((d.length : Int) == 0) = false := beq_eq_false_iff_ne.2 (by omega)
  clear h0
  go_enter Try.func78, Try.ntmps78
  go_wp2
  exact bodyPost_ret (v := .tuple #[.agg #[.int .i64 (gt d 0).1, .int .i64 (gt d 0).2], .bool true]) (by simp [results, Try.results78, go_sem]) rfl ⟨rfl, by (repeat (first | exact Below.refl _ _ | refine Below.alloc ?_ (by first | omega | (simp; done) | (simp; omega)) _ | refine Below.setCell ?_ (by first | omega | (simp; done) | (simp; omega)) _ | refine Below.drew ?_))⟩
set_option maxRecDepth 100000 in
theorem pop_none (hb : Nat) (v : Value) (w : World) (h0 : HeapV w hb v []) :
    Calls Try.prog 63 #[.pointer (some ⟨hb, 0, none⟩)] w fun e w' => e = .returned (.tuple #[.agg #[.int .i64 0, .int .i64 0], .bool false]) ∧ Below w.heap.size w w' := by
  have hB0 : Below w.heap.size w (w.alloc (.cells #[.int .i64 0, .int .i64 0] 36)) := (Below.refl _ _).alloc (Nat.le_refl _) _
  have h1 : HeapV (w.alloc (.cells #[.int .i64 0, .int .i64 0] 36)) hb v [] := ⟨h0.head.below hB0 h0.head.lt, h0.row.alloc _⟩
  have hl := h0.head.lt
  clear h0
  go_enter Try.func63, Try.ntmps63
  go_wp2_with fail
  refine (peek_none hb v _ h1).mono ?_
  rintro e w1 ⟨rfl, hB⟩
  have hR := (Blok.new w 36 #[.int .i64 0, .int .i64 0]).below hB (by simp)
  have r0 : w1.cell? ⟨w.heap.size, 0, none⟩ = some (.int .i64 0) := hR.cell 0
  have r1 : w1.cell? ⟨w.heap.size, 1, none⟩ = some (.int .i64 0) := hR.cell 1
  have f0 := hR.free 0
  have f1 := hR.free 1
  have hs := hB.size
  simp only [World.size_alloc] at hs
  have hlt : w.heap.size < w1.heap.size := by omega
  clear h1 hR
  go_wp2
  refine bodyPost_ret (v := .tuple #[.agg #[.int .i64 0, .int .i64 0], .bool false]) ?_ rfl ⟨rfl, ?_⟩
  · simp [results, Try.results63, go_sem, r0, r1, hlt]
  · (repeat (first | exact Below.refl _ _ | exact hB | refine Below.alloc ?_ (by first | omega | (simp; done) | (simp; omega)) _ | refine Below.setCell ?_ (by first | omega | (simp; done) | (simp; omega)) _ | refine Below.drew ?_ | refine Below.trans ?_ (hB.mono (by first | omega | (simp; done) | (simp; omega)))))
theorem own_take {w : World} {base : Nat} {e : TypeId} {size n m g c : Nat} {xs : List Value} (h : w.ownsRow base e size (.slice (some ⟨g, 0, none⟩) n c) n xs) (hm : m ≤ n) : w.ownsRow base e size (.slice (some ⟨g, 0, none⟩) m c) m (xs.take (m * size)) := by
  have hle : m * size ≤ n * size := Nat.mul_le_mul_right _ hm
  refine ⟨by rw [List.length_take, h.1]; omega, ?_⟩
  rcases h.2 with ⟨h', _⟩ | ⟨g', cap, cur, h', hb, hg, hc, hcm, hs, ht⟩
  · simp at h'
  · simp only [Value.slice.injEq, Option.some.injEq, Addr.mk.injEq, and_true, true_and] at h'
    obtain ⟨rfl, rfl⟩ := h'
    refine .inr ⟨g, c, cur, rfl, hb, hg, by omega, hcm, hs, ?_⟩
    rw [← ht, List.take_take]
    congr 1
    omega
theorem flat2_cut (d : List (Int × Int)) (h : 0 < d.length) : flat2 (cutF d) = ((flat2 (d.set 0 (gt d (d.length - 1)))).take ((d.length - 1) * 2)) := by
  rw [flat2_take]; rfl
set_option maxHeartbeats 2000000 in
set_option maxRecDepth 100000 in
theorem pop_some (hb g cap : Nat) (d : List (Int × Int)) (w : World) (hcap : d.length ≤ cap) (hsz : d.length ≤ 1000000) (h0 : HeapAt w hb g cap d) (hh : isHeap d) (hd : 0 < d.length) :
    Calls Try.prog 63 #[.pointer (some ⟨hb, 0, none⟩)] w fun e w' => e = .returned (.tuple #[.agg #[.int .i64 (gt d 0).1, .int .i64 (gt d 0).2], .bool true]) ∧ ∃ d', (gt d 0 :: d').Perm d ∧ isHeap d' ∧ HeapAt w' hb g cap d' ∧ Kept (fun k => k = hb ∨ k = g) w w' := by
  have hB0 : Below w.heap.size w (w.alloc (.cells #[.int .i64 0, .int .i64 0] 36)) := (Below.refl _ _).alloc (Nat.le_refl _) _
  have h1 : HeapAt (w.alloc (.cells #[.int .i64 0, .int .i64 0] 36)) hb g cap d := h0.grown (grown_of_below (row := none) hB0) (by simp) (by simp)
  have hl := h0.head.lt
  have hgl : g < w.heap.size := (h0.row.lt g rfl).2
  clear h0
  go_enter Try.func63, Try.ntmps63
  go_wp2_with fail
  refine (peek_some hb g cap d _ h1 hd).mono ?_
  rintro e w1 ⟨rfl, hB⟩
  have hR := (Blok.new w 36 #[.int .i64 0, .int .i64 0]).below hB (by simp)
  have hA := h1.grown (grown_of_below (row := none) hB) (by simp) (by simp)
  have hs := hB.size
  simp only [World.size_alloc] at hs
  have hlt : w.heap.size < w1.heap.size := by omega
  have hK := Kept.of_below (S := fun k => k = hb ∨ k = g) (hB0.trans (hB.mono (by simp)))
  have cb : w1.cell? ⟨hb, 0, none⟩ = some (.slice (some ⟨g, 0, none⟩) d.length cap) := hA.head.cell 0
  have fb := hA.head.free 0
  have hne := hA.ne_
  have hdm : d.length - 1 < d.length := by omega
  obtain ⟨m, hm⟩ : ∃ m, d.length = m + 1 := ⟨d.length - 1, by omega⟩
  have cl0 := hA.fst hdm
  have cl1 := hA.snd hdm
  have e0 := hA.row.frozenAt 0
  have e1 := hA.row.frozenAt 1
  have z0 := hA.fst hd
  have z1 := hA.snd hd
  have hml : m < d.length := by omega
  rw [show d.length - 1 = m from by omega] at cl0 cl1
  rw [Nat.zero_mul] at z0
  rw [Nat.zero_mul, Nat.zero_add] at z1
  have HM := Lib.hid hm
  have hl1 : hb < w1.heap.size := by omega
  have hgl1 : g < w1.heap.size := by omega
  clear h1 hm hdm
  go_wp2
  rw [show (d.length : Int) - 1 = (m : Int) from by have := HM.out; omega]
  have hF := Blok.new w1 36 #[.int .i64 (gt d 0).1, .int .i64 (gt d 0).2]
  have hBa : Below w1.heap.size w1 (w1.alloc (.cells #[.int .i64 (gt d 0).1, .int .i64 (gt d 0).2] 36)) := (Below.refl _ _).alloc (Nat.le_refl _) _
  have hR2 := hR.below hBa hlt
  have hA2 := hA.grown (grown_of_below (row := none) hBa) (by simp) (by simp)
  have hK2 := hK.alloc (.cells #[.int .i64 (gt d 0).1, .int .i64 (gt d 0).2] 36)
  have hFR : w1.heap.size ≠ w.heap.size := by omega
  have hFb : hb ≠ w1.heap.size := by omega
  have hFg : g ≠ w1.heap.size := by omega
  have hRb : hb ≠ w.heap.size := by omega
  have hRg : g ≠ w.heap.size := by omega
  clear hR hA hK cb fb cl0 cl1 e0 e1 z0 z1 hBa hB hB0 hs hlt hl1 hgl1
  generalize hwq : w1.alloc (.cells #[.int .i64 (gt d 0).1, .int .i64 (gt d 0).2] 36) = w2 at *
  generalize w1.heap.size = F at *
  generalize hRn : w.heap.size = R at *
  clear hwq
  have hm1 : d.length - 1 = m := by have := HM.out; omega
  have cb : w2.cell? ⟨hb, 0, none⟩ = some (.slice (some ⟨g, 0, none⟩) d.length cap) := hA2.head.cell 0
  have fb := hA2.head.free 0
  have cl0 := hA2.fst hml
  have cl1 := hA2.snd hml
  have e0 := hA2.row.frozenAt 0
  have e1 := hA2.row.frozenAt 1
  have z0 := hA2.fst hd
  have z1 := hA2.snd hd
  rw [Nat.zero_mul] at z0
  rw [Nat.zero_mul, Nat.zero_add] at z1
  have HN := Lib.hid hRn
  have HM1 := Lib.hid hm1
  clear hRn hm1
  go_region
  have hS := hA2.store 0 (gt d m)
  rw [Nat.zero_mul, Nat.zero_add] at hS
  have hA3 := hS.1.drew
  have hg3 := grown_drew hS.2
  have hK3 := Kept.grow_ hK2 hg3 (fun i _ h => .inr (by simpa using h.symm))
  have hR3 := hR2.grown hg3 (fun e => hRg (by simpa using e.symm))
  have hF3 := hF.grown hg3 (fun e => hFg (by simpa using e.symm))
  clear hS hA2 hg3 hK2 hR2 hF cb fb cl0 cl1 e0 e1 z0 z1
  generalize ((w2.setCell ⟨g, 0, none⟩ (.int .i64 (gt d m).1)).setCell ⟨g, 1, none⟩ (.int .i64 (gt d m).2)).drew = w3 at *
  have cb : w3.cell? ⟨hb, 0, none⟩ = some (.slice (some ⟨g, 0, none⟩) d.length cap) := by
    have := hA3.head.cell 0
    rw [List.length_set] at this
    exact this
  have fb := hA3.head.free 0
  have hmc : m ≤ cap := by omega
  go_wp2_with fail
  have hA4 : HeapAt (w3.setCell ⟨hb, 0, none⟩ (.slice (some ⟨g, 0, none⟩) m cap)) hb g cap (cutF d) := by
    refine ⟨?_, ?_⟩
    · rw [cut_length, HM1.out]
      exact one_setCell hA3.head
    · rw [cut_length, HM1.out, flat2_cut d hd, HM1.out]
      have hx := hA3.row
      rw [List.length_set] at hx
      exact ownsRow_setCell_other (own_take hx (by omega)) (by simp only [Value.ownBlock]; intro e; exact hne (by simpa using e.symm)) _
  have hK4 := hK3.set (g := hb) (fun _ => .inl rfl) 0 (.slice (some ⟨g, 0, none⟩) m cap)
  have hR4 := hR3.far (p := ⟨hb, 0, none⟩) (fun e => hRb e.symm) (.slice (some ⟨g, 0, none⟩) m cap)
  have hF4 := hF3.far (p := ⟨hb, 0, none⟩) (fun e => hFb e.symm) (.slice (some ⟨g, 0, none⟩) m cap)
  clear hA3 hK3 hR3 hF3 cb fb
  generalize w3.setCell ⟨hb, 0, none⟩ (.slice (some ⟨g, 0, none⟩) m cap) = w4 at *
  refine (sink_any hb g cap (cutF d) w4 (by rw [cut_length]; omega) (by rw [cut_length]; omega) hA4 (cut_down hh)).mono ?_
  rintro e w5 ⟨rfl, d', k1, k2, k3, k4, k5⟩
  have K1 := Lib.hid k1
  have hR5 := hR4.grown k5 (fun e => hRg (by simpa using e.symm))
  have hF5 := hF4.grown k5 (fun e => hFg (by simpa using e.symm))
  have r0 : w5.cell? ⟨R, 0, none⟩ = some (.int .i64 0) := hR5.cell 0
  have r1 : w5.cell? ⟨R, 1, none⟩ = some (.int .i64 0) := hR5.cell 1
  have f0 := hR5.free 0
  have f1 := hR5.free 1
  have q0 : w5.cell? ⟨F, 0, none⟩ = some (.int .i64 (gt d 0).1) := hF5.cell 0
  have q1 : w5.cell? ⟨F, 1, none⟩ = some (.int .i64 (gt d 0).2) := hF5.cell 1
  have hK5 := Kept.grow_ hK4 k5 (fun i _ h => .inr (by simpa using h.symm))
  clear k1 hR4 hF4 hA4 hK4 k5
  go_wp2
  refine bodyPost_ret (v := .tuple #[.agg #[.int .i64 (gt d 0).1, .int .i64 (gt d 0).2], .bool true]) ?_ rfl ⟨rfl, d', ?_, k3, ?_, ?_⟩
  · simp [results, Try.results63, go_sem, r0, r1, hFR]
  · exact (List.Perm.cons _ k2).trans (cut_perm hd)
  · have g1 := grown_set (g := R) w5 0 (.int .i64 (gt d 0).1)
    exact (k4.grown (row := some R) (grown_trans g1 (grown_set (g := R) _ 1 (.int .i64 (gt d 0).2))) (by simpa using fun e => hRb e.symm) (by simpa using fun e => hRg e.symm))
  · exact (hK5.set (g := R) (fun h => by have := HN.out; omega) 0 _).set (g := R) (fun h => by have := HN.out; omega) 1 _
end Go.Proofs.Ytjkcjbcbnnpmfaa

/- Package heap: New, and what a heap tells, whatever its slice is. -/
namespace Go.Proofs.Ytjkcjbcbnnpmfaa
open Go.ChangeShapes Go.WideShapes Go.ChangeAt Go.RowKit Go.Sort Hp
set_option linter.unusedSimpArgs false
set_option linter.unusedVariables false
/-- The heap at hb holds l; all its blocks are B, or behind. -/
structure HeapB (w : World) (B hb : Nat) (v : Value) (d : List (Int × Int)) (l : List (Int × Int)) : Prop where
  at_ : HeapV w hb v d
  heap : isHeap d
  perm : d.Perm l
  hb : B ≤ hb
  own : ∀ k, v.ownBlock = some k → B ≤ k
theorem take_next {l : List (Int × Int)} {k : Nat} (h : k < l.length) : l.take (k + 1) = l.take k ++ [gt l k] := by
  rw [List.take_succ_eq_append_getElem h]
  congr 2
  unfold gt
  rw [List.getD_eq_getElem?_getD, List.getElem?_eq_getElem h]
  rfl
theorem add_next (ad : Addr) (j m : Nat) (hm : 0 < m) : (⟨(ad.add j).block, (ad.add j).off + m, none⟩ : Addr) = ad.add (j + m) := by
  unfold Addr.add
  by_cases hj : j = 0
  · subst hj; simp; omega
  · simp [hj]; omega
theorem Lst.fst2 {w : World} {B : Nat} {A : Option Addr} {n : Nat} {l : List (Int × Int)} (h : Lst w B 2 A n (flat2 l)) (hl : l.length = n) {k : Nat} (hk : k < n) : ∃ ad, A = some ad ∧ ad.block < B ∧ w.cell? (ad.add (k * 2)) = some (.int .i64 (gt l k).1) ∧ w.cell? ⟨(ad.add (k * 2)).block, (ad.add (k * 2)).off + 1, none⟩ = some (.int .i64 (gt l k).2) := by
  obtain ⟨ad, e, hb, hc⟩ := h.at_ (by omega)
  exact ⟨ad, e, hb, hc _ _ (by rw [flat2_fst l k (by omega)]; rfl), by rw [add_next _ _ _ (by omega)]; exact hc _ _ (by rw [flat2_snd l k (by omega)]; rfl)⟩
theorem Kept.below_of {S : Nat → Prop} {B : Nat} {w w1 w2 : World} (hk : Kept S w1 w2) (hB : Below B w w1) (hs : B ≤ w1.heap.size) (hS : ∀ k, k < B → ¬ S k) : Below B w w2 :=
  ⟨hk.os.trans hB.os, hk.tape.trans hB.tape, hk.output.trans hB.output, Nat.le_trans hB.size hk.size, fun k h => (hk.block k (by omega) (hS k h)).trans (hB.block k h)⟩
theorem HeapV.below {w w' : World} {hb : Nat} {v : Value} {d : List (Int × Int)} (h : HeapV w hb v d) (hB : Below w.heap.size w w') : HeapV w' hb v d :=
  ⟨h.head.below hB h.head.lt, h.row.kept (grown_of_below (row := some w.heap.size) hB) (.inr (fun e => by have := (h.row.lt _ e).2; omega))⟩
theorem HeapB.below {w w' : World} {B hb : Nat} {v : Value} {d l : List (Int × Int)} (h : HeapB w B hb v d l) (hB : Below w.heap.size w w') : HeapB w' B hb v d l := ⟨h.at_.below hB, h.heap, h.perm, h.hb, h.own⟩
set_option maxHeartbeats 2000000 in
set_option maxRecDepth 100000 in
theorem new_any (A : Option Addr) (n c : Nat) (l : List (Int × Int)) (w : World) (hl : l.length = n) (hn : n ≤ 1000000) (hA : Lst w w.heap.size 2 A n (flat2 l)) :
    Calls Try.prog 62 #[.slice A n c] w fun e w' => ∃ hb v d, e = .returned (.pointer (some ⟨hb, 0, none⟩)) ∧ HeapB w' w.heap.size hb v d l ∧ Below w.heap.size w w' := by
  go_enter Try.func62, Try.ntmps62
  go_wp2
  go_loopw [10] (fun i wr => ∃ (k : Nat) (v : Value) (d : List (Int × Int)), k ≤ n ∧ i = .int .i64 k ∧ HeapB wr w.heap.size w.heap.size v d (l.take k) ∧ Below w.heap.size w wr) (fun i _ => n - (intOf i).toNat)
  case atStart => 
    refine ⟨0, .slice none 0 0, [], by omega, rfl, ⟨⟨Blok.new _ _ _, World.ownsRow_nil _ _ _ _⟩, ?_, List.Perm.refl _, Nat.le_refl _, by simp [Value.ownBlock]⟩, by (repeat (first | exact Below.refl _ _ | refine Below.alloc ?_ (by first | omega | (simp; done) | (simp; omega)) _ | refine Below.setCell ?_ (by first | omega | (simp; done) | (simp; omega)) _ | refine Below.drew ?_))⟩
    intro j h0 h1
    simp at h1
  case round =>
    obtain ⟨k, v, d, hk, rfl, hH, hB⟩ := hrel
    by_cases hlt : k < n
    · obtain ⟨ad, rfl, hab, c0, c1⟩ := (hA.below hB).fst2 hl hlt
      have habw : ad.block < wr.heap.size := by have := hB.size; omega
      go_wp2_with fail
      have hBa : Below wr.heap.size wr (wr.alloc (.cells #[.int .i64 (gt l k).1, .int .i64 (gt l k).2] 36)) := (Below.refl _ _).alloc (Nat.le_refl _) _
      have hH2 := hH.below hBa
      have hdl : d.length < 1000000 := by
        have := hH.perm.length_eq
        rw [List.length_take] at this
        omega
      refine (push_any _ v d (gt l k) _ hdl hH2.at_ hH2.heap).mono ?_
      rintro e w1 ⟨rfl, v1, d1, k1, k2, k3, k4, k5⟩
      have hB2 : Below w.heap.size w w1 := k4.below_of (hB.trans (hBa.mono hB.size)) (by have := hB.size; simp; omega) (fun i hi => by
        rintro (e | e)
        · omega
        · have := hH.own i e; omega)
      have hP : HeapB w1 w.heap.size w.heap.size v1 d1 (l.take (k + 1)) := by
        refine ⟨k3, k2, ?_, Nat.le_refl _, ?_⟩
        · rw [take_next (by omega)]
          exact k1.trans (hH.perm.append_right _)
        · intro i hi
          rcases k5 with e | ⟨j, hj, e⟩
          · exact hH.own i (by rw [← e]; exact hi)
          · rw [e] at hi
            have := hB.size
            simp at hj hi
            omega
      clear k1 k2 k3 k4 k5 c0 c1 hBa hH2
      go_wp2
      go_roundw
      case rel => exact ⟨k + 1, v1, d1, by omega, by go_num, hP, hB2⟩
      case measure => simp [intOf]; omega
    · go_wp2
      go_ret
      obtain rfl : k = n := by omega
      refine ⟨_, v, d, rfl, ?_, hB⟩
      rw [List.take_of_length_le (by omega)] at hH
      exact hH
end Go.Proofs.Ytjkcjbcbnnpmfaa

/- Package heap: what a heap of l tells: its least one. -/
namespace Go.Proofs.Ytjkcjbcbnnpmfaa
open Go.ChangeShapes Go.WideShapes Go.ChangeAt Go.RowKit Go.Sort Hp
set_option linter.unusedSimpArgs false
set_option linter.unusedVariables false
namespace Hp
def IsLeast (m : Rd) (l : List Rd) : Prop := m ∈ l ∧ ∀ x ∈ l, ahd x m = false
theorem least_one {m k : Rd} {l : List Rd} (h : IsLeast m l) (h' : IsLeast k l) : m = k := ahd_antisymm (h.2 k h'.1) (h'.2 m h.1)
theorem least_ex : ∀ (l : List Rd), l ≠ [] → ∃ m, IsLeast m l
  | [], h => absurd rfl h
  | [a], _ => ⟨a, by simp, by simp [ahd_irr]⟩
  | a :: b :: l, _ => by
    obtain ⟨m, h1, h2⟩ := least_ex (b :: l) (by simp)
    cases ha : ahd a m
    · refine ⟨m, List.mem_cons_of_mem _ h1, fun x hx => ?_⟩
      rcases List.mem_cons.1 hx with rfl | hx
      · exact ha
      · exact h2 x hx
    · refine ⟨a, by simp, fun x hx => ?_⟩
      rcases List.mem_cons.1 hx with rfl | hx
      · exact ahd_irr _
      · exact nle_trans (nle_of_ahd ha) (h2 x hx)
theorem least_perm {m : Rd} {l l' : List Rd} (h : IsLeast m l) (hp : l.Perm l') : IsLeast m l' := ⟨hp.mem_iff.1 h.1, fun x hx => h.2 x (hp.mem_iff.2 hx)⟩
theorem least_head {d : List Rd} (h : isHeap d) (hd : 0 < d.length) : IsLeast (gt d 0) d := ⟨gt_mem hd, fun x hx => heap_least h hx⟩
end Hp
theorem HeapB.some_ {w : World} {B hb : Nat} {v : Value} {d l : List (Int × Int)} (h : HeapB w B hb v d l) (hd : 0 < d.length) : ∃ g cap, v = .slice (some ⟨g, 0, none⟩) d.length cap ∧ d.length ≤ cap ∧ HeapAt w hb g cap d := by
  obtain ⟨g, c, rfl, hc⟩ := own_pos h.at_.row hd
  exact ⟨g, c, rfl, hc, h.at_.at_⟩
theorem peekC {w : World} {B hb : Nat} {v : Value} {d l : List (Int × Int)} (h : HeapB w B hb v d l) {m : Int × Int} (hm : IsLeast m l) :
    Calls Try.prog 78 #[.pointer (some ⟨hb, 0, none⟩)] w fun e w' => e = .returned (.tuple #[.agg #[.int .i64 m.1, .int .i64 m.2], .bool true]) ∧ Below w.heap.size w w' := by
  have hd : 0 < d.length := by rw [h.perm.length_eq]; exact List.length_pos_of_mem hm.1
  obtain ⟨g, cap, rfl, _, hA⟩ := h.some_ hd
  have e := least_one hm (least_perm (least_head h.heap hd) h.perm)
  rw [e]
  exact peek_some hb g cap d w hA hd
theorem HeapB.nil_ {w : World} {B hb : Nat} {v : Value} {d : List (Int × Int)} (h : HeapB w B hb v d []) : HeapV w hb v [] := by
  have := h.perm.length_eq
  have e : d = [] := List.eq_nil_of_length_eq_zero (by simpa using this)
  rw [← e]; exact h.at_
theorem popC {w : World} {B hb : Nat} {v : Value} {d l : List (Int × Int)} (h : HeapB w B hb v d l) {m : Int × Int} (hm : IsLeast m l) (hn : l.length ≤ 1000000) :
    Calls Try.prog 63 #[.pointer (some ⟨hb, 0, none⟩)] w fun e w' => e = .returned (.tuple #[.agg #[.int .i64 m.1, .int .i64 m.2], .bool true]) ∧
      ∃ v' d', HeapB w' B hb v' d' (l.erase m) ∧ v'.ownBlock = v.ownBlock ∧ Kept (fun k => k = hb ∨ v.ownBlock = some k) w w' := by
  have hlen := h.perm.length_eq
  have hd : 0 < d.length := by rw [hlen]; exact List.length_pos_of_mem hm.1
  obtain ⟨g, cap, rfl, hc, hA⟩ := h.some_ hd
  have e := least_one hm (least_perm (least_head h.heap hd) h.perm)
  rw [e]
  refine (pop_some hb g cap d w hc (by omega) hA h.heap hd).mono ?_
  rintro e' w' ⟨rfl, d', k1, k2, k3, k4⟩
  refine ⟨rfl, _, d', ⟨k3.v, k2, ?_, h.hb, fun k hk => h.own k hk⟩, rfl, ?_⟩
  · have hp := (k1.trans h.perm).erase (gt d 0)
    simpa using hp
  · exact Kept.trans (Kept.refl _ _) k4 (fun i _ hi => by simpa [Value.ownBlock, eq_comm] using hi)
theorem pushC {w : World} {B hb : Nat} {v : Value} {d l : List (Int × Int)} (h : HeapB w B hb v d l) (hB : B ≤ w.heap.size) (r : Int × Int) (hn : l.length < 1000000) :
    Calls Try.prog 64 #[.pointer (some ⟨hb, 0, none⟩), .agg #[.int .i64 r.1, .int .i64 r.2]] w fun e w' => e = .returned (.tuple #[]) ∧
      ∃ v' d', HeapB w' B hb v' d' (l ++ [r]) ∧ (v'.ownBlock = v.ownBlock ∨ ∃ k, w.heap.size ≤ k ∧ v'.ownBlock = some k) ∧ Kept (fun k => k = hb ∨ v.ownBlock = some k) w w' := by
  have hlen := h.perm.length_eq
  refine (push_any hb v d r w (by omega) h.at_ h.heap).mono ?_
  rintro e w' ⟨rfl, v', d', k1, k2, k3, k4, k5⟩
  refine ⟨rfl, v', d', ⟨k3, k2, k1.trans (h.perm.append_right _), h.hb, fun k hk => ?_⟩, k5, k4⟩
  rcases k5 with e | ⟨j, hj, e⟩
  · exact h.own k (by rw [← e]; exact hk)
  · rw [e] at hk
    simp at hk
    omega
end Go.Proofs.Ytjkcjbcbnnpmfaa
