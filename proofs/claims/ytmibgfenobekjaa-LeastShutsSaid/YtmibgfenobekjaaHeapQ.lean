/- Package heap: Len, Peek, Pop, New. -/
import Derived.Test.YtmibgfenobekjaaGQ2
namespace Go.Proofs.Ytmibgfenobekjaa
open Go.ChangeShapes Go.WideShapes Go.ChangeAt Go.RowKit Go.Sort Hp
set_option linter.unusedSimpArgs false
set_option linter.unusedVariables false
set_option maxRecDepth 100000 in
theorem peek_none (hb : Nat) (v : Value) (w : World) (h0 : HeapV w hb v []) :
    Calls Try.prog 76 #[.pointer (some ⟨hb, 0, none⟩)] w fun e w' => e = .returned (.tuple #[.agg #[.int .i64 0, .int .i64 0], .bool false]) ∧ Below w.heap.size w w' := by
  have cb : w.cell? ⟨hb, 0, none⟩ = some v := h0.head.cell 0
  obtain ⟨A, c, rfl⟩ := slice_of_own h0.row
  have hl := h0.head.lt
  clear h0
  go_enter Try.func76, Try.ntmps76
  go_wp2
  exact bodyPost_ret (v := .tuple #[.agg #[.int .i64 0, .int .i64 0], .bool false]) (by simp [results, Try.results76, go_sem]) rfl ⟨rfl, by (repeat (first | exact Below.refl _ _ | refine Below.alloc ?_ (by first | omega | (simp; done) | (simp; omega)) _ | refine Below.setCell ?_ (by first | omega | (simp; done) | (simp; omega)) _ | refine Below.drew ?_))⟩
set_option maxHeartbeats 1000000 in
set_option maxRecDepth 100000 in
theorem peek_some (hb g cap : Nat) (d : List (Int × Int)) (w : World) (h0 : HeapAt w hb g cap d) (hd : 0 < d.length) :
    Calls Try.prog 76 #[.pointer (some ⟨hb, 0, none⟩)] w fun e w' => e = .returned (.tuple #[.agg #[.int .i64 (gt d 0).1, .int .i64 (gt d 0).2], .bool true]) ∧ Below w.heap.size w w' := by
  have cb : w.cell? ⟨hb, 0, none⟩ = some (.slice (some ⟨g, 0, none⟩) d.length cap) := h0.head.cell 0
  have c0 : w.cell? ⟨g, 0, none⟩ = some (.int .i64 (gt d 0).1) := by have := h0.fst hd; rw [Nat.zero_mul] at this; exact this
  have c1 : w.cell? ⟨g, 1, none⟩ = some (.int .i64 (gt d 0).2) := by have := h0.snd hd; rw [Nat.zero_mul, Nat.zero_add] at this; exact this
  have hl := h0.head.lt
  have hgl : g < w.heap.size := (h0.row.lt g rfl).2
  have hz : ((d.length : Int) == 0) = false := beq_eq_false_iff_ne.2 (by omega)
  clear h0
  go_enter Try.func76, Try.ntmps76
  go_wp2
  exact bodyPost_ret (v := .tuple #[.agg #[.int .i64 (gt d 0).1, .int .i64 (gt d 0).2], .bool true]) (by simp [results, Try.results76, go_sem]) rfl ⟨rfl, by (repeat (first | exact Below.refl _ _ | refine Below.alloc ?_ (by first | omega | (simp; done) | (simp; omega)) _ | refine Below.setCell ?_ (by first | omega | (simp; done) | (simp; omega)) _ | refine Below.drew ?_))⟩
set_option maxRecDepth 100000 in
theorem pop_none (hb : Nat) (v : Value) (w : World) (h0 : HeapV w hb v []) :
    Calls Try.prog 56 #[.pointer (some ⟨hb, 0, none⟩)] w fun e w' => e = .returned (.tuple #[.agg #[.int .i64 0, .int .i64 0], .bool false]) ∧ Below w.heap.size w w' := by
  have hB0 : Below w.heap.size w (w.alloc (.cells #[.int .i64 0, .int .i64 0] 61)) := (Below.refl _ _).alloc (Nat.le_refl _) _
  have h1 : HeapV (w.alloc (.cells #[.int .i64 0, .int .i64 0] 61)) hb v [] := ⟨h0.head.below hB0 h0.head.lt, h0.row.alloc _⟩
  have hl := h0.head.lt
  clear h0
  go_enter Try.func56, Try.ntmps56
  go_wp2_with fail
  refine (peek_none hb v _ h1).mono ?_
  rintro e w1 ⟨rfl, hB⟩
  have hR := (Blok.new w 61 #[.int .i64 0, .int .i64 0]).below hB (by simp)
  have r0 : w1.cell? ⟨w.heap.size, 0, none⟩ = some (.int .i64 0) := hR.cell 0
  have r1 : w1.cell? ⟨w.heap.size, 1, none⟩ = some (.int .i64 0) := hR.cell 1
  have f0 := hR.free 0
  have f1 := hR.free 1
  have hs := hB.size
  simp only [World.size_alloc] at hs
  have hlt : w.heap.size < w1.heap.size := by omega
  clear h1 hR
  go_wp2
  refine bodyPost_ret (v := .tuple #[.agg #[.int .i64 0, .int .i64 0], .bool false]) ?_ rfl ⟨rfl, ?_⟩
  · simp [results, Try.results56, go_sem, r0, r1, hlt]
  · (repeat (first | exact Below.refl _ _ | exact hB | refine Below.alloc ?_ (by first | omega | (simp; done) | (simp; omega)) _ | refine Below.setCell ?_ (by first | omega | (simp; done) | (simp; omega)) _ | refine Below.drew ?_ | refine Below.trans ?_ (hB.mono (by first | omega | (simp; done) | (simp; omega)))))
theorem own_take {w : World} {base : Nat} {e : TypeId} {size n m g c : Nat} {xs : List Value} (h : w.ownsRow base e size (.slice (some ⟨g, 0, none⟩) n c) n xs) (hm : m ≤ n) : w.ownsRow base e size (.slice (some ⟨g, 0, none⟩) m c) m (xs.take (m * size)) := by
  have hle : m * size ≤ n * size := Nat.mul_le_mul_right _ hm
  refine ⟨by rw [List.length_take, h.1]; omega, ?_⟩
  rcases h.2 with ⟨h', _⟩ | ⟨g', cap, cur, h', hb, hg, hc, hcm, hs, ht⟩
  · simp at h'
  · simp only [Value.slice.injEq, Option.some.injEq, Addr.mk.injEq, and_true, true_and] at h'
    obtain ⟨rfl, rfl⟩ := h'
    refine .inr ⟨g, c, cur, rfl, hb, hg, by omega, hcm, hs, ?_⟩
    rw [← ht, List.take_take]
    congr 1
    omega
theorem flat2_cut (d : List (Int × Int)) (h : 0 < d.length) : flat2 (cutF d) = ((flat2 (d.set 0 (gt d (d.length - 1)))).take ((d.length - 1) * 2)) := by
  rw [flat2_take]; rfl
set_option maxHeartbeats 2000000 in
set_option maxRecDepth 100000 in
theorem pop_some (hb g cap : Nat) (d : List (Int × Int)) (w : World) (hcap : d.length ≤ cap) (hsz : d.length ≤ 1000000) (h0 : HeapAt w hb g cap d) (hh : isHeap d) (hd : 0 < d.length) :
    Calls Try.prog 56 #[.pointer (some ⟨hb, 0, none⟩)] w fun e w' => e = .returned (.tuple #[.agg #[.int .i64 (gt d 0).1, .int .i64 (gt d 0).2], .bool true]) ∧ ∃ d', (gt d 0 :: d').Perm d ∧ isHeap d' ∧ HeapAt w' hb g cap d' ∧ Kept (fun k => k = hb ∨ k = g) w w' := by
  have hB0 : Below w.heap.size w (w.alloc (.cells #[.int .i64 0, .int .i64 0] 61)) := (Below.refl _ _).alloc (Nat.le_refl _) _
  have h1 : HeapAt (w.alloc (.cells #[.int .i64 0, .int .i64 0] 61)) hb g cap d := h0.grown (grown_of_below (row := none) hB0) (by simp) (by simp)
  have hl := h0.head.lt
  have hgl : g < w.heap.size := (h0.row.lt g rfl).2
  clear h0
  go_enter Try.func56, Try.ntmps56
  go_wp2_with fail
  refine (peek_some hb g cap d _ h1 hd).mono ?_
  rintro e w1 ⟨rfl, hB⟩
  have hR := (Blok.new w 61 #[.int .i64 0, .int .i64 0]).below hB (by simp)
  have hA := h1.grown (grown_of_below (row := none) hB) (by simp) (by simp)
  have hs := hB.size
  simp only [World.size_alloc] at hs
  have hlt : w.heap.size < w1.heap.size := by omega
  have hK := Kept.of_below (S := fun k => k = hb ∨ k = g) (hB0.trans (hB.mono (by simp)))
  have cb : w1.cell? ⟨hb, 0, none⟩ = some (.slice (some ⟨g, 0, none⟩) d.length cap) := hA.head.cell 0
  have fb := hA.head.free 0
  have hne := hA.ne_
  have hdm : d.length - 1 < d.length := by omega
  obtain ⟨m, hm⟩ : ∃ m, d.length = m + 1 := ⟨d.length - 1, by omega⟩
  have cl0 := hA.fst hdm
  have cl1 := hA.snd hdm
  have e0 := hA.row.frozenAt 0
  have e1 := hA.row.frozenAt 1
  have z0 := hA.fst hd
  have z1 := hA.snd hd
  have hml : m < d.length := by omega
  rw [show d.length - 1 = m from by omega] at cl0 cl1
  rw [Nat.zero_mul] at z0
  rw [Nat.zero_mul, Nat.zero_add] at z1
  have HM := Lib.hid hm
  have hl1 : hb < w1.heap.size := by omega
  have hgl1 : g < w1.heap.size := by omega
  clear h1 hm hdm
  go_wp2
  rw [show (d.length : Int) - 1 = (m : Int) from by have := HM.out; omega]
  have hF := Blok.new w1 61 #[.int .i64 (gt d 0).1, .int .i64 (gt d 0).2]
  have hBa : Below w1.heap.size w1 (w1.alloc (.cells #[.int .i64 (gt d 0).1, .int .i64 (gt d 0).2] 61)) := (Below.refl _ _).alloc (Nat.le_refl _) _
  have hR2 := hR.below hBa hlt
  have hA2 := hA.grown (grown_of_below (row := none) hBa) (by simp) (by simp)
  have hK2 := hK.alloc (.cells #[.int .i64 (gt d 0).1, .int .i64 (gt d 0).2] 61)
  have hFR : w1.heap.size ≠ w.heap.size := by omega
  have hFb : hb ≠ w1.heap.size := by omega
  have hFg : g ≠ w1.heap.size := by omega
  have hRb : hb ≠ w.heap.size := by omega
  have hRg : g ≠ w.heap.size := by omega
  clear hR hA hK cb fb cl0 cl1 e0 e1 z0 z1 hBa hB hB0 hs hlt hl1 hgl1
  generalize hwq : w1.alloc (.cells #[.int .i64 (gt d 0).1, .int .i64 (gt d 0).2] 61) = w2 at *
  generalize w1.heap.size = F at *
  generalize hRn : w.heap.size = R at *
  clear hwq
  have hm1 : d.length - 1 = m := by have := HM.out; omega
  have cb : w2.cell? ⟨hb, 0, none⟩ = some (.slice (some ⟨g, 0, none⟩) d.length cap) := hA2.head.cell 0
  have fb := hA2.head.free 0
  have cl0 := hA2.fst hml
  have cl1 := hA2.snd hml
  have e0 := hA2.row.frozenAt 0
  have e1 := hA2.row.frozenAt 1
  have z0 := hA2.fst hd
  have z1 := hA2.snd hd
  rw [Nat.zero_mul] at z0
  rw [Nat.zero_mul, Nat.zero_add] at z1
  have HN := Lib.hid hRn
  have HM1 := Lib.hid hm1
  clear hRn hm1
  go_region
  have hS := hA2.store 0 (gt d m)
  rw [Nat.zero_mul, Nat.zero_add] at hS
  have hA3 := hS.1.drew
  have hg3 := grown_drew hS.2
  have hK3 := Kept.grow_ hK2 hg3 (fun i _ h => .inr (by simpa using h.symm))
  have hR3 := hR2.grown hg3 (fun e => hRg (by simpa using e.symm))
  have hF3 := hF.grown hg3 (fun e => hFg (by simpa using e.symm))
  clear hS hA2 hg3 hK2 hR2 hF cb fb cl0 cl1 e0 e1 z0 z1
  generalize ((w2.setCell ⟨g, 0, none⟩ (.int .i64 (gt d m).1)).setCell ⟨g, 1, none⟩ (.int .i64 (gt d m).2)).drew = w3 at *
  have cb : w3.cell? ⟨hb, 0, none⟩ = some (.slice (some ⟨g, 0, none⟩) d.length cap) := by
    have := hA3.head.cell 0
    rw [List.length_set] at this
    exact this
  have fb := hA3.head.free 0
  have hmc : m ≤ cap := by omega
  go_wp2_with fail
  have hA4 : HeapAt (w3.setCell ⟨hb, 0, none⟩ (.slice (some ⟨g, 0, none⟩) m cap)) hb g cap (cutF d) := by
    refine ⟨?_, ?_⟩
    · rw [cut_length, HM1.out]
      exact one_setCell hA3.head
    · rw [cut_length, HM1.out, flat2_cut d hd, HM1.out]
      have hx := hA3.row
      rw [List.length_set] at hx
      exact ownsRow_setCell_other (own_take hx (by omega)) (by simp only [Value.ownBlock]; intro e; exact hne (by simpa using e.symm)) _
  have hK4 := hK3.set (g := hb) (fun _ => .inl rfl) 0 (.slice (some ⟨g, 0, none⟩) m cap)
  have hR4 := hR3.far (p := ⟨hb, 0, none⟩) (fun e => hRb e.symm) (.slice (some ⟨g, 0, none⟩) m cap)
  have hF4 := hF3.far (p := ⟨hb, 0, none⟩) (fun e => hFb e.symm) (.slice (some ⟨g, 0, none⟩) m cap)
  clear hA3 hK3 hR3 hF3 cb fb
  generalize w3.setCell ⟨hb, 0, none⟩ (.slice (some ⟨g, 0, none⟩) m cap) = w4 at *
  refine (sink_any hb g cap (cutF d) w4 (by rw [cut_length]; omega) (by rw [cut_length]; omega) hA4 (cut_down hh)).mono ?_
  rintro e w5 ⟨rfl, d', k1, k2, k3, k4, k5⟩
  have K1 := Lib.hid k1
  have hR5 := hR4.grown k5 (fun e => hRg (by simpa using e.symm))
  have hF5 := hF4.grown k5 (fun e => hFg (by simpa using e.symm))
  have r0 : w5.cell? ⟨R, 0, none⟩ = some (.int .i64 0) := hR5.cell 0
  have r1 : w5.cell? ⟨R, 1, none⟩ = some (.int .i64 0) := hR5.cell 1
  have f0 := hR5.free 0
  have f1 := hR5.free 1
  have q0 : w5.cell? ⟨F, 0, none⟩ = some (.int .i64 (gt d 0).1) := hF5.cell 0
  have q1 : w5.cell? ⟨F, 1, none⟩ = some (.int .i64 (gt d 0).2) := hF5.cell 1
  have hK5 := Kept.grow_ hK4 k5 (fun i _ h => .inr (by simpa using h.symm))
  clear k1 hR4 hF4 hA4 hK4 k5
  go_wp2
  refine bodyPost_ret (v := .tuple #[.agg #[.int .i64 (gt d 0).1, .int .i64 (gt d 0).2], .bool true]) ?_ rfl ⟨rfl, d', ?_, k3, ?_, ?_⟩
  · simp [results, Try.results56, go_sem, r0, r1, hFR]
  · exact (List.Perm.cons _ k2).trans (cut_perm hd)
  · have g1 := grown_set (g := R) w5 0 (.int .i64 (gt d 0).1)
    exact (k4.grown (row := some R) (grown_trans g1 (grown_set (g := R) _ 1 (.int .i64 (gt d 0).2))) (by simpa using fun e => hRb e.symm) (by simpa using fun e => hRg e.symm))
  · exact (hK5.set (g := R) (fun h => by have := HN.out; omega) 0 _).set (g := R) (fun h => by have := HN.out; omega) 1 _
end Go.Proofs.Ytmibgfenobekjaa
