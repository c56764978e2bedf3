/- Walks, nodes, routes, and what is the same, are as the document says: PathTells returns true. No condition. -/
import Derived.Test.YtmijkdfinhkloaaRows
import Derived.Test.YtmijkdfinhkloaaSmall12
import Derived.Test.YtmijkdfinhkloaaRef12d
import Derived.Test.YtmijkdfinhkloaaOpenR
import Derived.Deep.RegionHeld3
namespace Go.Proofs.Ytmijkdfinhkloaa
open Go.ChangeShapes Go.WideShapes Go.ChangeAt Go.RowKit Go.Sort
set_option linter.unusedSimpArgs false
set_option linter.unusedVariables false
theorem wf_ints12 {ns : List Int} (hw : ∀ m ∈ ns, (Lit.int .i64 m).wf = true) : ∀ q, q < ns.length → (Lit.int .i64 (ns.getD q 0)).wf = true := fun q hq => by
  rw [List.getD_eq_getElem?_getD, List.getElem?_eq_getElem hq]
  exact hw _ (List.getElem_mem hq)
theorem rsame12_refl (A A' : Option Addr) (n c c' : Nat) (d : List Hp) (t : Int) (w : World) (hd : d.length = n) (hn : n ≤ 1000000) (h : Sl w w.heap.size 3 A n c (flatHp d)) (h' : Sl w w.heap.size 3 A' n c' (flatHp d)) :
    Calls Try.prog 20 #[.agg #[.slice A n c, .int .i64 t], .agg #[.slice A' n c', .int .i64 t]] w fun e w' => e = .returned (.bool true) ∧ Below w.heap.size w w' :=
  rsame12_any A A' n c n c' d d t t w hd hd hn hn h h' true (by simp)
theorem rhops12_refl (A A' : Option Addr) (n c c' : Nat) (d : List Hp) (w : World) (hd : d.length = n) (hn : n ≤ 1000000) (h : Sl w w.heap.size 3 A n c (flatHp d)) (h' : Sl w w.heap.size 3 A' n c' (flatHp d)) :
    Calls Try.prog 18 #[.slice A n c, .slice A' n c'] w fun e w' => e = .returned (.bool true) ∧ Below w.heap.size w w' :=
  rhops12_any A A' n c n c' d d w hd hd hn hn h h' true (decide_eq_true rfl)
set_option maxHeartbeats 16000000 in
set_option maxRecDepth 100000 in
theorem pathTells_w (A : Option Addr) (n c : Nat) (d : List Ed) (A' : Option Addr) (m c' : Nat) (ids : List Int) (q tt now size : Int) (A5 : Option Addr) (n5 c5 : Nat) (d5 : List Hp) (t5 : Int) (A6 : Option Addr) (n6 c6 : Nat) (d6 : List Hp) (t6 : Int) (hd : d.length = n) (hi : ids.length = m) (hd5 : d5.length = n5) (hd6 : d6.length = n6) (hwf : ∀ q, q < m → (Lit.int .i64 (ids.getD q 0)).wf = true) (w : World) (hl : Sl w w.heap.size 8 A n c (flatEd d)) (hl' : Sl w w.heap.size 1 A' m c' (ids.map (Value.int .i64))) (h5 : Sl w w.heap.size 3 A5 n5 c5 (flatHp d5)) (h6 : Sl w w.heap.size 3 A6 n6 c6 (flatHp d6)) :
    Calls Try.prog 3 #[.slice A n c, .slice A' m c', .int .i64 q, .int .i64 tt, .int .i64 now, .int .i64 size, .agg #[.slice A5 n5 c5, .int .i64 t5], .agg #[.slice A6 n6 c6, .int .i64 t6]] w fun e w' => e = .returned (.bool true) ∧ Below w.heap.size w w' := by
  have hB0 : Below w.heap.size w ((w.alloc (.cells #[.slice A5 n5 c5, .int .i64 t5] 26)).alloc (.cells #[.slice A6 n6 c6, .int .i64 t6] 26)) := by (repeat (first | exact Below.refl _ _ | refine Below.alloc ?_ (by first | omega | (simp; done) | (simp; omega)) _ | refine Below.setCell ?_ (by first | omega | (simp; done) | (simp; omega)) _ | refine Below.drew ?_))
  have hX := (Blok.new w 26 #[.slice A5 n5 c5, .int .i64 t5]).alloc (.cells #[.slice A6 n6 c6, .int .i64 t6] 26)
  have hY := Blok.new (w.alloc (.cells #[.slice A5 n5 c5, .int .i64 t5] 26)) 26 #[.slice A6 n6 c6, .int .i64 t6]
  rw [World.size_alloc] at hY
  replace hl := hl.up hB0
  replace hl' := hl'.up hB0
  replace h5 := h5.up hB0
  replace h6 := h6.up hB0
  have hs0 := hB0.size
  by_cases hn : 50 < n ∨ 50 < m ∨ 50 < n5 ∨ 50 < n6
  · have hn' : 50 < n ∨ (n ≤ 50 ∧ 50 < m) ∨ (n ≤ 50 ∧ m ≤ 50 ∧ 50 < n5) ∨ (n ≤ 50 ∧ m ≤ 50 ∧ n5 ≤ 50 ∧ 50 < n6) := by omega
    clear hn
    rcases hn' with hn | ⟨hn, hn2⟩ | ⟨hn, hn2, hn3⟩ | ⟨hn, hn2, hn3, hn4⟩
    all_goals
      go_enter Try.func3, Try.ntmps3
      go_wp2_with fail
      generalize (w.alloc (.cells #[.slice A5 n5 c5, .int .i64 t5] 26)).alloc (.cells #[.slice A6 n6 c6, .int .i64 t6] 26) = w0 at *
      refine (small12 _).mono ?_
      rintro e w1 ⟨rfl, hB⟩
      have hX1 := hX.below hB hX.lt
      have hY1 := hY.below hB hY.lt
      have x0 : w1.cell? ⟨w.heap.size, 0, none⟩ = some (.slice A5 n5 c5) := hX1.cell 0
      have x1 : w1.cell? ⟨w.heap.size, 1, none⟩ = some (.int .i64 t5) := hX1.cell 1
      have y0 : w1.cell? ⟨w.heap.size + 1, 0, none⟩ = some (.slice A6 n6 c6) := hY1.cell 0
      have y1 : w1.cell? ⟨w.heap.size + 1, 1, none⟩ = some (.int .i64 t6) := hY1.cell 1
      have lt_x := hX1.lt
      have lt_y := hY1.lt
      go_wp2
      go_ret
      exact ⟨rfl, hB0.trans (hB.mono hs0)⟩
  · have hn1 : n ≤ 50 := by omega
    have hn2 : m ≤ 50 := by omega
    have hn3 : n5 ≤ 50 := by omega
    have hn4 : n6 ≤ 50 := by omega
    clear hn
    have g1 : decide ((n : Int) > 50) = false := decide_eq_false (by omega)
    have g2 : decide ((m : Int) > 50) = false := decide_eq_false (by omega)
    have g3 : decide ((n5 : Int) > 50) = false := decide_eq_false (by omega)
    have g4 : decide ((n6 : Int) > 50) = false := decide_eq_false (by omega)
    obtain ⟨oW, hoW⟩ : ∃ o, walkE d ids q now size = o := ⟨_, rfl⟩
    obtain ⟨oE, hoE⟩ : ∃ o, endsE d ids q = o := ⟨_, rfl⟩
    obtain ⟨oR, hoR⟩ : ∃ o, routeE d ids q tt now size = o := ⟨_, rfl⟩
    obtain ⟨hW, hhW⟩ : ∃ x, oW.getD [] = x := ⟨_, rfl⟩
    obtain ⟨nE, hnE⟩ : ∃ x, oE.getD [] = x := ⟨_, rfl⟩
    obtain ⟨hR, hhR⟩ : ∃ x, hopsO oR = x := ⟨_, rfl⟩
    obtain ⟨aR, haR⟩ : ∃ x, arrO oR = x := ⟨_, rfl⟩
    obtain ⟨bW, hbW⟩ : ∃ x, oW.isSome = x := ⟨_, rfl⟩
    obtain ⟨bE, hbE⟩ : ∃ x, oE.isSome = x := ⟨_, rfl⟩
    obtain ⟨bR, hbR⟩ : ∃ x, oR.isSome = x := ⟨_, rfl⟩
    obtain ⟨kW, hkW⟩ : ∃ x, hW.length = x := ⟨_, rfl⟩
    obtain ⟨kE, hkE⟩ : ∃ x, nE.length = x := ⟨_, rfl⟩
    obtain ⟨kR, hkR⟩ : ∃ x, hR.length = x := ⟨_, rfl⟩
    have lW : kW ≤ 50 := by
      rw [← hkW, ← hhW]
      cases ho : oW with
      | none => simp
      | some hs =>
        rw [ho] at hoW
        obtain ⟨es, _, hf, hp⟩ := walkE_some hoW
        show hs.length ≤ 50
        rw [passE_len hp, followE_len hf, hi]; exact hn2
    have lE : kE ≤ 51 := by
      rw [← hkE, ← hnE]
      cases ho : oE with
      | none => simp
      | some ns =>
        rw [ho] at hoE
        show ns.length ≤ 51
        rw [ends_len hoE, hi]; omega
    have lR : kR ≤ 50 := by
      rw [← hkR, ← hhR]
      cases ho : oR with
      | none => simp [hopsO]
      | some p =>
        rw [ho] at hoR
        obtain ⟨es, hs, _, _, hf, _, hp, rfl⟩ := routeE_some hoR
        show hs.length ≤ 50
        rw [passE_len hp, followE_len hf, hi]; exact hn2
    have HD := Lib.hid hd
    have HI := Lib.hid hi
    have HD5 := Lib.hid hd5
    have HD6 := Lib.hid hd6
    have HWF := Lib.hid hwf
    have HKW := Lib.hid hkW
    have HKE := Lib.hid hkE
    have HKR := Lib.hid hkR
    have CW := Lib.hid (fun (w' : World) hl hl' => pwalk_any A n c d A' m c' ids q now size w' hd (by omega) hi (by omega) hwf hl hl' oW hoW)
    have CW2 := Lib.hid (fun (w' : World) hl hl' => rWalk12_any A n c d A' m c' ids q now size w' hd (by omega) hi (by omega) hl hl' oW hoW)
    have CE := Lib.hid (fun (w' : World) hl hl' => pEnds_any A n c d A' m c' ids q w' hd (by omega) hi (by omega) hwf hl hl' oE hoE)
    have CE2 := Lib.hid (fun (w' : World) hl hl' => rEnds12_any A n c d A' m c' ids q w' hd (by omega) hi (by omega) hl hl' oE hoE)
    have CR := Lib.hid (fun (w' : World) hl hl' => proute_any A n c d A' m c' ids q tt now size w' hd (by omega) hi (by omega) hwf hl hl' oR hoR hR hhR aR haR)
    have CR2 := Lib.hid (fun (w' : World) hl hl' => rRoute12_any A n c d A' m c' ids q tt now size w' hd (by omega) hi (by omega) hl hl' oR hoR hR hhR aR haR)
    rw [hbW, hhW, hkW] at CW CW2
    rw [hbE, hnE, hkE] at CE CE2
    rw [hbR, hkR] at CR CR2
    clear hd hi hd5 hd6 hwf hoW hoE hoR hhW hnE hhR haR hbW hbE hbR hkW hkE hkR
    go_enter Try.func3, Try.ntmps3
    go_wp2_with fail
    generalize (w.alloc (.cells #[.slice A5 n5 c5, .int .i64 t5] 26)).alloc (.cells #[.slice A6 n6 c6, .int .i64 t6] 26) = w0 at *
    refine (small12 _).mono ?_
    rintro e w1 ⟨rfl, hb⟩
    have hB := hB0.trans (hb.mono hs0)
    have hs := hB.size
    replace hl := hl.up hb
    replace hl' := hl'.up hb
    replace h5 := h5.up hb
    replace h6 := h6.up hb
    replace hX := hX.below hb hX.lt
    replace hY := hY.below hb hY.lt
    have x0 : w1.cell? ⟨w.heap.size, 0, none⟩ = some (.slice A5 n5 c5) := hX.cell 0
    have x1 : w1.cell? ⟨w.heap.size, 1, none⟩ = some (.int .i64 t5) := hX.cell 1
    have y0 : w1.cell? ⟨w.heap.size + 1, 0, none⟩ = some (.slice A6 n6 c6) := hY.cell 0
    have y1 : w1.cell? ⟨w.heap.size + 1, 1, none⟩ = some (.int .i64 t6) := hY.cell 1
    have lt_x := hX.lt
    have lt_y := hY.lt
    clear hb hB0 hs0
    go_wp2_with fail
    clear g1 g2 g3 g4 x0 x1 y0 y1 lt_x lt_y
    refine (CW.out w1 hl hl').mono ?_
    rintro e w2 ⟨v1, rfl, hv1, hb⟩
    obtain ⟨A1, c1, rfl⟩ := slice_of_own hv1
    replace hl := hl.up hb
    replace hl' := hl'.up hb
    replace h5 := h5.up hb
    replace h6 := h6.up hb
    replace hX := hX.below hb hX.lt
    replace hY := hY.below hb hY.lt
    replace hB := hB.trans (hb.mono hs)
    replace hs := hB.size
    clear hb
    go_wp2_with fail
    refine (CW2.out w2 hl hl').mono ?_
    rintro e w3 ⟨v2, rfl, hv2, hb⟩
    obtain ⟨A2, c2, rfl⟩ := slice_of_own hv2
    replace hl := hl.up hb
    replace hl' := hl'.up hb
    replace h5 := h5.up hb
    replace h6 := h6.up hb
    replace hX := hX.below hb hX.lt
    replace hY := hY.below hb hY.lt
    replace hv1 := own_below hv1 hb
    replace hB := hB.trans (hb.mono hs)
    replace hs := hB.size
    clear hb
    go_wp2_with fail
    refine (CE.out w3 hl hl').mono ?_
    rintro e w4 ⟨v3, rfl, hv3, hb⟩
    obtain ⟨A3, c3, rfl⟩ := slice_of_own hv3
    replace hl := hl.up hb
    replace hl' := hl'.up hb
    replace h5 := h5.up hb
    replace h6 := h6.up hb
    replace hX := hX.below hb hX.lt
    replace hY := hY.below hb hY.lt
    replace hv1 := own_below hv1 hb
    replace hv2 := own_below hv2 hb
    replace hB := hB.trans (hb.mono hs)
    replace hs := hB.size
    clear hb
    go_wp2_with fail
    refine (CE2.out w4 hl hl').mono ?_
    rintro e w5 ⟨v4, rfl, hv4, hb⟩
    obtain ⟨A4, c4, rfl⟩ := slice_of_own hv4
    replace hl := hl.up hb
    replace hl' := hl'.up hb
    replace h5 := h5.up hb
    replace h6 := h6.up hb
    replace hX := hX.below hb hX.lt
    replace hY := hY.below hb hY.lt
    replace hv1 := own_below hv1 hb
    replace hv2 := own_below hv2 hb
    replace hv3 := own_below hv3 hb
    replace hB := hB.trans (hb.mono hs)
    replace hs := hB.size
    clear hb
    go_wp2_with fail
    refine (CR.out w5 hl hl').mono ?_
    rintro e w6 ⟨v7, rfl, hv7, hb⟩
    obtain ⟨A7, c7, rfl⟩ := slice_of_own hv7
    replace hl := hl.up hb
    replace hl' := hl'.up hb
    replace h5 := h5.up hb
    replace h6 := h6.up hb
    replace hX := hX.below hb hX.lt
    replace hY := hY.below hb hY.lt
    replace hv1 := own_below hv1 hb
    replace hv2 := own_below hv2 hb
    replace hv3 := own_below hv3 hb
    replace hv4 := own_below hv4 hb
    replace hB := hB.trans (hb.mono hs)
    replace hs := hB.size
    clear hb
    have hb : Below w6.heap.size w6 (w6.alloc (.cells #[.slice A7 kR c7, .int .i64 aR] 26)) := by (repeat (first | exact Below.refl _ _ | refine Below.alloc ?_ (by first | omega | (simp; done) | (simp; omega)) _ | refine Below.setCell ?_ (by first | omega | (simp; done) | (simp; omega)) _ | refine Below.drew ?_))
    have hZ := Blok.new w6 26 #[.slice A7 kR c7, .int .i64 aR]
    replace hl := hl.up hb
    replace hl' := hl'.up hb
    replace h5 := h5.up hb
    replace h6 := h6.up hb
    replace hX := hX.below hb hX.lt
    replace hY := hY.below hb hY.lt
    replace hv1 := own_below hv1 hb
    replace hv2 := own_below hv2 hb
    replace hv3 := own_below hv3 hb
    replace hv4 := own_below hv4 hb
    replace hv7 := own_below hv7 hb
    replace hB := hB.trans (hb.mono hs)
    replace hs := hB.size
    clear hb
    go_wp2_with fail
    generalize w6.alloc (.cells #[.slice A7 kR c7, .int .i64 aR] 26) = w7 at *
    generalize w6.heap.size = bz at *
    refine (CR2.out w7 hl hl').mono ?_
    rintro e w8 ⟨v8, rfl, hv8, hb⟩
    obtain ⟨A8, c8, rfl⟩ := slice_of_own hv8
    replace hl := hl.up hb
    replace hl' := hl'.up hb
    replace h5 := h5.up hb
    replace h6 := h6.up hb
    replace hX := hX.below hb hX.lt
    replace hY := hY.below hb hY.lt
    replace hZ := hZ.below hb hZ.lt
    replace hv1 := own_below hv1 hb
    replace hv2 := own_below hv2 hb
    replace hv3 := own_below hv3 hb
    replace hv4 := own_below hv4 hb
    replace hv7 := own_below hv7 hb
    replace hB := hB.trans (hb.mono hs)
    replace hs := hB.size
    clear hb
    have hb : Below w8.heap.size w8 (w8.alloc (.cells #[.slice A8 kR c8, .int .i64 aR] 26)) := by (repeat (first | exact Below.refl _ _ | refine Below.alloc ?_ (by first | omega | (simp; done) | (simp; omega)) _ | refine Below.setCell ?_ (by first | omega | (simp; done) | (simp; omega)) _ | refine Below.drew ?_))
    have hU := Blok.new w8 26 #[.slice A8 kR c8, .int .i64 aR]
    replace hl := hl.up hb
    replace hl' := hl'.up hb
    replace h5 := h5.up hb
    replace h6 := h6.up hb
    replace hX := hX.below hb hX.lt
    replace hY := hY.below hb hY.lt
    replace hZ := hZ.below hb hZ.lt
    replace hv1 := own_below hv1 hb
    replace hv2 := own_below hv2 hb
    replace hv3 := own_below hv3 hb
    replace hv4 := own_below hv4 hb
    replace hv7 := own_below hv7 hb
    replace hv8 := own_below hv8 hb
    replace hB := hB.trans (hb.mono hs)
    replace hs := hB.size
    clear hb
    go_upto_region 10 with fail
    generalize w8.alloc (.cells #[.slice A8 kR c8, .int .i64 aR] 26) = w9 at *
    generalize w8.heap.size = bu at *
    have HFOOT : Hid (∀ w', Below w9.heap.size w9 w' → w'.cell? ⟨w.heap.size, 0, none⟩ = some (.slice A5 n5 c5) ∧ w'.cell? ⟨w.heap.size, 1, none⟩ = some (.int .i64 t5) ∧ w'.cell? ⟨w.heap.size + 1, 0, none⟩ = some (.slice A6 n6 c6) ∧ w'.cell? ⟨w.heap.size + 1, 1, none⟩ = some (.int .i64 t6) ∧ w'.cell? ⟨bz, 0, none⟩ = some (.slice A7 kR c7) ∧ w'.cell? ⟨bz, 1, none⟩ = some (.int .i64 aR) ∧ w'.cell? ⟨bu, 0, none⟩ = some (.slice A8 kR c8) ∧ w'.cell? ⟨bu, 1, none⟩ = some (.int .i64 aR)) := fun w' h => ⟨(hX.below h hX.lt).cell 0, (hX.below h hX.lt).cell 1, (hY.below h hY.lt).cell 0, (hY.below h hY.lt).cell 1, (hZ.below h hZ.lt).cell 0, (hZ.below h hZ.lt).cell 1, (hU.below h hU.lt).cell 0, (hU.below h hU.lt).cell 1⟩
    have SL0 : Hid (∀ w', Below w9.heap.size w9 w' → Sl w' w'.heap.size 8 A n c (flatEd d)) := fun w' h => hl.up h
    have S5 : Hid (∀ w', Below w9.heap.size w9 w' → Sl w' w'.heap.size 3 A5 n5 c5 (flatHp d5)) := fun w' h => h5.up h
    have S6 : Hid (∀ w', Below w9.heap.size w9 w' → Sl w' w'.heap.size 3 A6 n6 c6 (flatHp d6)) := fun w' h => h6.up h
    have S1 : Hid (∀ w', Below w9.heap.size w9 w' → Sl w' w'.heap.size 3 A1 kW c1 (flatHp hW)) := fun w' h => Sl.of_own (own_below hv1 h)
    have S2 : Hid (∀ w', Below w9.heap.size w9 w' → Sl w' w'.heap.size 3 A2 kW c2 (flatHp hW)) := fun w' h => Sl.of_own (own_below hv2 h)
    have S3 : Hid (∀ w', Below w9.heap.size w9 w' → Sl w' w'.heap.size 1 A3 kE c3 (nE.map (Value.int .i64))) := fun w' h => Sl.of_own (own_below hv3 h)
    have S4 : Hid (∀ w', Below w9.heap.size w9 w' → Sl w' w'.heap.size 1 A4 kE c4 (nE.map (Value.int .i64))) := fun w' h => Sl.of_own (own_below hv4 h)
    have S7 : Hid (∀ w', Below w9.heap.size w9 w' → Sl w' w'.heap.size 3 A7 kR c7 (flatHp hR)) := fun w' h => Sl.of_own (own_below hv7 h)
    have S8 : Hid (∀ w', Below w9.heap.size w9 w' → Sl w' w'.heap.size 3 A8 kR c8 (flatHp hR)) := fun w' h => Sl.of_own (own_below hv8 h)
    obtain ⟨rb, hrb⟩ : ∃ b, rightE d = b := ⟨_, rfl⟩
    obtain ⟨sb, hsb⟩ : ∃ b, (decide (t5 = t6) && decide (d5 = d6)) = b := ⟨_, rfl⟩
    have HRB := Lib.hid hrb
    have HSB := Lib.hid hsb
    have z1 : (rb == rb) = true := by cases rb <;> rfl
    have z2 : (sb == sb) = true := by cases sb <;> rfl
    have z3 : (bW == bW) = true := by cases bW <;> rfl
    have z4 : (bE == bE) = true := by cases bE <;> rfl
    have z5 : (bR == bR) = true := by cases bR <;> rfl
    have hF := HFOOT.out w9 (Below.refl _ _)
    obtain ⟨x0, x1, y0, y1, e0, e1, u0, u1⟩ := hF
    have lt_x := hX.lt
    have lt_y := hY.lt
    have lt_z := hZ.lt
    have lt_u := hU.lt
    have HB := Lib.hid hB
    have LW := Lib.hid lW
    have LE := Lib.hid lE
    have LR := Lib.hid lR
    have hC : Below w9.heap.size w9 w9 := Below.refl _ _
    clear hrb hsb hv1 hv2 hv3 hv4 hv7 hv8 hl hl' h5 h6 hX hY hZ hU hB hs lW lE lR CW CW2 CE CE2 CR CR2
    have HID5 : Hid ((d5.map Hp.id).length = n5) := by show _ = n5; rw [List.length_map]; exact HD5.out
    try simp only [List.append]
    go_region_held3 (fun w' => w'.cell? ⟨w.heap.size, 0, none⟩ = some (.slice A5 n5 c5) ∧ w'.cell? ⟨w.heap.size, 1, none⟩ = some (.int .i64 t5) ∧ w'.cell? ⟨w.heap.size + 1, 0, none⟩ = some (.slice A6 n6 c6) ∧ w'.cell? ⟨w.heap.size + 1, 1, none⟩ = some (.int .i64 t6) ∧ w'.cell? ⟨bz, 0, none⟩ = some (.slice A7 kR c7) ∧ w'.cell? ⟨bz, 1, none⟩ = some (.int .i64 aR) ∧ w'.cell? ⟨bu, 0, none⟩ = some (.slice A8 kR c8) ∧ w'.cell? ⟨bu, 1, none⟩ = some (.int .i64 aR))
      (first | exact HFOOT.out _ hC | go_keep)
      (first
        | (go_at_call 16; (with_reducible refine Calls.mono (pright_any A n c d _ HD.out (by omega) (SL0.out _ (by first | exact hC | exact hC.drew)) rb HRB.out) ?_); rintro e wn ⟨rfl, hbn⟩; replace hC : Below w9.heap.size w9 wn := Below.trans (by first | exact hC | exact hC.drew) (hbn.mono (by first | exact hC.size | (have := hC.size; simp at *; omega))); clear hbn)
        | (go_at_call 17; (with_reducible refine Calls.mono (rright12_any A n c d _ HD.out (by omega) (SL0.out _ (by first | exact hC | exact hC.drew)) rb HRB.out) ?_); rintro e wn ⟨rfl, hbn⟩; replace hC : Below w9.heap.size w9 wn := Below.trans (by first | exact hC | exact hC.drew) (hbn.mono (by first | exact hC.size | (have := hC.size; simp at *; omega))); clear hbn)
        | (go_at_call 18; (with_reducible refine Calls.mono (rhops12_refl A1 A2 kW c1 c2 hW _ HKW.out (by have := LW.out; omega) (S1.out _ (by first | exact hC | exact hC.drew)) (S2.out _ (by first | exact hC | exact hC.drew))) ?_); rintro e wn ⟨rfl, hbn⟩; replace hC : Below w9.heap.size w9 wn := Below.trans (by first | exact hC | exact hC.drew) (hbn.mono (by first | exact hC.size | (have := hC.size; simp at *; omega))); clear hbn)
        | (go_at_call 19; (with_reducible refine Calls.mono (ints_refl A3 A4 kE c3 c4 nE _ HKE.out (by have := LE.out; omega) (S3.out _ (by first | exact hC | exact hC.drew)) (S4.out _ (by first | exact hC | exact hC.drew))) ?_); rintro e wn ⟨rfl, hbn⟩; replace hC : Below w9.heap.size w9 wn := Below.trans (by first | exact hC | exact hC.drew) (hbn.mono (by first | exact hC.size | (have := hC.size; simp at *; omega))); clear hbn)
        | (go_at_call 20; (with_reducible refine Calls.mono (rsame12_refl A7 A8 kR c7 c8 hR aR _ HKR.out (by have := LR.out; omega) (S7.out _ (by first | exact hC | exact hC.drew)) (S8.out _ (by first | exact hC | exact hC.drew))) ?_); rintro e wn ⟨rfl, hbn⟩; replace hC : Below w9.heap.size w9 wn := Below.trans (by first | exact hC | exact hC.drew) (hbn.mono (by first | exact hC.size | (have := hC.size; simp at *; omega))); clear hbn)
        | (go_at_call 21; (with_reducible refine Calls.mono (pids_any A5 n5 c5 d5 t5 _ HD5.out (by omega) (S5.out _ (by first | exact hC | exact hC.drew))) ?_); rintro e wn ⟨vi, rfl, hvi, hbn⟩; replace hC : Below w9.heap.size w9 wn := Below.trans (by first | exact hC | exact hC.drew) (hbn.mono (by first | exact hC.size | (have := hC.size; simp at *; omega))); obtain ⟨Ai, ci, rfl⟩ := slice_of_own hvi; try replace hvj := own_below hvj hbn; clear hbn)
        | (go_at_call 22; (with_reducible refine Calls.mono (rids12_any A5 n5 c5 d5 t5 _ HD5.out (by omega) (S5.out _ (by first | exact hC | exact hC.drew))) ?_); rintro e wn ⟨vj, rfl, hvj, hbn⟩; replace hC : Below w9.heap.size w9 wn := Below.trans (by first | exact hC | exact hC.drew) (hbn.mono (by first | exact hC.size | (have := hC.size; simp at *; omega))); obtain ⟨Aj, cj, rfl⟩ := slice_of_own hvj; try replace hvi := own_below hvi hbn; clear hbn)
        | (go_at_call 19; (with_reducible refine Calls.mono (ints_refl Ai Aj n5 ci cj (d5.map Hp.id) _ HID5.out (by omega) (Sl.of_own hvi) (Sl.of_own hvj)) ?_); rintro e wn ⟨rfl, hbn⟩; replace hC : Below w9.heap.size w9 wn := Below.trans (by first | exact hC | exact hC.drew) (hbn.mono (by first | exact hC.size | (have := hC.size; simp at *; omega))); clear hbn)
        | (go_at_call 23; (with_reducible refine Calls.mono (psame_any A5 A6 n5 c5 n6 c6 d5 d6 t5 t6 _ HD5.out HD6.out (by omega) (by omega) (S5.out _ (by first | exact hC | exact hC.drew)) (S6.out _ (by first | exact hC | exact hC.drew)) sb HSB.out) ?_); rintro e wn ⟨rfl, hbn⟩; replace hC : Below w9.heap.size w9 wn := Below.trans (by first | exact hC | exact hC.drew) (hbn.mono (by first | exact hC.size | (have := hC.size; simp at *; omega))); clear hbn)
        | (go_at_call 20; (with_reducible refine Calls.mono (rsame12_any A5 A6 n5 c5 n6 c6 d5 d6 t5 t6 _ HD5.out HD6.out (by omega) (by omega) (S5.out _ (by first | exact hC | exact hC.drew)) (S6.out _ (by first | exact hC | exact hC.drew)) sb HSB.out) ?_); rintro e wn ⟨rfl, hbn⟩; replace hC : Below w9.heap.size w9 wn := Below.trans (by first | exact hC | exact hC.drew) (hbn.mono (by first | exact hC.size | (have := hC.size; simp at *; omega))); clear hbn))
    all_goals
      have hfin := HB.out.trans (hC.mono HB.out.size)
      clear hC x0 x1 y0 y1 e0 e1 u0 u1
      go_wp2
      go_ret
      exact ⟨rfl, hfin⟩
theorem pathTells_walk (A : Option Addr) (n k : Nat) (ns : List Int) (A' : Option Addr) (n' k' : Nat) (ns' : List Int) (q tt now size : Int) (A5 : Option Addr) (n5 k5 : Nat) (ns5 : List Int) (t5 : Int) (A6 : Option Addr) (n6 k6 : Nat) (ns6 : List Int) (t6 : Int) (hnl : ns.length = n * 8) (_ : ∀ m ∈ ns, (Lit.int .i64 m).wf = true) (hnl' : ns'.length = n' * 1) (hw' : ∀ m ∈ ns', (Lit.int .i64 m).wf = true) (_ : (Lit.int .i64 q).wf = true) (_ : (Lit.int .i64 tt).wf = true) (_ : (Lit.int .i64 now).wf = true) (_ : (Lit.int .i64 size).wf = true) (hnl5 : ns5.length = n5 * 3) (_ : ∀ m ∈ ns5, (Lit.int .i64 m).wf = true) (hnl6 : ns6.length = n6 * 3) (_ : ∀ m ∈ ns6, (Lit.int .i64 m).wf = true) (w : World) (hl : Sl w w.heap.size 8 A n k (ns.map (Value.int .i64))) (hl' : Sl w w.heap.size 1 A' n' k' (ns'.map (Value.int .i64))) (h5 : Sl w w.heap.size 3 A5 n5 k5 (ns5.map (Value.int .i64))) (h6 : Sl w w.heap.size 3 A6 n6 k6 (ns6.map (Value.int .i64))) :
    Calls Try.prog 3 #[.slice A n k, .slice A' n' k', .int .i64 q, .int .i64 tt, .int .i64 now, .int .i64 size, .agg #[.slice A5 n5 k5, .int .i64 t5], .agg #[.slice A6 n6 k6, .int .i64 t6]] w fun e w' => e = .returned (.bool true) ∧ Below w.heap.size w w' := by
  obtain ⟨d, hd, hlf⟩ := rowsEd_of n ns hnl
  obtain ⟨d5, hd5, hlf5⟩ := rowsHp_of n5 ns5 hnl5
  obtain ⟨d6, hd6, hlf6⟩ := rowsHp_of n6 ns6 hnl6
  have hi : ns'.length = n' := by omega
  rw [hlf] at hl
  rw [hlf5] at h5
  rw [hlf6] at h6
  exact pathTells_w A n k d A' n' k' ns' q tt now size A5 n5 k5 d5 t5 A6 n6 k6 d6 t6 hd hi hd5 hd6 (fun q hq => wf_ints12 hw' q (by omega)) w hl hl' h5 h6
theorem pathTells_own : ownKnob Try.prog.godebug = none := by kernel_rfl
theorem pathTells_laidOut : laidOutB Try.prog = true := by kernel_rfl

set_option maxHeartbeats 1000000 in
set_option maxRecDepth 100000 in
theorem pathTells_lifted (os : Os) (started : os.Started) (H : Type) (enc : TypeId × Value → H) :
    ReturnsInHanded {} Try.checked os 3 .any (Rows.pathTellsSpec.pre6 enc Try.prog Try.f3 Rows.pathTellsRow.domain false) (Rows.pathTellsSpec.post enc Try.prog Try.f3 false true false false) := by
  refine returnsInHanded_of_change (C := Try.checked) pathTells_own started (by kernel_rfl) Try.func3
    (ChangeSpec.witness6 (enc := enc) (C := Try.checked) false ⟨#[], #[.slice none 0 0, .slice none 0 0, .int .i64 0, .int .i64 0, .int .i64 0, .int .i64 0, .agg #[.slice none 0 0, .int .i64 0], .agg #[.slice none 0 0, .int .i64 0]], []⟩ 8 (by kernel_rfl) (by kernel_rfl) (by kernel_rfl) (by kernel_rfl)) ?_
  intro W base args ds gs before hval0 hW hcnd _
  have hval : ∀ (j : Nat) t v, Try.f3.params[j]? = some t → args[j]? = some v → Value.okWide Try.prog W .any base t v := hval0
  have hW' := hW
  obtain ⟨p, q, hA0, hV, rfl, hfz, hnd⟩ := hW
  have hA : DataW.TrodAll enc Try.prog W 0 (fun _ => true) true Try.f3.params.toList args.toList ds p := hA0
  rw [Try.params3] at hA hval
  obtain ⟨v0, vs0, d0, ds0, p0, q0, hargs, rfl, rfl, h0, r0⟩ := trodAll_cons hA
  obtain ⟨v1, vs1, d1, ds1, p1, q1, rfl, rfl, rfl, h1, r1⟩ := trodAll_cons r0
  obtain ⟨v2, vs2, d2, ds2, p2, q2, rfl, rfl, rfl, h2, r2⟩ := trodAll_cons r1
  obtain ⟨v3, vs3, d3, ds3, p3, q3, rfl, rfl, rfl, h3, r3⟩ := trodAll_cons r2
  obtain ⟨v4, vs4, d4, ds4, p4, q4, rfl, rfl, rfl, h4, r4⟩ := trodAll_cons r3
  obtain ⟨v5, vs5, d5, ds5, p5, q5, rfl, rfl, rfl, h5, r5⟩ := trodAll_cons r4
  obtain ⟨v6, vs6, d6, ds6, p6, q6, rfl, rfl, rfl, h6, r6⟩ := trodAll_cons r5
  obtain ⟨v7, vs7, d7, ds7, p7, q7, rfl, rfl, rfl, h7, r7⟩ := trodAll_cons r6
  obtain ⟨rfl, rfl, rfl⟩ := trodAll_nil r7
  obtain rfl : args = #[v0, v1, v2, v3, v4, v5, v6, v7] := by cases args; simp_all
  obtain ⟨rfl, rfl⟩ := trodVars_none hV
  obtain ⟨A0, n0, c0, ns0, rfl, hl0, nl0, w0⟩ := open_rowsS 4 (K := 8) Try.underlying22 (by kernel_rfl) (by kernel_rfl) (by omega) (hval 0 22 v0 rfl rfl) h0
  obtain ⟨A1, n1, c1, ns1, rfl, hl1, nl1, w1⟩ := open_rowsS 4 (K := 1) Try.underlying23 (by kernel_rfl) (by kernel_rfl) (by omega) (hval 1 23 v1 rfl rfl) h1
  obtain ⟨a2, rfl, rfl, rfl, w2⟩ := open_int Try.underlying3 (hval 2 3 v2 rfl rfl) h2
  obtain ⟨a3, rfl, rfl, rfl, w3⟩ := open_int Try.underlying3 (hval 3 3 v3 rfl rfl) h3
  obtain ⟨a4, rfl, rfl, rfl, w4⟩ := open_int Try.underlying3 (hval 4 3 v4 rfl rfl) h4
  obtain ⟨a5, rfl, rfl, rfl, w5⟩ := open_int Try.underlying3 (hval 5 3 v5 rfl rfl) h5
  obtain ⟨A6, n6, c6, ns6, a6, rfl, hl6, nl6, w6, wa6⟩ := open_hdr 4 (e := 47) (K := 3) Try.underlying26 (by kernel_rfl) (by kernel_rfl) (by kernel_rfl) (by kernel_rfl) (by kernel_rfl) (by omega) (hval 6 26 v6 rfl rfl) h6
  obtain ⟨A7, n7, c7, ns7, a7, rfl, hl7, nl7, w7, wa7⟩ := open_hdr 4 (e := 47) (K := 3) Try.underlying26 (by kernel_rfl) (by kernel_rfl) (by kernel_rfl) (by kernel_rfl) (by kernel_rfl) (by omega) (hval 7 26 v7 rfl rfl) h7
  clear hA0 hval0
  refine (pathTells_walk A0 n0 c0 ns0 A1 n1 c1 ns1 a2 a3 a4 a5 A6 n6 c6 ns6 a6 A7 n7 c7 ns7 a7 nl0 w0 nl1 w1 w2 w3 w4 w5 nl6 w6 nl7 w7 W hl0 hl1 hl6 hl7).mono fun e W' ⟨he, bel⟩ => ?_
  subst he
  exact ⟨_, rfl, law_post pathTells_laidOut (by kernel_rfl) rfl Try.underlying4 rfl rfl hW' bel⟩

theorem pathTells_proved : Rows.PathTellsSaid :=
  OpenClaim.holds_of_wide 3 Try.f3 rfl rfl rfl rfl rfl rfl rfl ⟨rfl, rfl, rfl, rfl, rfl⟩ rfl rfl rfl rfl rfl (by kernel_rfl) Try.func3 (by kernel_rfl)
    (of_decide_eq_true (by kernel_rfl)) (by unfold Func.isWrapper; first | (rw [if_pos (by decide +kernel)]; kernel_rfl) | (rw [if_neg (by decide +kernel)]; exact ⟨rfl, rfl⟩))
    (fun os started H enc _ => pathTells_lifted os started H enc)
#print axioms pathTells_proved
end Go.Proofs.Ytmijkdfinhkloaa
