/- The order of routes is one: of two routes one is ahead just if the other one is behind, and what is ahead of what is ahead is ahead: OrderOne returns true. No condition. -/
import Derived.Test.YtbhhkaaidhapbaaRows
import Derived.Test.YtbhhkaaidhapbaaSmall13
import Derived.Test.YtbhhkaaidhapbaaOrderMath
import Derived.Test.YtbhhkaaidhapbaaOpenR
namespace Go.Proofs.Ytbhhkaaidhapbaa
open Go.ChangeShapes Go.WideShapes Go.ChangeAt Go.RowKit Go.Sort
set_option linter.unusedSimpArgs false
set_option linter.unusedVariables false
theorem RV.regrown {W : World} {v : Value} {t : Rt} (h : RV W v t) (d : Nat) (os : Array Obj) : RV (grow (redrawn W d) os) v t := h.below (below_regrown W d os)
set_option maxHeartbeats 100000000 in
set_option maxRecDepth 100000 in
theorem orderOne_k0 (Aa : Option Addr) (na ca : Nat) (da : List Hp) (ta : Int) (Ab : Option Addr) (nb cb : Nat) (db : List Hp) (tb : Int) (Ac : Option Addr) (nc cc : Nat) (dc : List Hp) (tc : Int) (hda : da.length = na) (hdb : db.length = nb) (hdc : dc.length = nc) (w : World) (ha : Sl w w.heap.size 3 Aa na ca (flatHp da)) (hb : Sl w w.heap.size 3 Ab nb cb (flatHp db)) (hc : Sl w w.heap.size 3 Ac nc cc (flatHp dc)) (E1 : Hid (cmpR ta da tb db = -1)) (E2 : Hid (cmpR tb db tc dc = -1)) (E3 : Hid (cmpR ta da tc dc = -1)) (E4 : Hid (cmpR tb db ta da = 1)) (E7 : Hid (cmpR ta da ta da = 0)) :
    Calls Try.prog 5 #[.agg #[.slice Aa na ca, .int .i64 ta], .agg #[.slice Ab nb cb, .int .i64 tb], .agg #[.slice Ac nc cc, .int .i64 tc]] w fun e w' => e = .returned (.bool true) ∧ Below w.heap.size w w' := by
  have hB0 : Below w.heap.size w (((w.alloc (.cells #[.slice Aa na ca, .int .i64 ta] 25)).alloc (.cells #[.slice Ab nb cb, .int .i64 tb] 25)).alloc (.cells #[.slice Ac nc cc, .int .i64 tc] 25)) := by (repeat (first | exact Below.refl _ _ | refine Below.alloc ?_ (by first | omega | (simp; done) | (simp; omega)) _ | refine Below.setCell ?_ (by first | omega | (simp; done) | (simp; omega)) _ | refine Below.drew ?_))
  have hXa := ((Blok.new w 25 #[.slice Aa na ca, .int .i64 ta]).alloc (.cells #[.slice Ab nb cb, .int .i64 tb] 25)).alloc (.cells #[.slice Ac nc cc, .int .i64 tc] 25)
  have hXb := (Blok.new (w.alloc (.cells #[.slice Aa na ca, .int .i64 ta] 25)) 25 #[.slice Ab nb cb, .int .i64 tb]).alloc (.cells #[.slice Ac nc cc, .int .i64 tc] 25)
  simp only [World.size_alloc] at hXb
  have hXc := Blok.new ((w.alloc (.cells #[.slice Aa na ca, .int .i64 ta] 25)).alloc (.cells #[.slice Ab nb cb, .int .i64 tb] 25)) 25 #[.slice Ac nc cc, .int .i64 tc]
  simp only [World.size_alloc] at hXc
  replace ha := ha.up hB0
  replace hb := hb.up hB0
  replace hc := hc.up hB0
  have hs0 := hB0.size
  have HL : Hid (da.length = na ∧ db.length = nb ∧ dc.length = nc) := ⟨hda, hdb, hdc⟩
  clear hda hdb hdc
  by_cases hn : 50 < na ∨ 50 < nb ∨ 50 < nc
  · have hn' : 50 < na ∨ (na ≤ 50 ∧ 50 < nb) ∨ (na ≤ 50 ∧ nb ≤ 50 ∧ 50 < nc) := by omega
    clear hn
    rcases hn' with hn | ⟨hn, hn2⟩ | ⟨hn, hn2, hn3⟩
    all_goals
      go_enter Try.func5, Try.ntmps5
      go_wp2_with fail
      generalize ((w.alloc (.cells #[.slice Aa na ca, .int .i64 ta] 25)).alloc (.cells #[.slice Ab nb cb, .int .i64 tb] 25)).alloc (.cells #[.slice Ac nc cc, .int .i64 tc] 25) = w0 at *
      refine (small13_any _).mono ?_
      rintro e w1 ⟨rfl, hB⟩
      have hXa1 := hXa.below hB hXa.lt
      have hXb1 := hXb.below hB hXb.lt
      have hXc1 := hXc.below hB hXc.lt
      have a0 : w1.cell? ⟨w.heap.size, 0, none⟩ = some (.slice Aa na ca) := hXa1.cell 0
      have a1 : w1.cell? ⟨w.heap.size, 1, none⟩ = some (.int .i64 ta) := hXa1.cell 1
      have b0 : w1.cell? ⟨w.heap.size + 1, 0, none⟩ = some (.slice Ab nb cb) := hXb1.cell 0
      have b1 : w1.cell? ⟨w.heap.size + 1, 1, none⟩ = some (.int .i64 tb) := hXb1.cell 1
      have c0 : w1.cell? ⟨w.heap.size + 1 + 1, 0, none⟩ = some (.slice Ac nc cc) := hXc1.cell 0
      have c1 : w1.cell? ⟨w.heap.size + 1 + 1, 1, none⟩ = some (.int .i64 tc) := hXc1.cell 1
      have lt_a := hXa1.lt
      have lt_b := hXb1.lt
      have lt_c := hXc1.lt
      go_wp2
      go_ret
      exact ⟨rfl, hB0.trans (hB.mono hs0)⟩
  · have hn1 : na ≤ 50 := by omega
    have hn2 : nb ≤ 50 := by omega
    have hn3 : nc ≤ 50 := by omega
    clear hn
    have ga : decide ((na : Int) > 50) = false := decide_eq_false (by omega)
    have gb : decide ((nb : Int) > 50) = false := decide_eq_false (by omega)
    have gc : decide ((nc : Int) > 50) = false := decide_eq_false (by omega)
    have HN : Hid (na ≤ 50 ∧ nb ≤ 50 ∧ nc ≤ 50) := ⟨hn1, hn2, hn3⟩
    go_enter Try.func5, Try.ntmps5
    go_wp2_with fail
    generalize ((w.alloc (.cells #[.slice Aa na ca, .int .i64 ta] 25)).alloc (.cells #[.slice Ab nb cb, .int .i64 tb] 25)).alloc (.cells #[.slice Ac nc cc, .int .i64 tc] 25) = w0 at *
    refine (small13_any _).mono ?_
    rintro e w1 ⟨rfl, hB⟩
    have hXa1 := hXa.below hB hXa.lt
    have hXb1 := hXb.below hB hXb.lt
    have hXc1 := hXc.below hB hXc.lt
    have a0 : w1.cell? ⟨w.heap.size, 0, none⟩ = some (.slice Aa na ca) := hXa1.cell 0
    have a1 : w1.cell? ⟨w.heap.size, 1, none⟩ = some (.int .i64 ta) := hXa1.cell 1
    have b0 : w1.cell? ⟨w.heap.size + 1, 0, none⟩ = some (.slice Ab nb cb) := hXb1.cell 0
    have b1 : w1.cell? ⟨w.heap.size + 1, 1, none⟩ = some (.int .i64 tb) := hXb1.cell 1
    have c0 : w1.cell? ⟨w.heap.size + 1 + 1, 0, none⟩ = some (.slice Ac nc cc) := hXc1.cell 0
    have c1 : w1.cell? ⟨w.heap.size + 1 + 1, 1, none⟩ = some (.int .i64 tc) := hXc1.cell 1
    have lt_a := hXa1.lt
    have lt_b := hXb1.lt
    have lt_c := hXc1.lt
    have hra : Hid (RV w1 (.agg #[.slice Aa na ca, .int .i64 ta]) (da, ta)) := (show RV w0 (.agg #[.slice Aa na ca, .int .i64 ta]) (da, ta) from ⟨_, _, _, rfl, HL.out.1, by show na ≤ 1000000; omega, ha⟩).below hB
    have hrb : Hid (RV w1 (.agg #[.slice Ab nb cb, .int .i64 tb]) (db, tb)) := (show RV w0 (.agg #[.slice Ab nb cb, .int .i64 tb]) (db, tb) from ⟨_, _, _, rfl, HL.out.2.1, by show nb ≤ 1000000; omega, hb⟩).below hB
    have hrc : Hid (RV w1 (.agg #[.slice Ac nc cc, .int .i64 tc]) (dc, tc)) := (show RV w0 (.agg #[.slice Ac nc cc, .int .i64 tc]) (dc, tc) from ⟨_, _, _, rfl, HL.out.2.2, by show nc ≤ 1000000; omega, hc⟩).below hB
    have HB := Lib.hid (hB0.trans (hB.mono hs0))
    clear ha hb hc hB0 hXa hXb hXc hs0 hB hn1 hn2 hn3 HN HL
    all_goals
      go_upto_region 4 with fail
      generalize hDD : w.heap.size = bA at *
      go_wp2_with fail
      refine (cmpV hra.out hrb.out _ E1.out).mono ?_
      rintro e w4 ⟨rfl, hb⟩
      replace hXa1 := hXa1.below hb hXa1.lt
      replace hXb1 := hXb1.below hb hXb1.lt
      replace hXc1 := hXc1.below hb hXc1.lt
      replace hra := Lib.hid (hra.out.below hb)
      replace hrb := Lib.hid (hrb.out.below hb)
      replace hrc := Lib.hid (hrc.out.below hb)
      clear a0 a1 b0 b1 c0 c1 lt_a lt_b lt_c
      have a0 : w4.cell? ⟨bA, 0, none⟩ = some (.slice Aa na ca) := hXa1.cell 0
      have a1 : w4.cell? ⟨bA, 1, none⟩ = some (.int .i64 ta) := hXa1.cell 1
      have b0 : w4.cell? ⟨bA + 1, 0, none⟩ = some (.slice Ab nb cb) := hXb1.cell 0
      have b1 : w4.cell? ⟨bA + 1, 1, none⟩ = some (.int .i64 tb) := hXb1.cell 1
      have c0 : w4.cell? ⟨bA + 1 + 1, 0, none⟩ = some (.slice Ac nc cc) := hXc1.cell 0
      have c1 : w4.cell? ⟨bA + 1 + 1, 1, none⟩ = some (.int .i64 tc) := hXc1.cell 1
      have lt_a := hXa1.lt
      have lt_b := hXb1.lt
      have lt_c := hXc1.lt
      replace HB := Lib.hid (HB.out.trans (hb.mono (by have := HB.out.size; omega)))
      clear hb
      go_wp2_with fail
      refine (cmpV hrb.out hrc.out _ E2.out).mono ?_
      rintro e w5 ⟨rfl, hb⟩
      replace hXa1 := hXa1.below hb hXa1.lt
      replace hXb1 := hXb1.below hb hXb1.lt
      replace hXc1 := hXc1.below hb hXc1.lt
      replace hra := Lib.hid (hra.out.below hb)
      replace hrb := Lib.hid (hrb.out.below hb)
      replace hrc := Lib.hid (hrc.out.below hb)
      clear a0 a1 b0 b1 c0 c1 lt_a lt_b lt_c
      have a0 : w5.cell? ⟨bA, 0, none⟩ = some (.slice Aa na ca) := hXa1.cell 0
      have a1 : w5.cell? ⟨bA, 1, none⟩ = some (.int .i64 ta) := hXa1.cell 1
      have b0 : w5.cell? ⟨bA + 1, 0, none⟩ = some (.slice Ab nb cb) := hXb1.cell 0
      have b1 : w5.cell? ⟨bA + 1, 1, none⟩ = some (.int .i64 tb) := hXb1.cell 1
      have c0 : w5.cell? ⟨bA + 1 + 1, 0, none⟩ = some (.slice Ac nc cc) := hXc1.cell 0
      have c1 : w5.cell? ⟨bA + 1 + 1, 1, none⟩ = some (.int .i64 tc) := hXc1.cell 1
      have lt_a := hXa1.lt
      have lt_b := hXb1.lt
      have lt_c := hXc1.lt
      replace HB := Lib.hid (HB.out.trans (hb.mono (by have := HB.out.size; omega)))
      clear hb
      go_wp2_with fail
      refine (cmpV hra.out hrc.out _ E3.out).mono ?_
      rintro e w6 ⟨rfl, hb⟩
      replace hXa1 := hXa1.below hb hXa1.lt
      replace hXb1 := hXb1.below hb hXb1.lt
      replace hXc1 := hXc1.below hb hXc1.lt
      replace hra := Lib.hid (hra.out.below hb)
      replace hrb := Lib.hid (hrb.out.below hb)
      replace hrc := Lib.hid (hrc.out.below hb)
      clear a0 a1 b0 b1 c0 c1 lt_a lt_b lt_c
      have a0 : w6.cell? ⟨bA, 0, none⟩ = some (.slice Aa na ca) := hXa1.cell 0
      have a1 : w6.cell? ⟨bA, 1, none⟩ = some (.int .i64 ta) := hXa1.cell 1
      have b0 : w6.cell? ⟨bA + 1, 0, none⟩ = some (.slice Ab nb cb) := hXb1.cell 0
      have b1 : w6.cell? ⟨bA + 1, 1, none⟩ = some (.int .i64 tb) := hXb1.cell 1
      have c0 : w6.cell? ⟨bA + 1 + 1, 0, none⟩ = some (.slice Ac nc cc) := hXc1.cell 0
      have c1 : w6.cell? ⟨bA + 1 + 1, 1, none⟩ = some (.int .i64 tc) := hXc1.cell 1
      have lt_a := hXa1.lt
      have lt_b := hXb1.lt
      have lt_c := hXc1.lt
      replace HB := Lib.hid (HB.out.trans (hb.mono (by have := HB.out.size; omega)))
      clear hb
      go_upto_region 7 with fail
      have QA := Lib.hid (fun d os => hra.out.regrown d os)
      have QB := Lib.hid (fun d os => hrb.out.regrown d os)
      have q_a0 := fun d os => cell_regrown a0 d os
      have q_a1 := fun d os => cell_regrown a1 d os
      have q_b0 := fun d os => cell_regrown b0 d os
      have q_b1 := fun d os => cell_regrown b1 d os
      have q_c0 := fun d os => cell_regrown c0 d os
      have q_c1 := fun d os => cell_regrown c1 d os
      try simp only [List.append]
      first | refine wp_region_text_below ?_ | refine wp_region_quiet_below (by kernel_rfl) (by kernel_rfl) ?_
      repeat (go_big_quiet_step ((first | (go_at_call 17; first | with_reducible exact Calls.regrown_of (cmpV (QB.out _ _) (QA.out _ _) _ E4.out) | with_reducible exact Calls.regrown_of (cmpV (QA.out _ _) (QA.out _ _) _ E7.out)) | (go_at_call 19; with_reducible exact Calls.regrown_of (lessV (QA.out _ _) (QB.out _ _) true (by rw [E1.out]; decide))))))
      refine wpQuiet_nil ?_
      intro _ hqw
      obtain ⟨pq, hqw⟩ := hqw
      subst hqw
      go_wp2
      go_ret
      exact ⟨rfl, by rw [hDD]; exact (HB.out.trans ((below_regrown _ _ _).mono (by have := HB.out.size; omega)))⟩
set_option maxHeartbeats 100000000 in
set_option maxRecDepth 100000 in
theorem orderOne_k1 (Aa : Option Addr) (na ca : Nat) (da : List Hp) (ta : Int) (Ab : Option Addr) (nb cb : Nat) (db : List Hp) (tb : Int) (Ac : Option Addr) (nc cc : Nat) (dc : List Hp) (tc : Int) (hda : da.length = na) (hdb : db.length = nb) (hdc : dc.length = nc) (w : World) (ha : Sl w w.heap.size 3 Aa na ca (flatHp da)) (hb : Sl w w.heap.size 3 Ab nb cb (flatHp db)) (hc : Sl w w.heap.size 3 Ac nc cc (flatHp dc)) (E1 : Hid (cmpR ta da tb db = -1)) (E2 : Hid (cmpR tb db tc dc = -1)) (E3 : Hid (cmpR ta da tc dc = 0)) (E4 : Hid (cmpR tb db ta da = 1)) (E7 : Hid (cmpR ta da ta da = 0)) :
    Calls Try.prog 5 #[.agg #[.slice Aa na ca, .int .i64 ta], .agg #[.slice Ab nb cb, .int .i64 tb], .agg #[.slice Ac nc cc, .int .i64 tc]] w fun e w' => e = .returned (.bool true) ∧ Below w.heap.size w w' := by
  have hB0 : Below w.heap.size w (((w.alloc (.cells #[.slice Aa na ca, .int .i64 ta] 25)).alloc (.cells #[.slice Ab nb cb, .int .i64 tb] 25)).alloc (.cells #[.slice Ac nc cc, .int .i64 tc] 25)) := by (repeat (first | exact Below.refl _ _ | refine Below.alloc ?_ (by first | omega | (simp; done) | (simp; omega)) _ | refine Below.setCell ?_ (by first | omega | (simp; done) | (simp; omega)) _ | refine Below.drew ?_))
  have hXa := ((Blok.new w 25 #[.slice Aa na ca, .int .i64 ta]).alloc (.cells #[.slice Ab nb cb, .int .i64 tb] 25)).alloc (.cells #[.slice Ac nc cc, .int .i64 tc] 25)
  have hXb := (Blok.new (w.alloc (.cells #[.slice Aa na ca, .int .i64 ta] 25)) 25 #[.slice Ab nb cb, .int .i64 tb]).alloc (.cells #[.slice Ac nc cc, .int .i64 tc] 25)
  simp only [World.size_alloc] at hXb
  have hXc := Blok.new ((w.alloc (.cells #[.slice Aa na ca, .int .i64 ta] 25)).alloc (.cells #[.slice Ab nb cb, .int .i64 tb] 25)) 25 #[.slice Ac nc cc, .int .i64 tc]
  simp only [World.size_alloc] at hXc
  replace ha := ha.up hB0
  replace hb := hb.up hB0
  replace hc := hc.up hB0
  have hs0 := hB0.size
  have HL : Hid (da.length = na ∧ db.length = nb ∧ dc.length = nc) := ⟨hda, hdb, hdc⟩
  clear hda hdb hdc
  by_cases hn : 50 < na ∨ 50 < nb ∨ 50 < nc
  · have hn' : 50 < na ∨ (na ≤ 50 ∧ 50 < nb) ∨ (na ≤ 50 ∧ nb ≤ 50 ∧ 50 < nc) := by omega
    clear hn
    rcases hn' with hn | ⟨hn, hn2⟩ | ⟨hn, hn2, hn3⟩
    all_goals
      go_enter Try.func5, Try.ntmps5
      go_wp2_with fail
      generalize ((w.alloc (.cells #[.slice Aa na ca, .int .i64 ta] 25)).alloc (.cells #[.slice Ab nb cb, .int .i64 tb] 25)).alloc (.cells #[.slice Ac nc cc, .int .i64 tc] 25) = w0 at *
      refine (small13_any _).mono ?_
      rintro e w1 ⟨rfl, hB⟩
      have hXa1 := hXa.below hB hXa.lt
      have hXb1 := hXb.below hB hXb.lt
      have hXc1 := hXc.below hB hXc.lt
      have a0 : w1.cell? ⟨w.heap.size, 0, none⟩ = some (.slice Aa na ca) := hXa1.cell 0
      have a1 : w1.cell? ⟨w.heap.size, 1, none⟩ = some (.int .i64 ta) := hXa1.cell 1
      have b0 : w1.cell? ⟨w.heap.size + 1, 0, none⟩ = some (.slice Ab nb cb) := hXb1.cell 0
      have b1 : w1.cell? ⟨w.heap.size + 1, 1, none⟩ = some (.int .i64 tb) := hXb1.cell 1
      have c0 : w1.cell? ⟨w.heap.size + 1 + 1, 0, none⟩ = some (.slice Ac nc cc) := hXc1.cell 0
      have c1 : w1.cell? ⟨w.heap.size + 1 + 1, 1, none⟩ = some (.int .i64 tc) := hXc1.cell 1
      have lt_a := hXa1.lt
      have lt_b := hXb1.lt
      have lt_c := hXc1.lt
      go_wp2
      go_ret
      exact ⟨rfl, hB0.trans (hB.mono hs0)⟩
  · have hn1 : na ≤ 50 := by omega
    have hn2 : nb ≤ 50 := by omega
    have hn3 : nc ≤ 50 := by omega
    clear hn
    have ga : decide ((na : Int) > 50) = false := decide_eq_false (by omega)
    have gb : decide ((nb : Int) > 50) = false := decide_eq_false (by omega)
    have gc : decide ((nc : Int) > 50) = false := decide_eq_false (by omega)
    have HN : Hid (na ≤ 50 ∧ nb ≤ 50 ∧ nc ≤ 50) := ⟨hn1, hn2, hn3⟩
    go_enter Try.func5, Try.ntmps5
    go_wp2_with fail
    generalize ((w.alloc (.cells #[.slice Aa na ca, .int .i64 ta] 25)).alloc (.cells #[.slice Ab nb cb, .int .i64 tb] 25)).alloc (.cells #[.slice Ac nc cc, .int .i64 tc] 25) = w0 at *
    refine (small13_any _).mono ?_
    rintro e w1 ⟨rfl, hB⟩
    have hXa1 := hXa.below hB hXa.lt
    have hXb1 := hXb.below hB hXb.lt
    have hXc1 := hXc.below hB hXc.lt
    have a0 : w1.cell? ⟨w.heap.size, 0, none⟩ = some (.slice Aa na ca) := hXa1.cell 0
    have a1 : w1.cell? ⟨w.heap.size, 1, none⟩ = some (.int .i64 ta) := hXa1.cell 1
    have b0 : w1.cell? ⟨w.heap.size + 1, 0, none⟩ = some (.slice Ab nb cb) := hXb1.cell 0
    have b1 : w1.cell? ⟨w.heap.size + 1, 1, none⟩ = some (.int .i64 tb) := hXb1.cell 1
    have c0 : w1.cell? ⟨w.heap.size + 1 + 1, 0, none⟩ = some (.slice Ac nc cc) := hXc1.cell 0
    have c1 : w1.cell? ⟨w.heap.size + 1 + 1, 1, none⟩ = some (.int .i64 tc) := hXc1.cell 1
    have lt_a := hXa1.lt
    have lt_b := hXb1.lt
    have lt_c := hXc1.lt
    have hra : Hid (RV w1 (.agg #[.slice Aa na ca, .int .i64 ta]) (da, ta)) := (show RV w0 (.agg #[.slice Aa na ca, .int .i64 ta]) (da, ta) from ⟨_, _, _, rfl, HL.out.1, by show na ≤ 1000000; omega, ha⟩).below hB
    have hrb : Hid (RV w1 (.agg #[.slice Ab nb cb, .int .i64 tb]) (db, tb)) := (show RV w0 (.agg #[.slice Ab nb cb, .int .i64 tb]) (db, tb) from ⟨_, _, _, rfl, HL.out.2.1, by show nb ≤ 1000000; omega, hb⟩).below hB
    have hrc : Hid (RV w1 (.agg #[.slice Ac nc cc, .int .i64 tc]) (dc, tc)) := (show RV w0 (.agg #[.slice Ac nc cc, .int .i64 tc]) (dc, tc) from ⟨_, _, _, rfl, HL.out.2.2, by show nc ≤ 1000000; omega, hc⟩).below hB
    have HB := Lib.hid (hB0.trans (hB.mono hs0))
    clear ha hb hc hB0 hXa hXb hXc hs0 hB hn1 hn2 hn3 HN HL
    all_goals
      go_upto_region 4 with fail
      generalize hDD : w.heap.size = bA at *
      go_wp2_with fail
      refine (cmpV hra.out hrb.out _ E1.out).mono ?_
      rintro e w4 ⟨rfl, hb⟩
      replace hXa1 := hXa1.below hb hXa1.lt
      replace hXb1 := hXb1.below hb hXb1.lt
      replace hXc1 := hXc1.below hb hXc1.lt
      replace hra := Lib.hid (hra.out.below hb)
      replace hrb := Lib.hid (hrb.out.below hb)
      replace hrc := Lib.hid (hrc.out.below hb)
      clear a0 a1 b0 b1 c0 c1 lt_a lt_b lt_c
      have a0 : w4.cell? ⟨bA, 0, none⟩ = some (.slice Aa na ca) := hXa1.cell 0
      have a1 : w4.cell? ⟨bA, 1, none⟩ = some (.int .i64 ta) := hXa1.cell 1
      have b0 : w4.cell? ⟨bA + 1, 0, none⟩ = some (.slice Ab nb cb) := hXb1.cell 0
      have b1 : w4.cell? ⟨bA + 1, 1, none⟩ = some (.int .i64 tb) := hXb1.cell 1
      have c0 : w4.cell? ⟨bA + 1 + 1, 0, none⟩ = some (.slice Ac nc cc) := hXc1.cell 0
      have c1 : w4.cell? ⟨bA + 1 + 1, 1, none⟩ = some (.int .i64 tc) := hXc1.cell 1
      have lt_a := hXa1.lt
      have lt_b := hXb1.lt
      have lt_c := hXc1.lt
      replace HB := Lib.hid (HB.out.trans (hb.mono (by have := HB.out.size; omega)))
      clear hb
      go_wp2_with fail
      refine (cmpV hrb.out hrc.out _ E2.out).mono ?_
      rintro e w5 ⟨rfl, hb⟩
      replace hXa1 := hXa1.below hb hXa1.lt
      replace hXb1 := hXb1.below hb hXb1.lt
      replace hXc1 := hXc1.below hb hXc1.lt
      replace hra := Lib.hid (hra.out.below hb)
      replace hrb := Lib.hid (hrb.out.below hb)
      replace hrc := Lib.hid (hrc.out.below hb)
      clear a0 a1 b0 b1 c0 c1 lt_a lt_b lt_c
      have a0 : w5.cell? ⟨bA, 0, none⟩ = some (.slice Aa na ca) := hXa1.cell 0
      have a1 : w5.cell? ⟨bA, 1, none⟩ = some (.int .i64 ta) := hXa1.cell 1
      have b0 : w5.cell? ⟨bA + 1, 0, none⟩ = some (.slice Ab nb cb) := hXb1.cell 0
      have b1 : w5.cell? ⟨bA + 1, 1, none⟩ = some (.int .i64 tb) := hXb1.cell 1
      have c0 : w5.cell? ⟨bA + 1 + 1, 0, none⟩ = some (.slice Ac nc cc) := hXc1.cell 0
      have c1 : w5.cell? ⟨bA + 1 + 1, 1, none⟩ = some (.int .i64 tc) := hXc1.cell 1
      have lt_a := hXa1.lt
      have lt_b := hXb1.lt
      have lt_c := hXc1.lt
      replace HB := Lib.hid (HB.out.trans (hb.mono (by have := HB.out.size; omega)))
      clear hb
      go_wp2_with fail
      refine (cmpV hra.out hrc.out _ E3.out).mono ?_
      rintro e w6 ⟨rfl, hb⟩
      replace hXa1 := hXa1.below hb hXa1.lt
      replace hXb1 := hXb1.below hb hXb1.lt
      replace hXc1 := hXc1.below hb hXc1.lt
      replace hra := Lib.hid (hra.out.below hb)
      replace hrb := Lib.hid (hrb.out.below hb)
      replace hrc := Lib.hid (hrc.out.below hb)
      clear a0 a1 b0 b1 c0 c1 lt_a lt_b lt_c
      have a0 : w6.cell? ⟨bA, 0, none⟩ = some (.slice Aa na ca) := hXa1.cell 0
      have a1 : w6.cell? ⟨bA, 1, none⟩ = some (.int .i64 ta) := hXa1.cell 1
      have b0 : w6.cell? ⟨bA + 1, 0, none⟩ = some (.slice Ab nb cb) := hXb1.cell 0
      have b1 : w6.cell? ⟨bA + 1, 1, none⟩ = some (.int .i64 tb) := hXb1.cell 1
      have c0 : w6.cell? ⟨bA + 1 + 1, 0, none⟩ = some (.slice Ac nc cc) := hXc1.cell 0
      have c1 : w6.cell? ⟨bA + 1 + 1, 1, none⟩ = some (.int .i64 tc) := hXc1.cell 1
      have lt_a := hXa1.lt
      have lt_b := hXb1.lt
      have lt_c := hXc1.lt
      replace HB := Lib.hid (HB.out.trans (hb.mono (by have := HB.out.size; omega)))
      clear hb
      go_upto_region 7 with fail
      have QA := Lib.hid (fun d os => hra.out.regrown d os)
      have QB := Lib.hid (fun d os => hrb.out.regrown d os)
      have q_a0 := fun d os => cell_regrown a0 d os
      have q_a1 := fun d os => cell_regrown a1 d os
      have q_b0 := fun d os => cell_regrown b0 d os
      have q_b1 := fun d os => cell_regrown b1 d os
      have q_c0 := fun d os => cell_regrown c0 d os
      have q_c1 := fun d os => cell_regrown c1 d os
      try simp only [List.append]
      first | refine wp_region_text_below ?_ | refine wp_region_quiet_below (by kernel_rfl) (by kernel_rfl) ?_
      repeat (go_big_quiet_step ((first | (go_at_call 17; first | with_reducible exact Calls.regrown_of (cmpV (QB.out _ _) (QA.out _ _) _ E4.out) | with_reducible exact Calls.regrown_of (cmpV (QA.out _ _) (QA.out _ _) _ E7.out)) | (go_at_call 19; with_reducible exact Calls.regrown_of (lessV (QA.out _ _) (QB.out _ _) true (by rw [E1.out]; decide))))))
      refine wpQuiet_nil ?_
      intro _ hqw
      obtain ⟨pq, hqw⟩ := hqw
      subst hqw
      go_wp2
      go_ret
      exact ⟨rfl, by rw [hDD]; exact (HB.out.trans ((below_regrown _ _ _).mono (by have := HB.out.size; omega)))⟩
set_option maxHeartbeats 100000000 in
set_option maxRecDepth 100000 in
theorem orderOne_k2 (Aa : Option Addr) (na ca : Nat) (da : List Hp) (ta : Int) (Ab : Option Addr) (nb cb : Nat) (db : List Hp) (tb : Int) (Ac : Option Addr) (nc cc : Nat) (dc : List Hp) (tc : Int) (hda : da.length = na) (hdb : db.length = nb) (hdc : dc.length = nc) (w : World) (ha : Sl w w.heap.size 3 Aa na ca (flatHp da)) (hb : Sl w w.heap.size 3 Ab nb cb (flatHp db)) (hc : Sl w w.heap.size 3 Ac nc cc (flatHp dc)) (E1 : Hid (cmpR ta da tb db = -1)) (E2 : Hid (cmpR tb db tc dc = 0)) (E3 : Hid (cmpR ta da tc dc = -1)) (E4 : Hid (cmpR tb db ta da = 1)) (E7 : Hid (cmpR ta da ta da = 0)) :
    Calls Try.prog 5 #[.agg #[.slice Aa na ca, .int .i64 ta], .agg #[.slice Ab nb cb, .int .i64 tb], .agg #[.slice Ac nc cc, .int .i64 tc]] w fun e w' => e = .returned (.bool true) ∧ Below w.heap.size w w' := by
  have hB0 : Below w.heap.size w (((w.alloc (.cells #[.slice Aa na ca, .int .i64 ta] 25)).alloc (.cells #[.slice Ab nb cb, .int .i64 tb] 25)).alloc (.cells #[.slice Ac nc cc, .int .i64 tc] 25)) := by (repeat (first | exact Below.refl _ _ | refine Below.alloc ?_ (by first | omega | (simp; done) | (simp; omega)) _ | refine Below.setCell ?_ (by first | omega | (simp; done) | (simp; omega)) _ | refine Below.drew ?_))
  have hXa := ((Blok.new w 25 #[.slice Aa na ca, .int .i64 ta]).alloc (.cells #[.slice Ab nb cb, .int .i64 tb] 25)).alloc (.cells #[.slice Ac nc cc, .int .i64 tc] 25)
  have hXb := (Blok.new (w.alloc (.cells #[.slice Aa na ca, .int .i64 ta] 25)) 25 #[.slice Ab nb cb, .int .i64 tb]).alloc (.cells #[.slice Ac nc cc, .int .i64 tc] 25)
  simp only [World.size_alloc] at hXb
  have hXc := Blok.new ((w.alloc (.cells #[.slice Aa na ca, .int .i64 ta] 25)).alloc (.cells #[.slice Ab nb cb, .int .i64 tb] 25)) 25 #[.slice Ac nc cc, .int .i64 tc]
  simp only [World.size_alloc] at hXc
  replace ha := ha.up hB0
  replace hb := hb.up hB0
  replace hc := hc.up hB0
  have hs0 := hB0.size
  have HL : Hid (da.length = na ∧ db.length = nb ∧ dc.length = nc) := ⟨hda, hdb, hdc⟩
  clear hda hdb hdc
  by_cases hn : 50 < na ∨ 50 < nb ∨ 50 < nc
  · have hn' : 50 < na ∨ (na ≤ 50 ∧ 50 < nb) ∨ (na ≤ 50 ∧ nb ≤ 50 ∧ 50 < nc) := by omega
    clear hn
    rcases hn' with hn | ⟨hn, hn2⟩ | ⟨hn, hn2, hn3⟩
    all_goals
      go_enter Try.func5, Try.ntmps5
      go_wp2_with fail
      generalize ((w.alloc (.cells #[.slice Aa na ca, .int .i64 ta] 25)).alloc (.cells #[.slice Ab nb cb, .int .i64 tb] 25)).alloc (.cells #[.slice Ac nc cc, .int .i64 tc] 25) = w0 at *
      refine (small13_any _).mono ?_
      rintro e w1 ⟨rfl, hB⟩
      have hXa1 := hXa.below hB hXa.lt
      have hXb1 := hXb.below hB hXb.lt
      have hXc1 := hXc.below hB hXc.lt
      have a0 : w1.cell? ⟨w.heap.size, 0, none⟩ = some (.slice Aa na ca) := hXa1.cell 0
      have a1 : w1.cell? ⟨w.heap.size, 1, none⟩ = some (.int .i64 ta) := hXa1.cell 1
      have b0 : w1.cell? ⟨w.heap.size + 1, 0, none⟩ = some (.slice Ab nb cb) := hXb1.cell 0
      have b1 : w1.cell? ⟨w.heap.size + 1, 1, none⟩ = some (.int .i64 tb) := hXb1.cell 1
      have c0 : w1.cell? ⟨w.heap.size + 1 + 1, 0, none⟩ = some (.slice Ac nc cc) := hXc1.cell 0
      have c1 : w1.cell? ⟨w.heap.size + 1 + 1, 1, none⟩ = some (.int .i64 tc) := hXc1.cell 1
      have lt_a := hXa1.lt
      have lt_b := hXb1.lt
      have lt_c := hXc1.lt
      go_wp2
      go_ret
      exact ⟨rfl, hB0.trans (hB.mono hs0)⟩
  · have hn1 : na ≤ 50 := by omega
    have hn2 : nb ≤ 50 := by omega
    have hn3 : nc ≤ 50 := by omega
    clear hn
    have ga : decide ((na : Int) > 50) = false := decide_eq_false (by omega)
    have gb : decide ((nb : Int) > 50) = false := decide_eq_false (by omega)
    have gc : decide ((nc : Int) > 50) = false := decide_eq_false (by omega)
    have HN : Hid (na ≤ 50 ∧ nb ≤ 50 ∧ nc ≤ 50) := ⟨hn1, hn2, hn3⟩
    go_enter Try.func5, Try.ntmps5
    go_wp2_with fail
    generalize ((w.alloc (.cells #[.slice Aa na ca, .int .i64 ta] 25)).alloc (.cells #[.slice Ab nb cb, .int .i64 tb] 25)).alloc (.cells #[.slice Ac nc cc, .int .i64 tc] 25) = w0 at *
    refine (small13_any _).mono ?_
    rintro e w1 ⟨rfl, hB⟩
    have hXa1 := hXa.below hB hXa.lt
    have hXb1 := hXb.below hB hXb.lt
    have hXc1 := hXc.below hB hXc.lt
    have a0 : w1.cell? ⟨w.heap.size, 0, none⟩ = some (.slice Aa na ca) := hXa1.cell 0
    have a1 : w1.cell? ⟨w.heap.size, 1, none⟩ = some (.int .i64 ta) := hXa1.cell 1
    have b0 : w1.cell? ⟨w.heap.size + 1, 0, none⟩ = some (.slice Ab nb cb) := hXb1.cell 0
    have b1 : w1.cell? ⟨w.heap.size + 1, 1, none⟩ = some (.int .i64 tb) := hXb1.cell 1
    have c0 : w1.cell? ⟨w.heap.size + 1 + 1, 0, none⟩ = some (.slice Ac nc cc) := hXc1.cell 0
    have c1 : w1.cell? ⟨w.heap.size + 1 + 1, 1, none⟩ = some (.int .i64 tc) := hXc1.cell 1
    have lt_a := hXa1.lt
    have lt_b := hXb1.lt
    have lt_c := hXc1.lt
    have hra : Hid (RV w1 (.agg #[.slice Aa na ca, .int .i64 ta]) (da, ta)) := (show RV w0 (.agg #[.slice Aa na ca, .int .i64 ta]) (da, ta) from ⟨_, _, _, rfl, HL.out.1, by show na ≤ 1000000; omega, ha⟩).below hB
    have hrb : Hid (RV w1 (.agg #[.slice Ab nb cb, .int .i64 tb]) (db, tb)) := (show RV w0 (.agg #[.slice Ab nb cb, .int .i64 tb]) (db, tb) from ⟨_, _, _, rfl, HL.out.2.1, by show nb ≤ 1000000; omega, hb⟩).below hB
    have hrc : Hid (RV w1 (.agg #[.slice Ac nc cc, .int .i64 tc]) (dc, tc)) := (show RV w0 (.agg #[.slice Ac nc cc, .int .i64 tc]) (dc, tc) from ⟨_, _, _, rfl, HL.out.2.2, by show nc ≤ 1000000; omega, hc⟩).below hB
    have HB := Lib.hid (hB0.trans (hB.mono hs0))
    clear ha hb hc hB0 hXa hXb hXc hs0 hB hn1 hn2 hn3 HN HL
    all_goals
      go_upto_region 4 with fail
      generalize hDD : w.heap.size = bA at *
      go_wp2_with fail
      refine (cmpV hra.out hrb.out _ E1.out).mono ?_
      rintro e w4 ⟨rfl, hb⟩
      replace hXa1 := hXa1.below hb hXa1.lt
      replace hXb1 := hXb1.below hb hXb1.lt
      replace hXc1 := hXc1.below hb hXc1.lt
      replace hra := Lib.hid (hra.out.below hb)
      replace hrb := Lib.hid (hrb.out.below hb)
      replace hrc := Lib.hid (hrc.out.below hb)
      clear a0 a1 b0 b1 c0 c1 lt_a lt_b lt_c
      have a0 : w4.cell? ⟨bA, 0, none⟩ = some (.slice Aa na ca) := hXa1.cell 0
      have a1 : w4.cell? ⟨bA, 1, none⟩ = some (.int .i64 ta) := hXa1.cell 1
      have b0 : w4.cell? ⟨bA + 1, 0, none⟩ = some (.slice Ab nb cb) := hXb1.cell 0
      have b1 : w4.cell? ⟨bA + 1, 1, none⟩ = some (.int .i64 tb) := hXb1.cell 1
      have c0 : w4.cell? ⟨bA + 1 + 1, 0, none⟩ = some (.slice Ac nc cc) := hXc1.cell 0
      have c1 : w4.cell? ⟨bA + 1 + 1, 1, none⟩ = some (.int .i64 tc) := hXc1.cell 1
      have lt_a := hXa1.lt
      have lt_b := hXb1.lt
      have lt_c := hXc1.lt
      replace HB := Lib.hid (HB.out.trans (hb.mono (by have := HB.out.size; omega)))
      clear hb
      go_wp2_with fail
      refine (cmpV hrb.out hrc.out _ E2.out).mono ?_
      rintro e w5 ⟨rfl, hb⟩
      replace hXa1 := hXa1.below hb hXa1.lt
      replace hXb1 := hXb1.below hb hXb1.lt
      replace hXc1 := hXc1.below hb hXc1.lt
      replace hra := Lib.hid (hra.out.below hb)
      replace hrb := Lib.hid (hrb.out.below hb)
      replace hrc := Lib.hid (hrc.out.below hb)
      clear a0 a1 b0 b1 c0 c1 lt_a lt_b lt_c
      have a0 : w5.cell? ⟨bA, 0, none⟩ = some (.slice Aa na ca) := hXa1.cell 0
      have a1 : w5.cell? ⟨bA, 1, none⟩ = some (.int .i64 ta) := hXa1.cell 1
      have b0 : w5.cell? ⟨bA + 1, 0, none⟩ = some (.slice Ab nb cb) := hXb1.cell 0
      have b1 : w5.cell? ⟨bA + 1, 1, none⟩ = some (.int .i64 tb) := hXb1.cell 1
      have c0 : w5.cell? ⟨bA + 1 + 1, 0, none⟩ = some (.slice Ac nc cc) := hXc1.cell 0
      have c1 : w5.cell? ⟨bA + 1 + 1, 1, none⟩ = some (.int .i64 tc) := hXc1.cell 1
      have lt_a := hXa1.lt
      have lt_b := hXb1.lt
      have lt_c := hXc1.lt
      replace HB := Lib.hid (HB.out.trans (hb.mono (by have := HB.out.size; omega)))
      clear hb
      go_wp2_with fail
      refine (cmpV hra.out hrc.out _ E3.out).mono ?_
      rintro e w6 ⟨rfl, hb⟩
      replace hXa1 := hXa1.below hb hXa1.lt
      replace hXb1 := hXb1.below hb hXb1.lt
      replace hXc1 := hXc1.below hb hXc1.lt
      replace hra := Lib.hid (hra.out.below hb)
      replace hrb := Lib.hid (hrb.out.below hb)
      replace hrc := Lib.hid (hrc.out.below hb)
      clear a0 a1 b0 b1 c0 c1 lt_a lt_b lt_c
      have a0 : w6.cell? ⟨bA, 0, none⟩ = some (.slice Aa na ca) := hXa1.cell 0
      have a1 : w6.cell? ⟨bA, 1, none⟩ = some (.int .i64 ta) := hXa1.cell 1
      have b0 : w6.cell? ⟨bA + 1, 0, none⟩ = some (.slice Ab nb cb) := hXb1.cell 0
      have b1 : w6.cell? ⟨bA + 1, 1, none⟩ = some (.int .i64 tb) := hXb1.cell 1
      have c0 : w6.cell? ⟨bA + 1 + 1, 0, none⟩ = some (.slice Ac nc cc) := hXc1.cell 0
      have c1 : w6.cell? ⟨bA + 1 + 1, 1, none⟩ = some (.int .i64 tc) := hXc1.cell 1
      have lt_a := hXa1.lt
      have lt_b := hXb1.lt
      have lt_c := hXc1.lt
      replace HB := Lib.hid (HB.out.trans (hb.mono (by have := HB.out.size; omega)))
      clear hb
      go_upto_region 7 with fail
      have QA := Lib.hid (fun d os => hra.out.regrown d os)
      have QB := Lib.hid (fun d os => hrb.out.regrown d os)
      have q_a0 := fun d os => cell_regrown a0 d os
      have q_a1 := fun d os => cell_regrown a1 d os
      have q_b0 := fun d os => cell_regrown b0 d os
      have q_b1 := fun d os => cell_regrown b1 d os
      have q_c0 := fun d os => cell_regrown c0 d os
      have q_c1 := fun d os => cell_regrown c1 d os
      try simp only [List.append]
      first | refine wp_region_text_below ?_ | refine wp_region_quiet_below (by kernel_rfl) (by kernel_rfl) ?_
      repeat (go_big_quiet_step ((first | (go_at_call 17; first | with_reducible exact Calls.regrown_of (cmpV (QB.out _ _) (QA.out _ _) _ E4.out) | with_reducible exact Calls.regrown_of (cmpV (QA.out _ _) (QA.out _ _) _ E7.out)) | (go_at_call 19; with_reducible exact Calls.regrown_of (lessV (QA.out _ _) (QB.out _ _) true (by rw [E1.out]; decide))))))
      refine wpQuiet_nil ?_
      intro _ hqw
      obtain ⟨pq, hqw⟩ := hqw
      subst hqw
      go_wp2
      go_ret
      exact ⟨rfl, by rw [hDD]; exact (HB.out.trans ((below_regrown _ _ _).mono (by have := HB.out.size; omega)))⟩
set_option maxHeartbeats 100000000 in
set_option maxRecDepth 100000 in
theorem orderOne_k3 (Aa : Option Addr) (na ca : Nat) (da : List Hp) (ta : Int) (Ab : Option Addr) (nb cb : Nat) (db : List Hp) (tb : Int) (Ac : Option Addr) (nc cc : Nat) (dc : List Hp) (tc : Int) (hda : da.length = na) (hdb : db.length = nb) (hdc : dc.length = nc) (w : World) (ha : Sl w w.heap.size 3 Aa na ca (flatHp da)) (hb : Sl w w.heap.size 3 Ab nb cb (flatHp db)) (hc : Sl w w.heap.size 3 Ac nc cc (flatHp dc)) (E1 : Hid (cmpR ta da tb db = -1)) (E2 : Hid (cmpR tb db tc dc = 0)) (E3 : Hid (cmpR ta da tc dc = 0)) (E4 : Hid (cmpR tb db ta da = 1)) (E7 : Hid (cmpR ta da ta da = 0)) :
    Calls Try.prog 5 #[.agg #[.slice Aa na ca, .int .i64 ta], .agg #[.slice Ab nb cb, .int .i64 tb], .agg #[.slice Ac nc cc, .int .i64 tc]] w fun e w' => e = .returned (.bool true) ∧ Below w.heap.size w w' := by
  have hB0 : Below w.heap.size w (((w.alloc (.cells #[.slice Aa na ca, .int .i64 ta] 25)).alloc (.cells #[.slice Ab nb cb, .int .i64 tb] 25)).alloc (.cells #[.slice Ac nc cc, .int .i64 tc] 25)) := by (repeat (first | exact Below.refl _ _ | refine Below.alloc ?_ (by first | omega | (simp; done) | (simp; omega)) _ | refine Below.setCell ?_ (by first | omega | (simp; done) | (simp; omega)) _ | refine Below.drew ?_))
  have hXa := ((Blok.new w 25 #[.slice Aa na ca, .int .i64 ta]).alloc (.cells #[.slice Ab nb cb, .int .i64 tb] 25)).alloc (.cells #[.slice Ac nc cc, .int .i64 tc] 25)
  have hXb := (Blok.new (w.alloc (.cells #[.slice Aa na ca, .int .i64 ta] 25)) 25 #[.slice Ab nb cb, .int .i64 tb]).alloc (.cells #[.slice Ac nc cc, .int .i64 tc] 25)
  simp only [World.size_alloc] at hXb
  have hXc := Blok.new ((w.alloc (.cells #[.slice Aa na ca, .int .i64 ta] 25)).alloc (.cells #[.slice Ab nb cb, .int .i64 tb] 25)) 25 #[.slice Ac nc cc, .int .i64 tc]
  simp only [World.size_alloc] at hXc
  replace ha := ha.up hB0
  replace hb := hb.up hB0
  replace hc := hc.up hB0
  have hs0 := hB0.size
  have HL : Hid (da.length = na ∧ db.length = nb ∧ dc.length = nc) := ⟨hda, hdb, hdc⟩
  clear hda hdb hdc
  by_cases hn : 50 < na ∨ 50 < nb ∨ 50 < nc
  · have hn' : 50 < na ∨ (na ≤ 50 ∧ 50 < nb) ∨ (na ≤ 50 ∧ nb ≤ 50 ∧ 50 < nc) := by omega
    clear hn
    rcases hn' with hn | ⟨hn, hn2⟩ | ⟨hn, hn2, hn3⟩
    all_goals
      go_enter Try.func5, Try.ntmps5
      go_wp2_with fail
      generalize ((w.alloc (.cells #[.slice Aa na ca, .int .i64 ta] 25)).alloc (.cells #[.slice Ab nb cb, .int .i64 tb] 25)).alloc (.cells #[.slice Ac nc cc, .int .i64 tc] 25) = w0 at *
      refine (small13_any _).mono ?_
      rintro e w1 ⟨rfl, hB⟩
      have hXa1 := hXa.below hB hXa.lt
      have hXb1 := hXb.below hB hXb.lt
      have hXc1 := hXc.below hB hXc.lt
      have a0 : w1.cell? ⟨w.heap.size, 0, none⟩ = some (.slice Aa na ca) := hXa1.cell 0
      have a1 : w1.cell? ⟨w.heap.size, 1, none⟩ = some (.int .i64 ta) := hXa1.cell 1
      have b0 : w1.cell? ⟨w.heap.size + 1, 0, none⟩ = some (.slice Ab nb cb) := hXb1.cell 0
      have b1 : w1.cell? ⟨w.heap.size + 1, 1, none⟩ = some (.int .i64 tb) := hXb1.cell 1
      have c0 : w1.cell? ⟨w.heap.size + 1 + 1, 0, none⟩ = some (.slice Ac nc cc) := hXc1.cell 0
      have c1 : w1.cell? ⟨w.heap.size + 1 + 1, 1, none⟩ = some (.int .i64 tc) := hXc1.cell 1
      have lt_a := hXa1.lt
      have lt_b := hXb1.lt
      have lt_c := hXc1.lt
      go_wp2
      go_ret
      exact ⟨rfl, hB0.trans (hB.mono hs0)⟩
  · have hn1 : na ≤ 50 := by omega
    have hn2 : nb ≤ 50 := by omega
    have hn3 : nc ≤ 50 := by omega
    clear hn
    have ga : decide ((na : Int) > 50) = false := decide_eq_false (by omega)
    have gb : decide ((nb : Int) > 50) = false := decide_eq_false (by omega)
    have gc : decide ((nc : Int) > 50) = false := decide_eq_false (by omega)
    have HN : Hid (na ≤ 50 ∧ nb ≤ 50 ∧ nc ≤ 50) := ⟨hn1, hn2, hn3⟩
    go_enter Try.func5, Try.ntmps5
    go_wp2_with fail
    generalize ((w.alloc (.cells #[.slice Aa na ca, .int .i64 ta] 25)).alloc (.cells #[.slice Ab nb cb, .int .i64 tb] 25)).alloc (.cells #[.slice Ac nc cc, .int .i64 tc] 25) = w0 at *
    refine (small13_any _).mono ?_
    rintro e w1 ⟨rfl, hB⟩
    have hXa1 := hXa.below hB hXa.lt
    have hXb1 := hXb.below hB hXb.lt
    have hXc1 := hXc.below hB hXc.lt
    have a0 : w1.cell? ⟨w.heap.size, 0, none⟩ = some (.slice Aa na ca) := hXa1.cell 0
    have a1 : w1.cell? ⟨w.heap.size, 1, none⟩ = some (.int .i64 ta) := hXa1.cell 1
    have b0 : w1.cell? ⟨w.heap.size + 1, 0, none⟩ = some (.slice Ab nb cb) := hXb1.cell 0
    have b1 : w1.cell? ⟨w.heap.size + 1, 1, none⟩ = some (.int .i64 tb) := hXb1.cell 1
    have c0 : w1.cell? ⟨w.heap.size + 1 + 1, 0, none⟩ = some (.slice Ac nc cc) := hXc1.cell 0
    have c1 : w1.cell? ⟨w.heap.size + 1 + 1, 1, none⟩ = some (.int .i64 tc) := hXc1.cell 1
    have lt_a := hXa1.lt
    have lt_b := hXb1.lt
    have lt_c := hXc1.lt
    have hra : Hid (RV w1 (.agg #[.slice Aa na ca, .int .i64 ta]) (da, ta)) := (show RV w0 (.agg #[.slice Aa na ca, .int .i64 ta]) (da, ta) from ⟨_, _, _, rfl, HL.out.1, by show na ≤ 1000000; omega, ha⟩).below hB
    have hrb : Hid (RV w1 (.agg #[.slice Ab nb cb, .int .i64 tb]) (db, tb)) := (show RV w0 (.agg #[.slice Ab nb cb, .int .i64 tb]) (db, tb) from ⟨_, _, _, rfl, HL.out.2.1, by show nb ≤ 1000000; omega, hb⟩).below hB
    have hrc : Hid (RV w1 (.agg #[.slice Ac nc cc, .int .i64 tc]) (dc, tc)) := (show RV w0 (.agg #[.slice Ac nc cc, .int .i64 tc]) (dc, tc) from ⟨_, _, _, rfl, HL.out.2.2, by show nc ≤ 1000000; omega, hc⟩).below hB
    have HB := Lib.hid (hB0.trans (hB.mono hs0))
    clear ha hb hc hB0 hXa hXb hXc hs0 hB hn1 hn2 hn3 HN HL
    all_goals
      go_upto_region 4 with fail
      generalize hDD : w.heap.size = bA at *
      go_wp2_with fail
      refine (cmpV hra.out hrb.out _ E1.out).mono ?_
      rintro e w4 ⟨rfl, hb⟩
      replace hXa1 := hXa1.below hb hXa1.lt
      replace hXb1 := hXb1.below hb hXb1.lt
      replace hXc1 := hXc1.below hb hXc1.lt
      replace hra := Lib.hid (hra.out.below hb)
      replace hrb := Lib.hid (hrb.out.below hb)
      replace hrc := Lib.hid (hrc.out.below hb)
      clear a0 a1 b0 b1 c0 c1 lt_a lt_b lt_c
      have a0 : w4.cell? ⟨bA, 0, none⟩ = some (.slice Aa na ca) := hXa1.cell 0
      have a1 : w4.cell? ⟨bA, 1, none⟩ = some (.int .i64 ta) := hXa1.cell 1
      have b0 : w4.cell? ⟨bA + 1, 0, none⟩ = some (.slice Ab nb cb) := hXb1.cell 0
      have b1 : w4.cell? ⟨bA + 1, 1, none⟩ = some (.int .i64 tb) := hXb1.cell 1
      have c0 : w4.cell? ⟨bA + 1 + 1, 0, none⟩ = some (.slice Ac nc cc) := hXc1.cell 0
      have c1 : w4.cell? ⟨bA + 1 + 1, 1, none⟩ = some (.int .i64 tc) := hXc1.cell 1
      have lt_a := hXa1.lt
      have lt_b := hXb1.lt
      have lt_c := hXc1.lt
      replace HB := Lib.hid (HB.out.trans (hb.mono (by have := HB.out.size; omega)))
      clear hb
      go_wp2_with fail
      refine (cmpV hrb.out hrc.out _ E2.out).mono ?_
      rintro e w5 ⟨rfl, hb⟩
      replace hXa1 := hXa1.below hb hXa1.lt
      replace hXb1 := hXb1.below hb hXb1.lt
      replace hXc1 := hXc1.below hb hXc1.lt
      replace hra := Lib.hid (hra.out.below hb)
      replace hrb := Lib.hid (hrb.out.below hb)
      replace hrc := Lib.hid (hrc.out.below hb)
      clear a0 a1 b0 b1 c0 c1 lt_a lt_b lt_c
      have a0 : w5.cell? ⟨bA, 0, none⟩ = some (.slice Aa na ca) := hXa1.cell 0
      have a1 : w5.cell? ⟨bA, 1, none⟩ = some (.int .i64 ta) := hXa1.cell 1
      have b0 : w5.cell? ⟨bA + 1, 0, none⟩ = some (.slice Ab nb cb) := hXb1.cell 0
      have b1 : w5.cell? ⟨bA + 1, 1, none⟩ = some (.int .i64 tb) := hXb1.cell 1
      have c0 : w5.cell? ⟨bA + 1 + 1, 0, none⟩ = some (.slice Ac nc cc) := hXc1.cell 0
      have c1 : w5.cell? ⟨bA + 1 + 1, 1, none⟩ = some (.int .i64 tc) := hXc1.cell 1
      have lt_a := hXa1.lt
      have lt_b := hXb1.lt
      have lt_c := hXc1.lt
      replace HB := Lib.hid (HB.out.trans (hb.mono (by have := HB.out.size; omega)))
      clear hb
      go_wp2_with fail
      refine (cmpV hra.out hrc.out _ E3.out).mono ?_
      rintro e w6 ⟨rfl, hb⟩
      replace hXa1 := hXa1.below hb hXa1.lt
      replace hXb1 := hXb1.below hb hXb1.lt
      replace hXc1 := hXc1.below hb hXc1.lt
      replace hra := Lib.hid (hra.out.below hb)
      replace hrb := Lib.hid (hrb.out.below hb)
      replace hrc := Lib.hid (hrc.out.below hb)
      clear a0 a1 b0 b1 c0 c1 lt_a lt_b lt_c
      have a0 : w6.cell? ⟨bA, 0, none⟩ = some (.slice Aa na ca) := hXa1.cell 0
      have a1 : w6.cell? ⟨bA, 1, none⟩ = some (.int .i64 ta) := hXa1.cell 1
      have b0 : w6.cell? ⟨bA + 1, 0, none⟩ = some (.slice Ab nb cb) := hXb1.cell 0
      have b1 : w6.cell? ⟨bA + 1, 1, none⟩ = some (.int .i64 tb) := hXb1.cell 1
      have c0 : w6.cell? ⟨bA + 1 + 1, 0, none⟩ = some (.slice Ac nc cc) := hXc1.cell 0
      have c1 : w6.cell? ⟨bA + 1 + 1, 1, none⟩ = some (.int .i64 tc) := hXc1.cell 1
      have lt_a := hXa1.lt
      have lt_b := hXb1.lt
      have lt_c := hXc1.lt
      replace HB := Lib.hid (HB.out.trans (hb.mono (by have := HB.out.size; omega)))
      clear hb
      go_upto_region 7 with fail
      have QA := Lib.hid (fun d os => hra.out.regrown d os)
      have QB := Lib.hid (fun d os => hrb.out.regrown d os)
      have q_a0 := fun d os => cell_regrown a0 d os
      have q_a1 := fun d os => cell_regrown a1 d os
      have q_b0 := fun d os => cell_regrown b0 d os
      have q_b1 := fun d os => cell_regrown b1 d os
      have q_c0 := fun d os => cell_regrown c0 d os
      have q_c1 := fun d os => cell_regrown c1 d os
      try simp only [List.append]
      first | refine wp_region_text_below ?_ | refine wp_region_quiet_below (by kernel_rfl) (by kernel_rfl) ?_
      repeat (go_big_quiet_step ((first | (go_at_call 17; first | with_reducible exact Calls.regrown_of (cmpV (QB.out _ _) (QA.out _ _) _ E4.out) | with_reducible exact Calls.regrown_of (cmpV (QA.out _ _) (QA.out _ _) _ E7.out)) | (go_at_call 19; with_reducible exact Calls.regrown_of (lessV (QA.out _ _) (QB.out _ _) true (by rw [E1.out]; decide))))))
      refine wpQuiet_nil ?_
      intro _ hqw
      obtain ⟨pq, hqw⟩ := hqw
      subst hqw
      go_wp2
      go_ret
      exact ⟨rfl, by rw [hDD]; exact (HB.out.trans ((below_regrown _ _ _).mono (by have := HB.out.size; omega)))⟩
set_option maxHeartbeats 100000000 in
set_option maxRecDepth 100000 in
theorem orderOne_k4 (Aa : Option Addr) (na ca : Nat) (da : List Hp) (ta : Int) (Ab : Option Addr) (nb cb : Nat) (db : List Hp) (tb : Int) (Ac : Option Addr) (nc cc : Nat) (dc : List Hp) (tc : Int) (hda : da.length = na) (hdb : db.length = nb) (hdc : dc.length = nc) (w : World) (ha : Sl w w.heap.size 3 Aa na ca (flatHp da)) (hb : Sl w w.heap.size 3 Ab nb cb (flatHp db)) (hc : Sl w w.heap.size 3 Ac nc cc (flatHp dc)) (E1 : Hid (cmpR ta da tb db = -1)) (E2 : Hid (cmpR tb db tc dc = 1)) (E3 : Hid (cmpR ta da tc dc = -1)) (E4 : Hid (cmpR tb db ta da = 1)) (E7 : Hid (cmpR ta da ta da = 0)) :
    Calls Try.prog 5 #[.agg #[.slice Aa na ca, .int .i64 ta], .agg #[.slice Ab nb cb, .int .i64 tb], .agg #[.slice Ac nc cc, .int .i64 tc]] w fun e w' => e = .returned (.bool true) ∧ Below w.heap.size w w' := by
  have hB0 : Below w.heap.size w (((w.alloc (.cells #[.slice Aa na ca, .int .i64 ta] 25)).alloc (.cells #[.slice Ab nb cb, .int .i64 tb] 25)).alloc (.cells #[.slice Ac nc cc, .int .i64 tc] 25)) := by (repeat (first | exact Below.refl _ _ | refine Below.alloc ?_ (by first | omega | (simp; done) | (simp; omega)) _ | refine Below.setCell ?_ (by first | omega | (simp; done) | (simp; omega)) _ | refine Below.drew ?_))
  have hXa := ((Blok.new w 25 #[.slice Aa na ca, .int .i64 ta]).alloc (.cells #[.slice Ab nb cb, .int .i64 tb] 25)).alloc (.cells #[.slice Ac nc cc, .int .i64 tc] 25)
  have hXb := (Blok.new (w.alloc (.cells #[.slice Aa na ca, .int .i64 ta] 25)) 25 #[.slice Ab nb cb, .int .i64 tb]).alloc (.cells #[.slice Ac nc cc, .int .i64 tc] 25)
  simp only [World.size_alloc] at hXb
  have hXc := Blok.new ((w.alloc (.cells #[.slice Aa na ca, .int .i64 ta] 25)).alloc (.cells #[.slice Ab nb cb, .int .i64 tb] 25)) 25 #[.slice Ac nc cc, .int .i64 tc]
  simp only [World.size_alloc] at hXc
  replace ha := ha.up hB0
  replace hb := hb.up hB0
  replace hc := hc.up hB0
  have hs0 := hB0.size
  have HL : Hid (da.length = na ∧ db.length = nb ∧ dc.length = nc) := ⟨hda, hdb, hdc⟩
  clear hda hdb hdc
  by_cases hn : 50 < na ∨ 50 < nb ∨ 50 < nc
  · have hn' : 50 < na ∨ (na ≤ 50 ∧ 50 < nb) ∨ (na ≤ 50 ∧ nb ≤ 50 ∧ 50 < nc) := by omega
    clear hn
    rcases hn' with hn | ⟨hn, hn2⟩ | ⟨hn, hn2, hn3⟩
    all_goals
      go_enter Try.func5, Try.ntmps5
      go_wp2_with fail
      generalize ((w.alloc (.cells #[.slice Aa na ca, .int .i64 ta] 25)).alloc (.cells #[.slice Ab nb cb, .int .i64 tb] 25)).alloc (.cells #[.slice Ac nc cc, .int .i64 tc] 25) = w0 at *
      refine (small13_any _).mono ?_
      rintro e w1 ⟨rfl, hB⟩
      have hXa1 := hXa.below hB hXa.lt
      have hXb1 := hXb.below hB hXb.lt
      have hXc1 := hXc.below hB hXc.lt
      have a0 : w1.cell? ⟨w.heap.size, 0, none⟩ = some (.slice Aa na ca) := hXa1.cell 0
      have a1 : w1.cell? ⟨w.heap.size, 1, none⟩ = some (.int .i64 ta) := hXa1.cell 1
      have b0 : w1.cell? ⟨w.heap.size + 1, 0, none⟩ = some (.slice Ab nb cb) := hXb1.cell 0
      have b1 : w1.cell? ⟨w.heap.size + 1, 1, none⟩ = some (.int .i64 tb) := hXb1.cell 1
      have c0 : w1.cell? ⟨w.heap.size + 1 + 1, 0, none⟩ = some (.slice Ac nc cc) := hXc1.cell 0
      have c1 : w1.cell? ⟨w.heap.size + 1 + 1, 1, none⟩ = some (.int .i64 tc) := hXc1.cell 1
      have lt_a := hXa1.lt
      have lt_b := hXb1.lt
      have lt_c := hXc1.lt
      go_wp2
      go_ret
      exact ⟨rfl, hB0.trans (hB.mono hs0)⟩
  · have hn1 : na ≤ 50 := by omega
    have hn2 : nb ≤ 50 := by omega
    have hn3 : nc ≤ 50 := by omega
    clear hn
    have ga : decide ((na : Int) > 50) = false := decide_eq_false (by omega)
    have gb : decide ((nb : Int) > 50) = false := decide_eq_false (by omega)
    have gc : decide ((nc : Int) > 50) = false := decide_eq_false (by omega)
    have HN : Hid (na ≤ 50 ∧ nb ≤ 50 ∧ nc ≤ 50) := ⟨hn1, hn2, hn3⟩
    go_enter Try.func5, Try.ntmps5
    go_wp2_with fail
    generalize ((w.alloc (.cells #[.slice Aa na ca, .int .i64 ta] 25)).alloc (.cells #[.slice Ab nb cb, .int .i64 tb] 25)).alloc (.cells #[.slice Ac nc cc, .int .i64 tc] 25) = w0 at *
    refine (small13_any _).mono ?_
    rintro e w1 ⟨rfl, hB⟩
    have hXa1 := hXa.below hB hXa.lt
    have hXb1 := hXb.below hB hXb.lt
    have hXc1 := hXc.below hB hXc.lt
    have a0 : w1.cell? ⟨w.heap.size, 0, none⟩ = some (.slice Aa na ca) := hXa1.cell 0
    have a1 : w1.cell? ⟨w.heap.size, 1, none⟩ = some (.int .i64 ta) := hXa1.cell 1
    have b0 : w1.cell? ⟨w.heap.size + 1, 0, none⟩ = some (.slice Ab nb cb) := hXb1.cell 0
    have b1 : w1.cell? ⟨w.heap.size + 1, 1, none⟩ = some (.int .i64 tb) := hXb1.cell 1
    have c0 : w1.cell? ⟨w.heap.size + 1 + 1, 0, none⟩ = some (.slice Ac nc cc) := hXc1.cell 0
    have c1 : w1.cell? ⟨w.heap.size + 1 + 1, 1, none⟩ = some (.int .i64 tc) := hXc1.cell 1
    have lt_a := hXa1.lt
    have lt_b := hXb1.lt
    have lt_c := hXc1.lt
    have hra : Hid (RV w1 (.agg #[.slice Aa na ca, .int .i64 ta]) (da, ta)) := (show RV w0 (.agg #[.slice Aa na ca, .int .i64 ta]) (da, ta) from ⟨_, _, _, rfl, HL.out.1, by show na ≤ 1000000; omega, ha⟩).below hB
    have hrb : Hid (RV w1 (.agg #[.slice Ab nb cb, .int .i64 tb]) (db, tb)) := (show RV w0 (.agg #[.slice Ab nb cb, .int .i64 tb]) (db, tb) from ⟨_, _, _, rfl, HL.out.2.1, by show nb ≤ 1000000; omega, hb⟩).below hB
    have hrc : Hid (RV w1 (.agg #[.slice Ac nc cc, .int .i64 tc]) (dc, tc)) := (show RV w0 (.agg #[.slice Ac nc cc, .int .i64 tc]) (dc, tc) from ⟨_, _, _, rfl, HL.out.2.2, by show nc ≤ 1000000; omega, hc⟩).below hB
    have HB := Lib.hid (hB0.trans (hB.mono hs0))
    clear ha hb hc hB0 hXa hXb hXc hs0 hB hn1 hn2 hn3 HN HL
    all_goals
      go_upto_region 4 with fail
      generalize hDD : w.heap.size = bA at *
      go_wp2_with fail
      refine (cmpV hra.out hrb.out _ E1.out).mono ?_
      rintro e w4 ⟨rfl, hb⟩
      replace hXa1 := hXa1.below hb hXa1.lt
      replace hXb1 := hXb1.below hb hXb1.lt
      replace hXc1 := hXc1.below hb hXc1.lt
      replace hra := Lib.hid (hra.out.below hb)
      replace hrb := Lib.hid (hrb.out.below hb)
      replace hrc := Lib.hid (hrc.out.below hb)
      clear a0 a1 b0 b1 c0 c1 lt_a lt_b lt_c
      have a0 : w4.cell? ⟨bA, 0, none⟩ = some (.slice Aa na ca) := hXa1.cell 0
      have a1 : w4.cell? ⟨bA, 1, none⟩ = some (.int .i64 ta) := hXa1.cell 1
      have b0 : w4.cell? ⟨bA + 1, 0, none⟩ = some (.slice Ab nb cb) := hXb1.cell 0
      have b1 : w4.cell? ⟨bA + 1, 1, none⟩ = some (.int .i64 tb) := hXb1.cell 1
      have c0 : w4.cell? ⟨bA + 1 + 1, 0, none⟩ = some (.slice Ac nc cc) := hXc1.cell 0
      have c1 : w4.cell? ⟨bA + 1 + 1, 1, none⟩ = some (.int .i64 tc) := hXc1.cell 1
      have lt_a := hXa1.lt
      have lt_b := hXb1.lt
      have lt_c := hXc1.lt
      replace HB := Lib.hid (HB.out.trans (hb.mono (by have := HB.out.size; omega)))
      clear hb
      go_wp2_with fail
      refine (cmpV hrb.out hrc.out _ E2.out).mono ?_
      rintro e w5 ⟨rfl, hb⟩
      replace hXa1 := hXa1.below hb hXa1.lt
      replace hXb1 := hXb1.below hb hXb1.lt
      replace hXc1 := hXc1.below hb hXc1.lt
      replace hra := Lib.hid (hra.out.below hb)
      replace hrb := Lib.hid (hrb.out.below hb)
      replace hrc := Lib.hid (hrc.out.below hb)
      clear a0 a1 b0 b1 c0 c1 lt_a lt_b lt_c
      have a0 : w5.cell? ⟨bA, 0, none⟩ = some (.slice Aa na ca) := hXa1.cell 0
      have a1 : w5.cell? ⟨bA, 1, none⟩ = some (.int .i64 ta) := hXa1.cell 1
      have b0 : w5.cell? ⟨bA + 1, 0, none⟩ = some (.slice Ab nb cb) := hXb1.cell 0
      have b1 : w5.cell? ⟨bA + 1, 1, none⟩ = some (.int .i64 tb) := hXb1.cell 1
      have c0 : w5.cell? ⟨bA + 1 + 1, 0, none⟩ = some (.slice Ac nc cc) := hXc1.cell 0
      have c1 : w5.cell? ⟨bA + 1 + 1, 1, none⟩ = some (.int .i64 tc) := hXc1.cell 1
      have lt_a := hXa1.lt
      have lt_b := hXb1.lt
      have lt_c := hXc1.lt
      replace HB := Lib.hid (HB.out.trans (hb.mono (by have := HB.out.size; omega)))
      clear hb
      go_wp2_with fail
      refine (cmpV hra.out hrc.out _ E3.out).mono ?_
      rintro e w6 ⟨rfl, hb⟩
      replace hXa1 := hXa1.below hb hXa1.lt
      replace hXb1 := hXb1.below hb hXb1.lt
      replace hXc1 := hXc1.below hb hXc1.lt
      replace hra := Lib.hid (hra.out.below hb)
      replace hrb := Lib.hid (hrb.out.below hb)
      replace hrc := Lib.hid (hrc.out.below hb)
      clear a0 a1 b0 b1 c0 c1 lt_a lt_b lt_c
      have a0 : w6.cell? ⟨bA, 0, none⟩ = some (.slice Aa na ca) := hXa1.cell 0
      have a1 : w6.cell? ⟨bA, 1, none⟩ = some (.int .i64 ta) := hXa1.cell 1
      have b0 : w6.cell? ⟨bA + 1, 0, none⟩ = some (.slice Ab nb cb) := hXb1.cell 0
      have b1 : w6.cell? ⟨bA + 1, 1, none⟩ = some (.int .i64 tb) := hXb1.cell 1
      have c0 : w6.cell? ⟨bA + 1 + 1, 0, none⟩ = some (.slice Ac nc cc) := hXc1.cell 0
      have c1 : w6.cell? ⟨bA + 1 + 1, 1, none⟩ = some (.int .i64 tc) := hXc1.cell 1
      have lt_a := hXa1.lt
      have lt_b := hXb1.lt
      have lt_c := hXc1.lt
      replace HB := Lib.hid (HB.out.trans (hb.mono (by have := HB.out.size; omega)))
      clear hb
      go_upto_region 7 with fail
      have QA := Lib.hid (fun d os => hra.out.regrown d os)
      have QB := Lib.hid (fun d os => hrb.out.regrown d os)
      have q_a0 := fun d os => cell_regrown a0 d os
      have q_a1 := fun d os => cell_regrown a1 d os
      have q_b0 := fun d os => cell_regrown b0 d os
      have q_b1 := fun d os => cell_regrown b1 d os
      have q_c0 := fun d os => cell_regrown c0 d os
      have q_c1 := fun d os => cell_regrown c1 d os
      try simp only [List.append]
      first | refine wp_region_text_below ?_ | refine wp_region_quiet_below (by kernel_rfl) (by kernel_rfl) ?_
      repeat (go_big_quiet_step ((first | (go_at_call 17; first | with_reducible exact Calls.regrown_of (cmpV (QB.out _ _) (QA.out _ _) _ E4.out) | with_reducible exact Calls.regrown_of (cmpV (QA.out _ _) (QA.out _ _) _ E7.out)) | (go_at_call 19; with_reducible exact Calls.regrown_of (lessV (QA.out _ _) (QB.out _ _) true (by rw [E1.out]; decide))))))
      refine wpQuiet_nil ?_
      intro _ hqw
      obtain ⟨pq, hqw⟩ := hqw
      subst hqw
      go_wp2
      go_ret
      exact ⟨rfl, by rw [hDD]; exact (HB.out.trans ((below_regrown _ _ _).mono (by have := HB.out.size; omega)))⟩
set_option maxHeartbeats 100000000 in
set_option maxRecDepth 100000 in
theorem orderOne_k5 (Aa : Option Addr) (na ca : Nat) (da : List Hp) (ta : Int) (Ab : Option Addr) (nb cb : Nat) (db : List Hp) (tb : Int) (Ac : Option Addr) (nc cc : Nat) (dc : List Hp) (tc : Int) (hda : da.length = na) (hdb : db.length = nb) (hdc : dc.length = nc) (w : World) (ha : Sl w w.heap.size 3 Aa na ca (flatHp da)) (hb : Sl w w.heap.size 3 Ab nb cb (flatHp db)) (hc : Sl w w.heap.size 3 Ac nc cc (flatHp dc)) (E1 : Hid (cmpR ta da tb db = -1)) (E2 : Hid (cmpR tb db tc dc = 1)) (E3 : Hid (cmpR ta da tc dc = 0)) (E4 : Hid (cmpR tb db ta da = 1)) (E7 : Hid (cmpR ta da ta da = 0)) :
    Calls Try.prog 5 #[.agg #[.slice Aa na ca, .int .i64 ta], .agg #[.slice Ab nb cb, .int .i64 tb], .agg #[.slice Ac nc cc, .int .i64 tc]] w fun e w' => e = .returned (.bool true) ∧ Below w.heap.size w w' := by
  have hB0 : Below w.heap.size w (((w.alloc (.cells #[.slice Aa na ca, .int .i64 ta] 25)).alloc (.cells #[.slice Ab nb cb, .int .i64 tb] 25)).alloc (.cells #[.slice Ac nc cc, .int .i64 tc] 25)) := by (repeat (first | exact Below.refl _ _ | refine Below.alloc ?_ (by first | omega | (simp; done) | (simp; omega)) _ | refine Below.setCell ?_ (by first | omega | (simp; done) | (simp; omega)) _ | refine Below.drew ?_))
  have hXa := ((Blok.new w 25 #[.slice Aa na ca, .int .i64 ta]).alloc (.cells #[.slice Ab nb cb, .int .i64 tb] 25)).alloc (.cells #[.slice Ac nc cc, .int .i64 tc] 25)
  have hXb := (Blok.new (w.alloc (.cells #[.slice Aa na ca, .int .i64 ta] 25)) 25 #[.slice Ab nb cb, .int .i64 tb]).alloc (.cells #[.slice Ac nc cc, .int .i64 tc] 25)
  simp only [World.size_alloc] at hXb
  have hXc := Blok.new ((w.alloc (.cells #[.slice Aa na ca, .int .i64 ta] 25)).alloc (.cells #[.slice Ab nb cb, .int .i64 tb] 25)) 25 #[.slice Ac nc cc, .int .i64 tc]
  simp only [World.size_alloc] at hXc
  replace ha := ha.up hB0
  replace hb := hb.up hB0
  replace hc := hc.up hB0
  have hs0 := hB0.size
  have HL : Hid (da.length = na ∧ db.length = nb ∧ dc.length = nc) := ⟨hda, hdb, hdc⟩
  clear hda hdb hdc
  by_cases hn : 50 < na ∨ 50 < nb ∨ 50 < nc
  · have hn' : 50 < na ∨ (na ≤ 50 ∧ 50 < nb) ∨ (na ≤ 50 ∧ nb ≤ 50 ∧ 50 < nc) := by omega
    clear hn
    rcases hn' with hn | ⟨hn, hn2⟩ | ⟨hn, hn2, hn3⟩
    all_goals
      go_enter Try.func5, Try.ntmps5
      go_wp2_with fail
      generalize ((w.alloc (.cells #[.slice Aa na ca, .int .i64 ta] 25)).alloc (.cells #[.slice Ab nb cb, .int .i64 tb] 25)).alloc (.cells #[.slice Ac nc cc, .int .i64 tc] 25) = w0 at *
      refine (small13_any _).mono ?_
      rintro e w1 ⟨rfl, hB⟩
      have hXa1 := hXa.below hB hXa.lt
      have hXb1 := hXb.below hB hXb.lt
      have hXc1 := hXc.below hB hXc.lt
      have a0 : w1.cell? ⟨w.heap.size, 0, none⟩ = some (.slice Aa na ca) := hXa1.cell 0
      have a1 : w1.cell? ⟨w.heap.size, 1, none⟩ = some (.int .i64 ta) := hXa1.cell 1
      have b0 : w1.cell? ⟨w.heap.size + 1, 0, none⟩ = some (.slice Ab nb cb) := hXb1.cell 0
      have b1 : w1.cell? ⟨w.heap.size + 1, 1, none⟩ = some (.int .i64 tb) := hXb1.cell 1
      have c0 : w1.cell? ⟨w.heap.size + 1 + 1, 0, none⟩ = some (.slice Ac nc cc) := hXc1.cell 0
      have c1 : w1.cell? ⟨w.heap.size + 1 + 1, 1, none⟩ = some (.int .i64 tc) := hXc1.cell 1
      have lt_a := hXa1.lt
      have lt_b := hXb1.lt
      have lt_c := hXc1.lt
      go_wp2
      go_ret
      exact ⟨rfl, hB0.trans (hB.mono hs0)⟩
  · have hn1 : na ≤ 50 := by omega
    have hn2 : nb ≤ 50 := by omega
    have hn3 : nc ≤ 50 := by omega
    clear hn
    have ga : decide ((na : Int) > 50) = false := decide_eq_false (by omega)
    have gb : decide ((nb : Int) > 50) = false := decide_eq_false (by omega)
    have gc : decide ((nc : Int) > 50) = false := decide_eq_false (by omega)
    have HN : Hid (na ≤ 50 ∧ nb ≤ 50 ∧ nc ≤ 50) := ⟨hn1, hn2, hn3⟩
    go_enter Try.func5, Try.ntmps5
    go_wp2_with fail
    generalize ((w.alloc (.cells #[.slice Aa na ca, .int .i64 ta] 25)).alloc (.cells #[.slice Ab nb cb, .int .i64 tb] 25)).alloc (.cells #[.slice Ac nc cc, .int .i64 tc] 25) = w0 at *
    refine (small13_any _).mono ?_
    rintro e w1 ⟨rfl, hB⟩
    have hXa1 := hXa.below hB hXa.lt
    have hXb1 := hXb.below hB hXb.lt
    have hXc1 := hXc.below hB hXc.lt
    have a0 : w1.cell? ⟨w.heap.size, 0, none⟩ = some (.slice Aa na ca) := hXa1.cell 0
    have a1 : w1.cell? ⟨w.heap.size, 1, none⟩ = some (.int .i64 ta) := hXa1.cell 1
    have b0 : w1.cell? ⟨w.heap.size + 1, 0, none⟩ = some (.slice Ab nb cb) := hXb1.cell 0
    have b1 : w1.cell? ⟨w.heap.size + 1, 1, none⟩ = some (.int .i64 tb) := hXb1.cell 1
    have c0 : w1.cell? ⟨w.heap.size + 1 + 1, 0, none⟩ = some (.slice Ac nc cc) := hXc1.cell 0
    have c1 : w1.cell? ⟨w.heap.size + 1 + 1, 1, none⟩ = some (.int .i64 tc) := hXc1.cell 1
    have lt_a := hXa1.lt
    have lt_b := hXb1.lt
    have lt_c := hXc1.lt
    have hra : Hid (RV w1 (.agg #[.slice Aa na ca, .int .i64 ta]) (da, ta)) := (show RV w0 (.agg #[.slice Aa na ca, .int .i64 ta]) (da, ta) from ⟨_, _, _, rfl, HL.out.1, by show na ≤ 1000000; omega, ha⟩).below hB
    have hrb : Hid (RV w1 (.agg #[.slice Ab nb cb, .int .i64 tb]) (db, tb)) := (show RV w0 (.agg #[.slice Ab nb cb, .int .i64 tb]) (db, tb) from ⟨_, _, _, rfl, HL.out.2.1, by show nb ≤ 1000000; omega, hb⟩).below hB
    have hrc : Hid (RV w1 (.agg #[.slice Ac nc cc, .int .i64 tc]) (dc, tc)) := (show RV w0 (.agg #[.slice Ac nc cc, .int .i64 tc]) (dc, tc) from ⟨_, _, _, rfl, HL.out.2.2, by show nc ≤ 1000000; omega, hc⟩).below hB
    have HB := Lib.hid (hB0.trans (hB.mono hs0))
    clear ha hb hc hB0 hXa hXb hXc hs0 hB hn1 hn2 hn3 HN HL
    all_goals
      go_upto_region 4 with fail
      generalize hDD : w.heap.size = bA at *
      go_wp2_with fail
      refine (cmpV hra.out hrb.out _ E1.out).mono ?_
      rintro e w4 ⟨rfl, hb⟩
      replace hXa1 := hXa1.below hb hXa1.lt
      replace hXb1 := hXb1.below hb hXb1.lt
      replace hXc1 := hXc1.below hb hXc1.lt
      replace hra := Lib.hid (hra.out.below hb)
      replace hrb := Lib.hid (hrb.out.below hb)
      replace hrc := Lib.hid (hrc.out.below hb)
      clear a0 a1 b0 b1 c0 c1 lt_a lt_b lt_c
      have a0 : w4.cell? ⟨bA, 0, none⟩ = some (.slice Aa na ca) := hXa1.cell 0
      have a1 : w4.cell? ⟨bA, 1, none⟩ = some (.int .i64 ta) := hXa1.cell 1
      have b0 : w4.cell? ⟨bA + 1, 0, none⟩ = some (.slice Ab nb cb) := hXb1.cell 0
      have b1 : w4.cell? ⟨bA + 1, 1, none⟩ = some (.int .i64 tb) := hXb1.cell 1
      have c0 : w4.cell? ⟨bA + 1 + 1, 0, none⟩ = some (.slice Ac nc cc) := hXc1.cell 0
      have c1 : w4.cell? ⟨bA + 1 + 1, 1, none⟩ = some (.int .i64 tc) := hXc1.cell 1
      have lt_a := hXa1.lt
      have lt_b := hXb1.lt
      have lt_c := hXc1.lt
      replace HB := Lib.hid (HB.out.trans (hb.mono (by have := HB.out.size; omega)))
      clear hb
      go_wp2_with fail
      refine (cmpV hrb.out hrc.out _ E2.out).mono ?_
      rintro e w5 ⟨rfl, hb⟩
      replace hXa1 := hXa1.below hb hXa1.lt
      replace hXb1 := hXb1.below hb hXb1.lt
      replace hXc1 := hXc1.below hb hXc1.lt
      replace hra := Lib.hid (hra.out.below hb)
      replace hrb := Lib.hid (hrb.out.below hb)
      replace hrc := Lib.hid (hrc.out.below hb)
      clear a0 a1 b0 b1 c0 c1 lt_a lt_b lt_c
      have a0 : w5.cell? ⟨bA, 0, none⟩ = some (.slice Aa na ca) := hXa1.cell 0
      have a1 : w5.cell? ⟨bA, 1, none⟩ = some (.int .i64 ta) := hXa1.cell 1
      have b0 : w5.cell? ⟨bA + 1, 0, none⟩ = some (.slice Ab nb cb) := hXb1.cell 0
      have b1 : w5.cell? ⟨bA + 1, 1, none⟩ = some (.int .i64 tb) := hXb1.cell 1
      have c0 : w5.cell? ⟨bA + 1 + 1, 0, none⟩ = some (.slice Ac nc cc) := hXc1.cell 0
      have c1 : w5.cell? ⟨bA + 1 + 1, 1, none⟩ = some (.int .i64 tc) := hXc1.cell 1
      have lt_a := hXa1.lt
      have lt_b := hXb1.lt
      have lt_c := hXc1.lt
      replace HB := Lib.hid (HB.out.trans (hb.mono (by have := HB.out.size; omega)))
      clear hb
      go_wp2_with fail
      refine (cmpV hra.out hrc.out _ E3.out).mono ?_
      rintro e w6 ⟨rfl, hb⟩
      replace hXa1 := hXa1.below hb hXa1.lt
      replace hXb1 := hXb1.below hb hXb1.lt
      replace hXc1 := hXc1.below hb hXc1.lt
      replace hra := Lib.hid (hra.out.below hb)
      replace hrb := Lib.hid (hrb.out.below hb)
      replace hrc := Lib.hid (hrc.out.below hb)
      clear a0 a1 b0 b1 c0 c1 lt_a lt_b lt_c
      have a0 : w6.cell? ⟨bA, 0, none⟩ = some (.slice Aa na ca) := hXa1.cell 0
      have a1 : w6.cell? ⟨bA, 1, none⟩ = some (.int .i64 ta) := hXa1.cell 1
      have b0 : w6.cell? ⟨bA + 1, 0, none⟩ = some (.slice Ab nb cb) := hXb1.cell 0
      have b1 : w6.cell? ⟨bA + 1, 1, none⟩ = some (.int .i64 tb) := hXb1.cell 1
      have c0 : w6.cell? ⟨bA + 1 + 1, 0, none⟩ = some (.slice Ac nc cc) := hXc1.cell 0
      have c1 : w6.cell? ⟨bA + 1 + 1, 1, none⟩ = some (.int .i64 tc) := hXc1.cell 1
      have lt_a := hXa1.lt
      have lt_b := hXb1.lt
      have lt_c := hXc1.lt
      replace HB := Lib.hid (HB.out.trans (hb.mono (by have := HB.out.size; omega)))
      clear hb
      go_upto_region 7 with fail
      have QA := Lib.hid (fun d os => hra.out.regrown d os)
      have QB := Lib.hid (fun d os => hrb.out.regrown d os)
      have q_a0 := fun d os => cell_regrown a0 d os
      have q_a1 := fun d os => cell_regrown a1 d os
      have q_b0 := fun d os => cell_regrown b0 d os
      have q_b1 := fun d os => cell_regrown b1 d os
      have q_c0 := fun d os => cell_regrown c0 d os
      have q_c1 := fun d os => cell_regrown c1 d os
      try simp only [List.append]
      first | refine wp_region_text_below ?_ | refine wp_region_quiet_below (by kernel_rfl) (by kernel_rfl) ?_
      repeat (go_big_quiet_step ((first | (go_at_call 17; first | with_reducible exact Calls.regrown_of (cmpV (QB.out _ _) (QA.out _ _) _ E4.out) | with_reducible exact Calls.regrown_of (cmpV (QA.out _ _) (QA.out _ _) _ E7.out)) | (go_at_call 19; with_reducible exact Calls.regrown_of (lessV (QA.out _ _) (QB.out _ _) true (by rw [E1.out]; decide))))))
      refine wpQuiet_nil ?_
      intro _ hqw
      obtain ⟨pq, hqw⟩ := hqw
      subst hqw
      go_wp2
      go_ret
      exact ⟨rfl, by rw [hDD]; exact (HB.out.trans ((below_regrown _ _ _).mono (by have := HB.out.size; omega)))⟩
set_option maxHeartbeats 100000000 in
set_option maxRecDepth 100000 in
theorem orderOne_k6 (Aa : Option Addr) (na ca : Nat) (da : List Hp) (ta : Int) (Ab : Option Addr) (nb cb : Nat) (db : List Hp) (tb : Int) (Ac : Option Addr) (nc cc : Nat) (dc : List Hp) (tc : Int) (hda : da.length = na) (hdb : db.length = nb) (hdc : dc.length = nc) (w : World) (ha : Sl w w.heap.size 3 Aa na ca (flatHp da)) (hb : Sl w w.heap.size 3 Ab nb cb (flatHp db)) (hc : Sl w w.heap.size 3 Ac nc cc (flatHp dc)) (E1 : Hid (cmpR ta da tb db = -1)) (E2 : Hid (cmpR tb db tc dc = 1)) (E3 : Hid (cmpR ta da tc dc = 1)) (E4 : Hid (cmpR tb db ta da = 1)) (E7 : Hid (cmpR ta da ta da = 0)) :
    Calls Try.prog 5 #[.agg #[.slice Aa na ca, .int .i64 ta], .agg #[.slice Ab nb cb, .int .i64 tb], .agg #[.slice Ac nc cc, .int .i64 tc]] w fun e w' => e = .returned (.bool true) ∧ Below w.heap.size w w' := by
  have hB0 : Below w.heap.size w (((w.alloc (.cells #[.slice Aa na ca, .int .i64 ta] 25)).alloc (.cells #[.slice Ab nb cb, .int .i64 tb] 25)).alloc (.cells #[.slice Ac nc cc, .int .i64 tc] 25)) := by (repeat (first | exact Below.refl _ _ | refine Below.alloc ?_ (by first | omega | (simp; done) | (simp; omega)) _ | refine Below.setCell ?_ (by first | omega | (simp; done) | (simp; omega)) _ | refine Below.drew ?_))
  have hXa := ((Blok.new w 25 #[.slice Aa na ca, .int .i64 ta]).alloc (.cells #[.slice Ab nb cb, .int .i64 tb] 25)).alloc (.cells #[.slice Ac nc cc, .int .i64 tc] 25)
  have hXb := (Blok.new (w.alloc (.cells #[.slice Aa na ca, .int .i64 ta] 25)) 25 #[.slice Ab nb cb, .int .i64 tb]).alloc (.cells #[.slice Ac nc cc, .int .i64 tc] 25)
  simp only [World.size_alloc] at hXb
  have hXc := Blok.new ((w.alloc (.cells #[.slice Aa na ca, .int .i64 ta] 25)).alloc (.cells #[.slice Ab nb cb, .int .i64 tb] 25)) 25 #[.slice Ac nc cc, .int .i64 tc]
  simp only [World.size_alloc] at hXc
  replace ha := ha.up hB0
  replace hb := hb.up hB0
  replace hc := hc.up hB0
  have hs0 := hB0.size
  have HL : Hid (da.length = na ∧ db.length = nb ∧ dc.length = nc) := ⟨hda, hdb, hdc⟩
  clear hda hdb hdc
  by_cases hn : 50 < na ∨ 50 < nb ∨ 50 < nc
  · have hn' : 50 < na ∨ (na ≤ 50 ∧ 50 < nb) ∨ (na ≤ 50 ∧ nb ≤ 50 ∧ 50 < nc) := by omega
    clear hn
    rcases hn' with hn | ⟨hn, hn2⟩ | ⟨hn, hn2, hn3⟩
    all_goals
      go_enter Try.func5, Try.ntmps5
      go_wp2_with fail
      generalize ((w.alloc (.cells #[.slice Aa na ca, .int .i64 ta] 25)).alloc (.cells #[.slice Ab nb cb, .int .i64 tb] 25)).alloc (.cells #[.slice Ac nc cc, .int .i64 tc] 25) = w0 at *
      refine (small13_any _).mono ?_
      rintro e w1 ⟨rfl, hB⟩
      have hXa1 := hXa.below hB hXa.lt
      have hXb1 := hXb.below hB hXb.lt
      have hXc1 := hXc.below hB hXc.lt
      have a0 : w1.cell? ⟨w.heap.size, 0, none⟩ = some (.slice Aa na ca) := hXa1.cell 0
      have a1 : w1.cell? ⟨w.heap.size, 1, none⟩ = some (.int .i64 ta) := hXa1.cell 1
      have b0 : w1.cell? ⟨w.heap.size + 1, 0, none⟩ = some (.slice Ab nb cb) := hXb1.cell 0
      have b1 : w1.cell? ⟨w.heap.size + 1, 1, none⟩ = some (.int .i64 tb) := hXb1.cell 1
      have c0 : w1.cell? ⟨w.heap.size + 1 + 1, 0, none⟩ = some (.slice Ac nc cc) := hXc1.cell 0
      have c1 : w1.cell? ⟨w.heap.size + 1 + 1, 1, none⟩ = some (.int .i64 tc) := hXc1.cell 1
      have lt_a := hXa1.lt
      have lt_b := hXb1.lt
      have lt_c := hXc1.lt
      go_wp2
      go_ret
      exact ⟨rfl, hB0.trans (hB.mono hs0)⟩
  · have hn1 : na ≤ 50 := by omega
    have hn2 : nb ≤ 50 := by omega
    have hn3 : nc ≤ 50 := by omega
    clear hn
    have ga : decide ((na : Int) > 50) = false := decide_eq_false (by omega)
    have gb : decide ((nb : Int) > 50) = false := decide_eq_false (by omega)
    have gc : decide ((nc : Int) > 50) = false := decide_eq_false (by omega)
    have HN : Hid (na ≤ 50 ∧ nb ≤ 50 ∧ nc ≤ 50) := ⟨hn1, hn2, hn3⟩
    go_enter Try.func5, Try.ntmps5
    go_wp2_with fail
    generalize ((w.alloc (.cells #[.slice Aa na ca, .int .i64 ta] 25)).alloc (.cells #[.slice Ab nb cb, .int .i64 tb] 25)).alloc (.cells #[.slice Ac nc cc, .int .i64 tc] 25) = w0 at *
    refine (small13_any _).mono ?_
    rintro e w1 ⟨rfl, hB⟩
    have hXa1 := hXa.below hB hXa.lt
    have hXb1 := hXb.below hB hXb.lt
    have hXc1 := hXc.below hB hXc.lt
    have a0 : w1.cell? ⟨w.heap.size, 0, none⟩ = some (.slice Aa na ca) := hXa1.cell 0
    have a1 : w1.cell? ⟨w.heap.size, 1, none⟩ = some (.int .i64 ta) := hXa1.cell 1
    have b0 : w1.cell? ⟨w.heap.size + 1, 0, none⟩ = some (.slice Ab nb cb) := hXb1.cell 0
    have b1 : w1.cell? ⟨w.heap.size + 1, 1, none⟩ = some (.int .i64 tb) := hXb1.cell 1
    have c0 : w1.cell? ⟨w.heap.size + 1 + 1, 0, none⟩ = some (.slice Ac nc cc) := hXc1.cell 0
    have c1 : w1.cell? ⟨w.heap.size + 1 + 1, 1, none⟩ = some (.int .i64 tc) := hXc1.cell 1
    have lt_a := hXa1.lt
    have lt_b := hXb1.lt
    have lt_c := hXc1.lt
    have hra : Hid (RV w1 (.agg #[.slice Aa na ca, .int .i64 ta]) (da, ta)) := (show RV w0 (.agg #[.slice Aa na ca, .int .i64 ta]) (da, ta) from ⟨_, _, _, rfl, HL.out.1, by show na ≤ 1000000; omega, ha⟩).below hB
    have hrb : Hid (RV w1 (.agg #[.slice Ab nb cb, .int .i64 tb]) (db, tb)) := (show RV w0 (.agg #[.slice Ab nb cb, .int .i64 tb]) (db, tb) from ⟨_, _, _, rfl, HL.out.2.1, by show nb ≤ 1000000; omega, hb⟩).below hB
    have hrc : Hid (RV w1 (.agg #[.slice Ac nc cc, .int .i64 tc]) (dc, tc)) := (show RV w0 (.agg #[.slice Ac nc cc, .int .i64 tc]) (dc, tc) from ⟨_, _, _, rfl, HL.out.2.2, by show nc ≤ 1000000; omega, hc⟩).below hB
    have HB := Lib.hid (hB0.trans (hB.mono hs0))
    clear ha hb hc hB0 hXa hXb hXc hs0 hB hn1 hn2 hn3 HN HL
    all_goals
      go_upto_region 4 with fail
      generalize hDD : w.heap.size = bA at *
      go_wp2_with fail
      refine (cmpV hra.out hrb.out _ E1.out).mono ?_
      rintro e w4 ⟨rfl, hb⟩
      replace hXa1 := hXa1.below hb hXa1.lt
      replace hXb1 := hXb1.below hb hXb1.lt
      replace hXc1 := hXc1.below hb hXc1.lt
      replace hra := Lib.hid (hra.out.below hb)
      replace hrb := Lib.hid (hrb.out.below hb)
      replace hrc := Lib.hid (hrc.out.below hb)
      clear a0 a1 b0 b1 c0 c1 lt_a lt_b lt_c
      have a0 : w4.cell? ⟨bA, 0, none⟩ = some (.slice Aa na ca) := hXa1.cell 0
      have a1 : w4.cell? ⟨bA, 1, none⟩ = some (.int .i64 ta) := hXa1.cell 1
      have b0 : w4.cell? ⟨bA + 1, 0, none⟩ = some (.slice Ab nb cb) := hXb1.cell 0
      have b1 : w4.cell? ⟨bA + 1, 1, none⟩ = some (.int .i64 tb) := hXb1.cell 1
      have c0 : w4.cell? ⟨bA + 1 + 1, 0, none⟩ = some (.slice Ac nc cc) := hXc1.cell 0
      have c1 : w4.cell? ⟨bA + 1 + 1, 1, none⟩ = some (.int .i64 tc) := hXc1.cell 1
      have lt_a := hXa1.lt
      have lt_b := hXb1.lt
      have lt_c := hXc1.lt
      replace HB := Lib.hid (HB.out.trans (hb.mono (by have := HB.out.size; omega)))
      clear hb
      go_wp2_with fail
      refine (cmpV hrb.out hrc.out _ E2.out).mono ?_
      rintro e w5 ⟨rfl, hb⟩
      replace hXa1 := hXa1.below hb hXa1.lt
      replace hXb1 := hXb1.below hb hXb1.lt
      replace hXc1 := hXc1.below hb hXc1.lt
      replace hra := Lib.hid (hra.out.below hb)
      replace hrb := Lib.hid (hrb.out.below hb)
      replace hrc := Lib.hid (hrc.out.below hb)
      clear a0 a1 b0 b1 c0 c1 lt_a lt_b lt_c
      have a0 : w5.cell? ⟨bA, 0, none⟩ = some (.slice Aa na ca) := hXa1.cell 0
      have a1 : w5.cell? ⟨bA, 1, none⟩ = some (.int .i64 ta) := hXa1.cell 1
      have b0 : w5.cell? ⟨bA + 1, 0, none⟩ = some (.slice Ab nb cb) := hXb1.cell 0
      have b1 : w5.cell? ⟨bA + 1, 1, none⟩ = some (.int .i64 tb) := hXb1.cell 1
      have c0 : w5.cell? ⟨bA + 1 + 1, 0, none⟩ = some (.slice Ac nc cc) := hXc1.cell 0
      have c1 : w5.cell? ⟨bA + 1 + 1, 1, none⟩ = some (.int .i64 tc) := hXc1.cell 1
      have lt_a := hXa1.lt
      have lt_b := hXb1.lt
      have lt_c := hXc1.lt
      replace HB := Lib.hid (HB.out.trans (hb.mono (by have := HB.out.size; omega)))
      clear hb
      go_wp2_with fail
      refine (cmpV hra.out hrc.out _ E3.out).mono ?_
      rintro e w6 ⟨rfl, hb⟩
      replace hXa1 := hXa1.below hb hXa1.lt
      replace hXb1 := hXb1.below hb hXb1.lt
      replace hXc1 := hXc1.below hb hXc1.lt
      replace hra := Lib.hid (hra.out.below hb)
      replace hrb := Lib.hid (hrb.out.below hb)
      replace hrc := Lib.hid (hrc.out.below hb)
      clear a0 a1 b0 b1 c0 c1 lt_a lt_b lt_c
      have a0 : w6.cell? ⟨bA, 0, none⟩ = some (.slice Aa na ca) := hXa1.cell 0
      have a1 : w6.cell? ⟨bA, 1, none⟩ = some (.int .i64 ta) := hXa1.cell 1
      have b0 : w6.cell? ⟨bA + 1, 0, none⟩ = some (.slice Ab nb cb) := hXb1.cell 0
      have b1 : w6.cell? ⟨bA + 1, 1, none⟩ = some (.int .i64 tb) := hXb1.cell 1
      have c0 : w6.cell? ⟨bA + 1 + 1, 0, none⟩ = some (.slice Ac nc cc) := hXc1.cell 0
      have c1 : w6.cell? ⟨bA + 1 + 1, 1, none⟩ = some (.int .i64 tc) := hXc1.cell 1
      have lt_a := hXa1.lt
      have lt_b := hXb1.lt
      have lt_c := hXc1.lt
      replace HB := Lib.hid (HB.out.trans (hb.mono (by have := HB.out.size; omega)))
      clear hb
      go_upto_region 7 with fail
      have QA := Lib.hid (fun d os => hra.out.regrown d os)
      have QB := Lib.hid (fun d os => hrb.out.regrown d os)
      have q_a0 := fun d os => cell_regrown a0 d os
      have q_a1 := fun d os => cell_regrown a1 d os
      have q_b0 := fun d os => cell_regrown b0 d os
      have q_b1 := fun d os => cell_regrown b1 d os
      have q_c0 := fun d os => cell_regrown c0 d os
      have q_c1 := fun d os => cell_regrown c1 d os
      try simp only [List.append]
      first | refine wp_region_text_below ?_ | refine wp_region_quiet_below (by kernel_rfl) (by kernel_rfl) ?_
      repeat (go_big_quiet_step ((first | (go_at_call 17; first | with_reducible exact Calls.regrown_of (cmpV (QB.out _ _) (QA.out _ _) _ E4.out) | with_reducible exact Calls.regrown_of (cmpV (QA.out _ _) (QA.out _ _) _ E7.out)) | (go_at_call 19; with_reducible exact Calls.regrown_of (lessV (QA.out _ _) (QB.out _ _) true (by rw [E1.out]; decide))))))
      refine wpQuiet_nil ?_
      intro _ hqw
      obtain ⟨pq, hqw⟩ := hqw
      subst hqw
      go_wp2
      go_ret
      exact ⟨rfl, by rw [hDD]; exact (HB.out.trans ((below_regrown _ _ _).mono (by have := HB.out.size; omega)))⟩
set_option maxHeartbeats 100000000 in
set_option maxRecDepth 100000 in
theorem orderOne_k7 (Aa : Option Addr) (na ca : Nat) (da : List Hp) (ta : Int) (Ab : Option Addr) (nb cb : Nat) (db : List Hp) (tb : Int) (Ac : Option Addr) (nc cc : Nat) (dc : List Hp) (tc : Int) (hda : da.length = na) (hdb : db.length = nb) (hdc : dc.length = nc) (w : World) (ha : Sl w w.heap.size 3 Aa na ca (flatHp da)) (hb : Sl w w.heap.size 3 Ab nb cb (flatHp db)) (hc : Sl w w.heap.size 3 Ac nc cc (flatHp dc)) (E1 : Hid (cmpR ta da tb db = 0)) (E2 : Hid (cmpR tb db tc dc = -1)) (E3 : Hid (cmpR ta da tc dc = -1)) (E4 : Hid (cmpR tb db ta da = 0)) (E7 : Hid (cmpR ta da ta da = 0)) :
    Calls Try.prog 5 #[.agg #[.slice Aa na ca, .int .i64 ta], .agg #[.slice Ab nb cb, .int .i64 tb], .agg #[.slice Ac nc cc, .int .i64 tc]] w fun e w' => e = .returned (.bool true) ∧ Below w.heap.size w w' := by
  have hB0 : Below w.heap.size w (((w.alloc (.cells #[.slice Aa na ca, .int .i64 ta] 25)).alloc (.cells #[.slice Ab nb cb, .int .i64 tb] 25)).alloc (.cells #[.slice Ac nc cc, .int .i64 tc] 25)) := by (repeat (first | exact Below.refl _ _ | refine Below.alloc ?_ (by first | omega | (simp; done) | (simp; omega)) _ | refine Below.setCell ?_ (by first | omega | (simp; done) | (simp; omega)) _ | refine Below.drew ?_))
  have hXa := ((Blok.new w 25 #[.slice Aa na ca, .int .i64 ta]).alloc (.cells #[.slice Ab nb cb, .int .i64 tb] 25)).alloc (.cells #[.slice Ac nc cc, .int .i64 tc] 25)
  have hXb := (Blok.new (w.alloc (.cells #[.slice Aa na ca, .int .i64 ta] 25)) 25 #[.slice Ab nb cb, .int .i64 tb]).alloc (.cells #[.slice Ac nc cc, .int .i64 tc] 25)
  simp only [World.size_alloc] at hXb
  have hXc := Blok.new ((w.alloc (.cells #[.slice Aa na ca, .int .i64 ta] 25)).alloc (.cells #[.slice Ab nb cb, .int .i64 tb] 25)) 25 #[.slice Ac nc cc, .int .i64 tc]
  simp only [World.size_alloc] at hXc
  replace ha := ha.up hB0
  replace hb := hb.up hB0
  replace hc := hc.up hB0
  have hs0 := hB0.size
  have HL : Hid (da.length = na ∧ db.length = nb ∧ dc.length = nc) := ⟨hda, hdb, hdc⟩
  clear hda hdb hdc
  by_cases hn : 50 < na ∨ 50 < nb ∨ 50 < nc
  · have hn' : 50 < na ∨ (na ≤ 50 ∧ 50 < nb) ∨ (na ≤ 50 ∧ nb ≤ 50 ∧ 50 < nc) := by omega
    clear hn
    rcases hn' with hn | ⟨hn, hn2⟩ | ⟨hn, hn2, hn3⟩
    all_goals
      go_enter Try.func5, Try.ntmps5
      go_wp2_with fail
      generalize ((w.alloc (.cells #[.slice Aa na ca, .int .i64 ta] 25)).alloc (.cells #[.slice Ab nb cb, .int .i64 tb] 25)).alloc (.cells #[.slice Ac nc cc, .int .i64 tc] 25) = w0 at *
      refine (small13_any _).mono ?_
      rintro e w1 ⟨rfl, hB⟩
      have hXa1 := hXa.below hB hXa.lt
      have hXb1 := hXb.below hB hXb.lt
      have hXc1 := hXc.below hB hXc.lt
      have a0 : w1.cell? ⟨w.heap.size, 0, none⟩ = some (.slice Aa na ca) := hXa1.cell 0
      have a1 : w1.cell? ⟨w.heap.size, 1, none⟩ = some (.int .i64 ta) := hXa1.cell 1
      have b0 : w1.cell? ⟨w.heap.size + 1, 0, none⟩ = some (.slice Ab nb cb) := hXb1.cell 0
      have b1 : w1.cell? ⟨w.heap.size + 1, 1, none⟩ = some (.int .i64 tb) := hXb1.cell 1
      have c0 : w1.cell? ⟨w.heap.size + 1 + 1, 0, none⟩ = some (.slice Ac nc cc) := hXc1.cell 0
      have c1 : w1.cell? ⟨w.heap.size + 1 + 1, 1, none⟩ = some (.int .i64 tc) := hXc1.cell 1
      have lt_a := hXa1.lt
      have lt_b := hXb1.lt
      have lt_c := hXc1.lt
      go_wp2
      go_ret
      exact ⟨rfl, hB0.trans (hB.mono hs0)⟩
  · have hn1 : na ≤ 50 := by omega
    have hn2 : nb ≤ 50 := by omega
    have hn3 : nc ≤ 50 := by omega
    clear hn
    have ga : decide ((na : Int) > 50) = false := decide_eq_false (by omega)
    have gb : decide ((nb : Int) > 50) = false := decide_eq_false (by omega)
    have gc : decide ((nc : Int) > 50) = false := decide_eq_false (by omega)
    have HN : Hid (na ≤ 50 ∧ nb ≤ 50 ∧ nc ≤ 50) := ⟨hn1, hn2, hn3⟩
    go_enter Try.func5, Try.ntmps5
    go_wp2_with fail
    generalize ((w.alloc (.cells #[.slice Aa na ca, .int .i64 ta] 25)).alloc (.cells #[.slice Ab nb cb, .int .i64 tb] 25)).alloc (.cells #[.slice Ac nc cc, .int .i64 tc] 25) = w0 at *
    refine (small13_any _).mono ?_
    rintro e w1 ⟨rfl, hB⟩
    have hXa1 := hXa.below hB hXa.lt
    have hXb1 := hXb.below hB hXb.lt
    have hXc1 := hXc.below hB hXc.lt
    have a0 : w1.cell? ⟨w.heap.size, 0, none⟩ = some (.slice Aa na ca) := hXa1.cell 0
    have a1 : w1.cell? ⟨w.heap.size, 1, none⟩ = some (.int .i64 ta) := hXa1.cell 1
    have b0 : w1.cell? ⟨w.heap.size + 1, 0, none⟩ = some (.slice Ab nb cb) := hXb1.cell 0
    have b1 : w1.cell? ⟨w.heap.size + 1, 1, none⟩ = some (.int .i64 tb) := hXb1.cell 1
    have c0 : w1.cell? ⟨w.heap.size + 1 + 1, 0, none⟩ = some (.slice Ac nc cc) := hXc1.cell 0
    have c1 : w1.cell? ⟨w.heap.size + 1 + 1, 1, none⟩ = some (.int .i64 tc) := hXc1.cell 1
    have lt_a := hXa1.lt
    have lt_b := hXb1.lt
    have lt_c := hXc1.lt
    have hra : Hid (RV w1 (.agg #[.slice Aa na ca, .int .i64 ta]) (da, ta)) := (show RV w0 (.agg #[.slice Aa na ca, .int .i64 ta]) (da, ta) from ⟨_, _, _, rfl, HL.out.1, by show na ≤ 1000000; omega, ha⟩).below hB
    have hrb : Hid (RV w1 (.agg #[.slice Ab nb cb, .int .i64 tb]) (db, tb)) := (show RV w0 (.agg #[.slice Ab nb cb, .int .i64 tb]) (db, tb) from ⟨_, _, _, rfl, HL.out.2.1, by show nb ≤ 1000000; omega, hb⟩).below hB
    have hrc : Hid (RV w1 (.agg #[.slice Ac nc cc, .int .i64 tc]) (dc, tc)) := (show RV w0 (.agg #[.slice Ac nc cc, .int .i64 tc]) (dc, tc) from ⟨_, _, _, rfl, HL.out.2.2, by show nc ≤ 1000000; omega, hc⟩).below hB
    have HB := Lib.hid (hB0.trans (hB.mono hs0))
    clear ha hb hc hB0 hXa hXb hXc hs0 hB hn1 hn2 hn3 HN HL
    all_goals
      go_upto_region 4 with fail
      generalize hDD : w.heap.size = bA at *
      go_wp2_with fail
      refine (cmpV hra.out hrb.out _ E1.out).mono ?_
      rintro e w4 ⟨rfl, hb⟩
      replace hXa1 := hXa1.below hb hXa1.lt
      replace hXb1 := hXb1.below hb hXb1.lt
      replace hXc1 := hXc1.below hb hXc1.lt
      replace hra := Lib.hid (hra.out.below hb)
      replace hrb := Lib.hid (hrb.out.below hb)
      replace hrc := Lib.hid (hrc.out.below hb)
      clear a0 a1 b0 b1 c0 c1 lt_a lt_b lt_c
      have a0 : w4.cell? ⟨bA, 0, none⟩ = some (.slice Aa na ca) := hXa1.cell 0
      have a1 : w4.cell? ⟨bA, 1, none⟩ = some (.int .i64 ta) := hXa1.cell 1
      have b0 : w4.cell? ⟨bA + 1, 0, none⟩ = some (.slice Ab nb cb) := hXb1.cell 0
      have b1 : w4.cell? ⟨bA + 1, 1, none⟩ = some (.int .i64 tb) := hXb1.cell 1
      have c0 : w4.cell? ⟨bA + 1 + 1, 0, none⟩ = some (.slice Ac nc cc) := hXc1.cell 0
      have c1 : w4.cell? ⟨bA + 1 + 1, 1, none⟩ = some (.int .i64 tc) := hXc1.cell 1
      have lt_a := hXa1.lt
      have lt_b := hXb1.lt
      have lt_c := hXc1.lt
      replace HB := Lib.hid (HB.out.trans (hb.mono (by have := HB.out.size; omega)))
      clear hb
      go_wp2_with fail
      refine (cmpV hrb.out hrc.out _ E2.out).mono ?_
      rintro e w5 ⟨rfl, hb⟩
      replace hXa1 := hXa1.below hb hXa1.lt
      replace hXb1 := hXb1.below hb hXb1.lt
      replace hXc1 := hXc1.below hb hXc1.lt
      replace hra := Lib.hid (hra.out.below hb)
      replace hrb := Lib.hid (hrb.out.below hb)
      replace hrc := Lib.hid (hrc.out.below hb)
      clear a0 a1 b0 b1 c0 c1 lt_a lt_b lt_c
      have a0 : w5.cell? ⟨bA, 0, none⟩ = some (.slice Aa na ca) := hXa1.cell 0
      have a1 : w5.cell? ⟨bA, 1, none⟩ = some (.int .i64 ta) := hXa1.cell 1
      have b0 : w5.cell? ⟨bA + 1, 0, none⟩ = some (.slice Ab nb cb) := hXb1.cell 0
      have b1 : w5.cell? ⟨bA + 1, 1, none⟩ = some (.int .i64 tb) := hXb1.cell 1
      have c0 : w5.cell? ⟨bA + 1 + 1, 0, none⟩ = some (.slice Ac nc cc) := hXc1.cell 0
      have c1 : w5.cell? ⟨bA + 1 + 1, 1, none⟩ = some (.int .i64 tc) := hXc1.cell 1
      have lt_a := hXa1.lt
      have lt_b := hXb1.lt
      have lt_c := hXc1.lt
      replace HB := Lib.hid (HB.out.trans (hb.mono (by have := HB.out.size; omega)))
      clear hb
      go_wp2_with fail
      refine (cmpV hra.out hrc.out _ E3.out).mono ?_
      rintro e w6 ⟨rfl, hb⟩
      replace hXa1 := hXa1.below hb hXa1.lt
      replace hXb1 := hXb1.below hb hXb1.lt
      replace hXc1 := hXc1.below hb hXc1.lt
      replace hra := Lib.hid (hra.out.below hb)
      replace hrb := Lib.hid (hrb.out.below hb)
      replace hrc := Lib.hid (hrc.out.below hb)
      clear a0 a1 b0 b1 c0 c1 lt_a lt_b lt_c
      have a0 : w6.cell? ⟨bA, 0, none⟩ = some (.slice Aa na ca) := hXa1.cell 0
      have a1 : w6.cell? ⟨bA, 1, none⟩ = some (.int .i64 ta) := hXa1.cell 1
      have b0 : w6.cell? ⟨bA + 1, 0, none⟩ = some (.slice Ab nb cb) := hXb1.cell 0
      have b1 : w6.cell? ⟨bA + 1, 1, none⟩ = some (.int .i64 tb) := hXb1.cell 1
      have c0 : w6.cell? ⟨bA + 1 + 1, 0, none⟩ = some (.slice Ac nc cc) := hXc1.cell 0
      have c1 : w6.cell? ⟨bA + 1 + 1, 1, none⟩ = some (.int .i64 tc) := hXc1.cell 1
      have lt_a := hXa1.lt
      have lt_b := hXb1.lt
      have lt_c := hXc1.lt
      replace HB := Lib.hid (HB.out.trans (hb.mono (by have := HB.out.size; omega)))
      clear hb
      go_upto_region 7 with fail
      have QA := Lib.hid (fun d os => hra.out.regrown d os)
      have QB := Lib.hid (fun d os => hrb.out.regrown d os)
      have q_a0 := fun d os => cell_regrown a0 d os
      have q_a1 := fun d os => cell_regrown a1 d os
      have q_b0 := fun d os => cell_regrown b0 d os
      have q_b1 := fun d os => cell_regrown b1 d os
      have q_c0 := fun d os => cell_regrown c0 d os
      have q_c1 := fun d os => cell_regrown c1 d os
      try simp only [List.append]
      first | refine wp_region_text_below ?_ | refine wp_region_quiet_below (by kernel_rfl) (by kernel_rfl) ?_
      repeat (go_big_quiet_step ((first | (go_at_call 17; first | with_reducible exact Calls.regrown_of (cmpV (QB.out _ _) (QA.out _ _) _ E4.out) | with_reducible exact Calls.regrown_of (cmpV (QA.out _ _) (QA.out _ _) _ E7.out)) | (go_at_call 19; with_reducible exact Calls.regrown_of (lessV (QA.out _ _) (QB.out _ _) false (by rw [E1.out]; decide))))))
      refine wpQuiet_nil ?_
      intro _ hqw
      obtain ⟨pq, hqw⟩ := hqw
      subst hqw
      go_wp2
      go_ret
      exact ⟨rfl, by rw [hDD]; exact (HB.out.trans ((below_regrown _ _ _).mono (by have := HB.out.size; omega)))⟩
set_option maxHeartbeats 100000000 in
set_option maxRecDepth 100000 in
theorem orderOne_k8 (Aa : Option Addr) (na ca : Nat) (da : List Hp) (ta : Int) (Ab : Option Addr) (nb cb : Nat) (db : List Hp) (tb : Int) (Ac : Option Addr) (nc cc : Nat) (dc : List Hp) (tc : Int) (hda : da.length = na) (hdb : db.length = nb) (hdc : dc.length = nc) (w : World) (ha : Sl w w.heap.size 3 Aa na ca (flatHp da)) (hb : Sl w w.heap.size 3 Ab nb cb (flatHp db)) (hc : Sl w w.heap.size 3 Ac nc cc (flatHp dc)) (E1 : Hid (cmpR ta da tb db = 0)) (E2 : Hid (cmpR tb db tc dc = 0)) (E3 : Hid (cmpR ta da tc dc = 0)) (E4 : Hid (cmpR tb db ta da = 0)) (E7 : Hid (cmpR ta da ta da = 0)) :
    Calls Try.prog 5 #[.agg #[.slice Aa na ca, .int .i64 ta], .agg #[.slice Ab nb cb, .int .i64 tb], .agg #[.slice Ac nc cc, .int .i64 tc]] w fun e w' => e = .returned (.bool true) ∧ Below w.heap.size w w' := by
  have hB0 : Below w.heap.size w (((w.alloc (.cells #[.slice Aa na ca, .int .i64 ta] 25)).alloc (.cells #[.slice Ab nb cb, .int .i64 tb] 25)).alloc (.cells #[.slice Ac nc cc, .int .i64 tc] 25)) := by (repeat (first | exact Below.refl _ _ | refine Below.alloc ?_ (by first | omega | (simp; done) | (simp; omega)) _ | refine Below.setCell ?_ (by first | omega | (simp; done) | (simp; omega)) _ | refine Below.drew ?_))
  have hXa := ((Blok.new w 25 #[.slice Aa na ca, .int .i64 ta]).alloc (.cells #[.slice Ab nb cb, .int .i64 tb] 25)).alloc (.cells #[.slice Ac nc cc, .int .i64 tc] 25)
  have hXb := (Blok.new (w.alloc (.cells #[.slice Aa na ca, .int .i64 ta] 25)) 25 #[.slice Ab nb cb, .int .i64 tb]).alloc (.cells #[.slice Ac nc cc, .int .i64 tc] 25)
  simp only [World.size_alloc] at hXb
  have hXc := Blok.new ((w.alloc (.cells #[.slice Aa na ca, .int .i64 ta] 25)).alloc (.cells #[.slice Ab nb cb, .int .i64 tb] 25)) 25 #[.slice Ac nc cc, .int .i64 tc]
  simp only [World.size_alloc] at hXc
  replace ha := ha.up hB0
  replace hb := hb.up hB0
  replace hc := hc.up hB0
  have hs0 := hB0.size
  have HL : Hid (da.length = na ∧ db.length = nb ∧ dc.length = nc) := ⟨hda, hdb, hdc⟩
  clear hda hdb hdc
  by_cases hn : 50 < na ∨ 50 < nb ∨ 50 < nc
  · have hn' : 50 < na ∨ (na ≤ 50 ∧ 50 < nb) ∨ (na ≤ 50 ∧ nb ≤ 50 ∧ 50 < nc) := by omega
    clear hn
    rcases hn' with hn | ⟨hn, hn2⟩ | ⟨hn, hn2, hn3⟩
    all_goals
      go_enter Try.func5, Try.ntmps5
      go_wp2_with fail
      generalize ((w.alloc (.cells #[.slice Aa na ca, .int .i64 ta] 25)).alloc (.cells #[.slice Ab nb cb, .int .i64 tb] 25)).alloc (.cells #[.slice Ac nc cc, .int .i64 tc] 25) = w0 at *
      refine (small13_any _).mono ?_
      rintro e w1 ⟨rfl, hB⟩
      have hXa1 := hXa.below hB hXa.lt
      have hXb1 := hXb.below hB hXb.lt
      have hXc1 := hXc.below hB hXc.lt
      have a0 : w1.cell? ⟨w.heap.size, 0, none⟩ = some (.slice Aa na ca) := hXa1.cell 0
      have a1 : w1.cell? ⟨w.heap.size, 1, none⟩ = some (.int .i64 ta) := hXa1.cell 1
      have b0 : w1.cell? ⟨w.heap.size + 1, 0, none⟩ = some (.slice Ab nb cb) := hXb1.cell 0
      have b1 : w1.cell? ⟨w.heap.size + 1, 1, none⟩ = some (.int .i64 tb) := hXb1.cell 1
      have c0 : w1.cell? ⟨w.heap.size + 1 + 1, 0, none⟩ = some (.slice Ac nc cc) := hXc1.cell 0
      have c1 : w1.cell? ⟨w.heap.size + 1 + 1, 1, none⟩ = some (.int .i64 tc) := hXc1.cell 1
      have lt_a := hXa1.lt
      have lt_b := hXb1.lt
      have lt_c := hXc1.lt
      go_wp2
      go_ret
      exact ⟨rfl, hB0.trans (hB.mono hs0)⟩
  · have hn1 : na ≤ 50 := by omega
    have hn2 : nb ≤ 50 := by omega
    have hn3 : nc ≤ 50 := by omega
    clear hn
    have ga : decide ((na : Int) > 50) = false := decide_eq_false (by omega)
    have gb : decide ((nb : Int) > 50) = false := decide_eq_false (by omega)
    have gc : decide ((nc : Int) > 50) = false := decide_eq_false (by omega)
    have HN : Hid (na ≤ 50 ∧ nb ≤ 50 ∧ nc ≤ 50) := ⟨hn1, hn2, hn3⟩
    go_enter Try.func5, Try.ntmps5
    go_wp2_with fail
    generalize ((w.alloc (.cells #[.slice Aa na ca, .int .i64 ta] 25)).alloc (.cells #[.slice Ab nb cb, .int .i64 tb] 25)).alloc (.cells #[.slice Ac nc cc, .int .i64 tc] 25) = w0 at *
    refine (small13_any _).mono ?_
    rintro e w1 ⟨rfl, hB⟩
    have hXa1 := hXa.below hB hXa.lt
    have hXb1 := hXb.below hB hXb.lt
    have hXc1 := hXc.below hB hXc.lt
    have a0 : w1.cell? ⟨w.heap.size, 0, none⟩ = some (.slice Aa na ca) := hXa1.cell 0
    have a1 : w1.cell? ⟨w.heap.size, 1, none⟩ = some (.int .i64 ta) := hXa1.cell 1
    have b0 : w1.cell? ⟨w.heap.size + 1, 0, none⟩ = some (.slice Ab nb cb) := hXb1.cell 0
    have b1 : w1.cell? ⟨w.heap.size + 1, 1, none⟩ = some (.int .i64 tb) := hXb1.cell 1
    have c0 : w1.cell? ⟨w.heap.size + 1 + 1, 0, none⟩ = some (.slice Ac nc cc) := hXc1.cell 0
    have c1 : w1.cell? ⟨w.heap.size + 1 + 1, 1, none⟩ = some (.int .i64 tc) := hXc1.cell 1
    have lt_a := hXa1.lt
    have lt_b := hXb1.lt
    have lt_c := hXc1.lt
    have hra : Hid (RV w1 (.agg #[.slice Aa na ca, .int .i64 ta]) (da, ta)) := (show RV w0 (.agg #[.slice Aa na ca, .int .i64 ta]) (da, ta) from ⟨_, _, _, rfl, HL.out.1, by show na ≤ 1000000; omega, ha⟩).below hB
    have hrb : Hid (RV w1 (.agg #[.slice Ab nb cb, .int .i64 tb]) (db, tb)) := (show RV w0 (.agg #[.slice Ab nb cb, .int .i64 tb]) (db, tb) from ⟨_, _, _, rfl, HL.out.2.1, by show nb ≤ 1000000; omega, hb⟩).below hB
    have hrc : Hid (RV w1 (.agg #[.slice Ac nc cc, .int .i64 tc]) (dc, tc)) := (show RV w0 (.agg #[.slice Ac nc cc, .int .i64 tc]) (dc, tc) from ⟨_, _, _, rfl, HL.out.2.2, by show nc ≤ 1000000; omega, hc⟩).below hB
    have HB := Lib.hid (hB0.trans (hB.mono hs0))
    clear ha hb hc hB0 hXa hXb hXc hs0 hB hn1 hn2 hn3 HN HL
    all_goals
      go_upto_region 4 with fail
      generalize hDD : w.heap.size = bA at *
      go_wp2_with fail
      refine (cmpV hra.out hrb.out _ E1.out).mono ?_
      rintro e w4 ⟨rfl, hb⟩
      replace hXa1 := hXa1.below hb hXa1.lt
      replace hXb1 := hXb1.below hb hXb1.lt
      replace hXc1 := hXc1.below hb hXc1.lt
      replace hra := Lib.hid (hra.out.below hb)
      replace hrb := Lib.hid (hrb.out.below hb)
      replace hrc := Lib.hid (hrc.out.below hb)
      clear a0 a1 b0 b1 c0 c1 lt_a lt_b lt_c
      have a0 : w4.cell? ⟨bA, 0, none⟩ = some (.slice Aa na ca) := hXa1.cell 0
      have a1 : w4.cell? ⟨bA, 1, none⟩ = some (.int .i64 ta) := hXa1.cell 1
      have b0 : w4.cell? ⟨bA + 1, 0, none⟩ = some (.slice Ab nb cb) := hXb1.cell 0
      have b1 : w4.cell? ⟨bA + 1, 1, none⟩ = some (.int .i64 tb) := hXb1.cell 1
      have c0 : w4.cell? ⟨bA + 1 + 1, 0, none⟩ = some (.slice Ac nc cc) := hXc1.cell 0
      have c1 : w4.cell? ⟨bA + 1 + 1, 1, none⟩ = some (.int .i64 tc) := hXc1.cell 1
      have lt_a := hXa1.lt
      have lt_b := hXb1.lt
      have lt_c := hXc1.lt
      replace HB := Lib.hid (HB.out.trans (hb.mono (by have := HB.out.size; omega)))
      clear hb
      go_wp2_with fail
      refine (cmpV hrb.out hrc.out _ E2.out).mono ?_
      rintro e w5 ⟨rfl, hb⟩
      replace hXa1 := hXa1.below hb hXa1.lt
      replace hXb1 := hXb1.below hb hXb1.lt
      replace hXc1 := hXc1.below hb hXc1.lt
      replace hra := Lib.hid (hra.out.below hb)
      replace hrb := Lib.hid (hrb.out.below hb)
      replace hrc := Lib.hid (hrc.out.below hb)
      clear a0 a1 b0 b1 c0 c1 lt_a lt_b lt_c
      have a0 : w5.cell? ⟨bA, 0, none⟩ = some (.slice Aa na ca) := hXa1.cell 0
      have a1 : w5.cell? ⟨bA, 1, none⟩ = some (.int .i64 ta) := hXa1.cell 1
      have b0 : w5.cell? ⟨bA + 1, 0, none⟩ = some (.slice Ab nb cb) := hXb1.cell 0
      have b1 : w5.cell? ⟨bA + 1, 1, none⟩ = some (.int .i64 tb) := hXb1.cell 1
      have c0 : w5.cell? ⟨bA + 1 + 1, 0, none⟩ = some (.slice Ac nc cc) := hXc1.cell 0
      have c1 : w5.cell? ⟨bA + 1 + 1, 1, none⟩ = some (.int .i64 tc) := hXc1.cell 1
      have lt_a := hXa1.lt
      have lt_b := hXb1.lt
      have lt_c := hXc1.lt
      replace HB := Lib.hid (HB.out.trans (hb.mono (by have := HB.out.size; omega)))
      clear hb
      go_wp2_with fail
      refine (cmpV hra.out hrc.out _ E3.out).mono ?_
      rintro e w6 ⟨rfl, hb⟩
      replace hXa1 := hXa1.below hb hXa1.lt
      replace hXb1 := hXb1.below hb hXb1.lt
      replace hXc1 := hXc1.below hb hXc1.lt
      replace hra := Lib.hid (hra.out.below hb)
      replace hrb := Lib.hid (hrb.out.below hb)
      replace hrc := Lib.hid (hrc.out.below hb)
      clear a0 a1 b0 b1 c0 c1 lt_a lt_b lt_c
      have a0 : w6.cell? ⟨bA, 0, none⟩ = some (.slice Aa na ca) := hXa1.cell 0
      have a1 : w6.cell? ⟨bA, 1, none⟩ = some (.int .i64 ta) := hXa1.cell 1
      have b0 : w6.cell? ⟨bA + 1, 0, none⟩ = some (.slice Ab nb cb) := hXb1.cell 0
      have b1 : w6.cell? ⟨bA + 1, 1, none⟩ = some (.int .i64 tb) := hXb1.cell 1
      have c0 : w6.cell? ⟨bA + 1 + 1, 0, none⟩ = some (.slice Ac nc cc) := hXc1.cell 0
      have c1 : w6.cell? ⟨bA + 1 + 1, 1, none⟩ = some (.int .i64 tc) := hXc1.cell 1
      have lt_a := hXa1.lt
      have lt_b := hXb1.lt
      have lt_c := hXc1.lt
      replace HB := Lib.hid (HB.out.trans (hb.mono (by have := HB.out.size; omega)))
      clear hb
      go_upto_region 7 with fail
      have QA := Lib.hid (fun d os => hra.out.regrown d os)
      have QB := Lib.hid (fun d os => hrb.out.regrown d os)
      have q_a0 := fun d os => cell_regrown a0 d os
      have q_a1 := fun d os => cell_regrown a1 d os
      have q_b0 := fun d os => cell_regrown b0 d os
      have q_b1 := fun d os => cell_regrown b1 d os
      have q_c0 := fun d os => cell_regrown c0 d os
      have q_c1 := fun d os => cell_regrown c1 d os
      try simp only [List.append]
      first | refine wp_region_text_below ?_ | refine wp_region_quiet_below (by kernel_rfl) (by kernel_rfl) ?_
      repeat (go_big_quiet_step ((first | (go_at_call 17; first | with_reducible exact Calls.regrown_of (cmpV (QB.out _ _) (QA.out _ _) _ E4.out) | with_reducible exact Calls.regrown_of (cmpV (QA.out _ _) (QA.out _ _) _ E7.out)) | (go_at_call 19; with_reducible exact Calls.regrown_of (lessV (QA.out _ _) (QB.out _ _) false (by rw [E1.out]; decide))))))
      refine wpQuiet_nil ?_
      intro _ hqw
      obtain ⟨pq, hqw⟩ := hqw
      subst hqw
      go_wp2
      go_ret
      exact ⟨rfl, by rw [hDD]; exact (HB.out.trans ((below_regrown _ _ _).mono (by have := HB.out.size; omega)))⟩
set_option maxHeartbeats 100000000 in
set_option maxRecDepth 100000 in
theorem orderOne_k9 (Aa : Option Addr) (na ca : Nat) (da : List Hp) (ta : Int) (Ab : Option Addr) (nb cb : Nat) (db : List Hp) (tb : Int) (Ac : Option Addr) (nc cc : Nat) (dc : List Hp) (tc : Int) (hda : da.length = na) (hdb : db.length = nb) (hdc : dc.length = nc) (w : World) (ha : Sl w w.heap.size 3 Aa na ca (flatHp da)) (hb : Sl w w.heap.size 3 Ab nb cb (flatHp db)) (hc : Sl w w.heap.size 3 Ac nc cc (flatHp dc)) (E1 : Hid (cmpR ta da tb db = 0)) (E2 : Hid (cmpR tb db tc dc = 1)) (E3 : Hid (cmpR ta da tc dc = 1)) (E4 : Hid (cmpR tb db ta da = 0)) (E7 : Hid (cmpR ta da ta da = 0)) :
    Calls Try.prog 5 #[.agg #[.slice Aa na ca, .int .i64 ta], .agg #[.slice Ab nb cb, .int .i64 tb], .agg #[.slice Ac nc cc, .int .i64 tc]] w fun e w' => e = .returned (.bool true) ∧ Below w.heap.size w w' := by
  have hB0 : Below w.heap.size w (((w.alloc (.cells #[.slice Aa na ca, .int .i64 ta] 25)).alloc (.cells #[.slice Ab nb cb, .int .i64 tb] 25)).alloc (.cells #[.slice Ac nc cc, .int .i64 tc] 25)) := by (repeat (first | exact Below.refl _ _ | refine Below.alloc ?_ (by first | omega | (simp; done) | (simp; omega)) _ | refine Below.setCell ?_ (by first | omega | (simp; done) | (simp; omega)) _ | refine Below.drew ?_))
  have hXa := ((Blok.new w 25 #[.slice Aa na ca, .int .i64 ta]).alloc (.cells #[.slice Ab nb cb, .int .i64 tb] 25)).alloc (.cells #[.slice Ac nc cc, .int .i64 tc] 25)
  have hXb := (Blok.new (w.alloc (.cells #[.slice Aa na ca, .int .i64 ta] 25)) 25 #[.slice Ab nb cb, .int .i64 tb]).alloc (.cells #[.slice Ac nc cc, .int .i64 tc] 25)
  simp only [World.size_alloc] at hXb
  have hXc := Blok.new ((w.alloc (.cells #[.slice Aa na ca, .int .i64 ta] 25)).alloc (.cells #[.slice Ab nb cb, .int .i64 tb] 25)) 25 #[.slice Ac nc cc, .int .i64 tc]
  simp only [World.size_alloc] at hXc
  replace ha := ha.up hB0
  replace hb := hb.up hB0
  replace hc := hc.up hB0
  have hs0 := hB0.size
  have HL : Hid (da.length = na ∧ db.length = nb ∧ dc.length = nc) := ⟨hda, hdb, hdc⟩
  clear hda hdb hdc
  by_cases hn : 50 < na ∨ 50 < nb ∨ 50 < nc
  · have hn' : 50 < na ∨ (na ≤ 50 ∧ 50 < nb) ∨ (na ≤ 50 ∧ nb ≤ 50 ∧ 50 < nc) := by omega
    clear hn
    rcases hn' with hn | ⟨hn, hn2⟩ | ⟨hn, hn2, hn3⟩
    all_goals
      go_enter Try.func5, Try.ntmps5
      go_wp2_with fail
      generalize ((w.alloc (.cells #[.slice Aa na ca, .int .i64 ta] 25)).alloc (.cells #[.slice Ab nb cb, .int .i64 tb] 25)).alloc (.cells #[.slice Ac nc cc, .int .i64 tc] 25) = w0 at *
      refine (small13_any _).mono ?_
      rintro e w1 ⟨rfl, hB⟩
      have hXa1 := hXa.below hB hXa.lt
      have hXb1 := hXb.below hB hXb.lt
      have hXc1 := hXc.below hB hXc.lt
      have a0 : w1.cell? ⟨w.heap.size, 0, none⟩ = some (.slice Aa na ca) := hXa1.cell 0
      have a1 : w1.cell? ⟨w.heap.size, 1, none⟩ = some (.int .i64 ta) := hXa1.cell 1
      have b0 : w1.cell? ⟨w.heap.size + 1, 0, none⟩ = some (.slice Ab nb cb) := hXb1.cell 0
      have b1 : w1.cell? ⟨w.heap.size + 1, 1, none⟩ = some (.int .i64 tb) := hXb1.cell 1
      have c0 : w1.cell? ⟨w.heap.size + 1 + 1, 0, none⟩ = some (.slice Ac nc cc) := hXc1.cell 0
      have c1 : w1.cell? ⟨w.heap.size + 1 + 1, 1, none⟩ = some (.int .i64 tc) := hXc1.cell 1
      have lt_a := hXa1.lt
      have lt_b := hXb1.lt
      have lt_c := hXc1.lt
      go_wp2
      go_ret
      exact ⟨rfl, hB0.trans (hB.mono hs0)⟩
  · have hn1 : na ≤ 50 := by omega
    have hn2 : nb ≤ 50 := by omega
    have hn3 : nc ≤ 50 := by omega
    clear hn
    have ga : decide ((na : Int) > 50) = false := decide_eq_false (by omega)
    have gb : decide ((nb : Int) > 50) = false := decide_eq_false (by omega)
    have gc : decide ((nc : Int) > 50) = false := decide_eq_false (by omega)
    have HN : Hid (na ≤ 50 ∧ nb ≤ 50 ∧ nc ≤ 50) := ⟨hn1, hn2, hn3⟩
    go_enter Try.func5, Try.ntmps5
    go_wp2_with fail
    generalize ((w.alloc (.cells #[.slice Aa na ca, .int .i64 ta] 25)).alloc (.cells #[.slice Ab nb cb, .int .i64 tb] 25)).alloc (.cells #[.slice Ac nc cc, .int .i64 tc] 25) = w0 at *
    refine (small13_any _).mono ?_
    rintro e w1 ⟨rfl, hB⟩
    have hXa1 := hXa.below hB hXa.lt
    have hXb1 := hXb.below hB hXb.lt
    have hXc1 := hXc.below hB hXc.lt
    have a0 : w1.cell? ⟨w.heap.size, 0, none⟩ = some (.slice Aa na ca) := hXa1.cell 0
    have a1 : w1.cell? ⟨w.heap.size, 1, none⟩ = some (.int .i64 ta) := hXa1.cell 1
    have b0 : w1.cell? ⟨w.heap.size + 1, 0, none⟩ = some (.slice Ab nb cb) := hXb1.cell 0
    have b1 : w1.cell? ⟨w.heap.size + 1, 1, none⟩ = some (.int .i64 tb) := hXb1.cell 1
    have c0 : w1.cell? ⟨w.heap.size + 1 + 1, 0, none⟩ = some (.slice Ac nc cc) := hXc1.cell 0
    have c1 : w1.cell? ⟨w.heap.size + 1 + 1, 1, none⟩ = some (.int .i64 tc) := hXc1.cell 1
    have lt_a := hXa1.lt
    have lt_b := hXb1.lt
    have lt_c := hXc1.lt
    have hra : Hid (RV w1 (.agg #[.slice Aa na ca, .int .i64 ta]) (da, ta)) := (show RV w0 (.agg #[.slice Aa na ca, .int .i64 ta]) (da, ta) from ⟨_, _, _, rfl, HL.out.1, by show na ≤ 1000000; omega, ha⟩).below hB
    have hrb : Hid (RV w1 (.agg #[.slice Ab nb cb, .int .i64 tb]) (db, tb)) := (show RV w0 (.agg #[.slice Ab nb cb, .int .i64 tb]) (db, tb) from ⟨_, _, _, rfl, HL.out.2.1, by show nb ≤ 1000000; omega, hb⟩).below hB
    have hrc : Hid (RV w1 (.agg #[.slice Ac nc cc, .int .i64 tc]) (dc, tc)) := (show RV w0 (.agg #[.slice Ac nc cc, .int .i64 tc]) (dc, tc) from ⟨_, _, _, rfl, HL.out.2.2, by show nc ≤ 1000000; omega, hc⟩).below hB
    have HB := Lib.hid (hB0.trans (hB.mono hs0))
    clear ha hb hc hB0 hXa hXb hXc hs0 hB hn1 hn2 hn3 HN HL
    all_goals
      go_upto_region 4 with fail
      generalize hDD : w.heap.size = bA at *
      go_wp2_with fail
      refine (cmpV hra.out hrb.out _ E1.out).mono ?_
      rintro e w4 ⟨rfl, hb⟩
      replace hXa1 := hXa1.below hb hXa1.lt
      replace hXb1 := hXb1.below hb hXb1.lt
      replace hXc1 := hXc1.below hb hXc1.lt
      replace hra := Lib.hid (hra.out.below hb)
      replace hrb := Lib.hid (hrb.out.below hb)
      replace hrc := Lib.hid (hrc.out.below hb)
      clear a0 a1 b0 b1 c0 c1 lt_a lt_b lt_c
      have a0 : w4.cell? ⟨bA, 0, none⟩ = some (.slice Aa na ca) := hXa1.cell 0
      have a1 : w4.cell? ⟨bA, 1, none⟩ = some (.int .i64 ta) := hXa1.cell 1
      have b0 : w4.cell? ⟨bA + 1, 0, none⟩ = some (.slice Ab nb cb) := hXb1.cell 0
      have b1 : w4.cell? ⟨bA + 1, 1, none⟩ = some (.int .i64 tb) := hXb1.cell 1
      have c0 : w4.cell? ⟨bA + 1 + 1, 0, none⟩ = some (.slice Ac nc cc) := hXc1.cell 0
      have c1 : w4.cell? ⟨bA + 1 + 1, 1, none⟩ = some (.int .i64 tc) := hXc1.cell 1
      have lt_a := hXa1.lt
      have lt_b := hXb1.lt
      have lt_c := hXc1.lt
      replace HB := Lib.hid (HB.out.trans (hb.mono (by have := HB.out.size; omega)))
      clear hb
      go_wp2_with fail
      refine (cmpV hrb.out hrc.out _ E2.out).mono ?_
      rintro e w5 ⟨rfl, hb⟩
      replace hXa1 := hXa1.below hb hXa1.lt
      replace hXb1 := hXb1.below hb hXb1.lt
      replace hXc1 := hXc1.below hb hXc1.lt
      replace hra := Lib.hid (hra.out.below hb)
      replace hrb := Lib.hid (hrb.out.below hb)
      replace hrc := Lib.hid (hrc.out.below hb)
      clear a0 a1 b0 b1 c0 c1 lt_a lt_b lt_c
      have a0 : w5.cell? ⟨bA, 0, none⟩ = some (.slice Aa na ca) := hXa1.cell 0
      have a1 : w5.cell? ⟨bA, 1, none⟩ = some (.int .i64 ta) := hXa1.cell 1
      have b0 : w5.cell? ⟨bA + 1, 0, none⟩ = some (.slice Ab nb cb) := hXb1.cell 0
      have b1 : w5.cell? ⟨bA + 1, 1, none⟩ = some (.int .i64 tb) := hXb1.cell 1
      have c0 : w5.cell? ⟨bA + 1 + 1, 0, none⟩ = some (.slice Ac nc cc) := hXc1.cell 0
      have c1 : w5.cell? ⟨bA + 1 + 1, 1, none⟩ = some (.int .i64 tc) := hXc1.cell 1
      have lt_a := hXa1.lt
      have lt_b := hXb1.lt
      have lt_c := hXc1.lt
      replace HB := Lib.hid (HB.out.trans (hb.mono (by have := HB.out.size; omega)))
      clear hb
      go_wp2_with fail
      refine (cmpV hra.out hrc.out _ E3.out).mono ?_
      rintro e w6 ⟨rfl, hb⟩
      replace hXa1 := hXa1.below hb hXa1.lt
      replace hXb1 := hXb1.below hb hXb1.lt
      replace hXc1 := hXc1.below hb hXc1.lt
      replace hra := Lib.hid (hra.out.below hb)
      replace hrb := Lib.hid (hrb.out.below hb)
      replace hrc := Lib.hid (hrc.out.below hb)
      clear a0 a1 b0 b1 c0 c1 lt_a lt_b lt_c
      have a0 : w6.cell? ⟨bA, 0, none⟩ = some (.slice Aa na ca) := hXa1.cell 0
      have a1 : w6.cell? ⟨bA, 1, none⟩ = some (.int .i64 ta) := hXa1.cell 1
      have b0 : w6.cell? ⟨bA + 1, 0, none⟩ = some (.slice Ab nb cb) := hXb1.cell 0
      have b1 : w6.cell? ⟨bA + 1, 1, none⟩ = some (.int .i64 tb) := hXb1.cell 1
      have c0 : w6.cell? ⟨bA + 1 + 1, 0, none⟩ = some (.slice Ac nc cc) := hXc1.cell 0
      have c1 : w6.cell? ⟨bA + 1 + 1, 1, none⟩ = some (.int .i64 tc) := hXc1.cell 1
      have lt_a := hXa1.lt
      have lt_b := hXb1.lt
      have lt_c := hXc1.lt
      replace HB := Lib.hid (HB.out.trans (hb.mono (by have := HB.out.size; omega)))
      clear hb
      go_upto_region 7 with fail
      have QA := Lib.hid (fun d os => hra.out.regrown d os)
      have QB := Lib.hid (fun d os => hrb.out.regrown d os)
      have q_a0 := fun d os => cell_regrown a0 d os
      have q_a1 := fun d os => cell_regrown a1 d os
      have q_b0 := fun d os => cell_regrown b0 d os
      have q_b1 := fun d os => cell_regrown b1 d os
      have q_c0 := fun d os => cell_regrown c0 d os
      have q_c1 := fun d os => cell_regrown c1 d os
      try simp only [List.append]
      first | refine wp_region_text_below ?_ | refine wp_region_quiet_below (by kernel_rfl) (by kernel_rfl) ?_
      repeat (go_big_quiet_step ((first | (go_at_call 17; first | with_reducible exact Calls.regrown_of (cmpV (QB.out _ _) (QA.out _ _) _ E4.out) | with_reducible exact Calls.regrown_of (cmpV (QA.out _ _) (QA.out _ _) _ E7.out)) | (go_at_call 19; with_reducible exact Calls.regrown_of (lessV (QA.out _ _) (QB.out _ _) false (by rw [E1.out]; decide))))))
      refine wpQuiet_nil ?_
      intro _ hqw
      obtain ⟨pq, hqw⟩ := hqw
      subst hqw
      go_wp2
      go_ret
      exact ⟨rfl, by rw [hDD]; exact (HB.out.trans ((below_regrown _ _ _).mono (by have := HB.out.size; omega)))⟩
set_option maxHeartbeats 100000000 in
set_option maxRecDepth 100000 in
theorem orderOne_k10 (Aa : Option Addr) (na ca : Nat) (da : List Hp) (ta : Int) (Ab : Option Addr) (nb cb : Nat) (db : List Hp) (tb : Int) (Ac : Option Addr) (nc cc : Nat) (dc : List Hp) (tc : Int) (hda : da.length = na) (hdb : db.length = nb) (hdc : dc.length = nc) (w : World) (ha : Sl w w.heap.size 3 Aa na ca (flatHp da)) (hb : Sl w w.heap.size 3 Ab nb cb (flatHp db)) (hc : Sl w w.heap.size 3 Ac nc cc (flatHp dc)) (E1 : Hid (cmpR ta da tb db = 1)) (E2 : Hid (cmpR tb db tc dc = -1)) (E3 : Hid (cmpR ta da tc dc = -1)) (E4 : Hid (cmpR tb db ta da = -1)) (E7 : Hid (cmpR ta da ta da = 0)) :
    Calls Try.prog 5 #[.agg #[.slice Aa na ca, .int .i64 ta], .agg #[.slice Ab nb cb, .int .i64 tb], .agg #[.slice Ac nc cc, .int .i64 tc]] w fun e w' => e = .returned (.bool true) ∧ Below w.heap.size w w' := by
  have hB0 : Below w.heap.size w (((w.alloc (.cells #[.slice Aa na ca, .int .i64 ta] 25)).alloc (.cells #[.slice Ab nb cb, .int .i64 tb] 25)).alloc (.cells #[.slice Ac nc cc, .int .i64 tc] 25)) := by (repeat (first | exact Below.refl _ _ | refine Below.alloc ?_ (by first | omega | (simp; done) | (simp; omega)) _ | refine Below.setCell ?_ (by first | omega | (simp; done) | (simp; omega)) _ | refine Below.drew ?_))
  have hXa := ((Blok.new w 25 #[.slice Aa na ca, .int .i64 ta]).alloc (.cells #[.slice Ab nb cb, .int .i64 tb] 25)).alloc (.cells #[.slice Ac nc cc, .int .i64 tc] 25)
  have hXb := (Blok.new (w.alloc (.cells #[.slice Aa na ca, .int .i64 ta] 25)) 25 #[.slice Ab nb cb, .int .i64 tb]).alloc (.cells #[.slice Ac nc cc, .int .i64 tc] 25)
  simp only [World.size_alloc] at hXb
  have hXc := Blok.new ((w.alloc (.cells #[.slice Aa na ca, .int .i64 ta] 25)).alloc (.cells #[.slice Ab nb cb, .int .i64 tb] 25)) 25 #[.slice Ac nc cc, .int .i64 tc]
  simp only [World.size_alloc] at hXc
  replace ha := ha.up hB0
  replace hb := hb.up hB0
  replace hc := hc.up hB0
  have hs0 := hB0.size
  have HL : Hid (da.length = na ∧ db.length = nb ∧ dc.length = nc) := ⟨hda, hdb, hdc⟩
  clear hda hdb hdc
  by_cases hn : 50 < na ∨ 50 < nb ∨ 50 < nc
  · have hn' : 50 < na ∨ (na ≤ 50 ∧ 50 < nb) ∨ (na ≤ 50 ∧ nb ≤ 50 ∧ 50 < nc) := by omega
    clear hn
    rcases hn' with hn | ⟨hn, hn2⟩ | ⟨hn, hn2, hn3⟩
    all_goals
      go_enter Try.func5, Try.ntmps5
      go_wp2_with fail
      generalize ((w.alloc (.cells #[.slice Aa na ca, .int .i64 ta] 25)).alloc (.cells #[.slice Ab nb cb, .int .i64 tb] 25)).alloc (.cells #[.slice Ac nc cc, .int .i64 tc] 25) = w0 at *
      refine (small13_any _).mono ?_
      rintro e w1 ⟨rfl, hB⟩
      have hXa1 := hXa.below hB hXa.lt
      have hXb1 := hXb.below hB hXb.lt
      have hXc1 := hXc.below hB hXc.lt
      have a0 : w1.cell? ⟨w.heap.size, 0, none⟩ = some (.slice Aa na ca) := hXa1.cell 0
      have a1 : w1.cell? ⟨w.heap.size, 1, none⟩ = some (.int .i64 ta) := hXa1.cell 1
      have b0 : w1.cell? ⟨w.heap.size + 1, 0, none⟩ = some (.slice Ab nb cb) := hXb1.cell 0
      have b1 : w1.cell? ⟨w.heap.size + 1, 1, none⟩ = some (.int .i64 tb) := hXb1.cell 1
      have c0 : w1.cell? ⟨w.heap.size + 1 + 1, 0, none⟩ = some (.slice Ac nc cc) := hXc1.cell 0
      have c1 : w1.cell? ⟨w.heap.size + 1 + 1, 1, none⟩ = some (.int .i64 tc) := hXc1.cell 1
      have lt_a := hXa1.lt
      have lt_b := hXb1.lt
      have lt_c := hXc1.lt
      go_wp2
      go_ret
      exact ⟨rfl, hB0.trans (hB.mono hs0)⟩
  · have hn1 : na ≤ 50 := by omega
    have hn2 : nb ≤ 50 := by omega
    have hn3 : nc ≤ 50 := by omega
    clear hn
    have ga : decide ((na : Int) > 50) = false := decide_eq_false (by omega)
    have gb : decide ((nb : Int) > 50) = false := decide_eq_false (by omega)
    have gc : decide ((nc : Int) > 50) = false := decide_eq_false (by omega)
    have HN : Hid (na ≤ 50 ∧ nb ≤ 50 ∧ nc ≤ 50) := ⟨hn1, hn2, hn3⟩
    go_enter Try.func5, Try.ntmps5
    go_wp2_with fail
    generalize ((w.alloc (.cells #[.slice Aa na ca, .int .i64 ta] 25)).alloc (.cells #[.slice Ab nb cb, .int .i64 tb] 25)).alloc (.cells #[.slice Ac nc cc, .int .i64 tc] 25) = w0 at *
    refine (small13_any _).mono ?_
    rintro e w1 ⟨rfl, hB⟩
    have hXa1 := hXa.below hB hXa.lt
    have hXb1 := hXb.below hB hXb.lt
    have hXc1 := hXc.below hB hXc.lt
    have a0 : w1.cell? ⟨w.heap.size, 0, none⟩ = some (.slice Aa na ca) := hXa1.cell 0
    have a1 : w1.cell? ⟨w.heap.size, 1, none⟩ = some (.int .i64 ta) := hXa1.cell 1
    have b0 : w1.cell? ⟨w.heap.size + 1, 0, none⟩ = some (.slice Ab nb cb) := hXb1.cell 0
    have b1 : w1.cell? ⟨w.heap.size + 1, 1, none⟩ = some (.int .i64 tb) := hXb1.cell 1
    have c0 : w1.cell? ⟨w.heap.size + 1 + 1, 0, none⟩ = some (.slice Ac nc cc) := hXc1.cell 0
    have c1 : w1.cell? ⟨w.heap.size + 1 + 1, 1, none⟩ = some (.int .i64 tc) := hXc1.cell 1
    have lt_a := hXa1.lt
    have lt_b := hXb1.lt
    have lt_c := hXc1.lt
    have hra : Hid (RV w1 (.agg #[.slice Aa na ca, .int .i64 ta]) (da, ta)) := (show RV w0 (.agg #[.slice Aa na ca, .int .i64 ta]) (da, ta) from ⟨_, _, _, rfl, HL.out.1, by show na ≤ 1000000; omega, ha⟩).below hB
    have hrb : Hid (RV w1 (.agg #[.slice Ab nb cb, .int .i64 tb]) (db, tb)) := (show RV w0 (.agg #[.slice Ab nb cb, .int .i64 tb]) (db, tb) from ⟨_, _, _, rfl, HL.out.2.1, by show nb ≤ 1000000; omega, hb⟩).below hB
    have hrc : Hid (RV w1 (.agg #[.slice Ac nc cc, .int .i64 tc]) (dc, tc)) := (show RV w0 (.agg #[.slice Ac nc cc, .int .i64 tc]) (dc, tc) from ⟨_, _, _, rfl, HL.out.2.2, by show nc ≤ 1000000; omega, hc⟩).below hB
    have HB := Lib.hid (hB0.trans (hB.mono hs0))
    clear ha hb hc hB0 hXa hXb hXc hs0 hB hn1 hn2 hn3 HN HL
    all_goals
      go_upto_region 4 with fail
      generalize hDD : w.heap.size = bA at *
      go_wp2_with fail
      refine (cmpV hra.out hrb.out _ E1.out).mono ?_
      rintro e w4 ⟨rfl, hb⟩
      replace hXa1 := hXa1.below hb hXa1.lt
      replace hXb1 := hXb1.below hb hXb1.lt
      replace hXc1 := hXc1.below hb hXc1.lt
      replace hra := Lib.hid (hra.out.below hb)
      replace hrb := Lib.hid (hrb.out.below hb)
      replace hrc := Lib.hid (hrc.out.below hb)
      clear a0 a1 b0 b1 c0 c1 lt_a lt_b lt_c
      have a0 : w4.cell? ⟨bA, 0, none⟩ = some (.slice Aa na ca) := hXa1.cell 0
      have a1 : w4.cell? ⟨bA, 1, none⟩ = some (.int .i64 ta) := hXa1.cell 1
      have b0 : w4.cell? ⟨bA + 1, 0, none⟩ = some (.slice Ab nb cb) := hXb1.cell 0
      have b1 : w4.cell? ⟨bA + 1, 1, none⟩ = some (.int .i64 tb) := hXb1.cell 1
      have c0 : w4.cell? ⟨bA + 1 + 1, 0, none⟩ = some (.slice Ac nc cc) := hXc1.cell 0
      have c1 : w4.cell? ⟨bA + 1 + 1, 1, none⟩ = some (.int .i64 tc) := hXc1.cell 1
      have lt_a := hXa1.lt
      have lt_b := hXb1.lt
      have lt_c := hXc1.lt
      replace HB := Lib.hid (HB.out.trans (hb.mono (by have := HB.out.size; omega)))
      clear hb
      go_wp2_with fail
      refine (cmpV hrb.out hrc.out _ E2.out).mono ?_
      rintro e w5 ⟨rfl, hb⟩
      replace hXa1 := hXa1.below hb hXa1.lt
      replace hXb1 := hXb1.below hb hXb1.lt
      replace hXc1 := hXc1.below hb hXc1.lt
      replace hra := Lib.hid (hra.out.below hb)
      replace hrb := Lib.hid (hrb.out.below hb)
      replace hrc := Lib.hid (hrc.out.below hb)
      clear a0 a1 b0 b1 c0 c1 lt_a lt_b lt_c
      have a0 : w5.cell? ⟨bA, 0, none⟩ = some (.slice Aa na ca) := hXa1.cell 0
      have a1 : w5.cell? ⟨bA, 1, none⟩ = some (.int .i64 ta) := hXa1.cell 1
      have b0 : w5.cell? ⟨bA + 1, 0, none⟩ = some (.slice Ab nb cb) := hXb1.cell 0
      have b1 : w5.cell? ⟨bA + 1, 1, none⟩ = some (.int .i64 tb) := hXb1.cell 1
      have c0 : w5.cell? ⟨bA + 1 + 1, 0, none⟩ = some (.slice Ac nc cc) := hXc1.cell 0
      have c1 : w5.cell? ⟨bA + 1 + 1, 1, none⟩ = some (.int .i64 tc) := hXc1.cell 1
      have lt_a := hXa1.lt
      have lt_b := hXb1.lt
      have lt_c := hXc1.lt
      replace HB := Lib.hid (HB.out.trans (hb.mono (by have := HB.out.size; omega)))
      clear hb
      go_wp2_with fail
      refine (cmpV hra.out hrc.out _ E3.out).mono ?_
      rintro e w6 ⟨rfl, hb⟩
      replace hXa1 := hXa1.below hb hXa1.lt
      replace hXb1 := hXb1.below hb hXb1.lt
      replace hXc1 := hXc1.below hb hXc1.lt
      replace hra := Lib.hid (hra.out.below hb)
      replace hrb := Lib.hid (hrb.out.below hb)
      replace hrc := Lib.hid (hrc.out.below hb)
      clear a0 a1 b0 b1 c0 c1 lt_a lt_b lt_c
      have a0 : w6.cell? ⟨bA, 0, none⟩ = some (.slice Aa na ca) := hXa1.cell 0
      have a1 : w6.cell? ⟨bA, 1, none⟩ = some (.int .i64 ta) := hXa1.cell 1
      have b0 : w6.cell? ⟨bA + 1, 0, none⟩ = some (.slice Ab nb cb) := hXb1.cell 0
      have b1 : w6.cell? ⟨bA + 1, 1, none⟩ = some (.int .i64 tb) := hXb1.cell 1
      have c0 : w6.cell? ⟨bA + 1 + 1, 0, none⟩ = some (.slice Ac nc cc) := hXc1.cell 0
      have c1 : w6.cell? ⟨bA + 1 + 1, 1, none⟩ = some (.int .i64 tc) := hXc1.cell 1
      have lt_a := hXa1.lt
      have lt_b := hXb1.lt
      have lt_c := hXc1.lt
      replace HB := Lib.hid (HB.out.trans (hb.mono (by have := HB.out.size; omega)))
      clear hb
      go_upto_region 7 with fail
      have QA := Lib.hid (fun d os => hra.out.regrown d os)
      have QB := Lib.hid (fun d os => hrb.out.regrown d os)
      have q_a0 := fun d os => cell_regrown a0 d os
      have q_a1 := fun d os => cell_regrown a1 d os
      have q_b0 := fun d os => cell_regrown b0 d os
      have q_b1 := fun d os => cell_regrown b1 d os
      have q_c0 := fun d os => cell_regrown c0 d os
      have q_c1 := fun d os => cell_regrown c1 d os
      try simp only [List.append]
      first | refine wp_region_text_below ?_ | refine wp_region_quiet_below (by kernel_rfl) (by kernel_rfl) ?_
      repeat (go_big_quiet_step ((first | (go_at_call 17; first | with_reducible exact Calls.regrown_of (cmpV (QB.out _ _) (QA.out _ _) _ E4.out) | with_reducible exact Calls.regrown_of (cmpV (QA.out _ _) (QA.out _ _) _ E7.out)) | (go_at_call 19; with_reducible exact Calls.regrown_of (lessV (QA.out _ _) (QB.out _ _) false (by rw [E1.out]; decide))))))
      refine wpQuiet_nil ?_
      intro _ hqw
      obtain ⟨pq, hqw⟩ := hqw
      subst hqw
      go_wp2
      go_ret
      exact ⟨rfl, by rw [hDD]; exact (HB.out.trans ((below_regrown _ _ _).mono (by have := HB.out.size; omega)))⟩
set_option maxHeartbeats 100000000 in
set_option maxRecDepth 100000 in
theorem orderOne_k11 (Aa : Option Addr) (na ca : Nat) (da : List Hp) (ta : Int) (Ab : Option Addr) (nb cb : Nat) (db : List Hp) (tb : Int) (Ac : Option Addr) (nc cc : Nat) (dc : List Hp) (tc : Int) (hda : da.length = na) (hdb : db.length = nb) (hdc : dc.length = nc) (w : World) (ha : Sl w w.heap.size 3 Aa na ca (flatHp da)) (hb : Sl w w.heap.size 3 Ab nb cb (flatHp db)) (hc : Sl w w.heap.size 3 Ac nc cc (flatHp dc)) (E1 : Hid (cmpR ta da tb db = 1)) (E2 : Hid (cmpR tb db tc dc = -1)) (E3 : Hid (cmpR ta da tc dc = 0)) (E4 : Hid (cmpR tb db ta da = -1)) (E7 : Hid (cmpR ta da ta da = 0)) :
    Calls Try.prog 5 #[.agg #[.slice Aa na ca, .int .i64 ta], .agg #[.slice Ab nb cb, .int .i64 tb], .agg #[.slice Ac nc cc, .int .i64 tc]] w fun e w' => e = .returned (.bool true) ∧ Below w.heap.size w w' := by
  have hB0 : Below w.heap.size w (((w.alloc (.cells #[.slice Aa na ca, .int .i64 ta] 25)).alloc (.cells #[.slice Ab nb cb, .int .i64 tb] 25)).alloc (.cells #[.slice Ac nc cc, .int .i64 tc] 25)) := by (repeat (first | exact Below.refl _ _ | refine Below.alloc ?_ (by first | omega | (simp; done) | (simp; omega)) _ | refine Below.setCell ?_ (by first | omega | (simp; done) | (simp; omega)) _ | refine Below.drew ?_))
  have hXa := ((Blok.new w 25 #[.slice Aa na ca, .int .i64 ta]).alloc (.cells #[.slice Ab nb cb, .int .i64 tb] 25)).alloc (.cells #[.slice Ac nc cc, .int .i64 tc] 25)
  have hXb := (Blok.new (w.alloc (.cells #[.slice Aa na ca, .int .i64 ta] 25)) 25 #[.slice Ab nb cb, .int .i64 tb]).alloc (.cells #[.slice Ac nc cc, .int .i64 tc] 25)
  simp only [World.size_alloc] at hXb
  have hXc := Blok.new ((w.alloc (.cells #[.slice Aa na ca, .int .i64 ta] 25)).alloc (.cells #[.slice Ab nb cb, .int .i64 tb] 25)) 25 #[.slice Ac nc cc, .int .i64 tc]
  simp only [World.size_alloc] at hXc
  replace ha := ha.up hB0
  replace hb := hb.up hB0
  replace hc := hc.up hB0
  have hs0 := hB0.size
  have HL : Hid (da.length = na ∧ db.length = nb ∧ dc.length = nc) := ⟨hda, hdb, hdc⟩
  clear hda hdb hdc
  by_cases hn : 50 < na ∨ 50 < nb ∨ 50 < nc
  · have hn' : 50 < na ∨ (na ≤ 50 ∧ 50 < nb) ∨ (na ≤ 50 ∧ nb ≤ 50 ∧ 50 < nc) := by omega
    clear hn
    rcases hn' with hn | ⟨hn, hn2⟩ | ⟨hn, hn2, hn3⟩
    all_goals
      go_enter Try.func5, Try.ntmps5
      go_wp2_with fail
      generalize ((w.alloc (.cells #[.slice Aa na ca, .int .i64 ta] 25)).alloc (.cells #[.slice Ab nb cb, .int .i64 tb] 25)).alloc (.cells #[.slice Ac nc cc, .int .i64 tc] 25) = w0 at *
      refine (small13_any _).mono ?_
      rintro e w1 ⟨rfl, hB⟩
      have hXa1 := hXa.below hB hXa.lt
      have hXb1 := hXb.below hB hXb.lt
      have hXc1 := hXc.below hB hXc.lt
      have a0 : w1.cell? ⟨w.heap.size, 0, none⟩ = some (.slice Aa na ca) := hXa1.cell 0
      have a1 : w1.cell? ⟨w.heap.size, 1, none⟩ = some (.int .i64 ta) := hXa1.cell 1
      have b0 : w1.cell? ⟨w.heap.size + 1, 0, none⟩ = some (.slice Ab nb cb) := hXb1.cell 0
      have b1 : w1.cell? ⟨w.heap.size + 1, 1, none⟩ = some (.int .i64 tb) := hXb1.cell 1
      have c0 : w1.cell? ⟨w.heap.size + 1 + 1, 0, none⟩ = some (.slice Ac nc cc) := hXc1.cell 0
      have c1 : w1.cell? ⟨w.heap.size + 1 + 1, 1, none⟩ = some (.int .i64 tc) := hXc1.cell 1
      have lt_a := hXa1.lt
      have lt_b := hXb1.lt
      have lt_c := hXc1.lt
      go_wp2
      go_ret
      exact ⟨rfl, hB0.trans (hB.mono hs0)⟩
  · have hn1 : na ≤ 50 := by omega
    have hn2 : nb ≤ 50 := by omega
    have hn3 : nc ≤ 50 := by omega
    clear hn
    have ga : decide ((na : Int) > 50) = false := decide_eq_false (by omega)
    have gb : decide ((nb : Int) > 50) = false := decide_eq_false (by omega)
    have gc : decide ((nc : Int) > 50) = false := decide_eq_false (by omega)
    have HN : Hid (na ≤ 50 ∧ nb ≤ 50 ∧ nc ≤ 50) := ⟨hn1, hn2, hn3⟩
    go_enter Try.func5, Try.ntmps5
    go_wp2_with fail
    generalize ((w.alloc (.cells #[.slice Aa na ca, .int .i64 ta] 25)).alloc (.cells #[.slice Ab nb cb, .int .i64 tb] 25)).alloc (.cells #[.slice Ac nc cc, .int .i64 tc] 25) = w0 at *
    refine (small13_any _).mono ?_
    rintro e w1 ⟨rfl, hB⟩
    have hXa1 := hXa.below hB hXa.lt
    have hXb1 := hXb.below hB hXb.lt
    have hXc1 := hXc.below hB hXc.lt
    have a0 : w1.cell? ⟨w.heap.size, 0, none⟩ = some (.slice Aa na ca) := hXa1.cell 0
    have a1 : w1.cell? ⟨w.heap.size, 1, none⟩ = some (.int .i64 ta) := hXa1.cell 1
    have b0 : w1.cell? ⟨w.heap.size + 1, 0, none⟩ = some (.slice Ab nb cb) := hXb1.cell 0
    have b1 : w1.cell? ⟨w.heap.size + 1, 1, none⟩ = some (.int .i64 tb) := hXb1.cell 1
    have c0 : w1.cell? ⟨w.heap.size + 1 + 1, 0, none⟩ = some (.slice Ac nc cc) := hXc1.cell 0
    have c1 : w1.cell? ⟨w.heap.size + 1 + 1, 1, none⟩ = some (.int .i64 tc) := hXc1.cell 1
    have lt_a := hXa1.lt
    have lt_b := hXb1.lt
    have lt_c := hXc1.lt
    have hra : Hid (RV w1 (.agg #[.slice Aa na ca, .int .i64 ta]) (da, ta)) := (show RV w0 (.agg #[.slice Aa na ca, .int .i64 ta]) (da, ta) from ⟨_, _, _, rfl, HL.out.1, by show na ≤ 1000000; omega, ha⟩).below hB
    have hrb : Hid (RV w1 (.agg #[.slice Ab nb cb, .int .i64 tb]) (db, tb)) := (show RV w0 (.agg #[.slice Ab nb cb, .int .i64 tb]) (db, tb) from ⟨_, _, _, rfl, HL.out.2.1, by show nb ≤ 1000000; omega, hb⟩).below hB
    have hrc : Hid (RV w1 (.agg #[.slice Ac nc cc, .int .i64 tc]) (dc, tc)) := (show RV w0 (.agg #[.slice Ac nc cc, .int .i64 tc]) (dc, tc) from ⟨_, _, _, rfl, HL.out.2.2, by show nc ≤ 1000000; omega, hc⟩).below hB
    have HB := Lib.hid (hB0.trans (hB.mono hs0))
    clear ha hb hc hB0 hXa hXb hXc hs0 hB hn1 hn2 hn3 HN HL
    all_goals
      go_upto_region 4 with fail
      generalize hDD : w.heap.size = bA at *
      go_wp2_with fail
      refine (cmpV hra.out hrb.out _ E1.out).mono ?_
      rintro e w4 ⟨rfl, hb⟩
      replace hXa1 := hXa1.below hb hXa1.lt
      replace hXb1 := hXb1.below hb hXb1.lt
      replace hXc1 := hXc1.below hb hXc1.lt
      replace hra := Lib.hid (hra.out.below hb)
      replace hrb := Lib.hid (hrb.out.below hb)
      replace hrc := Lib.hid (hrc.out.below hb)
      clear a0 a1 b0 b1 c0 c1 lt_a lt_b lt_c
      have a0 : w4.cell? ⟨bA, 0, none⟩ = some (.slice Aa na ca) := hXa1.cell 0
      have a1 : w4.cell? ⟨bA, 1, none⟩ = some (.int .i64 ta) := hXa1.cell 1
      have b0 : w4.cell? ⟨bA + 1, 0, none⟩ = some (.slice Ab nb cb) := hXb1.cell 0
      have b1 : w4.cell? ⟨bA + 1, 1, none⟩ = some (.int .i64 tb) := hXb1.cell 1
      have c0 : w4.cell? ⟨bA + 1 + 1, 0, none⟩ = some (.slice Ac nc cc) := hXc1.cell 0
      have c1 : w4.cell? ⟨bA + 1 + 1, 1, none⟩ = some (.int .i64 tc) := hXc1.cell 1
      have lt_a := hXa1.lt
      have lt_b := hXb1.lt
      have lt_c := hXc1.lt
      replace HB := Lib.hid (HB.out.trans (hb.mono (by have := HB.out.size; omega)))
      clear hb
      go_wp2_with fail
      refine (cmpV hrb.out hrc.out _ E2.out).mono ?_
      rintro e w5 ⟨rfl, hb⟩
      replace hXa1 := hXa1.below hb hXa1.lt
      replace hXb1 := hXb1.below hb hXb1.lt
      replace hXc1 := hXc1.below hb hXc1.lt
      replace hra := Lib.hid (hra.out.below hb)
      replace hrb := Lib.hid (hrb.out.below hb)
      replace hrc := Lib.hid (hrc.out.below hb)
      clear a0 a1 b0 b1 c0 c1 lt_a lt_b lt_c
      have a0 : w5.cell? ⟨bA, 0, none⟩ = some (.slice Aa na ca) := hXa1.cell 0
      have a1 : w5.cell? ⟨bA, 1, none⟩ = some (.int .i64 ta) := hXa1.cell 1
      have b0 : w5.cell? ⟨bA + 1, 0, none⟩ = some (.slice Ab nb cb) := hXb1.cell 0
      have b1 : w5.cell? ⟨bA + 1, 1, none⟩ = some (.int .i64 tb) := hXb1.cell 1
      have c0 : w5.cell? ⟨bA + 1 + 1, 0, none⟩ = some (.slice Ac nc cc) := hXc1.cell 0
      have c1 : w5.cell? ⟨bA + 1 + 1, 1, none⟩ = some (.int .i64 tc) := hXc1.cell 1
      have lt_a := hXa1.lt
      have lt_b := hXb1.lt
      have lt_c := hXc1.lt
      replace HB := Lib.hid (HB.out.trans (hb.mono (by have := HB.out.size; omega)))
      clear hb
      go_wp2_with fail
      refine (cmpV hra.out hrc.out _ E3.out).mono ?_
      rintro e w6 ⟨rfl, hb⟩
      replace hXa1 := hXa1.below hb hXa1.lt
      replace hXb1 := hXb1.below hb hXb1.lt
      replace hXc1 := hXc1.below hb hXc1.lt
      replace hra := Lib.hid (hra.out.below hb)
      replace hrb := Lib.hid (hrb.out.below hb)
      replace hrc := Lib.hid (hrc.out.below hb)
      clear a0 a1 b0 b1 c0 c1 lt_a lt_b lt_c
      have a0 : w6.cell? ⟨bA, 0, none⟩ = some (.slice Aa na ca) := hXa1.cell 0
      have a1 : w6.cell? ⟨bA, 1, none⟩ = some (.int .i64 ta) := hXa1.cell 1
      have b0 : w6.cell? ⟨bA + 1, 0, none⟩ = some (.slice Ab nb cb) := hXb1.cell 0
      have b1 : w6.cell? ⟨bA + 1, 1, none⟩ = some (.int .i64 tb) := hXb1.cell 1
      have c0 : w6.cell? ⟨bA + 1 + 1, 0, none⟩ = some (.slice Ac nc cc) := hXc1.cell 0
      have c1 : w6.cell? ⟨bA + 1 + 1, 1, none⟩ = some (.int .i64 tc) := hXc1.cell 1
      have lt_a := hXa1.lt
      have lt_b := hXb1.lt
      have lt_c := hXc1.lt
      replace HB := Lib.hid (HB.out.trans (hb.mono (by have := HB.out.size; omega)))
      clear hb
      go_upto_region 7 with fail
      have QA := Lib.hid (fun d os => hra.out.regrown d os)
      have QB := Lib.hid (fun d os => hrb.out.regrown d os)
      have q_a0 := fun d os => cell_regrown a0 d os
      have q_a1 := fun d os => cell_regrown a1 d os
      have q_b0 := fun d os => cell_regrown b0 d os
      have q_b1 := fun d os => cell_regrown b1 d os
      have q_c0 := fun d os => cell_regrown c0 d os
      have q_c1 := fun d os => cell_regrown c1 d os
      try simp only [List.append]
      first | refine wp_region_text_below ?_ | refine wp_region_quiet_below (by kernel_rfl) (by kernel_rfl) ?_
      repeat (go_big_quiet_step ((first | (go_at_call 17; first | with_reducible exact Calls.regrown_of (cmpV (QB.out _ _) (QA.out _ _) _ E4.out) | with_reducible exact Calls.regrown_of (cmpV (QA.out _ _) (QA.out _ _) _ E7.out)) | (go_at_call 19; with_reducible exact Calls.regrown_of (lessV (QA.out _ _) (QB.out _ _) false (by rw [E1.out]; decide))))))
      refine wpQuiet_nil ?_
      intro _ hqw
      obtain ⟨pq, hqw⟩ := hqw
      subst hqw
      go_wp2
      go_ret
      exact ⟨rfl, by rw [hDD]; exact (HB.out.trans ((below_regrown _ _ _).mono (by have := HB.out.size; omega)))⟩
set_option maxHeartbeats 100000000 in
set_option maxRecDepth 100000 in
theorem orderOne_k12 (Aa : Option Addr) (na ca : Nat) (da : List Hp) (ta : Int) (Ab : Option Addr) (nb cb : Nat) (db : List Hp) (tb : Int) (Ac : Option Addr) (nc cc : Nat) (dc : List Hp) (tc : Int) (hda : da.length = na) (hdb : db.length = nb) (hdc : dc.length = nc) (w : World) (ha : Sl w w.heap.size 3 Aa na ca (flatHp da)) (hb : Sl w w.heap.size 3 Ab nb cb (flatHp db)) (hc : Sl w w.heap.size 3 Ac nc cc (flatHp dc)) (E1 : Hid (cmpR ta da tb db = 1)) (E2 : Hid (cmpR tb db tc dc = -1)) (E3 : Hid (cmpR ta da tc dc = 1)) (E4 : Hid (cmpR tb db ta da = -1)) (E7 : Hid (cmpR ta da ta da = 0)) :
    Calls Try.prog 5 #[.agg #[.slice Aa na ca, .int .i64 ta], .agg #[.slice Ab nb cb, .int .i64 tb], .agg #[.slice Ac nc cc, .int .i64 tc]] w fun e w' => e = .returned (.bool true) ∧ Below w.heap.size w w' := by
  have hB0 : Below w.heap.size w (((w.alloc (.cells #[.slice Aa na ca, .int .i64 ta] 25)).alloc (.cells #[.slice Ab nb cb, .int .i64 tb] 25)).alloc (.cells #[.slice Ac nc cc, .int .i64 tc] 25)) := by (repeat (first | exact Below.refl _ _ | refine Below.alloc ?_ (by first | omega | (simp; done) | (simp; omega)) _ | refine Below.setCell ?_ (by first | omega | (simp; done) | (simp; omega)) _ | refine Below.drew ?_))
  have hXa := ((Blok.new w 25 #[.slice Aa na ca, .int .i64 ta]).alloc (.cells #[.slice Ab nb cb, .int .i64 tb] 25)).alloc (.cells #[.slice Ac nc cc, .int .i64 tc] 25)
  have hXb := (Blok.new (w.alloc (.cells #[.slice Aa na ca, .int .i64 ta] 25)) 25 #[.slice Ab nb cb, .int .i64 tb]).alloc (.cells #[.slice Ac nc cc, .int .i64 tc] 25)
  simp only [World.size_alloc] at hXb
  have hXc := Blok.new ((w.alloc (.cells #[.slice Aa na ca, .int .i64 ta] 25)).alloc (.cells #[.slice Ab nb cb, .int .i64 tb] 25)) 25 #[.slice Ac nc cc, .int .i64 tc]
  simp only [World.size_alloc] at hXc
  replace ha := ha.up hB0
  replace hb := hb.up hB0
  replace hc := hc.up hB0
  have hs0 := hB0.size
  have HL : Hid (da.length = na ∧ db.length = nb ∧ dc.length = nc) := ⟨hda, hdb, hdc⟩
  clear hda hdb hdc
  by_cases hn : 50 < na ∨ 50 < nb ∨ 50 < nc
  · have hn' : 50 < na ∨ (na ≤ 50 ∧ 50 < nb) ∨ (na ≤ 50 ∧ nb ≤ 50 ∧ 50 < nc) := by omega
    clear hn
    rcases hn' with hn | ⟨hn, hn2⟩ | ⟨hn, hn2, hn3⟩
    all_goals
      go_enter Try.func5, Try.ntmps5
      go_wp2_with fail
      generalize ((w.alloc (.cells #[.slice Aa na ca, .int .i64 ta] 25)).alloc (.cells #[.slice Ab nb cb, .int .i64 tb] 25)).alloc (.cells #[.slice Ac nc cc, .int .i64 tc] 25) = w0 at *
      refine (small13_any _).mono ?_
      rintro e w1 ⟨rfl, hB⟩
      have hXa1 := hXa.below hB hXa.lt
      have hXb1 := hXb.below hB hXb.lt
      have hXc1 := hXc.below hB hXc.lt
      have a0 : w1.cell? ⟨w.heap.size, 0, none⟩ = some (.slice Aa na ca) := hXa1.cell 0
      have a1 : w1.cell? ⟨w.heap.size, 1, none⟩ = some (.int .i64 ta) := hXa1.cell 1
      have b0 : w1.cell? ⟨w.heap.size + 1, 0, none⟩ = some (.slice Ab nb cb) := hXb1.cell 0
      have b1 : w1.cell? ⟨w.heap.size + 1, 1, none⟩ = some (.int .i64 tb) := hXb1.cell 1
      have c0 : w1.cell? ⟨w.heap.size + 1 + 1, 0, none⟩ = some (.slice Ac nc cc) := hXc1.cell 0
      have c1 : w1.cell? ⟨w.heap.size + 1 + 1, 1, none⟩ = some (.int .i64 tc) := hXc1.cell 1
      have lt_a := hXa1.lt
      have lt_b := hXb1.lt
      have lt_c := hXc1.lt
      go_wp2
      go_ret
      exact ⟨rfl, hB0.trans (hB.mono hs0)⟩
  · have hn1 : na ≤ 50 := by omega
    have hn2 : nb ≤ 50 := by omega
    have hn3 : nc ≤ 50 := by omega
    clear hn
    have ga : decide ((na : Int) > 50) = false := decide_eq_false (by omega)
    have gb : decide ((nb : Int) > 50) = false := decide_eq_false (by omega)
    have gc : decide ((nc : Int) > 50) = false := decide_eq_false (by omega)
    have HN : Hid (na ≤ 50 ∧ nb ≤ 50 ∧ nc ≤ 50) := ⟨hn1, hn2, hn3⟩
    go_enter Try.func5, Try.ntmps5
    go_wp2_with fail
    generalize ((w.alloc (.cells #[.slice Aa na ca, .int .i64 ta] 25)).alloc (.cells #[.slice Ab nb cb, .int .i64 tb] 25)).alloc (.cells #[.slice Ac nc cc, .int .i64 tc] 25) = w0 at *
    refine (small13_any _).mono ?_
    rintro e w1 ⟨rfl, hB⟩
    have hXa1 := hXa.below hB hXa.lt
    have hXb1 := hXb.below hB hXb.lt
    have hXc1 := hXc.below hB hXc.lt
    have a0 : w1.cell? ⟨w.heap.size, 0, none⟩ = some (.slice Aa na ca) := hXa1.cell 0
    have a1 : w1.cell? ⟨w.heap.size, 1, none⟩ = some (.int .i64 ta) := hXa1.cell 1
    have b0 : w1.cell? ⟨w.heap.size + 1, 0, none⟩ = some (.slice Ab nb cb) := hXb1.cell 0
    have b1 : w1.cell? ⟨w.heap.size + 1, 1, none⟩ = some (.int .i64 tb) := hXb1.cell 1
    have c0 : w1.cell? ⟨w.heap.size + 1 + 1, 0, none⟩ = some (.slice Ac nc cc) := hXc1.cell 0
    have c1 : w1.cell? ⟨w.heap.size + 1 + 1, 1, none⟩ = some (.int .i64 tc) := hXc1.cell 1
    have lt_a := hXa1.lt
    have lt_b := hXb1.lt
    have lt_c := hXc1.lt
    have hra : Hid (RV w1 (.agg #[.slice Aa na ca, .int .i64 ta]) (da, ta)) := (show RV w0 (.agg #[.slice Aa na ca, .int .i64 ta]) (da, ta) from ⟨_, _, _, rfl, HL.out.1, by show na ≤ 1000000; omega, ha⟩).below hB
    have hrb : Hid (RV w1 (.agg #[.slice Ab nb cb, .int .i64 tb]) (db, tb)) := (show RV w0 (.agg #[.slice Ab nb cb, .int .i64 tb]) (db, tb) from ⟨_, _, _, rfl, HL.out.2.1, by show nb ≤ 1000000; omega, hb⟩).below hB
    have hrc : Hid (RV w1 (.agg #[.slice Ac nc cc, .int .i64 tc]) (dc, tc)) := (show RV w0 (.agg #[.slice Ac nc cc, .int .i64 tc]) (dc, tc) from ⟨_, _, _, rfl, HL.out.2.2, by show nc ≤ 1000000; omega, hc⟩).below hB
    have HB := Lib.hid (hB0.trans (hB.mono hs0))
    clear ha hb hc hB0 hXa hXb hXc hs0 hB hn1 hn2 hn3 HN HL
    all_goals
      go_upto_region 4 with fail
      generalize hDD : w.heap.size = bA at *
      go_wp2_with fail
      refine (cmpV hra.out hrb.out _ E1.out).mono ?_
      rintro e w4 ⟨rfl, hb⟩
      replace hXa1 := hXa1.below hb hXa1.lt
      replace hXb1 := hXb1.below hb hXb1.lt
      replace hXc1 := hXc1.below hb hXc1.lt
      replace hra := Lib.hid (hra.out.below hb)
      replace hrb := Lib.hid (hrb.out.below hb)
      replace hrc := Lib.hid (hrc.out.below hb)
      clear a0 a1 b0 b1 c0 c1 lt_a lt_b lt_c
      have a0 : w4.cell? ⟨bA, 0, none⟩ = some (.slice Aa na ca) := hXa1.cell 0
      have a1 : w4.cell? ⟨bA, 1, none⟩ = some (.int .i64 ta) := hXa1.cell 1
      have b0 : w4.cell? ⟨bA + 1, 0, none⟩ = some (.slice Ab nb cb) := hXb1.cell 0
      have b1 : w4.cell? ⟨bA + 1, 1, none⟩ = some (.int .i64 tb) := hXb1.cell 1
      have c0 : w4.cell? ⟨bA + 1 + 1, 0, none⟩ = some (.slice Ac nc cc) := hXc1.cell 0
      have c1 : w4.cell? ⟨bA + 1 + 1, 1, none⟩ = some (.int .i64 tc) := hXc1.cell 1
      have lt_a := hXa1.lt
      have lt_b := hXb1.lt
      have lt_c := hXc1.lt
      replace HB := Lib.hid (HB.out.trans (hb.mono (by have := HB.out.size; omega)))
      clear hb
      go_wp2_with fail
      refine (cmpV hrb.out hrc.out _ E2.out).mono ?_
      rintro e w5 ⟨rfl, hb⟩
      replace hXa1 := hXa1.below hb hXa1.lt
      replace hXb1 := hXb1.below hb hXb1.lt
      replace hXc1 := hXc1.below hb hXc1.lt
      replace hra := Lib.hid (hra.out.below hb)
      replace hrb := Lib.hid (hrb.out.below hb)
      replace hrc := Lib.hid (hrc.out.below hb)
      clear a0 a1 b0 b1 c0 c1 lt_a lt_b lt_c
      have a0 : w5.cell? ⟨bA, 0, none⟩ = some (.slice Aa na ca) := hXa1.cell 0
      have a1 : w5.cell? ⟨bA, 1, none⟩ = some (.int .i64 ta) := hXa1.cell 1
      have b0 : w5.cell? ⟨bA + 1, 0, none⟩ = some (.slice Ab nb cb) := hXb1.cell 0
      have b1 : w5.cell? ⟨bA + 1, 1, none⟩ = some (.int .i64 tb) := hXb1.cell 1
      have c0 : w5.cell? ⟨bA + 1 + 1, 0, none⟩ = some (.slice Ac nc cc) := hXc1.cell 0
      have c1 : w5.cell? ⟨bA + 1 + 1, 1, none⟩ = some (.int .i64 tc) := hXc1.cell 1
      have lt_a := hXa1.lt
      have lt_b := hXb1.lt
      have lt_c := hXc1.lt
      replace HB := Lib.hid (HB.out.trans (hb.mono (by have := HB.out.size; omega)))
      clear hb
      go_wp2_with fail
      refine (cmpV hra.out hrc.out _ E3.out).mono ?_
      rintro e w6 ⟨rfl, hb⟩
      replace hXa1 := hXa1.below hb hXa1.lt
      replace hXb1 := hXb1.below hb hXb1.lt
      replace hXc1 := hXc1.below hb hXc1.lt
      replace hra := Lib.hid (hra.out.below hb)
      replace hrb := Lib.hid (hrb.out.below hb)
      replace hrc := Lib.hid (hrc.out.below hb)
      clear a0 a1 b0 b1 c0 c1 lt_a lt_b lt_c
      have a0 : w6.cell? ⟨bA, 0, none⟩ = some (.slice Aa na ca) := hXa1.cell 0
      have a1 : w6.cell? ⟨bA, 1, none⟩ = some (.int .i64 ta) := hXa1.cell 1
      have b0 : w6.cell? ⟨bA + 1, 0, none⟩ = some (.slice Ab nb cb) := hXb1.cell 0
      have b1 : w6.cell? ⟨bA + 1, 1, none⟩ = some (.int .i64 tb) := hXb1.cell 1
      have c0 : w6.cell? ⟨bA + 1 + 1, 0, none⟩ = some (.slice Ac nc cc) := hXc1.cell 0
      have c1 : w6.cell? ⟨bA + 1 + 1, 1, none⟩ = some (.int .i64 tc) := hXc1.cell 1
      have lt_a := hXa1.lt
      have lt_b := hXb1.lt
      have lt_c := hXc1.lt
      replace HB := Lib.hid (HB.out.trans (hb.mono (by have := HB.out.size; omega)))
      clear hb
      go_upto_region 7 with fail
      have QA := Lib.hid (fun d os => hra.out.regrown d os)
      have QB := Lib.hid (fun d os => hrb.out.regrown d os)
      have q_a0 := fun d os => cell_regrown a0 d os
      have q_a1 := fun d os => cell_regrown a1 d os
      have q_b0 := fun d os => cell_regrown b0 d os
      have q_b1 := fun d os => cell_regrown b1 d os
      have q_c0 := fun d os => cell_regrown c0 d os
      have q_c1 := fun d os => cell_regrown c1 d os
      try simp only [List.append]
      first | refine wp_region_text_below ?_ | refine wp_region_quiet_below (by kernel_rfl) (by kernel_rfl) ?_
      repeat (go_big_quiet_step ((first | (go_at_call 17; first | with_reducible exact Calls.regrown_of (cmpV (QB.out _ _) (QA.out _ _) _ E4.out) | with_reducible exact Calls.regrown_of (cmpV (QA.out _ _) (QA.out _ _) _ E7.out)) | (go_at_call 19; with_reducible exact Calls.regrown_of (lessV (QA.out _ _) (QB.out _ _) false (by rw [E1.out]; decide))))))
      refine wpQuiet_nil ?_
      intro _ hqw
      obtain ⟨pq, hqw⟩ := hqw
      subst hqw
      go_wp2
      go_ret
      exact ⟨rfl, by rw [hDD]; exact (HB.out.trans ((below_regrown _ _ _).mono (by have := HB.out.size; omega)))⟩
set_option maxHeartbeats 100000000 in
set_option maxRecDepth 100000 in
theorem orderOne_k13 (Aa : Option Addr) (na ca : Nat) (da : List Hp) (ta : Int) (Ab : Option Addr) (nb cb : Nat) (db : List Hp) (tb : Int) (Ac : Option Addr) (nc cc : Nat) (dc : List Hp) (tc : Int) (hda : da.length = na) (hdb : db.length = nb) (hdc : dc.length = nc) (w : World) (ha : Sl w w.heap.size 3 Aa na ca (flatHp da)) (hb : Sl w w.heap.size 3 Ab nb cb (flatHp db)) (hc : Sl w w.heap.size 3 Ac nc cc (flatHp dc)) (E1 : Hid (cmpR ta da tb db = 1)) (E2 : Hid (cmpR tb db tc dc = 0)) (E3 : Hid (cmpR ta da tc dc = -1)) (E4 : Hid (cmpR tb db ta da = -1)) (E7 : Hid (cmpR ta da ta da = 0)) :
    Calls Try.prog 5 #[.agg #[.slice Aa na ca, .int .i64 ta], .agg #[.slice Ab nb cb, .int .i64 tb], .agg #[.slice Ac nc cc, .int .i64 tc]] w fun e w' => e = .returned (.bool true) ∧ Below w.heap.size w w' := by
  have hB0 : Below w.heap.size w (((w.alloc (.cells #[.slice Aa na ca, .int .i64 ta] 25)).alloc (.cells #[.slice Ab nb cb, .int .i64 tb] 25)).alloc (.cells #[.slice Ac nc cc, .int .i64 tc] 25)) := by (repeat (first | exact Below.refl _ _ | refine Below.alloc ?_ (by first | omega | (simp; done) | (simp; omega)) _ | refine Below.setCell ?_ (by first | omega | (simp; done) | (simp; omega)) _ | refine Below.drew ?_))
  have hXa := ((Blok.new w 25 #[.slice Aa na ca, .int .i64 ta]).alloc (.cells #[.slice Ab nb cb, .int .i64 tb] 25)).alloc (.cells #[.slice Ac nc cc, .int .i64 tc] 25)
  have hXb := (Blok.new (w.alloc (.cells #[.slice Aa na ca, .int .i64 ta] 25)) 25 #[.slice Ab nb cb, .int .i64 tb]).alloc (.cells #[.slice Ac nc cc, .int .i64 tc] 25)
  simp only [World.size_alloc] at hXb
  have hXc := Blok.new ((w.alloc (.cells #[.slice Aa na ca, .int .i64 ta] 25)).alloc (.cells #[.slice Ab nb cb, .int .i64 tb] 25)) 25 #[.slice Ac nc cc, .int .i64 tc]
  simp only [World.size_alloc] at hXc
  replace ha := ha.up hB0
  replace hb := hb.up hB0
  replace hc := hc.up hB0
  have hs0 := hB0.size
  have HL : Hid (da.length = na ∧ db.length = nb ∧ dc.length = nc) := ⟨hda, hdb, hdc⟩
  clear hda hdb hdc
  by_cases hn : 50 < na ∨ 50 < nb ∨ 50 < nc
  · have hn' : 50 < na ∨ (na ≤ 50 ∧ 50 < nb) ∨ (na ≤ 50 ∧ nb ≤ 50 ∧ 50 < nc) := by omega
    clear hn
    rcases hn' with hn | ⟨hn, hn2⟩ | ⟨hn, hn2, hn3⟩
    all_goals
      go_enter Try.func5, Try.ntmps5
      go_wp2_with fail
      generalize ((w.alloc (.cells #[.slice Aa na ca, .int .i64 ta] 25)).alloc (.cells #[.slice Ab nb cb, .int .i64 tb] 25)).alloc (.cells #[.slice Ac nc cc, .int .i64 tc] 25) = w0 at *
      refine (small13_any _).mono ?_
      rintro e w1 ⟨rfl, hB⟩
      have hXa1 := hXa.below hB hXa.lt
      have hXb1 := hXb.below hB hXb.lt
      have hXc1 := hXc.below hB hXc.lt
      have a0 : w1.cell? ⟨w.heap.size, 0, none⟩ = some (.slice Aa na ca) := hXa1.cell 0
      have a1 : w1.cell? ⟨w.heap.size, 1, none⟩ = some (.int .i64 ta) := hXa1.cell 1
      have b0 : w1.cell? ⟨w.heap.size + 1, 0, none⟩ = some (.slice Ab nb cb) := hXb1.cell 0
      have b1 : w1.cell? ⟨w.heap.size + 1, 1, none⟩ = some (.int .i64 tb) := hXb1.cell 1
      have c0 : w1.cell? ⟨w.heap.size + 1 + 1, 0, none⟩ = some (.slice Ac nc cc) := hXc1.cell 0
      have c1 : w1.cell? ⟨w.heap.size + 1 + 1, 1, none⟩ = some (.int .i64 tc) := hXc1.cell 1
      have lt_a := hXa1.lt
      have lt_b := hXb1.lt
      have lt_c := hXc1.lt
      go_wp2
      go_ret
      exact ⟨rfl, hB0.trans (hB.mono hs0)⟩
  · have hn1 : na ≤ 50 := by omega
    have hn2 : nb ≤ 50 := by omega
    have hn3 : nc ≤ 50 := by omega
    clear hn
    have ga : decide ((na : Int) > 50) = false := decide_eq_false (by omega)
    have gb : decide ((nb : Int) > 50) = false := decide_eq_false (by omega)
    have gc : decide ((nc : Int) > 50) = false := decide_eq_false (by omega)
    have HN : Hid (na ≤ 50 ∧ nb ≤ 50 ∧ nc ≤ 50) := ⟨hn1, hn2, hn3⟩
    go_enter Try.func5, Try.ntmps5
    go_wp2_with fail
    generalize ((w.alloc (.cells #[.slice Aa na ca, .int .i64 ta] 25)).alloc (.cells #[.slice Ab nb cb, .int .i64 tb] 25)).alloc (.cells #[.slice Ac nc cc, .int .i64 tc] 25) = w0 at *
    refine (small13_any _).mono ?_
    rintro e w1 ⟨rfl, hB⟩
    have hXa1 := hXa.below hB hXa.lt
    have hXb1 := hXb.below hB hXb.lt
    have hXc1 := hXc.below hB hXc.lt
    have a0 : w1.cell? ⟨w.heap.size, 0, none⟩ = some (.slice Aa na ca) := hXa1.cell 0
    have a1 : w1.cell? ⟨w.heap.size, 1, none⟩ = some (.int .i64 ta) := hXa1.cell 1
    have b0 : w1.cell? ⟨w.heap.size + 1, 0, none⟩ = some (.slice Ab nb cb) := hXb1.cell 0
    have b1 : w1.cell? ⟨w.heap.size + 1, 1, none⟩ = some (.int .i64 tb) := hXb1.cell 1
    have c0 : w1.cell? ⟨w.heap.size + 1 + 1, 0, none⟩ = some (.slice Ac nc cc) := hXc1.cell 0
    have c1 : w1.cell? ⟨w.heap.size + 1 + 1, 1, none⟩ = some (.int .i64 tc) := hXc1.cell 1
    have lt_a := hXa1.lt
    have lt_b := hXb1.lt
    have lt_c := hXc1.lt
    have hra : Hid (RV w1 (.agg #[.slice Aa na ca, .int .i64 ta]) (da, ta)) := (show RV w0 (.agg #[.slice Aa na ca, .int .i64 ta]) (da, ta) from ⟨_, _, _, rfl, HL.out.1, by show na ≤ 1000000; omega, ha⟩).below hB
    have hrb : Hid (RV w1 (.agg #[.slice Ab nb cb, .int .i64 tb]) (db, tb)) := (show RV w0 (.agg #[.slice Ab nb cb, .int .i64 tb]) (db, tb) from ⟨_, _, _, rfl, HL.out.2.1, by show nb ≤ 1000000; omega, hb⟩).below hB
    have hrc : Hid (RV w1 (.agg #[.slice Ac nc cc, .int .i64 tc]) (dc, tc)) := (show RV w0 (.agg #[.slice Ac nc cc, .int .i64 tc]) (dc, tc) from ⟨_, _, _, rfl, HL.out.2.2, by show nc ≤ 1000000; omega, hc⟩).below hB
    have HB := Lib.hid (hB0.trans (hB.mono hs0))
    clear ha hb hc hB0 hXa hXb hXc hs0 hB hn1 hn2 hn3 HN HL
    all_goals
      go_upto_region 4 with fail
      generalize hDD : w.heap.size = bA at *
      go_wp2_with fail
      refine (cmpV hra.out hrb.out _ E1.out).mono ?_
      rintro e w4 ⟨rfl, hb⟩
      replace hXa1 := hXa1.below hb hXa1.lt
      replace hXb1 := hXb1.below hb hXb1.lt
      replace hXc1 := hXc1.below hb hXc1.lt
      replace hra := Lib.hid (hra.out.below hb)
      replace hrb := Lib.hid (hrb.out.below hb)
      replace hrc := Lib.hid (hrc.out.below hb)
      clear a0 a1 b0 b1 c0 c1 lt_a lt_b lt_c
      have a0 : w4.cell? ⟨bA, 0, none⟩ = some (.slice Aa na ca) := hXa1.cell 0
      have a1 : w4.cell? ⟨bA, 1, none⟩ = some (.int .i64 ta) := hXa1.cell 1
      have b0 : w4.cell? ⟨bA + 1, 0, none⟩ = some (.slice Ab nb cb) := hXb1.cell 0
      have b1 : w4.cell? ⟨bA + 1, 1, none⟩ = some (.int .i64 tb) := hXb1.cell 1
      have c0 : w4.cell? ⟨bA + 1 + 1, 0, none⟩ = some (.slice Ac nc cc) := hXc1.cell 0
      have c1 : w4.cell? ⟨bA + 1 + 1, 1, none⟩ = some (.int .i64 tc) := hXc1.cell 1
      have lt_a := hXa1.lt
      have lt_b := hXb1.lt
      have lt_c := hXc1.lt
      replace HB := Lib.hid (HB.out.trans (hb.mono (by have := HB.out.size; omega)))
      clear hb
      go_wp2_with fail
      refine (cmpV hrb.out hrc.out _ E2.out).mono ?_
      rintro e w5 ⟨rfl, hb⟩
      replace hXa1 := hXa1.below hb hXa1.lt
      replace hXb1 := hXb1.below hb hXb1.lt
      replace hXc1 := hXc1.below hb hXc1.lt
      replace hra := Lib.hid (hra.out.below hb)
      replace hrb := Lib.hid (hrb.out.below hb)
      replace hrc := Lib.hid (hrc.out.below hb)
      clear a0 a1 b0 b1 c0 c1 lt_a lt_b lt_c
      have a0 : w5.cell? ⟨bA, 0, none⟩ = some (.slice Aa na ca) := hXa1.cell 0
      have a1 : w5.cell? ⟨bA, 1, none⟩ = some (.int .i64 ta) := hXa1.cell 1
      have b0 : w5.cell? ⟨bA + 1, 0, none⟩ = some (.slice Ab nb cb) := hXb1.cell 0
      have b1 : w5.cell? ⟨bA + 1, 1, none⟩ = some (.int .i64 tb) := hXb1.cell 1
      have c0 : w5.cell? ⟨bA + 1 + 1, 0, none⟩ = some (.slice Ac nc cc) := hXc1.cell 0
      have c1 : w5.cell? ⟨bA + 1 + 1, 1, none⟩ = some (.int .i64 tc) := hXc1.cell 1
      have lt_a := hXa1.lt
      have lt_b := hXb1.lt
      have lt_c := hXc1.lt
      replace HB := Lib.hid (HB.out.trans (hb.mono (by have := HB.out.size; omega)))
      clear hb
      go_wp2_with fail
      refine (cmpV hra.out hrc.out _ E3.out).mono ?_
      rintro e w6 ⟨rfl, hb⟩
      replace hXa1 := hXa1.below hb hXa1.lt
      replace hXb1 := hXb1.below hb hXb1.lt
      replace hXc1 := hXc1.below hb hXc1.lt
      replace hra := Lib.hid (hra.out.below hb)
      replace hrb := Lib.hid (hrb.out.below hb)
      replace hrc := Lib.hid (hrc.out.below hb)
      clear a0 a1 b0 b1 c0 c1 lt_a lt_b lt_c
      have a0 : w6.cell? ⟨bA, 0, none⟩ = some (.slice Aa na ca) := hXa1.cell 0
      have a1 : w6.cell? ⟨bA, 1, none⟩ = some (.int .i64 ta) := hXa1.cell 1
      have b0 : w6.cell? ⟨bA + 1, 0, none⟩ = some (.slice Ab nb cb) := hXb1.cell 0
      have b1 : w6.cell? ⟨bA + 1, 1, none⟩ = some (.int .i64 tb) := hXb1.cell 1
      have c0 : w6.cell? ⟨bA + 1 + 1, 0, none⟩ = some (.slice Ac nc cc) := hXc1.cell 0
      have c1 : w6.cell? ⟨bA + 1 + 1, 1, none⟩ = some (.int .i64 tc) := hXc1.cell 1
      have lt_a := hXa1.lt
      have lt_b := hXb1.lt
      have lt_c := hXc1.lt
      replace HB := Lib.hid (HB.out.trans (hb.mono (by have := HB.out.size; omega)))
      clear hb
      go_upto_region 7 with fail
      have QA := Lib.hid (fun d os => hra.out.regrown d os)
      have QB := Lib.hid (fun d os => hrb.out.regrown d os)
      have q_a0 := fun d os => cell_regrown a0 d os
      have q_a1 := fun d os => cell_regrown a1 d os
      have q_b0 := fun d os => cell_regrown b0 d os
      have q_b1 := fun d os => cell_regrown b1 d os
      have q_c0 := fun d os => cell_regrown c0 d os
      have q_c1 := fun d os => cell_regrown c1 d os
      try simp only [List.append]
      first | refine wp_region_text_below ?_ | refine wp_region_quiet_below (by kernel_rfl) (by kernel_rfl) ?_
      repeat (go_big_quiet_step ((first | (go_at_call 17; first | with_reducible exact Calls.regrown_of (cmpV (QB.out _ _) (QA.out _ _) _ E4.out) | with_reducible exact Calls.regrown_of (cmpV (QA.out _ _) (QA.out _ _) _ E7.out)) | (go_at_call 19; with_reducible exact Calls.regrown_of (lessV (QA.out _ _) (QB.out _ _) false (by rw [E1.out]; decide))))))
      refine wpQuiet_nil ?_
      intro _ hqw
      obtain ⟨pq, hqw⟩ := hqw
      subst hqw
      go_wp2
      go_ret
      exact ⟨rfl, by rw [hDD]; exact (HB.out.trans ((below_regrown _ _ _).mono (by have := HB.out.size; omega)))⟩
set_option maxHeartbeats 100000000 in
set_option maxRecDepth 100000 in
theorem orderOne_k14 (Aa : Option Addr) (na ca : Nat) (da : List Hp) (ta : Int) (Ab : Option Addr) (nb cb : Nat) (db : List Hp) (tb : Int) (Ac : Option Addr) (nc cc : Nat) (dc : List Hp) (tc : Int) (hda : da.length = na) (hdb : db.length = nb) (hdc : dc.length = nc) (w : World) (ha : Sl w w.heap.size 3 Aa na ca (flatHp da)) (hb : Sl w w.heap.size 3 Ab nb cb (flatHp db)) (hc : Sl w w.heap.size 3 Ac nc cc (flatHp dc)) (E1 : Hid (cmpR ta da tb db = 1)) (E2 : Hid (cmpR tb db tc dc = 0)) (E3 : Hid (cmpR ta da tc dc = 0)) (E4 : Hid (cmpR tb db ta da = -1)) (E7 : Hid (cmpR ta da ta da = 0)) :
    Calls Try.prog 5 #[.agg #[.slice Aa na ca, .int .i64 ta], .agg #[.slice Ab nb cb, .int .i64 tb], .agg #[.slice Ac nc cc, .int .i64 tc]] w fun e w' => e = .returned (.bool true) ∧ Below w.heap.size w w' := by
  have hB0 : Below w.heap.size w (((w.alloc (.cells #[.slice Aa na ca, .int .i64 ta] 25)).alloc (.cells #[.slice Ab nb cb, .int .i64 tb] 25)).alloc (.cells #[.slice Ac nc cc, .int .i64 tc] 25)) := by (repeat (first | exact Below.refl _ _ | refine Below.alloc ?_ (by first | omega | (simp; done) | (simp; omega)) _ | refine Below.setCell ?_ (by first | omega | (simp; done) | (simp; omega)) _ | refine Below.drew ?_))
  have hXa := ((Blok.new w 25 #[.slice Aa na ca, .int .i64 ta]).alloc (.cells #[.slice Ab nb cb, .int .i64 tb] 25)).alloc (.cells #[.slice Ac nc cc, .int .i64 tc] 25)
  have hXb := (Blok.new (w.alloc (.cells #[.slice Aa na ca, .int .i64 ta] 25)) 25 #[.slice Ab nb cb, .int .i64 tb]).alloc (.cells #[.slice Ac nc cc, .int .i64 tc] 25)
  simp only [World.size_alloc] at hXb
  have hXc := Blok.new ((w.alloc (.cells #[.slice Aa na ca, .int .i64 ta] 25)).alloc (.cells #[.slice Ab nb cb, .int .i64 tb] 25)) 25 #[.slice Ac nc cc, .int .i64 tc]
  simp only [World.size_alloc] at hXc
  replace ha := ha.up hB0
  replace hb := hb.up hB0
  replace hc := hc.up hB0
  have hs0 := hB0.size
  have HL : Hid (da.length = na ∧ db.length = nb ∧ dc.length = nc) := ⟨hda, hdb, hdc⟩
  clear hda hdb hdc
  by_cases hn : 50 < na ∨ 50 < nb ∨ 50 < nc
  · have hn' : 50 < na ∨ (na ≤ 50 ∧ 50 < nb) ∨ (na ≤ 50 ∧ nb ≤ 50 ∧ 50 < nc) := by omega
    clear hn
    rcases hn' with hn | ⟨hn, hn2⟩ | ⟨hn, hn2, hn3⟩
    all_goals
      go_enter Try.func5, Try.ntmps5
      go_wp2_with fail
      generalize ((w.alloc (.cells #[.slice Aa na ca, .int .i64 ta] 25)).alloc (.cells #[.slice Ab nb cb, .int .i64 tb] 25)).alloc (.cells #[.slice Ac nc cc, .int .i64 tc] 25) = w0 at *
      refine (small13_any _).mono ?_
      rintro e w1 ⟨rfl, hB⟩
      have hXa1 := hXa.below hB hXa.lt
      have hXb1 := hXb.below hB hXb.lt
      have hXc1 := hXc.below hB hXc.lt
      have a0 : w1.cell? ⟨w.heap.size, 0, none⟩ = some (.slice Aa na ca) := hXa1.cell 0
      have a1 : w1.cell? ⟨w.heap.size, 1, none⟩ = some (.int .i64 ta) := hXa1.cell 1
      have b0 : w1.cell? ⟨w.heap.size + 1, 0, none⟩ = some (.slice Ab nb cb) := hXb1.cell 0
      have b1 : w1.cell? ⟨w.heap.size + 1, 1, none⟩ = some (.int .i64 tb) := hXb1.cell 1
      have c0 : w1.cell? ⟨w.heap.size + 1 + 1, 0, none⟩ = some (.slice Ac nc cc) := hXc1.cell 0
      have c1 : w1.cell? ⟨w.heap.size + 1 + 1, 1, none⟩ = some (.int .i64 tc) := hXc1.cell 1
      have lt_a := hXa1.lt
      have lt_b := hXb1.lt
      have lt_c := hXc1.lt
      go_wp2
      go_ret
      exact ⟨rfl, hB0.trans (hB.mono hs0)⟩
  · have hn1 : na ≤ 50 := by omega
    have hn2 : nb ≤ 50 := by omega
    have hn3 : nc ≤ 50 := by omega
    clear hn
    have ga : decide ((na : Int) > 50) = false := decide_eq_false (by omega)
    have gb : decide ((nb : Int) > 50) = false := decide_eq_false (by omega)
    have gc : decide ((nc : Int) > 50) = false := decide_eq_false (by omega)
    have HN : Hid (na ≤ 50 ∧ nb ≤ 50 ∧ nc ≤ 50) := ⟨hn1, hn2, hn3⟩
    go_enter Try.func5, Try.ntmps5
    go_wp2_with fail
    generalize ((w.alloc (.cells #[.slice Aa na ca, .int .i64 ta] 25)).alloc (.cells #[.slice Ab nb cb, .int .i64 tb] 25)).alloc (.cells #[.slice Ac nc cc, .int .i64 tc] 25) = w0 at *
    refine (small13_any _).mono ?_
    rintro e w1 ⟨rfl, hB⟩
    have hXa1 := hXa.below hB hXa.lt
    have hXb1 := hXb.below hB hXb.lt
    have hXc1 := hXc.below hB hXc.lt
    have a0 : w1.cell? ⟨w.heap.size, 0, none⟩ = some (.slice Aa na ca) := hXa1.cell 0
    have a1 : w1.cell? ⟨w.heap.size, 1, none⟩ = some (.int .i64 ta) := hXa1.cell 1
    have b0 : w1.cell? ⟨w.heap.size + 1, 0, none⟩ = some (.slice Ab nb cb) := hXb1.cell 0
    have b1 : w1.cell? ⟨w.heap.size + 1, 1, none⟩ = some (.int .i64 tb) := hXb1.cell 1
    have c0 : w1.cell? ⟨w.heap.size + 1 + 1, 0, none⟩ = some (.slice Ac nc cc) := hXc1.cell 0
    have c1 : w1.cell? ⟨w.heap.size + 1 + 1, 1, none⟩ = some (.int .i64 tc) := hXc1.cell 1
    have lt_a := hXa1.lt
    have lt_b := hXb1.lt
    have lt_c := hXc1.lt
    have hra : Hid (RV w1 (.agg #[.slice Aa na ca, .int .i64 ta]) (da, ta)) := (show RV w0 (.agg #[.slice Aa na ca, .int .i64 ta]) (da, ta) from ⟨_, _, _, rfl, HL.out.1, by show na ≤ 1000000; omega, ha⟩).below hB
    have hrb : Hid (RV w1 (.agg #[.slice Ab nb cb, .int .i64 tb]) (db, tb)) := (show RV w0 (.agg #[.slice Ab nb cb, .int .i64 tb]) (db, tb) from ⟨_, _, _, rfl, HL.out.2.1, by show nb ≤ 1000000; omega, hb⟩).below hB
    have hrc : Hid (RV w1 (.agg #[.slice Ac nc cc, .int .i64 tc]) (dc, tc)) := (show RV w0 (.agg #[.slice Ac nc cc, .int .i64 tc]) (dc, tc) from ⟨_, _, _, rfl, HL.out.2.2, by show nc ≤ 1000000; omega, hc⟩).below hB
    have HB := Lib.hid (hB0.trans (hB.mono hs0))
    clear ha hb hc hB0 hXa hXb hXc hs0 hB hn1 hn2 hn3 HN HL
    all_goals
      go_upto_region 4 with fail
      generalize hDD : w.heap.size = bA at *
      go_wp2_with fail
      refine (cmpV hra.out hrb.out _ E1.out).mono ?_
      rintro e w4 ⟨rfl, hb⟩
      replace hXa1 := hXa1.below hb hXa1.lt
      replace hXb1 := hXb1.below hb hXb1.lt
      replace hXc1 := hXc1.below hb hXc1.lt
      replace hra := Lib.hid (hra.out.below hb)
      replace hrb := Lib.hid (hrb.out.below hb)
      replace hrc := Lib.hid (hrc.out.below hb)
      clear a0 a1 b0 b1 c0 c1 lt_a lt_b lt_c
      have a0 : w4.cell? ⟨bA, 0, none⟩ = some (.slice Aa na ca) := hXa1.cell 0
      have a1 : w4.cell? ⟨bA, 1, none⟩ = some (.int .i64 ta) := hXa1.cell 1
      have b0 : w4.cell? ⟨bA + 1, 0, none⟩ = some (.slice Ab nb cb) := hXb1.cell 0
      have b1 : w4.cell? ⟨bA + 1, 1, none⟩ = some (.int .i64 tb) := hXb1.cell 1
      have c0 : w4.cell? ⟨bA + 1 + 1, 0, none⟩ = some (.slice Ac nc cc) := hXc1.cell 0
      have c1 : w4.cell? ⟨bA + 1 + 1, 1, none⟩ = some (.int .i64 tc) := hXc1.cell 1
      have lt_a := hXa1.lt
      have lt_b := hXb1.lt
      have lt_c := hXc1.lt
      replace HB := Lib.hid (HB.out.trans (hb.mono (by have := HB.out.size; omega)))
      clear hb
      go_wp2_with fail
      refine (cmpV hrb.out hrc.out _ E2.out).mono ?_
      rintro e w5 ⟨rfl, hb⟩
      replace hXa1 := hXa1.below hb hXa1.lt
      replace hXb1 := hXb1.below hb hXb1.lt
      replace hXc1 := hXc1.below hb hXc1.lt
      replace hra := Lib.hid (hra.out.below hb)
      replace hrb := Lib.hid (hrb.out.below hb)
      replace hrc := Lib.hid (hrc.out.below hb)
      clear a0 a1 b0 b1 c0 c1 lt_a lt_b lt_c
      have a0 : w5.cell? ⟨bA, 0, none⟩ = some (.slice Aa na ca) := hXa1.cell 0
      have a1 : w5.cell? ⟨bA, 1, none⟩ = some (.int .i64 ta) := hXa1.cell 1
      have b0 : w5.cell? ⟨bA + 1, 0, none⟩ = some (.slice Ab nb cb) := hXb1.cell 0
      have b1 : w5.cell? ⟨bA + 1, 1, none⟩ = some (.int .i64 tb) := hXb1.cell 1
      have c0 : w5.cell? ⟨bA + 1 + 1, 0, none⟩ = some (.slice Ac nc cc) := hXc1.cell 0
      have c1 : w5.cell? ⟨bA + 1 + 1, 1, none⟩ = some (.int .i64 tc) := hXc1.cell 1
      have lt_a := hXa1.lt
      have lt_b := hXb1.lt
      have lt_c := hXc1.lt
      replace HB := Lib.hid (HB.out.trans (hb.mono (by have := HB.out.size; omega)))
      clear hb
      go_wp2_with fail
      refine (cmpV hra.out hrc.out _ E3.out).mono ?_
      rintro e w6 ⟨rfl, hb⟩
      replace hXa1 := hXa1.below hb hXa1.lt
      replace hXb1 := hXb1.below hb hXb1.lt
      replace hXc1 := hXc1.below hb hXc1.lt
      replace hra := Lib.hid (hra.out.below hb)
      replace hrb := Lib.hid (hrb.out.below hb)
      replace hrc := Lib.hid (hrc.out.below hb)
      clear a0 a1 b0 b1 c0 c1 lt_a lt_b lt_c
      have a0 : w6.cell? ⟨bA, 0, none⟩ = some (.slice Aa na ca) := hXa1.cell 0
      have a1 : w6.cell? ⟨bA, 1, none⟩ = some (.int .i64 ta) := hXa1.cell 1
      have b0 : w6.cell? ⟨bA + 1, 0, none⟩ = some (.slice Ab nb cb) := hXb1.cell 0
      have b1 : w6.cell? ⟨bA + 1, 1, none⟩ = some (.int .i64 tb) := hXb1.cell 1
      have c0 : w6.cell? ⟨bA + 1 + 1, 0, none⟩ = some (.slice Ac nc cc) := hXc1.cell 0
      have c1 : w6.cell? ⟨bA + 1 + 1, 1, none⟩ = some (.int .i64 tc) := hXc1.cell 1
      have lt_a := hXa1.lt
      have lt_b := hXb1.lt
      have lt_c := hXc1.lt
      replace HB := Lib.hid (HB.out.trans (hb.mono (by have := HB.out.size; omega)))
      clear hb
      go_upto_region 7 with fail
      have QA := Lib.hid (fun d os => hra.out.regrown d os)
      have QB := Lib.hid (fun d os => hrb.out.regrown d os)
      have q_a0 := fun d os => cell_regrown a0 d os
      have q_a1 := fun d os => cell_regrown a1 d os
      have q_b0 := fun d os => cell_regrown b0 d os
      have q_b1 := fun d os => cell_regrown b1 d os
      have q_c0 := fun d os => cell_regrown c0 d os
      have q_c1 := fun d os => cell_regrown c1 d os
      try simp only [List.append]
      first | refine wp_region_text_below ?_ | refine wp_region_quiet_below (by kernel_rfl) (by kernel_rfl) ?_
      repeat (go_big_quiet_step ((first | (go_at_call 17; first | with_reducible exact Calls.regrown_of (cmpV (QB.out _ _) (QA.out _ _) _ E4.out) | with_reducible exact Calls.regrown_of (cmpV (QA.out _ _) (QA.out _ _) _ E7.out)) | (go_at_call 19; with_reducible exact Calls.regrown_of (lessV (QA.out _ _) (QB.out _ _) false (by rw [E1.out]; decide))))))
      refine wpQuiet_nil ?_
      intro _ hqw
      obtain ⟨pq, hqw⟩ := hqw
      subst hqw
      go_wp2
      go_ret
      exact ⟨rfl, by rw [hDD]; exact (HB.out.trans ((below_regrown _ _ _).mono (by have := HB.out.size; omega)))⟩
set_option maxHeartbeats 100000000 in
set_option maxRecDepth 100000 in
theorem orderOne_k15 (Aa : Option Addr) (na ca : Nat) (da : List Hp) (ta : Int) (Ab : Option Addr) (nb cb : Nat) (db : List Hp) (tb : Int) (Ac : Option Addr) (nc cc : Nat) (dc : List Hp) (tc : Int) (hda : da.length = na) (hdb : db.length = nb) (hdc : dc.length = nc) (w : World) (ha : Sl w w.heap.size 3 Aa na ca (flatHp da)) (hb : Sl w w.heap.size 3 Ab nb cb (flatHp db)) (hc : Sl w w.heap.size 3 Ac nc cc (flatHp dc)) (E1 : Hid (cmpR ta da tb db = 1)) (E2 : Hid (cmpR tb db tc dc = 0)) (E3 : Hid (cmpR ta da tc dc = 1)) (E4 : Hid (cmpR tb db ta da = -1)) (E7 : Hid (cmpR ta da ta da = 0)) :
    Calls Try.prog 5 #[.agg #[.slice Aa na ca, .int .i64 ta], .agg #[.slice Ab nb cb, .int .i64 tb], .agg #[.slice Ac nc cc, .int .i64 tc]] w fun e w' => e = .returned (.bool true) ∧ Below w.heap.size w w' := by
  have hB0 : Below w.heap.size w (((w.alloc (.cells #[.slice Aa na ca, .int .i64 ta] 25)).alloc (.cells #[.slice Ab nb cb, .int .i64 tb] 25)).alloc (.cells #[.slice Ac nc cc, .int .i64 tc] 25)) := by (repeat (first | exact Below.refl _ _ | refine Below.alloc ?_ (by first | omega | (simp; done) | (simp; omega)) _ | refine Below.setCell ?_ (by first | omega | (simp; done) | (simp; omega)) _ | refine Below.drew ?_))
  have hXa := ((Blok.new w 25 #[.slice Aa na ca, .int .i64 ta]).alloc (.cells #[.slice Ab nb cb, .int .i64 tb] 25)).alloc (.cells #[.slice Ac nc cc, .int .i64 tc] 25)
  have hXb := (Blok.new (w.alloc (.cells #[.slice Aa na ca, .int .i64 ta] 25)) 25 #[.slice Ab nb cb, .int .i64 tb]).alloc (.cells #[.slice Ac nc cc, .int .i64 tc] 25)
  simp only [World.size_alloc] at hXb
  have hXc := Blok.new ((w.alloc (.cells #[.slice Aa na ca, .int .i64 ta] 25)).alloc (.cells #[.slice Ab nb cb, .int .i64 tb] 25)) 25 #[.slice Ac nc cc, .int .i64 tc]
  simp only [World.size_alloc] at hXc
  replace ha := ha.up hB0
  replace hb := hb.up hB0
  replace hc := hc.up hB0
  have hs0 := hB0.size
  have HL : Hid (da.length = na ∧ db.length = nb ∧ dc.length = nc) := ⟨hda, hdb, hdc⟩
  clear hda hdb hdc
  by_cases hn : 50 < na ∨ 50 < nb ∨ 50 < nc
  · have hn' : 50 < na ∨ (na ≤ 50 ∧ 50 < nb) ∨ (na ≤ 50 ∧ nb ≤ 50 ∧ 50 < nc) := by omega
    clear hn
    rcases hn' with hn | ⟨hn, hn2⟩ | ⟨hn, hn2, hn3⟩
    all_goals
      go_enter Try.func5, Try.ntmps5
      go_wp2_with fail
      generalize ((w.alloc (.cells #[.slice Aa na ca, .int .i64 ta] 25)).alloc (.cells #[.slice Ab nb cb, .int .i64 tb] 25)).alloc (.cells #[.slice Ac nc cc, .int .i64 tc] 25) = w0 at *
      refine (small13_any _).mono ?_
      rintro e w1 ⟨rfl, hB⟩
      have hXa1 := hXa.below hB hXa.lt
      have hXb1 := hXb.below hB hXb.lt
      have hXc1 := hXc.below hB hXc.lt
      have a0 : w1.cell? ⟨w.heap.size, 0, none⟩ = some (.slice Aa na ca) := hXa1.cell 0
      have a1 : w1.cell? ⟨w.heap.size, 1, none⟩ = some (.int .i64 ta) := hXa1.cell 1
      have b0 : w1.cell? ⟨w.heap.size + 1, 0, none⟩ = some (.slice Ab nb cb) := hXb1.cell 0
      have b1 : w1.cell? ⟨w.heap.size + 1, 1, none⟩ = some (.int .i64 tb) := hXb1.cell 1
      have c0 : w1.cell? ⟨w.heap.size + 1 + 1, 0, none⟩ = some (.slice Ac nc cc) := hXc1.cell 0
      have c1 : w1.cell? ⟨w.heap.size + 1 + 1, 1, none⟩ = some (.int .i64 tc) := hXc1.cell 1
      have lt_a := hXa1.lt
      have lt_b := hXb1.lt
      have lt_c := hXc1.lt
      go_wp2
      go_ret
      exact ⟨rfl, hB0.trans (hB.mono hs0)⟩
  · have hn1 : na ≤ 50 := by omega
    have hn2 : nb ≤ 50 := by omega
    have hn3 : nc ≤ 50 := by omega
    clear hn
    have ga : decide ((na : Int) > 50) = false := decide_eq_false (by omega)
    have gb : decide ((nb : Int) > 50) = false := decide_eq_false (by omega)
    have gc : decide ((nc : Int) > 50) = false := decide_eq_false (by omega)
    have HN : Hid (na ≤ 50 ∧ nb ≤ 50 ∧ nc ≤ 50) := ⟨hn1, hn2, hn3⟩
    go_enter Try.func5, Try.ntmps5
    go_wp2_with fail
    generalize ((w.alloc (.cells #[.slice Aa na ca, .int .i64 ta] 25)).alloc (.cells #[.slice Ab nb cb, .int .i64 tb] 25)).alloc (.cells #[.slice Ac nc cc, .int .i64 tc] 25) = w0 at *
    refine (small13_any _).mono ?_
    rintro e w1 ⟨rfl, hB⟩
    have hXa1 := hXa.below hB hXa.lt
    have hXb1 := hXb.below hB hXb.lt
    have hXc1 := hXc.below hB hXc.lt
    have a0 : w1.cell? ⟨w.heap.size, 0, none⟩ = some (.slice Aa na ca) := hXa1.cell 0
    have a1 : w1.cell? ⟨w.heap.size, 1, none⟩ = some (.int .i64 ta) := hXa1.cell 1
    have b0 : w1.cell? ⟨w.heap.size + 1, 0, none⟩ = some (.slice Ab nb cb) := hXb1.cell 0
    have b1 : w1.cell? ⟨w.heap.size + 1, 1, none⟩ = some (.int .i64 tb) := hXb1.cell 1
    have c0 : w1.cell? ⟨w.heap.size + 1 + 1, 0, none⟩ = some (.slice Ac nc cc) := hXc1.cell 0
    have c1 : w1.cell? ⟨w.heap.size + 1 + 1, 1, none⟩ = some (.int .i64 tc) := hXc1.cell 1
    have lt_a := hXa1.lt
    have lt_b := hXb1.lt
    have lt_c := hXc1.lt
    have hra : Hid (RV w1 (.agg #[.slice Aa na ca, .int .i64 ta]) (da, ta)) := (show RV w0 (.agg #[.slice Aa na ca, .int .i64 ta]) (da, ta) from ⟨_, _, _, rfl, HL.out.1, by show na ≤ 1000000; omega, ha⟩).below hB
    have hrb : Hid (RV w1 (.agg #[.slice Ab nb cb, .int .i64 tb]) (db, tb)) := (show RV w0 (.agg #[.slice Ab nb cb, .int .i64 tb]) (db, tb) from ⟨_, _, _, rfl, HL.out.2.1, by show nb ≤ 1000000; omega, hb⟩).below hB
    have hrc : Hid (RV w1 (.agg #[.slice Ac nc cc, .int .i64 tc]) (dc, tc)) := (show RV w0 (.agg #[.slice Ac nc cc, .int .i64 tc]) (dc, tc) from ⟨_, _, _, rfl, HL.out.2.2, by show nc ≤ 1000000; omega, hc⟩).below hB
    have HB := Lib.hid (hB0.trans (hB.mono hs0))
    clear ha hb hc hB0 hXa hXb hXc hs0 hB hn1 hn2 hn3 HN HL
    all_goals
      go_upto_region 4 with fail
      generalize hDD : w.heap.size = bA at *
      go_wp2_with fail
      refine (cmpV hra.out hrb.out _ E1.out).mono ?_
      rintro e w4 ⟨rfl, hb⟩
      replace hXa1 := hXa1.below hb hXa1.lt
      replace hXb1 := hXb1.below hb hXb1.lt
      replace hXc1 := hXc1.below hb hXc1.lt
      replace hra := Lib.hid (hra.out.below hb)
      replace hrb := Lib.hid (hrb.out.below hb)
      replace hrc := Lib.hid (hrc.out.below hb)
      clear a0 a1 b0 b1 c0 c1 lt_a lt_b lt_c
      have a0 : w4.cell? ⟨bA, 0, none⟩ = some (.slice Aa na ca) := hXa1.cell 0
      have a1 : w4.cell? ⟨bA, 1, none⟩ = some (.int .i64 ta) := hXa1.cell 1
      have b0 : w4.cell? ⟨bA + 1, 0, none⟩ = some (.slice Ab nb cb) := hXb1.cell 0
      have b1 : w4.cell? ⟨bA + 1, 1, none⟩ = some (.int .i64 tb) := hXb1.cell 1
      have c0 : w4.cell? ⟨bA + 1 + 1, 0, none⟩ = some (.slice Ac nc cc) := hXc1.cell 0
      have c1 : w4.cell? ⟨bA + 1 + 1, 1, none⟩ = some (.int .i64 tc) := hXc1.cell 1
      have lt_a := hXa1.lt
      have lt_b := hXb1.lt
      have lt_c := hXc1.lt
      replace HB := Lib.hid (HB.out.trans (hb.mono (by have := HB.out.size; omega)))
      clear hb
      go_wp2_with fail
      refine (cmpV hrb.out hrc.out _ E2.out).mono ?_
      rintro e w5 ⟨rfl, hb⟩
      replace hXa1 := hXa1.below hb hXa1.lt
      replace hXb1 := hXb1.below hb hXb1.lt
      replace hXc1 := hXc1.below hb hXc1.lt
      replace hra := Lib.hid (hra.out.below hb)
      replace hrb := Lib.hid (hrb.out.below hb)
      replace hrc := Lib.hid (hrc.out.below hb)
      clear a0 a1 b0 b1 c0 c1 lt_a lt_b lt_c
      have a0 : w5.cell? ⟨bA, 0, none⟩ = some (.slice Aa na ca) := hXa1.cell 0
      have a1 : w5.cell? ⟨bA, 1, none⟩ = some (.int .i64 ta) := hXa1.cell 1
      have b0 : w5.cell? ⟨bA + 1, 0, none⟩ = some (.slice Ab nb cb) := hXb1.cell 0
      have b1 : w5.cell? ⟨bA + 1, 1, none⟩ = some (.int .i64 tb) := hXb1.cell 1
      have c0 : w5.cell? ⟨bA + 1 + 1, 0, none⟩ = some (.slice Ac nc cc) := hXc1.cell 0
      have c1 : w5.cell? ⟨bA + 1 + 1, 1, none⟩ = some (.int .i64 tc) := hXc1.cell 1
      have lt_a := hXa1.lt
      have lt_b := hXb1.lt
      have lt_c := hXc1.lt
      replace HB := Lib.hid (HB.out.trans (hb.mono (by have := HB.out.size; omega)))
      clear hb
      go_wp2_with fail
      refine (cmpV hra.out hrc.out _ E3.out).mono ?_
      rintro e w6 ⟨rfl, hb⟩
      replace hXa1 := hXa1.below hb hXa1.lt
      replace hXb1 := hXb1.below hb hXb1.lt
      replace hXc1 := hXc1.below hb hXc1.lt
      replace hra := Lib.hid (hra.out.below hb)
      replace hrb := Lib.hid (hrb.out.below hb)
      replace hrc := Lib.hid (hrc.out.below hb)
      clear a0 a1 b0 b1 c0 c1 lt_a lt_b lt_c
      have a0 : w6.cell? ⟨bA, 0, none⟩ = some (.slice Aa na ca) := hXa1.cell 0
      have a1 : w6.cell? ⟨bA, 1, none⟩ = some (.int .i64 ta) := hXa1.cell 1
      have b0 : w6.cell? ⟨bA + 1, 0, none⟩ = some (.slice Ab nb cb) := hXb1.cell 0
      have b1 : w6.cell? ⟨bA + 1, 1, none⟩ = some (.int .i64 tb) := hXb1.cell 1
      have c0 : w6.cell? ⟨bA + 1 + 1, 0, none⟩ = some (.slice Ac nc cc) := hXc1.cell 0
      have c1 : w6.cell? ⟨bA + 1 + 1, 1, none⟩ = some (.int .i64 tc) := hXc1.cell 1
      have lt_a := hXa1.lt
      have lt_b := hXb1.lt
      have lt_c := hXc1.lt
      replace HB := Lib.hid (HB.out.trans (hb.mono (by have := HB.out.size; omega)))
      clear hb
      go_upto_region 7 with fail
      have QA := Lib.hid (fun d os => hra.out.regrown d os)
      have QB := Lib.hid (fun d os => hrb.out.regrown d os)
      have q_a0 := fun d os => cell_regrown a0 d os
      have q_a1 := fun d os => cell_regrown a1 d os
      have q_b0 := fun d os => cell_regrown b0 d os
      have q_b1 := fun d os => cell_regrown b1 d os
      have q_c0 := fun d os => cell_regrown c0 d os
      have q_c1 := fun d os => cell_regrown c1 d os
      try simp only [List.append]
      first | refine wp_region_text_below ?_ | refine wp_region_quiet_below (by kernel_rfl) (by kernel_rfl) ?_
      repeat (go_big_quiet_step ((first | (go_at_call 17; first | with_reducible exact Calls.regrown_of (cmpV (QB.out _ _) (QA.out _ _) _ E4.out) | with_reducible exact Calls.regrown_of (cmpV (QA.out _ _) (QA.out _ _) _ E7.out)) | (go_at_call 19; with_reducible exact Calls.regrown_of (lessV (QA.out _ _) (QB.out _ _) false (by rw [E1.out]; decide))))))
      refine wpQuiet_nil ?_
      intro _ hqw
      obtain ⟨pq, hqw⟩ := hqw
      subst hqw
      go_wp2
      go_ret
      exact ⟨rfl, by rw [hDD]; exact (HB.out.trans ((below_regrown _ _ _).mono (by have := HB.out.size; omega)))⟩
set_option maxHeartbeats 100000000 in
set_option maxRecDepth 100000 in
theorem orderOne_k16 (Aa : Option Addr) (na ca : Nat) (da : List Hp) (ta : Int) (Ab : Option Addr) (nb cb : Nat) (db : List Hp) (tb : Int) (Ac : Option Addr) (nc cc : Nat) (dc : List Hp) (tc : Int) (hda : da.length = na) (hdb : db.length = nb) (hdc : dc.length = nc) (w : World) (ha : Sl w w.heap.size 3 Aa na ca (flatHp da)) (hb : Sl w w.heap.size 3 Ab nb cb (flatHp db)) (hc : Sl w w.heap.size 3 Ac nc cc (flatHp dc)) (E1 : Hid (cmpR ta da tb db = 1)) (E2 : Hid (cmpR tb db tc dc = 1)) (E3 : Hid (cmpR ta da tc dc = -1)) (E4 : Hid (cmpR tb db ta da = -1)) (E7 : Hid (cmpR ta da ta da = 0)) :
    Calls Try.prog 5 #[.agg #[.slice Aa na ca, .int .i64 ta], .agg #[.slice Ab nb cb, .int .i64 tb], .agg #[.slice Ac nc cc, .int .i64 tc]] w fun e w' => e = .returned (.bool true) ∧ Below w.heap.size w w' := by
  have hB0 : Below w.heap.size w (((w.alloc (.cells #[.slice Aa na ca, .int .i64 ta] 25)).alloc (.cells #[.slice Ab nb cb, .int .i64 tb] 25)).alloc (.cells #[.slice Ac nc cc, .int .i64 tc] 25)) := by (repeat (first | exact Below.refl _ _ | refine Below.alloc ?_ (by first | omega | (simp; done) | (simp; omega)) _ | refine Below.setCell ?_ (by first | omega | (simp; done) | (simp; omega)) _ | refine Below.drew ?_))
  have hXa := ((Blok.new w 25 #[.slice Aa na ca, .int .i64 ta]).alloc (.cells #[.slice Ab nb cb, .int .i64 tb] 25)).alloc (.cells #[.slice Ac nc cc, .int .i64 tc] 25)
  have hXb := (Blok.new (w.alloc (.cells #[.slice Aa na ca, .int .i64 ta] 25)) 25 #[.slice Ab nb cb, .int .i64 tb]).alloc (.cells #[.slice Ac nc cc, .int .i64 tc] 25)
  simp only [World.size_alloc] at hXb
  have hXc := Blok.new ((w.alloc (.cells #[.slice Aa na ca, .int .i64 ta] 25)).alloc (.cells #[.slice Ab nb cb, .int .i64 tb] 25)) 25 #[.slice Ac nc cc, .int .i64 tc]
  simp only [World.size_alloc] at hXc
  replace ha := ha.up hB0
  replace hb := hb.up hB0
  replace hc := hc.up hB0
  have hs0 := hB0.size
  have HL : Hid (da.length = na ∧ db.length = nb ∧ dc.length = nc) := ⟨hda, hdb, hdc⟩
  clear hda hdb hdc
  by_cases hn : 50 < na ∨ 50 < nb ∨ 50 < nc
  · have hn' : 50 < na ∨ (na ≤ 50 ∧ 50 < nb) ∨ (na ≤ 50 ∧ nb ≤ 50 ∧ 50 < nc) := by omega
    clear hn
    rcases hn' with hn | ⟨hn, hn2⟩ | ⟨hn, hn2, hn3⟩
    all_goals
      go_enter Try.func5, Try.ntmps5
      go_wp2_with fail
      generalize ((w.alloc (.cells #[.slice Aa na ca, .int .i64 ta] 25)).alloc (.cells #[.slice Ab nb cb, .int .i64 tb] 25)).alloc (.cells #[.slice Ac nc cc, .int .i64 tc] 25) = w0 at *
      refine (small13_any _).mono ?_
      rintro e w1 ⟨rfl, hB⟩
      have hXa1 := hXa.below hB hXa.lt
      have hXb1 := hXb.below hB hXb.lt
      have hXc1 := hXc.below hB hXc.lt
      have a0 : w1.cell? ⟨w.heap.size, 0, none⟩ = some (.slice Aa na ca) := hXa1.cell 0
      have a1 : w1.cell? ⟨w.heap.size, 1, none⟩ = some (.int .i64 ta) := hXa1.cell 1
      have b0 : w1.cell? ⟨w.heap.size + 1, 0, none⟩ = some (.slice Ab nb cb) := hXb1.cell 0
      have b1 : w1.cell? ⟨w.heap.size + 1, 1, none⟩ = some (.int .i64 tb) := hXb1.cell 1
      have c0 : w1.cell? ⟨w.heap.size + 1 + 1, 0, none⟩ = some (.slice Ac nc cc) := hXc1.cell 0
      have c1 : w1.cell? ⟨w.heap.size + 1 + 1, 1, none⟩ = some (.int .i64 tc) := hXc1.cell 1
      have lt_a := hXa1.lt
      have lt_b := hXb1.lt
      have lt_c := hXc1.lt
      go_wp2
      go_ret
      exact ⟨rfl, hB0.trans (hB.mono hs0)⟩
  · have hn1 : na ≤ 50 := by omega
    have hn2 : nb ≤ 50 := by omega
    have hn3 : nc ≤ 50 := by omega
    clear hn
    have ga : decide ((na : Int) > 50) = false := decide_eq_false (by omega)
    have gb : decide ((nb : Int) > 50) = false := decide_eq_false (by omega)
    have gc : decide ((nc : Int) > 50) = false := decide_eq_false (by omega)
    have HN : Hid (na ≤ 50 ∧ nb ≤ 50 ∧ nc ≤ 50) := ⟨hn1, hn2, hn3⟩
    go_enter Try.func5, Try.ntmps5
    go_wp2_with fail
    generalize ((w.alloc (.cells #[.slice Aa na ca, .int .i64 ta] 25)).alloc (.cells #[.slice Ab nb cb, .int .i64 tb] 25)).alloc (.cells #[.slice Ac nc cc, .int .i64 tc] 25) = w0 at *
    refine (small13_any _).mono ?_
    rintro e w1 ⟨rfl, hB⟩
    have hXa1 := hXa.below hB hXa.lt
    have hXb1 := hXb.below hB hXb.lt
    have hXc1 := hXc.below hB hXc.lt
    have a0 : w1.cell? ⟨w.heap.size, 0, none⟩ = some (.slice Aa na ca) := hXa1.cell 0
    have a1 : w1.cell? ⟨w.heap.size, 1, none⟩ = some (.int .i64 ta) := hXa1.cell 1
    have b0 : w1.cell? ⟨w.heap.size + 1, 0, none⟩ = some (.slice Ab nb cb) := hXb1.cell 0
    have b1 : w1.cell? ⟨w.heap.size + 1, 1, none⟩ = some (.int .i64 tb) := hXb1.cell 1
    have c0 : w1.cell? ⟨w.heap.size + 1 + 1, 0, none⟩ = some (.slice Ac nc cc) := hXc1.cell 0
    have c1 : w1.cell? ⟨w.heap.size + 1 + 1, 1, none⟩ = some (.int .i64 tc) := hXc1.cell 1
    have lt_a := hXa1.lt
    have lt_b := hXb1.lt
    have lt_c := hXc1.lt
    have hra : Hid (RV w1 (.agg #[.slice Aa na ca, .int .i64 ta]) (da, ta)) := (show RV w0 (.agg #[.slice Aa na ca, .int .i64 ta]) (da, ta) from ⟨_, _, _, rfl, HL.out.1, by show na ≤ 1000000; omega, ha⟩).below hB
    have hrb : Hid (RV w1 (.agg #[.slice Ab nb cb, .int .i64 tb]) (db, tb)) := (show RV w0 (.agg #[.slice Ab nb cb, .int .i64 tb]) (db, tb) from ⟨_, _, _, rfl, HL.out.2.1, by show nb ≤ 1000000; omega, hb⟩).below hB
    have hrc : Hid (RV w1 (.agg #[.slice Ac nc cc, .int .i64 tc]) (dc, tc)) := (show RV w0 (.agg #[.slice Ac nc cc, .int .i64 tc]) (dc, tc) from ⟨_, _, _, rfl, HL.out.2.2, by show nc ≤ 1000000; omega, hc⟩).below hB
    have HB := Lib.hid (hB0.trans (hB.mono hs0))
    clear ha hb hc hB0 hXa hXb hXc hs0 hB hn1 hn2 hn3 HN HL
    all_goals
      go_upto_region 4 with fail
      generalize hDD : w.heap.size = bA at *
      go_wp2_with fail
      refine (cmpV hra.out hrb.out _ E1.out).mono ?_
      rintro e w4 ⟨rfl, hb⟩
      replace hXa1 := hXa1.below hb hXa1.lt
      replace hXb1 := hXb1.below hb hXb1.lt
      replace hXc1 := hXc1.below hb hXc1.lt
      replace hra := Lib.hid (hra.out.below hb)
      replace hrb := Lib.hid (hrb.out.below hb)
      replace hrc := Lib.hid (hrc.out.below hb)
      clear a0 a1 b0 b1 c0 c1 lt_a lt_b lt_c
      have a0 : w4.cell? ⟨bA, 0, none⟩ = some (.slice Aa na ca) := hXa1.cell 0
      have a1 : w4.cell? ⟨bA, 1, none⟩ = some (.int .i64 ta) := hXa1.cell 1
      have b0 : w4.cell? ⟨bA + 1, 0, none⟩ = some (.slice Ab nb cb) := hXb1.cell 0
      have b1 : w4.cell? ⟨bA + 1, 1, none⟩ = some (.int .i64 tb) := hXb1.cell 1
      have c0 : w4.cell? ⟨bA + 1 + 1, 0, none⟩ = some (.slice Ac nc cc) := hXc1.cell 0
      have c1 : w4.cell? ⟨bA + 1 + 1, 1, none⟩ = some (.int .i64 tc) := hXc1.cell 1
      have lt_a := hXa1.lt
      have lt_b := hXb1.lt
      have lt_c := hXc1.lt
      replace HB := Lib.hid (HB.out.trans (hb.mono (by have := HB.out.size; omega)))
      clear hb
      go_wp2_with fail
      refine (cmpV hrb.out hrc.out _ E2.out).mono ?_
      rintro e w5 ⟨rfl, hb⟩
      replace hXa1 := hXa1.below hb hXa1.lt
      replace hXb1 := hXb1.below hb hXb1.lt
      replace hXc1 := hXc1.below hb hXc1.lt
      replace hra := Lib.hid (hra.out.below hb)
      replace hrb := Lib.hid (hrb.out.below hb)
      replace hrc := Lib.hid (hrc.out.below hb)
      clear a0 a1 b0 b1 c0 c1 lt_a lt_b lt_c
      have a0 : w5.cell? ⟨bA, 0, none⟩ = some (.slice Aa na ca) := hXa1.cell 0
      have a1 : w5.cell? ⟨bA, 1, none⟩ = some (.int .i64 ta) := hXa1.cell 1
      have b0 : w5.cell? ⟨bA + 1, 0, none⟩ = some (.slice Ab nb cb) := hXb1.cell 0
      have b1 : w5.cell? ⟨bA + 1, 1, none⟩ = some (.int .i64 tb) := hXb1.cell 1
      have c0 : w5.cell? ⟨bA + 1 + 1, 0, none⟩ = some (.slice Ac nc cc) := hXc1.cell 0
      have c1 : w5.cell? ⟨bA + 1 + 1, 1, none⟩ = some (.int .i64 tc) := hXc1.cell 1
      have lt_a := hXa1.lt
      have lt_b := hXb1.lt
      have lt_c := hXc1.lt
      replace HB := Lib.hid (HB.out.trans (hb.mono (by have := HB.out.size; omega)))
      clear hb
      go_wp2_with fail
      refine (cmpV hra.out hrc.out _ E3.out).mono ?_
      rintro e w6 ⟨rfl, hb⟩
      replace hXa1 := hXa1.below hb hXa1.lt
      replace hXb1 := hXb1.below hb hXb1.lt
      replace hXc1 := hXc1.below hb hXc1.lt
      replace hra := Lib.hid (hra.out.below hb)
      replace hrb := Lib.hid (hrb.out.below hb)
      replace hrc := Lib.hid (hrc.out.below hb)
      clear a0 a1 b0 b1 c0 c1 lt_a lt_b lt_c
      have a0 : w6.cell? ⟨bA, 0, none⟩ = some (.slice Aa na ca) := hXa1.cell 0
      have a1 : w6.cell? ⟨bA, 1, none⟩ = some (.int .i64 ta) := hXa1.cell 1
      have b0 : w6.cell? ⟨bA + 1, 0, none⟩ = some (.slice Ab nb cb) := hXb1.cell 0
      have b1 : w6.cell? ⟨bA + 1, 1, none⟩ = some (.int .i64 tb) := hXb1.cell 1
      have c0 : w6.cell? ⟨bA + 1 + 1, 0, none⟩ = some (.slice Ac nc cc) := hXc1.cell 0
      have c1 : w6.cell? ⟨bA + 1 + 1, 1, none⟩ = some (.int .i64 tc) := hXc1.cell 1
      have lt_a := hXa1.lt
      have lt_b := hXb1.lt
      have lt_c := hXc1.lt
      replace HB := Lib.hid (HB.out.trans (hb.mono (by have := HB.out.size; omega)))
      clear hb
      go_upto_region 7 with fail
      have QA := Lib.hid (fun d os => hra.out.regrown d os)
      have QB := Lib.hid (fun d os => hrb.out.regrown d os)
      have q_a0 := fun d os => cell_regrown a0 d os
      have q_a1 := fun d os => cell_regrown a1 d os
      have q_b0 := fun d os => cell_regrown b0 d os
      have q_b1 := fun d os => cell_regrown b1 d os
      have q_c0 := fun d os => cell_regrown c0 d os
      have q_c1 := fun d os => cell_regrown c1 d os
      try simp only [List.append]
      first | refine wp_region_text_below ?_ | refine wp_region_quiet_below (by kernel_rfl) (by kernel_rfl) ?_
      repeat (go_big_quiet_step ((first | (go_at_call 17; first | with_reducible exact Calls.regrown_of (cmpV (QB.out _ _) (QA.out _ _) _ E4.out) | with_reducible exact Calls.regrown_of (cmpV (QA.out _ _) (QA.out _ _) _ E7.out)) | (go_at_call 19; with_reducible exact Calls.regrown_of (lessV (QA.out _ _) (QB.out _ _) false (by rw [E1.out]; decide))))))
      refine wpQuiet_nil ?_
      intro _ hqw
      obtain ⟨pq, hqw⟩ := hqw
      subst hqw
      go_wp2
      go_ret
      exact ⟨rfl, by rw [hDD]; exact (HB.out.trans ((below_regrown _ _ _).mono (by have := HB.out.size; omega)))⟩
set_option maxHeartbeats 100000000 in
set_option maxRecDepth 100000 in
theorem orderOne_k17 (Aa : Option Addr) (na ca : Nat) (da : List Hp) (ta : Int) (Ab : Option Addr) (nb cb : Nat) (db : List Hp) (tb : Int) (Ac : Option Addr) (nc cc : Nat) (dc : List Hp) (tc : Int) (hda : da.length = na) (hdb : db.length = nb) (hdc : dc.length = nc) (w : World) (ha : Sl w w.heap.size 3 Aa na ca (flatHp da)) (hb : Sl w w.heap.size 3 Ab nb cb (flatHp db)) (hc : Sl w w.heap.size 3 Ac nc cc (flatHp dc)) (E1 : Hid (cmpR ta da tb db = 1)) (E2 : Hid (cmpR tb db tc dc = 1)) (E3 : Hid (cmpR ta da tc dc = 0)) (E4 : Hid (cmpR tb db ta da = -1)) (E7 : Hid (cmpR ta da ta da = 0)) :
    Calls Try.prog 5 #[.agg #[.slice Aa na ca, .int .i64 ta], .agg #[.slice Ab nb cb, .int .i64 tb], .agg #[.slice Ac nc cc, .int .i64 tc]] w fun e w' => e = .returned (.bool true) ∧ Below w.heap.size w w' := by
  have hB0 : Below w.heap.size w (((w.alloc (.cells #[.slice Aa na ca, .int .i64 ta] 25)).alloc (.cells #[.slice Ab nb cb, .int .i64 tb] 25)).alloc (.cells #[.slice Ac nc cc, .int .i64 tc] 25)) := by (repeat (first | exact Below.refl _ _ | refine Below.alloc ?_ (by first | omega | (simp; done) | (simp; omega)) _ | refine Below.setCell ?_ (by first | omega | (simp; done) | (simp; omega)) _ | refine Below.drew ?_))
  have hXa := ((Blok.new w 25 #[.slice Aa na ca, .int .i64 ta]).alloc (.cells #[.slice Ab nb cb, .int .i64 tb] 25)).alloc (.cells #[.slice Ac nc cc, .int .i64 tc] 25)
  have hXb := (Blok.new (w.alloc (.cells #[.slice Aa na ca, .int .i64 ta] 25)) 25 #[.slice Ab nb cb, .int .i64 tb]).alloc (.cells #[.slice Ac nc cc, .int .i64 tc] 25)
  simp only [World.size_alloc] at hXb
  have hXc := Blok.new ((w.alloc (.cells #[.slice Aa na ca, .int .i64 ta] 25)).alloc (.cells #[.slice Ab nb cb, .int .i64 tb] 25)) 25 #[.slice Ac nc cc, .int .i64 tc]
  simp only [World.size_alloc] at hXc
  replace ha := ha.up hB0
  replace hb := hb.up hB0
  replace hc := hc.up hB0
  have hs0 := hB0.size
  have HL : Hid (da.length = na ∧ db.length = nb ∧ dc.length = nc) := ⟨hda, hdb, hdc⟩
  clear hda hdb hdc
  by_cases hn : 50 < na ∨ 50 < nb ∨ 50 < nc
  · have hn' : 50 < na ∨ (na ≤ 50 ∧ 50 < nb) ∨ (na ≤ 50 ∧ nb ≤ 50 ∧ 50 < nc) := by omega
    clear hn
    rcases hn' with hn | ⟨hn, hn2⟩ | ⟨hn, hn2, hn3⟩
    all_goals
      go_enter Try.func5, Try.ntmps5
      go_wp2_with fail
      generalize ((w.alloc (.cells #[.slice Aa na ca, .int .i64 ta] 25)).alloc (.cells #[.slice Ab nb cb, .int .i64 tb] 25)).alloc (.cells #[.slice Ac nc cc, .int .i64 tc] 25) = w0 at *
      refine (small13_any _).mono ?_
      rintro e w1 ⟨rfl, hB⟩
      have hXa1 := hXa.below hB hXa.lt
      have hXb1 := hXb.below hB hXb.lt
      have hXc1 := hXc.below hB hXc.lt
      have a0 : w1.cell? ⟨w.heap.size, 0, none⟩ = some (.slice Aa na ca) := hXa1.cell 0
      have a1 : w1.cell? ⟨w.heap.size, 1, none⟩ = some (.int .i64 ta) := hXa1.cell 1
      have b0 : w1.cell? ⟨w.heap.size + 1, 0, none⟩ = some (.slice Ab nb cb) := hXb1.cell 0
      have b1 : w1.cell? ⟨w.heap.size + 1, 1, none⟩ = some (.int .i64 tb) := hXb1.cell 1
      have c0 : w1.cell? ⟨w.heap.size + 1 + 1, 0, none⟩ = some (.slice Ac nc cc) := hXc1.cell 0
      have c1 : w1.cell? ⟨w.heap.size + 1 + 1, 1, none⟩ = some (.int .i64 tc) := hXc1.cell 1
      have lt_a := hXa1.lt
      have lt_b := hXb1.lt
      have lt_c := hXc1.lt
      go_wp2
      go_ret
      exact ⟨rfl, hB0.trans (hB.mono hs0)⟩
  · have hn1 : na ≤ 50 := by omega
    have hn2 : nb ≤ 50 := by omega
    have hn3 : nc ≤ 50 := by omega
    clear hn
    have ga : decide ((na : Int) > 50) = false := decide_eq_false (by omega)
    have gb : decide ((nb : Int) > 50) = false := decide_eq_false (by omega)
    have gc : decide ((nc : Int) > 50) = false := decide_eq_false (by omega)
    have HN : Hid (na ≤ 50 ∧ nb ≤ 50 ∧ nc ≤ 50) := ⟨hn1, hn2, hn3⟩
    go_enter Try.func5, Try.ntmps5
    go_wp2_with fail
    generalize ((w.alloc (.cells #[.slice Aa na ca, .int .i64 ta] 25)).alloc (.cells #[.slice Ab nb cb, .int .i64 tb] 25)).alloc (.cells #[.slice Ac nc cc, .int .i64 tc] 25) = w0 at *
    refine (small13_any _).mono ?_
    rintro e w1 ⟨rfl, hB⟩
    have hXa1 := hXa.below hB hXa.lt
    have hXb1 := hXb.below hB hXb.lt
    have hXc1 := hXc.below hB hXc.lt
    have a0 : w1.cell? ⟨w.heap.size, 0, none⟩ = some (.slice Aa na ca) := hXa1.cell 0
    have a1 : w1.cell? ⟨w.heap.size, 1, none⟩ = some (.int .i64 ta) := hXa1.cell 1
    have b0 : w1.cell? ⟨w.heap.size + 1, 0, none⟩ = some (.slice Ab nb cb) := hXb1.cell 0
    have b1 : w1.cell? ⟨w.heap.size + 1, 1, none⟩ = some (.int .i64 tb) := hXb1.cell 1
    have c0 : w1.cell? ⟨w.heap.size + 1 + 1, 0, none⟩ = some (.slice Ac nc cc) := hXc1.cell 0
    have c1 : w1.cell? ⟨w.heap.size + 1 + 1, 1, none⟩ = some (.int .i64 tc) := hXc1.cell 1
    have lt_a := hXa1.lt
    have lt_b := hXb1.lt
    have lt_c := hXc1.lt
    have hra : Hid (RV w1 (.agg #[.slice Aa na ca, .int .i64 ta]) (da, ta)) := (show RV w0 (.agg #[.slice Aa na ca, .int .i64 ta]) (da, ta) from ⟨_, _, _, rfl, HL.out.1, by show na ≤ 1000000; omega, ha⟩).below hB
    have hrb : Hid (RV w1 (.agg #[.slice Ab nb cb, .int .i64 tb]) (db, tb)) := (show RV w0 (.agg #[.slice Ab nb cb, .int .i64 tb]) (db, tb) from ⟨_, _, _, rfl, HL.out.2.1, by show nb ≤ 1000000; omega, hb⟩).below hB
    have hrc : Hid (RV w1 (.agg #[.slice Ac nc cc, .int .i64 tc]) (dc, tc)) := (show RV w0 (.agg #[.slice Ac nc cc, .int .i64 tc]) (dc, tc) from ⟨_, _, _, rfl, HL.out.2.2, by show nc ≤ 1000000; omega, hc⟩).below hB
    have HB := Lib.hid (hB0.trans (hB.mono hs0))
    clear ha hb hc hB0 hXa hXb hXc hs0 hB hn1 hn2 hn3 HN HL
    all_goals
      go_upto_region 4 with fail
      generalize hDD : w.heap.size = bA at *
      go_wp2_with fail
      refine (cmpV hra.out hrb.out _ E1.out).mono ?_
      rintro e w4 ⟨rfl, hb⟩
      replace hXa1 := hXa1.below hb hXa1.lt
      replace hXb1 := hXb1.below hb hXb1.lt
      replace hXc1 := hXc1.below hb hXc1.lt
      replace hra := Lib.hid (hra.out.below hb)
      replace hrb := Lib.hid (hrb.out.below hb)
      replace hrc := Lib.hid (hrc.out.below hb)
      clear a0 a1 b0 b1 c0 c1 lt_a lt_b lt_c
      have a0 : w4.cell? ⟨bA, 0, none⟩ = some (.slice Aa na ca) := hXa1.cell 0
      have a1 : w4.cell? ⟨bA, 1, none⟩ = some (.int .i64 ta) := hXa1.cell 1
      have b0 : w4.cell? ⟨bA + 1, 0, none⟩ = some (.slice Ab nb cb) := hXb1.cell 0
      have b1 : w4.cell? ⟨bA + 1, 1, none⟩ = some (.int .i64 tb) := hXb1.cell 1
      have c0 : w4.cell? ⟨bA + 1 + 1, 0, none⟩ = some (.slice Ac nc cc) := hXc1.cell 0
      have c1 : w4.cell? ⟨bA + 1 + 1, 1, none⟩ = some (.int .i64 tc) := hXc1.cell 1
      have lt_a := hXa1.lt
      have lt_b := hXb1.lt
      have lt_c := hXc1.lt
      replace HB := Lib.hid (HB.out.trans (hb.mono (by have := HB.out.size; omega)))
      clear hb
      go_wp2_with fail
      refine (cmpV hrb.out hrc.out _ E2.out).mono ?_
      rintro e w5 ⟨rfl, hb⟩
      replace hXa1 := hXa1.below hb hXa1.lt
      replace hXb1 := hXb1.below hb hXb1.lt
      replace hXc1 := hXc1.below hb hXc1.lt
      replace hra := Lib.hid (hra.out.below hb)
      replace hrb := Lib.hid (hrb.out.below hb)
      replace hrc := Lib.hid (hrc.out.below hb)
      clear a0 a1 b0 b1 c0 c1 lt_a lt_b lt_c
      have a0 : w5.cell? ⟨bA, 0, none⟩ = some (.slice Aa na ca) := hXa1.cell 0
      have a1 : w5.cell? ⟨bA, 1, none⟩ = some (.int .i64 ta) := hXa1.cell 1
      have b0 : w5.cell? ⟨bA + 1, 0, none⟩ = some (.slice Ab nb cb) := hXb1.cell 0
      have b1 : w5.cell? ⟨bA + 1, 1, none⟩ = some (.int .i64 tb) := hXb1.cell 1
      have c0 : w5.cell? ⟨bA + 1 + 1, 0, none⟩ = some (.slice Ac nc cc) := hXc1.cell 0
      have c1 : w5.cell? ⟨bA + 1 + 1, 1, none⟩ = some (.int .i64 tc) := hXc1.cell 1
      have lt_a := hXa1.lt
      have lt_b := hXb1.lt
      have lt_c := hXc1.lt
      replace HB := Lib.hid (HB.out.trans (hb.mono (by have := HB.out.size; omega)))
      clear hb
      go_wp2_with fail
      refine (cmpV hra.out hrc.out _ E3.out).mono ?_
      rintro e w6 ⟨rfl, hb⟩
      replace hXa1 := hXa1.below hb hXa1.lt
      replace hXb1 := hXb1.below hb hXb1.lt
      replace hXc1 := hXc1.below hb hXc1.lt
      replace hra := Lib.hid (hra.out.below hb)
      replace hrb := Lib.hid (hrb.out.below hb)
      replace hrc := Lib.hid (hrc.out.below hb)
      clear a0 a1 b0 b1 c0 c1 lt_a lt_b lt_c
      have a0 : w6.cell? ⟨bA, 0, none⟩ = some (.slice Aa na ca) := hXa1.cell 0
      have a1 : w6.cell? ⟨bA, 1, none⟩ = some (.int .i64 ta) := hXa1.cell 1
      have b0 : w6.cell? ⟨bA + 1, 0, none⟩ = some (.slice Ab nb cb) := hXb1.cell 0
      have b1 : w6.cell? ⟨bA + 1, 1, none⟩ = some (.int .i64 tb) := hXb1.cell 1
      have c0 : w6.cell? ⟨bA + 1 + 1, 0, none⟩ = some (.slice Ac nc cc) := hXc1.cell 0
      have c1 : w6.cell? ⟨bA + 1 + 1, 1, none⟩ = some (.int .i64 tc) := hXc1.cell 1
      have lt_a := hXa1.lt
      have lt_b := hXb1.lt
      have lt_c := hXc1.lt
      replace HB := Lib.hid (HB.out.trans (hb.mono (by have := HB.out.size; omega)))
      clear hb
      go_upto_region 7 with fail
      have QA := Lib.hid (fun d os => hra.out.regrown d os)
      have QB := Lib.hid (fun d os => hrb.out.regrown d os)
      have q_a0 := fun d os => cell_regrown a0 d os
      have q_a1 := fun d os => cell_regrown a1 d os
      have q_b0 := fun d os => cell_regrown b0 d os
      have q_b1 := fun d os => cell_regrown b1 d os
      have q_c0 := fun d os => cell_regrown c0 d os
      have q_c1 := fun d os => cell_regrown c1 d os
      try simp only [List.append]
      first | refine wp_region_text_below ?_ | refine wp_region_quiet_below (by kernel_rfl) (by kernel_rfl) ?_
      repeat (go_big_quiet_step ((first | (go_at_call 17; first | with_reducible exact Calls.regrown_of (cmpV (QB.out _ _) (QA.out _ _) _ E4.out) | with_reducible exact Calls.regrown_of (cmpV (QA.out _ _) (QA.out _ _) _ E7.out)) | (go_at_call 19; with_reducible exact Calls.regrown_of (lessV (QA.out _ _) (QB.out _ _) false (by rw [E1.out]; decide))))))
      refine wpQuiet_nil ?_
      intro _ hqw
      obtain ⟨pq, hqw⟩ := hqw
      subst hqw
      go_wp2
      go_ret
      exact ⟨rfl, by rw [hDD]; exact (HB.out.trans ((below_regrown _ _ _).mono (by have := HB.out.size; omega)))⟩
set_option maxHeartbeats 100000000 in
set_option maxRecDepth 100000 in
theorem orderOne_k18 (Aa : Option Addr) (na ca : Nat) (da : List Hp) (ta : Int) (Ab : Option Addr) (nb cb : Nat) (db : List Hp) (tb : Int) (Ac : Option Addr) (nc cc : Nat) (dc : List Hp) (tc : Int) (hda : da.length = na) (hdb : db.length = nb) (hdc : dc.length = nc) (w : World) (ha : Sl w w.heap.size 3 Aa na ca (flatHp da)) (hb : Sl w w.heap.size 3 Ab nb cb (flatHp db)) (hc : Sl w w.heap.size 3 Ac nc cc (flatHp dc)) (E1 : Hid (cmpR ta da tb db = 1)) (E2 : Hid (cmpR tb db tc dc = 1)) (E3 : Hid (cmpR ta da tc dc = 1)) (E4 : Hid (cmpR tb db ta da = -1)) (E7 : Hid (cmpR ta da ta da = 0)) :
    Calls Try.prog 5 #[.agg #[.slice Aa na ca, .int .i64 ta], .agg #[.slice Ab nb cb, .int .i64 tb], .agg #[.slice Ac nc cc, .int .i64 tc]] w fun e w' => e = .returned (.bool true) ∧ Below w.heap.size w w' := by
  have hB0 : Below w.heap.size w (((w.alloc (.cells #[.slice Aa na ca, .int .i64 ta] 25)).alloc (.cells #[.slice Ab nb cb, .int .i64 tb] 25)).alloc (.cells #[.slice Ac nc cc, .int .i64 tc] 25)) := by (repeat (first | exact Below.refl _ _ | refine Below.alloc ?_ (by first | omega | (simp; done) | (simp; omega)) _ | refine Below.setCell ?_ (by first | omega | (simp; done) | (simp; omega)) _ | refine Below.drew ?_))
  have hXa := ((Blok.new w 25 #[.slice Aa na ca, .int .i64 ta]).alloc (.cells #[.slice Ab nb cb, .int .i64 tb] 25)).alloc (.cells #[.slice Ac nc cc, .int .i64 tc] 25)
  have hXb := (Blok.new (w.alloc (.cells #[.slice Aa na ca, .int .i64 ta] 25)) 25 #[.slice Ab nb cb, .int .i64 tb]).alloc (.cells #[.slice Ac nc cc, .int .i64 tc] 25)
  simp only [World.size_alloc] at hXb
  have hXc := Blok.new ((w.alloc (.cells #[.slice Aa na ca, .int .i64 ta] 25)).alloc (.cells #[.slice Ab nb cb, .int .i64 tb] 25)) 25 #[.slice Ac nc cc, .int .i64 tc]
  simp only [World.size_alloc] at hXc
  replace ha := ha.up hB0
  replace hb := hb.up hB0
  replace hc := hc.up hB0
  have hs0 := hB0.size
  have HL : Hid (da.length = na ∧ db.length = nb ∧ dc.length = nc) := ⟨hda, hdb, hdc⟩
  clear hda hdb hdc
  by_cases hn : 50 < na ∨ 50 < nb ∨ 50 < nc
  · have hn' : 50 < na ∨ (na ≤ 50 ∧ 50 < nb) ∨ (na ≤ 50 ∧ nb ≤ 50 ∧ 50 < nc) := by omega
    clear hn
    rcases hn' with hn | ⟨hn, hn2⟩ | ⟨hn, hn2, hn3⟩
    all_goals
      go_enter Try.func5, Try.ntmps5
      go_wp2_with fail
      generalize ((w.alloc (.cells #[.slice Aa na ca, .int .i64 ta] 25)).alloc (.cells #[.slice Ab nb cb, .int .i64 tb] 25)).alloc (.cells #[.slice Ac nc cc, .int .i64 tc] 25) = w0 at *
      refine (small13_any _).mono ?_
      rintro e w1 ⟨rfl, hB⟩
      have hXa1 := hXa.below hB hXa.lt
      have hXb1 := hXb.below hB hXb.lt
      have hXc1 := hXc.below hB hXc.lt
      have a0 : w1.cell? ⟨w.heap.size, 0, none⟩ = some (.slice Aa na ca) := hXa1.cell 0
      have a1 : w1.cell? ⟨w.heap.size, 1, none⟩ = some (.int .i64 ta) := hXa1.cell 1
      have b0 : w1.cell? ⟨w.heap.size + 1, 0, none⟩ = some (.slice Ab nb cb) := hXb1.cell 0
      have b1 : w1.cell? ⟨w.heap.size + 1, 1, none⟩ = some (.int .i64 tb) := hXb1.cell 1
      have c0 : w1.cell? ⟨w.heap.size + 1 + 1, 0, none⟩ = some (.slice Ac nc cc) := hXc1.cell 0
      have c1 : w1.cell? ⟨w.heap.size + 1 + 1, 1, none⟩ = some (.int .i64 tc) := hXc1.cell 1
      have lt_a := hXa1.lt
      have lt_b := hXb1.lt
      have lt_c := hXc1.lt
      go_wp2
      go_ret
      exact ⟨rfl, hB0.trans (hB.mono hs0)⟩
  · have hn1 : na ≤ 50 := by omega
    have hn2 : nb ≤ 50 := by omega
    have hn3 : nc ≤ 50 := by omega
    clear hn
    have ga : decide ((na : Int) > 50) = false := decide_eq_false (by omega)
    have gb : decide ((nb : Int) > 50) = false := decide_eq_false (by omega)
    have gc : decide ((nc : Int) > 50) = false := decide_eq_false (by omega)
    have HN : Hid (na ≤ 50 ∧ nb ≤ 50 ∧ nc ≤ 50) := ⟨hn1, hn2, hn3⟩
    go_enter Try.func5, Try.ntmps5
    go_wp2_with fail
    generalize ((w.alloc (.cells #[.slice Aa na ca, .int .i64 ta] 25)).alloc (.cells #[.slice Ab nb cb, .int .i64 tb] 25)).alloc (.cells #[.slice Ac nc cc, .int .i64 tc] 25) = w0 at *
    refine (small13_any _).mono ?_
    rintro e w1 ⟨rfl, hB⟩
    have hXa1 := hXa.below hB hXa.lt
    have hXb1 := hXb.below hB hXb.lt
    have hXc1 := hXc.below hB hXc.lt
    have a0 : w1.cell? ⟨w.heap.size, 0, none⟩ = some (.slice Aa na ca) := hXa1.cell 0
    have a1 : w1.cell? ⟨w.heap.size, 1, none⟩ = some (.int .i64 ta) := hXa1.cell 1
    have b0 : w1.cell? ⟨w.heap.size + 1, 0, none⟩ = some (.slice Ab nb cb) := hXb1.cell 0
    have b1 : w1.cell? ⟨w.heap.size + 1, 1, none⟩ = some (.int .i64 tb) := hXb1.cell 1
    have c0 : w1.cell? ⟨w.heap.size + 1 + 1, 0, none⟩ = some (.slice Ac nc cc) := hXc1.cell 0
    have c1 : w1.cell? ⟨w.heap.size + 1 + 1, 1, none⟩ = some (.int .i64 tc) := hXc1.cell 1
    have lt_a := hXa1.lt
    have lt_b := hXb1.lt
    have lt_c := hXc1.lt
    have hra : Hid (RV w1 (.agg #[.slice Aa na ca, .int .i64 ta]) (da, ta)) := (show RV w0 (.agg #[.slice Aa na ca, .int .i64 ta]) (da, ta) from ⟨_, _, _, rfl, HL.out.1, by show na ≤ 1000000; omega, ha⟩).below hB
    have hrb : Hid (RV w1 (.agg #[.slice Ab nb cb, .int .i64 tb]) (db, tb)) := (show RV w0 (.agg #[.slice Ab nb cb, .int .i64 tb]) (db, tb) from ⟨_, _, _, rfl, HL.out.2.1, by show nb ≤ 1000000; omega, hb⟩).below hB
    have hrc : Hid (RV w1 (.agg #[.slice Ac nc cc, .int .i64 tc]) (dc, tc)) := (show RV w0 (.agg #[.slice Ac nc cc, .int .i64 tc]) (dc, tc) from ⟨_, _, _, rfl, HL.out.2.2, by show nc ≤ 1000000; omega, hc⟩).below hB
    have HB := Lib.hid (hB0.trans (hB.mono hs0))
    clear ha hb hc hB0 hXa hXb hXc hs0 hB hn1 hn2 hn3 HN HL
    all_goals
      go_upto_region 4 with fail
      generalize hDD : w.heap.size = bA at *
      go_wp2_with fail
      refine (cmpV hra.out hrb.out _ E1.out).mono ?_
      rintro e w4 ⟨rfl, hb⟩
      replace hXa1 := hXa1.below hb hXa1.lt
      replace hXb1 := hXb1.below hb hXb1.lt
      replace hXc1 := hXc1.below hb hXc1.lt
      replace hra := Lib.hid (hra.out.below hb)
      replace hrb := Lib.hid (hrb.out.below hb)
      replace hrc := Lib.hid (hrc.out.below hb)
      clear a0 a1 b0 b1 c0 c1 lt_a lt_b lt_c
      have a0 : w4.cell? ⟨bA, 0, none⟩ = some (.slice Aa na ca) := hXa1.cell 0
      have a1 : w4.cell? ⟨bA, 1, none⟩ = some (.int .i64 ta) := hXa1.cell 1
      have b0 : w4.cell? ⟨bA + 1, 0, none⟩ = some (.slice Ab nb cb) := hXb1.cell 0
      have b1 : w4.cell? ⟨bA + 1, 1, none⟩ = some (.int .i64 tb) := hXb1.cell 1
      have c0 : w4.cell? ⟨bA + 1 + 1, 0, none⟩ = some (.slice Ac nc cc) := hXc1.cell 0
      have c1 : w4.cell? ⟨bA + 1 + 1, 1, none⟩ = some (.int .i64 tc) := hXc1.cell 1
      have lt_a := hXa1.lt
      have lt_b := hXb1.lt
      have lt_c := hXc1.lt
      replace HB := Lib.hid (HB.out.trans (hb.mono (by have := HB.out.size; omega)))
      clear hb
      go_wp2_with fail
      refine (cmpV hrb.out hrc.out _ E2.out).mono ?_
      rintro e w5 ⟨rfl, hb⟩
      replace hXa1 := hXa1.below hb hXa1.lt
      replace hXb1 := hXb1.below hb hXb1.lt
      replace hXc1 := hXc1.below hb hXc1.lt
      replace hra := Lib.hid (hra.out.below hb)
      replace hrb := Lib.hid (hrb.out.below hb)
      replace hrc := Lib.hid (hrc.out.below hb)
      clear a0 a1 b0 b1 c0 c1 lt_a lt_b lt_c
      have a0 : w5.cell? ⟨bA, 0, none⟩ = some (.slice Aa na ca) := hXa1.cell 0
      have a1 : w5.cell? ⟨bA, 1, none⟩ = some (.int .i64 ta) := hXa1.cell 1
      have b0 : w5.cell? ⟨bA + 1, 0, none⟩ = some (.slice Ab nb cb) := hXb1.cell 0
      have b1 : w5.cell? ⟨bA + 1, 1, none⟩ = some (.int .i64 tb) := hXb1.cell 1
      have c0 : w5.cell? ⟨bA + 1 + 1, 0, none⟩ = some (.slice Ac nc cc) := hXc1.cell 0
      have c1 : w5.cell? ⟨bA + 1 + 1, 1, none⟩ = some (.int .i64 tc) := hXc1.cell 1
      have lt_a := hXa1.lt
      have lt_b := hXb1.lt
      have lt_c := hXc1.lt
      replace HB := Lib.hid (HB.out.trans (hb.mono (by have := HB.out.size; omega)))
      clear hb
      go_wp2_with fail
      refine (cmpV hra.out hrc.out _ E3.out).mono ?_
      rintro e w6 ⟨rfl, hb⟩
      replace hXa1 := hXa1.below hb hXa1.lt
      replace hXb1 := hXb1.below hb hXb1.lt
      replace hXc1 := hXc1.below hb hXc1.lt
      replace hra := Lib.hid (hra.out.below hb)
      replace hrb := Lib.hid (hrb.out.below hb)
      replace hrc := Lib.hid (hrc.out.below hb)
      clear a0 a1 b0 b1 c0 c1 lt_a lt_b lt_c
      have a0 : w6.cell? ⟨bA, 0, none⟩ = some (.slice Aa na ca) := hXa1.cell 0
      have a1 : w6.cell? ⟨bA, 1, none⟩ = some (.int .i64 ta) := hXa1.cell 1
      have b0 : w6.cell? ⟨bA + 1, 0, none⟩ = some (.slice Ab nb cb) := hXb1.cell 0
      have b1 : w6.cell? ⟨bA + 1, 1, none⟩ = some (.int .i64 tb) := hXb1.cell 1
      have c0 : w6.cell? ⟨bA + 1 + 1, 0, none⟩ = some (.slice Ac nc cc) := hXc1.cell 0
      have c1 : w6.cell? ⟨bA + 1 + 1, 1, none⟩ = some (.int .i64 tc) := hXc1.cell 1
      have lt_a := hXa1.lt
      have lt_b := hXb1.lt
      have lt_c := hXc1.lt
      replace HB := Lib.hid (HB.out.trans (hb.mono (by have := HB.out.size; omega)))
      clear hb
      go_upto_region 7 with fail
      have QA := Lib.hid (fun d os => hra.out.regrown d os)
      have QB := Lib.hid (fun d os => hrb.out.regrown d os)
      have q_a0 := fun d os => cell_regrown a0 d os
      have q_a1 := fun d os => cell_regrown a1 d os
      have q_b0 := fun d os => cell_regrown b0 d os
      have q_b1 := fun d os => cell_regrown b1 d os
      have q_c0 := fun d os => cell_regrown c0 d os
      have q_c1 := fun d os => cell_regrown c1 d os
      try simp only [List.append]
      first | refine wp_region_text_below ?_ | refine wp_region_quiet_below (by kernel_rfl) (by kernel_rfl) ?_
      repeat (go_big_quiet_step ((first | (go_at_call 17; first | with_reducible exact Calls.regrown_of (cmpV (QB.out _ _) (QA.out _ _) _ E4.out) | with_reducible exact Calls.regrown_of (cmpV (QA.out _ _) (QA.out _ _) _ E7.out)) | (go_at_call 19; with_reducible exact Calls.regrown_of (lessV (QA.out _ _) (QB.out _ _) false (by rw [E1.out]; decide))))))
      refine wpQuiet_nil ?_
      intro _ hqw
      obtain ⟨pq, hqw⟩ := hqw
      subst hqw
      go_wp2
      go_ret
      exact ⟨rfl, by rw [hDD]; exact (HB.out.trans ((below_regrown _ _ _).mono (by have := HB.out.size; omega)))⟩
set_option maxHeartbeats 4000000 in
theorem orderOne_w (Aa : Option Addr) (na ca : Nat) (da : List Hp) (ta : Int) (Ab : Option Addr) (nb cb : Nat) (db : List Hp) (tb : Int) (Ac : Option Addr) (nc cc : Nat) (dc : List Hp) (tc : Int) (hda : da.length = na) (hdb : db.length = nb) (hdc : dc.length = nc) (w : World) (ha : Sl w w.heap.size 3 Aa na ca (flatHp da)) (hb : Sl w w.heap.size 3 Ab nb cb (flatHp db)) (hc : Sl w w.heap.size 3 Ac nc cc (flatHp dc)) :
    Calls Try.prog 5 #[.agg #[.slice Aa na ca, .int .i64 ta], .agg #[.slice Ab nb cb, .int .i64 tb], .agg #[.slice Ac nc cc, .int .i64 tc]] w fun e w' => e = .returned (.bool true) ∧ Below w.heap.size w w' := by
  obtain ⟨z1, hz1⟩ : ∃ z, cmpR ta da tb db = z := ⟨_, rfl⟩
  obtain ⟨z2, hz2⟩ : ∃ z, cmpR tb db tc dc = z := ⟨_, rfl⟩
  obtain ⟨z3, hz3⟩ : ∃ z, cmpR ta da tc dc = z := ⟨_, rfl⟩
  obtain ⟨z4, hz4⟩ : ∃ z, cmpR tb db ta da = z := ⟨_, rfl⟩
  have e1 := cmpL_range (keyR ta da) (keyR tb db)
  have e2 := cmpL_range (keyR tb db) (keyR tc dc)
  have e3 := cmpL_range (keyR ta da) (keyR tc dc)
  have e4 := cmpL_anti (keyR tb db) (keyR ta da)
  have e5 := @cmpL_trans (keyR ta da) (keyR tb db) (keyR tc dc)
  have e6 : cmpL (keyR ta da) (keyR tb db) = 0 → cmpL (keyR tb db) (keyR tc dc) = cmpL (keyR ta da) (keyR tc dc) := fun e => by rw [cmpL_zero e]
  have e7 : cmpR ta da ta da = 0 := by rw [cmpR_key, cmpL_self]
  simp only [← cmpR_key] at e1 e2 e3 e4 e5 e6
  rw [hz1] at e1 e4 e5 e6
  rw [hz2] at e2 e5 e6
  rw [hz3] at e3 e5 e6
  rw [hz4] at e4
  have E1 := Lib.hid hz1
  have E2 := Lib.hid hz2
  have E3 := Lib.hid hz3
  have E4 := Lib.hid hz4
  have E7 := Lib.hid e7
  clear hz1 hz2 hz3 hz4 e7
  have r1 : (z1 = -1 ∧ z4 = 1) ∨ (z1 = 0 ∧ z4 = 0) ∨ (z1 = 1 ∧ z4 = -1) := by omega
  have r2 : z2 = -1 ∨ z2 = 0 ∨ z2 = 1 := by omega
  have r3 : z3 = -1 ∨ z3 = 0 ∨ z3 = 1 := by omega
  rcases r1 with ⟨rfl, rfl⟩ | ⟨rfl, rfl⟩ | ⟨rfl, rfl⟩ <;> rcases r2 with rfl | rfl | rfl <;> rcases r3 with rfl | rfl | rfl
  all_goals try (exfalso; have f5 := e5 (by omega) (by omega); omega)
  all_goals try (exfalso; have f6 := e6 rfl; omega)
  all_goals clear e1 e2 e3 e5 e6
  all_goals clear e4
  all_goals first
    | exact orderOne_k0 Aa na ca da ta Ab nb cb db tb Ac nc cc dc tc hda hdb hdc w ha hb hc E1 E2 E3 E4 E7
    | exact orderOne_k1 Aa na ca da ta Ab nb cb db tb Ac nc cc dc tc hda hdb hdc w ha hb hc E1 E2 E3 E4 E7
    | exact orderOne_k2 Aa na ca da ta Ab nb cb db tb Ac nc cc dc tc hda hdb hdc w ha hb hc E1 E2 E3 E4 E7
    | exact orderOne_k3 Aa na ca da ta Ab nb cb db tb Ac nc cc dc tc hda hdb hdc w ha hb hc E1 E2 E3 E4 E7
    | exact orderOne_k4 Aa na ca da ta Ab nb cb db tb Ac nc cc dc tc hda hdb hdc w ha hb hc E1 E2 E3 E4 E7
    | exact orderOne_k5 Aa na ca da ta Ab nb cb db tb Ac nc cc dc tc hda hdb hdc w ha hb hc E1 E2 E3 E4 E7
    | exact orderOne_k6 Aa na ca da ta Ab nb cb db tb Ac nc cc dc tc hda hdb hdc w ha hb hc E1 E2 E3 E4 E7
    | exact orderOne_k7 Aa na ca da ta Ab nb cb db tb Ac nc cc dc tc hda hdb hdc w ha hb hc E1 E2 E3 E4 E7
    | exact orderOne_k8 Aa na ca da ta Ab nb cb db tb Ac nc cc dc tc hda hdb hdc w ha hb hc E1 E2 E3 E4 E7
    | exact orderOne_k9 Aa na ca da ta Ab nb cb db tb Ac nc cc dc tc hda hdb hdc w ha hb hc E1 E2 E3 E4 E7
    | exact orderOne_k10 Aa na ca da ta Ab nb cb db tb Ac nc cc dc tc hda hdb hdc w ha hb hc E1 E2 E3 E4 E7
    | exact orderOne_k11 Aa na ca da ta Ab nb cb db tb Ac nc cc dc tc hda hdb hdc w ha hb hc E1 E2 E3 E4 E7
    | exact orderOne_k12 Aa na ca da ta Ab nb cb db tb Ac nc cc dc tc hda hdb hdc w ha hb hc E1 E2 E3 E4 E7
    | exact orderOne_k13 Aa na ca da ta Ab nb cb db tb Ac nc cc dc tc hda hdb hdc w ha hb hc E1 E2 E3 E4 E7
    | exact orderOne_k14 Aa na ca da ta Ab nb cb db tb Ac nc cc dc tc hda hdb hdc w ha hb hc E1 E2 E3 E4 E7
    | exact orderOne_k15 Aa na ca da ta Ab nb cb db tb Ac nc cc dc tc hda hdb hdc w ha hb hc E1 E2 E3 E4 E7
    | exact orderOne_k16 Aa na ca da ta Ab nb cb db tb Ac nc cc dc tc hda hdb hdc w ha hb hc E1 E2 E3 E4 E7
    | exact orderOne_k17 Aa na ca da ta Ab nb cb db tb Ac nc cc dc tc hda hdb hdc w ha hb hc E1 E2 E3 E4 E7
    | exact orderOne_k18 Aa na ca da ta Ab nb cb db tb Ac nc cc dc tc hda hdb hdc w ha hb hc E1 E2 E3 E4 E7
theorem orderOne_walk (Aa : Option Addr) (na ca : Nat) (nsa : List Int) (ta : Int) (Ab : Option Addr) (nb cb : Nat) (nsb : List Int) (tb : Int) (Ac : Option Addr) (nc cc : Nat) (nsc : List Int) (tc : Int) (hnla : nsa.length = na * 3) (_ : ∀ m ∈ nsa, (Lit.int .i64 m).wf = true) (hnlb : nsb.length = nb * 3) (_ : ∀ m ∈ nsb, (Lit.int .i64 m).wf = true) (hnlc : nsc.length = nc * 3) (_ : ∀ m ∈ nsc, (Lit.int .i64 m).wf = true) (w : World) (ha : Sl w w.heap.size 3 Aa na ca (nsa.map (Value.int .i64))) (hb : Sl w w.heap.size 3 Ab nb cb (nsb.map (Value.int .i64))) (hc : Sl w w.heap.size 3 Ac nc cc (nsc.map (Value.int .i64))) :
    Calls Try.prog 5 #[.agg #[.slice Aa na ca, .int .i64 ta], .agg #[.slice Ab nb cb, .int .i64 tb], .agg #[.slice Ac nc cc, .int .i64 tc]] w fun e w' => e = .returned (.bool true) ∧ Below w.heap.size w w' := by
  obtain ⟨da, hda, hlfa⟩ := rowsHp_of na nsa hnla
  rw [hlfa] at ha
  obtain ⟨db, hdb, hlfb⟩ := rowsHp_of nb nsb hnlb
  rw [hlfb] at hb
  obtain ⟨dc, hdc, hlfc⟩ := rowsHp_of nc nsc hnlc
  rw [hlfc] at hc
  exact orderOne_w Aa na ca da ta Ab nb cb db tb Ac nc cc dc tc hda hdb hdc w ha hb hc
theorem orderOne_own : ownKnob Try.prog.godebug = none := by kernel_rfl
theorem orderOne_laidOut : laidOutB Try.prog = true := by kernel_rfl

set_option maxHeartbeats 1000000 in
set_option maxRecDepth 100000 in
theorem orderOne_lifted (os : Os) (started : os.Started) (H : Type) (enc : TypeId × Value → H) :
    ReturnsInHanded {} Try.checked os 5 .any (Rows.orderOneSpec.pre6 enc Try.prog Try.f5 Rows.orderOneRow.domain false) (Rows.orderOneSpec.post enc Try.prog Try.f5 false true false false) := by
  refine returnsInHanded_of_change (C := Try.checked) orderOne_own started (by kernel_rfl) Try.func5
    (ChangeSpec.witness6 (enc := enc) (C := Try.checked) false ⟨#[], #[.agg #[.slice none 0 0, .int .i64 0], .agg #[.slice none 0 0, .int .i64 0], .agg #[.slice none 0 0, .int .i64 0]], []⟩ 8 (by kernel_rfl) (by kernel_rfl) (by kernel_rfl) (by kernel_rfl)) ?_
  intro W base args ds gs before hval0 hW hcnd _
  have hval : ∀ (j : Nat) t v, Try.f5.params[j]? = some t → args[j]? = some v → Value.okWide Try.prog W .any base t v := hval0
  have hW' := hW
  obtain ⟨p, q, hA0, hV, rfl, hfz, hnd⟩ := hW
  have hA : DataW.TrodAll enc Try.prog W 0 (fun _ => true) true Try.f5.params.toList args.toList ds p := hA0
  rw [Try.params5] at hA hval
  obtain ⟨v0, vs0, d0, ds0, p0, q0, hargs, rfl, rfl, h0, r0⟩ := trodAll_cons hA
  obtain ⟨v1, vs1, d1, ds1, p1, q1, rfl, rfl, rfl, h1, r1⟩ := trodAll_cons r0
  obtain ⟨v2, vs2, d2, ds2, p2, q2, rfl, rfl, rfl, h2, r2⟩ := trodAll_cons r1
  obtain ⟨rfl, rfl, rfl⟩ := trodAll_nil r2
  obtain rfl : args = #[v0, v1, v2] := by cases args; simp_all
  obtain ⟨rfl, rfl⟩ := trodVars_none hV
  obtain ⟨A0, n0, c0, ns0, a0, rfl, hl0, nl0, w0, wa0⟩ := open_hdr 4 (e := 34) (K := 3) Try.underlying25 (by kernel_rfl) (by kernel_rfl) (by kernel_rfl) (by kernel_rfl) (by kernel_rfl) (by omega) (hval 0 25 v0 rfl rfl) h0
  obtain ⟨A1, n1, c1, ns1, a1, rfl, hl1, nl1, w1, wa1⟩ := open_hdr 4 (e := 34) (K := 3) Try.underlying25 (by kernel_rfl) (by kernel_rfl) (by kernel_rfl) (by kernel_rfl) (by kernel_rfl) (by omega) (hval 1 25 v1 rfl rfl) h1
  obtain ⟨A2, n2, c2, ns2, a2, rfl, hl2, nl2, w2, wa2⟩ := open_hdr 4 (e := 34) (K := 3) Try.underlying25 (by kernel_rfl) (by kernel_rfl) (by kernel_rfl) (by kernel_rfl) (by kernel_rfl) (by omega) (hval 2 25 v2 rfl rfl) h2
  clear hA0 hval0
  refine (orderOne_walk A0 n0 c0 ns0 a0 A1 n1 c1 ns1 a1 A2 n2 c2 ns2 a2 nl0 w0 nl1 w1 nl2 w2 W hl0 hl1 hl2).mono fun e W' ⟨he, bel⟩ => ?_
  subst he
  exact ⟨_, rfl, law_post orderOne_laidOut (by kernel_rfl) rfl Try.underlying4 rfl rfl hW' bel⟩

theorem orderOne_proved : Rows.OrderOneSaid :=
  OpenClaim.holds_of_wide 5 Try.f5 rfl rfl rfl rfl rfl rfl rfl ⟨rfl, rfl, rfl, rfl, rfl⟩ rfl rfl rfl rfl rfl (by kernel_rfl) Try.func5 (by kernel_rfl)
    (of_decide_eq_true (by kernel_rfl)) (by unfold Func.isWrapper; first | (rw [if_pos (by decide +kernel)]; kernel_rfl) | (rw [if_neg (by decide +kernel)]; exact ⟨rfl, rfl⟩))
    (fun os started H enc _ => orderOne_lifted os started H enc)
#print axioms orderOne_proved
end Go.Proofs.Ytbhhkaaidhapbaa
