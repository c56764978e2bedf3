/- Longer on the way is there later by as much, and sent at the same time, and who has so much less time is to be ready as before; for every edge, time, size, and how much longer: HopShifts returns true. No condition. -/
import Derived.Test.YtgfciepcfkjmkaaRows
import Derived.Test.YtgfciepcfkjmkaaSmall10
import Derived.Test.YtgfciepcfkjmkaaHopMath
namespace Go.Proofs.Ytgfciepcfkjmkaa
open Go.ChangeShapes Go.WideShapes Go.ChangeAt Go.RowKit Go.Sort
set_option linter.unusedSimpArgs false
set_option linter.unusedVariables false

set_option maxHeartbeats 4000000 in
set_option maxRecDepth 100000 in
theorem hopShifts_walk (id fr tn op en ra ow ro t size n : Int) (hc : ∀ m ∈ [id, fr, tn, op, en, ra, ow, ro], (Lit.int .i64 m).wf = true) (h_t : (Lit.int .i64 t).wf = true) (h_size : (Lit.int .i64 size).wf = true) (h_n : (Lit.int .i64 n).wf = true) (w : World) :
    Calls Try.prog 7 #[.agg #[.int .i64 id, .int .i64 fr, .int .i64 tn, .int .i64 op, .int .i64 en, .int .i64 ra, .int .i64 ow, .int .i64 ro], .int .i64 t, .int .i64 size, .int .i64 n] w fun e w' => e = .returned (.bool true) ∧ Below w.heap.size w w' := by
  obtain ⟨t1, t2⟩ := wf64 h_t
  clear hc h_t h_size h_n t2
  by_cases c1 : n < 0
  · skip
    go_enter Try.func7, Try.ntmps7
    go_wp2_with fail
    refine (small10 _).mono ?_
    rintro e w0 ⟨rfl, hB0⟩
    obtain ⟨hc0, hf0⟩ := bcell hB0
    have hz0 := hB0.size
    simp only [World.size_alloc] at hz0
    have hl0_0 : w.heap.size < w0.heap.size := by omega
    have hl0_1 : w.heap.size < w0.heap.size + 1 := by omega
    have hl0_2 : w.heap.size < w0.heap.size + 1 + 1 := by omega
    go_wp2
    go_ret
    exact ⟨rfl, by (repeat (first | exact Below.refl _ _ | exact hB0 | refine Below.alloc ?_ (by first | omega | (simp; done) | (simp; omega)) _ | refine Below.setCell ?_ (by first | omega | (simp; done) | (simp; omega)) _ | refine Below.drew ?_ | refine Below.trans ?_ (hB0.mono (by first | omega | (simp; done) | (simp; omega)))))⟩
  by_cases c2 : 1000 < n
  · skip
    go_enter Try.func7, Try.ntmps7
    go_wp2_with fail
    refine (small10 _).mono ?_
    rintro e w0 ⟨rfl, hB0⟩
    obtain ⟨hc0, hf0⟩ := bcell hB0
    have hz0 := hB0.size
    simp only [World.size_alloc] at hz0
    have hl0_0 : w.heap.size < w0.heap.size := by omega
    have hl0_1 : w.heap.size < w0.heap.size + 1 := by omega
    have hl0_2 : w.heap.size < w0.heap.size + 1 + 1 := by omega
    go_wp2
    go_ret
    exact ⟨rfl, by (repeat (first | exact Below.refl _ _ | exact hB0 | refine Below.alloc ?_ (by first | omega | (simp; done) | (simp; omega)) _ | refine Below.setCell ?_ (by first | omega | (simp; done) | (simp; omega)) _ | refine Below.drew ?_ | refine Below.trans ?_ (hB0.mono (by first | omega | (simp; done) | (simp; omega)))))⟩
  by_cases c3 : ow < 0
  · skip
    go_enter Try.func7, Try.ntmps7
    go_wp2_with fail
    refine (small10 _).mono ?_
    rintro e w0 ⟨rfl, hB0⟩
    obtain ⟨hc0, hf0⟩ := bcell hB0
    have hz0 := hB0.size
    simp only [World.size_alloc] at hz0
    have hl0_0 : w.heap.size < w0.heap.size := by omega
    have hl0_1 : w.heap.size < w0.heap.size + 1 := by omega
    have hl0_2 : w.heap.size < w0.heap.size + 1 + 1 := by omega
    go_wp2
    go_ret
    exact ⟨rfl, by (repeat (first | exact Below.refl _ _ | exact hB0 | refine Below.alloc ?_ (by first | omega | (simp; done) | (simp; omega)) _ | refine Below.setCell ?_ (by first | omega | (simp; done) | (simp; omega)) _ | refine Below.drew ?_ | refine Below.trans ?_ (hB0.mono (by first | omega | (simp; done) | (simp; omega)))))⟩
  by_cases c4 : 2147483647 - n < ow
  · skip
    go_enter Try.func7, Try.ntmps7
    go_wp2_with fail
    refine (small10 _).mono ?_
    rintro e w0 ⟨rfl, hB0⟩
    obtain ⟨hc0, hf0⟩ := bcell hB0
    have hz0 := hB0.size
    simp only [World.size_alloc] at hz0
    have hl0_0 : w.heap.size < w0.heap.size := by omega
    have hl0_1 : w.heap.size < w0.heap.size + 1 := by omega
    have hl0_2 : w.heap.size < w0.heap.size + 1 + 1 := by omega
    go_wp2
    go_ret
    exact ⟨rfl, by (repeat (first | exact Below.refl _ _ | exact hB0 | refine Below.alloc ?_ (by first | omega | (simp; done) | (simp; omega)) _ | refine Below.setCell ?_ (by first | omega | (simp; done) | (simp; omega)) _ | refine Below.drew ?_ | refine Below.trans ?_ (hB0.mono (by first | omega | (simp; done) | (simp; omega)))))⟩
  by_cases c5 : 549755813888 < t
  · skip
    go_enter Try.func7, Try.ntmps7
    go_wp2_with fail
    refine (small10 _).mono ?_
    rintro e w0 ⟨rfl, hB0⟩
    obtain ⟨hc0, hf0⟩ := bcell hB0
    have hz0 := hB0.size
    simp only [World.size_alloc] at hz0
    have hl0_0 : w.heap.size < w0.heap.size := by omega
    have hl0_1 : w.heap.size < w0.heap.size + 1 := by omega
    have hl0_2 : w.heap.size < w0.heap.size + 1 + 1 := by omega
    go_wp2
    go_ret
    exact ⟨rfl, by (repeat (first | exact Below.refl _ _ | exact hB0 | refine Below.alloc ?_ (by first | omega | (simp; done) | (simp; omega)) _ | refine Below.setCell ?_ (by first | omega | (simp; done) | (simp; omega)) _ | refine Below.drew ?_ | refine Below.trans ?_ (hB0.mono (by first | omega | (simp; done) | (simp; omega)))))⟩
  have hs := shift_pass (e := ⟨id, fr, tn, op, en, ra, ow, ro⟩) (t := t) (size := size) (n := n) (by omega) (by show 0 ≤ ow; omega) (by show ow ≤ 2147483647 - n; omega)
  by_cases c6 : t < 0
  · have n1 : ∀ s, Ed.asks ⟨id, fr, tn, op, en, ra, ow, ro⟩ t s = false := fun s => by rw [Bool.eq_false_iff, ne_eq, Ed.asks_spec]; omega
    have h1 : Ed.pass ⟨id, fr, tn, op, en, ra, ow, ro⟩ t size = none := by unfold Ed.pass; rw [n1]; simp
    have h2 : Ed.pass ⟨id, fr, tn, op, en, ra, ow + n, ro⟩ t size = none := by rw [h1] at hs; exact hs
    have h3 : Ed.latest ⟨id, fr, tn, op, en, ra, ow, ro⟩ t size = none := by unfold Ed.latest; rw [n1]; simp
    clear n1 hs
    cases h4 : Ed.latest ⟨id, fr, tn, op, en, ra, ow + n, ro⟩ (t + n) size with
    | none =>
      have H1 := Lib.hid h1
      have H2 := Lib.hid h2
      have H3 := Lib.hid h3
      have H4 := Lib.hid h4
      clear h1 h2 h3 h4
      go_enter Try.func7, Try.ntmps7
      go_wp2_with fail
      refine (small10 _).mono ?_
      rintro e w0 ⟨rfl, hB0⟩
      obtain ⟨hc0, hf0⟩ := bcell hB0
      have hz0 := hB0.size
      simp only [World.size_alloc] at hz0
      have hl0_0 : w.heap.size < w0.heap.size := by omega
      have hl0_1 : w.heap.size < w0.heap.size + 1 := by omega
      have hl0_2 : w.heap.size < w0.heap.size + 1 + 1 := by omega
      go_wp2_with fail
      (with_reducible refine Calls.mono (pass_no H1.out _) ?_)
      rintro e w1 ⟨rfl, hB⟩
      obtain ⟨hc, hf⟩ := bcell hB
      have hz1 := hB.size
      simp only [World.size_alloc] at hz1
      have hy1 : w.heap.size < w1.heap.size := by omega
      go_wp2_with fail
      (with_reducible refine Calls.mono (pass_no H2.out _) ?_)
      rintro e w1 ⟨rfl, hb⟩
      replace hB := hB.trans (hb.mono hB.size)
      clear hb hc hf
      obtain ⟨hc, hf⟩ := bcell hB
      go_wp2_with fail
      (with_reducible refine Calls.mono (latest_no H3.out _) ?_)
      rintro e w1 ⟨rfl, hb⟩
      replace hB := hB.trans (hb.mono hB.size)
      clear hb hc hf
      obtain ⟨hc, hf⟩ := bcell hB
      go_wp2_with fail
      (with_reducible refine Calls.mono (latest_no H4.out _) ?_)
      rintro e w1 ⟨rfl, hb⟩
      replace hB := hB.trans (hb.mono hB.size)
      clear hb hc hf
      obtain ⟨hc, hf⟩ := bcell hB
      go_wp2
      all_goals go_ret
      all_goals exact ⟨rfl, by (repeat (first | exact Below.refl _ _ | exact hB | exact hB0 | refine Below.alloc ?_ (by first | omega | (simp; done) | (simp; omega)) _ | refine Below.setCell ?_ (by first | omega | (simp; done) | (simp; omega)) _ | refine Below.drew ?_ | refine Below.trans ?_ (hB.mono (by first | omega | (simp; done) | (simp; omega))) | refine Below.trans ?_ (hB0.mono (by first | omega | (simp; done) | (simp; omega)))))⟩
    | some y =>
      have H1 := Lib.hid h1
      have H2 := Lib.hid h2
      have H3 := Lib.hid h3
      have H4 := Lib.hid h4
      clear h1 h2 h3 h4
      go_enter Try.func7, Try.ntmps7
      go_wp2_with fail
      refine (small10 _).mono ?_
      rintro e w0 ⟨rfl, hB0⟩
      obtain ⟨hc0, hf0⟩ := bcell hB0
      have hz0 := hB0.size
      simp only [World.size_alloc] at hz0
      have hl0_0 : w.heap.size < w0.heap.size := by omega
      have hl0_1 : w.heap.size < w0.heap.size + 1 := by omega
      have hl0_2 : w.heap.size < w0.heap.size + 1 + 1 := by omega
      go_wp2_with fail
      (with_reducible refine Calls.mono (pass_no H1.out _) ?_)
      rintro e w1 ⟨rfl, hB⟩
      obtain ⟨hc, hf⟩ := bcell hB
      have hz1 := hB.size
      simp only [World.size_alloc] at hz1
      have hy1 : w.heap.size < w1.heap.size := by omega
      go_wp2_with fail
      (with_reducible refine Calls.mono (pass_no H2.out _) ?_)
      rintro e w1 ⟨rfl, hb⟩
      replace hB := hB.trans (hb.mono hB.size)
      clear hb hc hf
      obtain ⟨hc, hf⟩ := bcell hB
      go_wp2_with fail
      (with_reducible refine Calls.mono (latest_no H3.out _) ?_)
      rintro e w1 ⟨rfl, hb⟩
      replace hB := hB.trans (hb.mono hB.size)
      clear hb hc hf
      obtain ⟨hc, hf⟩ := bcell hB
      go_wp2_with fail
      (with_reducible refine Calls.mono (latest_yes H4.out _) ?_)
      rintro e w1 ⟨rfl, hb⟩
      replace hB := hB.trans (hb.mono hB.size)
      clear hb hc hf
      obtain ⟨hc, hf⟩ := bcell hB
      go_wp2
      all_goals go_ret
      all_goals exact ⟨rfl, by (repeat (first | exact Below.refl _ _ | exact hB | exact hB0 | refine Below.alloc ?_ (by first | omega | (simp; done) | (simp; omega)) _ | refine Below.setCell ?_ (by first | omega | (simp; done) | (simp; omega)) _ | refine Below.drew ?_ | refine Below.trans ?_ (hB.mono (by first | omega | (simp; done) | (simp; omega))) | refine Below.trans ?_ (hB0.mono (by first | omega | (simp; done) | (simp; omega)))))⟩
  · have hl := shift_latest (e := ⟨id, fr, tn, op, en, ra, ow, ro⟩) (t := t) (size := size) (n := n) (by omega) (by omega) (by show 0 ≤ ow; omega) (by show ow ≤ 2147483647 - n; omega) (by omega) (by omega)
    cases h1 : Ed.pass ⟨id, fr, tn, op, en, ra, ow, ro⟩ t size with
    | none =>
      have h2 : Ed.pass ⟨id, fr, tn, op, en, ra, ow + n, ro⟩ t size = none := by rw [h1] at hs; exact hs
      cases h3 : Ed.latest ⟨id, fr, tn, op, en, ra, ow, ro⟩ t size with
      | none =>
        have h4 : Ed.latest ⟨id, fr, tn, op, en, ra, ow + n, ro⟩ (t + n) size = none := hl.trans h3
        clear hs hl
        have H1 := Lib.hid h1
        have H2 := Lib.hid h2
        have H3 := Lib.hid h3
        have H4 := Lib.hid h4
        clear h1 h2 h3 h4
        go_enter Try.func7, Try.ntmps7
        go_wp2_with fail
        refine (small10 _).mono ?_
        rintro e w0 ⟨rfl, hB0⟩
        obtain ⟨hc0, hf0⟩ := bcell hB0
        have hz0 := hB0.size
        simp only [World.size_alloc] at hz0
        have hl0_0 : w.heap.size < w0.heap.size := by omega
        have hl0_1 : w.heap.size < w0.heap.size + 1 := by omega
        have hl0_2 : w.heap.size < w0.heap.size + 1 + 1 := by omega
        go_wp2_with fail
        (with_reducible refine Calls.mono (pass_no H1.out _) ?_)
        rintro e w1 ⟨rfl, hB⟩
        obtain ⟨hc, hf⟩ := bcell hB
        have hz1 := hB.size
        simp only [World.size_alloc] at hz1
        have hy1 : w.heap.size < w1.heap.size := by omega
        go_wp2_with fail
        (with_reducible refine Calls.mono (pass_no H2.out _) ?_)
        rintro e w1 ⟨rfl, hb⟩
        replace hB := hB.trans (hb.mono hB.size)
        clear hb hc hf
        obtain ⟨hc, hf⟩ := bcell hB
        go_wp2_with fail
        (with_reducible refine Calls.mono (latest_no H3.out _) ?_)
        rintro e w1 ⟨rfl, hb⟩
        replace hB := hB.trans (hb.mono hB.size)
        clear hb hc hf
        obtain ⟨hc, hf⟩ := bcell hB
        go_wp2_with fail
        (with_reducible refine Calls.mono (latest_no H4.out _) ?_)
        rintro e w1 ⟨rfl, hb⟩
        replace hB := hB.trans (hb.mono hB.size)
        clear hb hc hf
        obtain ⟨hc, hf⟩ := bcell hB
        go_wp2
        all_goals go_ret
        all_goals exact ⟨rfl, by (repeat (first | exact Below.refl _ _ | exact hB | exact hB0 | refine Below.alloc ?_ (by first | omega | (simp; done) | (simp; omega)) _ | refine Below.setCell ?_ (by first | omega | (simp; done) | (simp; omega)) _ | refine Below.drew ?_ | refine Below.trans ?_ (hB.mono (by first | omega | (simp; done) | (simp; omega))) | refine Below.trans ?_ (hB0.mono (by first | omega | (simp; done) | (simp; omega)))))⟩
      | some x =>
        have h4 : Ed.latest ⟨id, fr, tn, op, en, ra, ow + n, ro⟩ (t + n) size = some x := hl.trans h3
        clear hs hl
        have H1 := Lib.hid h1
        have H2 := Lib.hid h2
        have H3 := Lib.hid h3
        have H4 := Lib.hid h4
        clear h1 h2 h3 h4
        go_enter Try.func7, Try.ntmps7
        go_wp2_with fail
        refine (small10 _).mono ?_
        rintro e w0 ⟨rfl, hB0⟩
        obtain ⟨hc0, hf0⟩ := bcell hB0
        have hz0 := hB0.size
        simp only [World.size_alloc] at hz0
        have hl0_0 : w.heap.size < w0.heap.size := by omega
        have hl0_1 : w.heap.size < w0.heap.size + 1 := by omega
        have hl0_2 : w.heap.size < w0.heap.size + 1 + 1 := by omega
        go_wp2_with fail
        (with_reducible refine Calls.mono (pass_no H1.out _) ?_)
        rintro e w1 ⟨rfl, hB⟩
        obtain ⟨hc, hf⟩ := bcell hB
        have hz1 := hB.size
        simp only [World.size_alloc] at hz1
        have hy1 : w.heap.size < w1.heap.size := by omega
        go_wp2_with fail
        (with_reducible refine Calls.mono (pass_no H2.out _) ?_)
        rintro e w1 ⟨rfl, hb⟩
        replace hB := hB.trans (hb.mono hB.size)
        clear hb hc hf
        obtain ⟨hc, hf⟩ := bcell hB
        go_wp2_with fail
        (with_reducible refine Calls.mono (latest_yes H3.out _) ?_)
        rintro e w1 ⟨rfl, hb⟩
        replace hB := hB.trans (hb.mono hB.size)
        clear hb hc hf
        obtain ⟨hc, hf⟩ := bcell hB
        go_wp2_with fail
        (with_reducible refine Calls.mono (latest_yes H4.out _) ?_)
        rintro e w1 ⟨rfl, hb⟩
        replace hB := hB.trans (hb.mono hB.size)
        clear hb hc hf
        obtain ⟨hc, hf⟩ := bcell hB
        go_wp2
        all_goals go_ret
        all_goals exact ⟨rfl, by (repeat (first | exact Below.refl _ _ | exact hB | exact hB0 | refine Below.alloc ?_ (by first | omega | (simp; done) | (simp; omega)) _ | refine Below.setCell ?_ (by first | omega | (simp; done) | (simp; omega)) _ | refine Below.drew ?_ | refine Below.trans ?_ (hB.mono (by first | omega | (simp; done) | (simp; omega))) | refine Below.trans ?_ (hB0.mono (by first | omega | (simp; done) | (simp; omega)))))⟩
    | some p =>
      obtain ⟨a, b⟩ := p
      have h2 : Ed.pass ⟨id, fr, tn, op, en, ra, ow + n, ro⟩ t size = some (a, b + n) := by rw [h1] at hs; exact hs
      have g := pass_facts h1
      obtain ⟨_, _, _, _, _, g5, g6, _, _, _, g10, g11, _, _, g14, g15, g16, g17, _, _, _⟩ := g
      have b1 : 0 ≤ b := by rw [g6]; omega
      have b2 : b ≤ 6442450941 := by rw [g6]; omega
      clear g5 g6 g10 g11 g14 g15 g16 g17
      cases h3 : Ed.latest ⟨id, fr, tn, op, en, ra, ow, ro⟩ t size with
      | none =>
        have h4 : Ed.latest ⟨id, fr, tn, op, en, ra, ow + n, ro⟩ (t + n) size = none := hl.trans h3
        clear hs hl
        have H1 := Lib.hid h1
        have H2 := Lib.hid h2
        have H3 := Lib.hid h3
        have H4 := Lib.hid h4
        clear h1 h2 h3 h4
        go_enter Try.func7, Try.ntmps7
        go_wp2_with fail
        refine (small10 _).mono ?_
        rintro e w0 ⟨rfl, hB0⟩
        obtain ⟨hc0, hf0⟩ := bcell hB0
        have hz0 := hB0.size
        simp only [World.size_alloc] at hz0
        have hl0_0 : w.heap.size < w0.heap.size := by omega
        have hl0_1 : w.heap.size < w0.heap.size + 1 := by omega
        have hl0_2 : w.heap.size < w0.heap.size + 1 + 1 := by omega
        go_wp2_with fail
        (with_reducible refine Calls.mono (pass_yes H1.out _) ?_)
        rintro e w1 ⟨rfl, hB⟩
        obtain ⟨hc, hf⟩ := bcell hB
        have hz1 := hB.size
        simp only [World.size_alloc] at hz1
        have hy1 : w.heap.size < w1.heap.size := by omega
        go_wp2_with fail
        (with_reducible refine Calls.mono (pass_yes H2.out _) ?_)
        rintro e w1 ⟨rfl, hb⟩
        replace hB := hB.trans (hb.mono hB.size)
        clear hb hc hf
        obtain ⟨hc, hf⟩ := bcell hB
        go_wp2_with fail
        (with_reducible refine Calls.mono (latest_no H3.out _) ?_)
        rintro e w1 ⟨rfl, hb⟩
        replace hB := hB.trans (hb.mono hB.size)
        clear hb hc hf
        obtain ⟨hc, hf⟩ := bcell hB
        go_wp2_with fail
        (with_reducible refine Calls.mono (latest_no H4.out _) ?_)
        rintro e w1 ⟨rfl, hb⟩
        replace hB := hB.trans (hb.mono hB.size)
        clear hb hc hf
        obtain ⟨hc, hf⟩ := bcell hB
        go_wp2
        all_goals go_ret
        all_goals exact ⟨rfl, by (repeat (first | exact Below.refl _ _ | exact hB | exact hB0 | refine Below.alloc ?_ (by first | omega | (simp; done) | (simp; omega)) _ | refine Below.setCell ?_ (by first | omega | (simp; done) | (simp; omega)) _ | refine Below.drew ?_ | refine Below.trans ?_ (hB.mono (by first | omega | (simp; done) | (simp; omega))) | refine Below.trans ?_ (hB0.mono (by first | omega | (simp; done) | (simp; omega)))))⟩
      | some x =>
        have h4 : Ed.latest ⟨id, fr, tn, op, en, ra, ow + n, ro⟩ (t + n) size = some x := hl.trans h3
        clear hs hl
        have H1 := Lib.hid h1
        have H2 := Lib.hid h2
        have H3 := Lib.hid h3
        have H4 := Lib.hid h4
        clear h1 h2 h3 h4
        go_enter Try.func7, Try.ntmps7
        go_wp2_with fail
        refine (small10 _).mono ?_
        rintro e w0 ⟨rfl, hB0⟩
        obtain ⟨hc0, hf0⟩ := bcell hB0
        have hz0 := hB0.size
        simp only [World.size_alloc] at hz0
        have hl0_0 : w.heap.size < w0.heap.size := by omega
        have hl0_1 : w.heap.size < w0.heap.size + 1 := by omega
        have hl0_2 : w.heap.size < w0.heap.size + 1 + 1 := by omega
        go_wp2_with fail
        (with_reducible refine Calls.mono (pass_yes H1.out _) ?_)
        rintro e w1 ⟨rfl, hB⟩
        obtain ⟨hc, hf⟩ := bcell hB
        have hz1 := hB.size
        simp only [World.size_alloc] at hz1
        have hy1 : w.heap.size < w1.heap.size := by omega
        go_wp2_with fail
        (with_reducible refine Calls.mono (pass_yes H2.out _) ?_)
        rintro e w1 ⟨rfl, hb⟩
        replace hB := hB.trans (hb.mono hB.size)
        clear hb hc hf
        obtain ⟨hc, hf⟩ := bcell hB
        go_wp2_with fail
        (with_reducible refine Calls.mono (latest_yes H3.out _) ?_)
        rintro e w1 ⟨rfl, hb⟩
        replace hB := hB.trans (hb.mono hB.size)
        clear hb hc hf
        obtain ⟨hc, hf⟩ := bcell hB
        go_wp2_with fail
        (with_reducible refine Calls.mono (latest_yes H4.out _) ?_)
        rintro e w1 ⟨rfl, hb⟩
        replace hB := hB.trans (hb.mono hB.size)
        clear hb hc hf
        obtain ⟨hc, hf⟩ := bcell hB
        go_wp2
        all_goals go_ret
        all_goals exact ⟨rfl, by (repeat (first | exact Below.refl _ _ | exact hB | exact hB0 | refine Below.alloc ?_ (by first | omega | (simp; done) | (simp; omega)) _ | refine Below.setCell ?_ (by first | omega | (simp; done) | (simp; omega)) _ | refine Below.drew ?_ | refine Below.trans ?_ (hB.mono (by first | omega | (simp; done) | (simp; omega))) | refine Below.trans ?_ (hB0.mono (by first | omega | (simp; done) | (simp; omega)))))⟩
theorem hopShifts_own : ownKnob Try.prog.godebug = none := by kernel_rfl
theorem hopShifts_laidOut : laidOutB Try.prog = true := by kernel_rfl

set_option maxHeartbeats 1000000 in
set_option maxRecDepth 100000 in
theorem hopShifts_lifted (os : Os) (started : os.Started) (H : Type) (enc : TypeId × Value → H) :
    ReturnsInHanded {} Try.checked os 7 .any (Rows.hopShiftsSpec.pre6 enc Try.prog Try.f7 Rows.hopShiftsRow.domain false) (Rows.hopShiftsSpec.post enc Try.prog Try.f7 false true false false) := by
  refine returnsInHanded_of_change (C := Try.checked) hopShifts_own started (by kernel_rfl) Try.func7
    (ChangeSpec.witness6 (enc := enc) (C := Try.checked) false ⟨#[], #[.agg #[.int .i64 0, .int .i64 0, .int .i64 0, .int .i64 0, .int .i64 0, .int .i64 0, .int .i64 0, .int .i64 0], .int .i64 0, .int .i64 0, .int .i64 0], []⟩ 8 (by kernel_rfl) (by kernel_rfl) (by kernel_rfl) (by kernel_rfl)) ?_
  intro W base args ds gs before hval0 hW hcnd _
  have hval : ∀ (j : Nat) t v, Try.f7.params[j]? = some t → args[j]? = some v → Value.okWide Try.prog W .any base t v := hval0
  have hW' := hW
  obtain ⟨p, q, hA0, hV, rfl, hfz, hnd⟩ := hW
  have hA : DataW.TrodAll enc Try.prog W 0 (fun _ => true) true Try.f7.params.toList args.toList ds p := hA0
  rw [Try.params7] at hA hval
  obtain ⟨v0, vs0, d0, ds0, p0, q0, hargs, rfl, rfl, h0, r0⟩ := trodAll_cons hA
  obtain ⟨v1, vs1, d1, ds1, p1, q1, rfl, rfl, rfl, h1, r1⟩ := trodAll_cons r0
  obtain ⟨v2, vs2, d2, ds2, p2, q2, rfl, rfl, rfl, h2, r2⟩ := trodAll_cons r1
  obtain ⟨v3, vs3, d3, ds3, p3, q3, rfl, rfl, rfl, h3, r3⟩ := trodAll_cons r2
  obtain ⟨rfl, rfl, rfl⟩ := trodAll_nil r3
  obtain rfl : args = #[v0, v1, v2, v3] := by cases args; simp_all
  obtain ⟨rfl, rfl⟩ := trodVars_none hV
  obtain ⟨n0, e0, l0, w0⟩ := open_flat 4 Try.underlying23 (by kernel_rfl) (hval 0 23 v0 rfl rfl) h0
  obtain ⟨a0_0, a0_1, a0_2, a0_3, a0_4, a0_5, a0_6, a0_7, rfl⟩ : ∃ a0_0 a0_1 a0_2 a0_3 a0_4 a0_5 a0_6 a0_7 : Int, n0 = [a0_0, a0_1, a0_2, a0_3, a0_4, a0_5, a0_6, a0_7] := by
    rw [show Try.prog.cellsOf 23 = 8 by kernel_rfl] at l0
    match n0, l0 with
    | [a0_0, a0_1, a0_2, a0_3, a0_4, a0_5, a0_6, a0_7], _ => exact ⟨_, _, _, _, _, _, _, _, rfl⟩
  obtain rfl : v0 = .agg #[.int .i64 a0_0, .int .i64 a0_1, .int .i64 a0_2, .int .i64 a0_3, .int .i64 a0_4, .int .i64 a0_5, .int .i64 a0_6, .int .i64 a0_7] := e0
  obtain ⟨a1, rfl, rfl, rfl, w1⟩ := open_int Try.underlying3 (hval 1 3 v1 rfl rfl) h1
  obtain ⟨a2, rfl, rfl, rfl, w2⟩ := open_int Try.underlying3 (hval 2 3 v2 rfl rfl) h2
  obtain ⟨a3, rfl, rfl, rfl, w3⟩ := open_int Try.underlying3 (hval 3 3 v3 rfl rfl) h3
  clear hA0 hval0
  refine (hopShifts_walk a0_0 a0_1 a0_2 a0_3 a0_4 a0_5 a0_6 a0_7 a1 a2 a3 w0 w1 w2 w3 W).mono fun e W' ⟨he, bel⟩ => ?_
  subst he
  exact ⟨_, rfl, law_post hopShifts_laidOut (by kernel_rfl) rfl Try.underlying4 rfl rfl hW' bel⟩

theorem hopShifts_proved : Rows.HopShiftsSaid :=
  OpenClaim.holds_of_wide 7 Try.f7 rfl rfl rfl rfl rfl rfl rfl ⟨rfl, rfl, rfl, rfl, rfl⟩ rfl rfl rfl rfl rfl (by kernel_rfl) Try.func7 (by kernel_rfl)
    (of_decide_eq_true (by kernel_rfl)) (by unfold Func.isWrapper; first | (rw [if_pos (by decide +kernel)]; kernel_rfl) | (rw [if_neg (by decide +kernel)]; exact ⟨rfl, rfl⟩))
    (fun os started H enc _ => hopShifts_lifted os started H enc)
#print axioms hopShifts_proved
end Go.Proofs.Ytgfciepcfkjmkaa
