/- Less takes no longer, and passes, if more does; for every edge, time and two sizes: HopSizes returns true. No condition. -/
import Derived.Test.YtgfciepcfkjmkaaRows
import Derived.Test.YtgfciepcfkjmkaaSmall10
import Derived.Test.YtgfciepcfkjmkaaHopMath
namespace Go.Proofs.Ytgfciepcfkjmkaa
open Go.ChangeShapes Go.WideShapes Go.ChangeAt Go.RowKit Go.Sort
set_option linter.unusedSimpArgs false
set_option linter.unusedVariables false

set_option maxHeartbeats 4000000 in
set_option maxRecDepth 100000 in
theorem hopSizes_walk (id fr tn op en ra ow ro t size more : Int) (hc : ∀ m ∈ [id, fr, tn, op, en, ra, ow, ro], (Lit.int .i64 m).wf = true) (h_t : (Lit.int .i64 t).wf = true) (h_size : (Lit.int .i64 size).wf = true) (h_more : (Lit.int .i64 more).wf = true) (w : World) :
    Calls Try.prog 6 #[.agg #[.int .i64 id, .int .i64 fr, .int .i64 tn, .int .i64 op, .int .i64 en, .int .i64 ra, .int .i64 ow, .int .i64 ro], .int .i64 t, .int .i64 size, .int .i64 more] w fun e w' => e = .returned (.bool true) ∧ Below w.heap.size w w' := by
  clear hc h_t h_size h_more
  by_cases h1 : size < 0
  · go_enter Try.func6, Try.ntmps6
    go_wp2_with fail
    refine (small10 _).mono ?_
    rintro e w0 ⟨rfl, hB0⟩
    obtain ⟨hc0, hf0⟩ := bcell hB0
    have hz0 := hB0.size
    simp only [World.size_alloc] at hz0
    have hl0_0 : w.heap.size < w0.heap.size := by omega
    go_wp2_with fail
    go_wp2
    all_goals go_ret
    all_goals exact ⟨rfl, by (repeat (first | exact Below.refl _ _ | exact hB0 | refine Below.alloc ?_ (by first | omega | (simp; done) | (simp; omega)) _ | refine Below.setCell ?_ (by first | omega | (simp; done) | (simp; omega)) _ | refine Below.drew ?_ | refine Below.trans ?_ (hB0.mono (by first | omega | (simp; done) | (simp; omega)))))⟩
  · by_cases h2 : more < size
    · go_enter Try.func6, Try.ntmps6
      go_wp2_with fail
      refine (small10 _).mono ?_
      rintro e w0 ⟨rfl, hB0⟩
      obtain ⟨hc0, hf0⟩ := bcell hB0
      have hz0 := hB0.size
      simp only [World.size_alloc] at hz0
      have hl0_0 : w.heap.size < w0.heap.size := by omega
      go_wp2_with fail
      go_wp2
      all_goals go_ret
      all_goals exact ⟨rfl, by (repeat (first | exact Below.refl _ _ | exact hB0 | refine Below.alloc ?_ (by first | omega | (simp; done) | (simp; omega)) _ | refine Below.setCell ?_ (by first | omega | (simp; done) | (simp; omega)) _ | refine Below.drew ?_ | refine Below.trans ?_ (hB0.mono (by first | omega | (simp; done) | (simp; omega)))))⟩
    · cases h3 : Ed.pass ⟨id, fr, tn, op, en, ra, ow, ro⟩ t more with
      | none =>
        cases h4 : Ed.pass ⟨id, fr, tn, op, en, ra, ow, ro⟩ t size with
        | none =>
          have H3 := Lib.hid h3
          have H4 := Lib.hid h4
          clear h3 h4
          go_enter Try.func6, Try.ntmps6
          go_wp2_with fail
          refine (small10 _).mono ?_
          rintro e w0 ⟨rfl, hB0⟩
          obtain ⟨hc0, hf0⟩ := bcell hB0
          have hz0 := hB0.size
          simp only [World.size_alloc] at hz0
          have hl0_0 : w.heap.size < w0.heap.size := by omega
          go_wp2_with fail
          (with_reducible refine Calls.mono (pass_no H4.out _) ?_)
          rintro e w1 ⟨rfl, hB⟩
          obtain ⟨hc, hf⟩ := bcell hB
          go_wp2_with fail
          (with_reducible refine Calls.mono (pass_no H3.out _) ?_)
          rintro e w1 ⟨rfl, hb⟩
          replace hB := hB.trans (hb.mono hB.size)
          clear hb hc hf
          obtain ⟨hc, hf⟩ := bcell hB
          go_wp2
          all_goals go_ret
          all_goals exact ⟨rfl, by (repeat (first | exact Below.refl _ _ | exact hB | exact hB0 | refine Below.alloc ?_ (by first | omega | (simp; done) | (simp; omega)) _ | refine Below.setCell ?_ (by first | omega | (simp; done) | (simp; omega)) _ | refine Below.drew ?_ | refine Below.trans ?_ (hB.mono (by first | omega | (simp; done) | (simp; omega))) | refine Below.trans ?_ (hB0.mono (by first | omega | (simp; done) | (simp; omega)))))⟩
        | some p =>
          obtain ⟨a, b⟩ := p
          have H3 := Lib.hid h3
          have H4 := Lib.hid h4
          clear h3 h4
          go_enter Try.func6, Try.ntmps6
          go_wp2_with fail
          refine (small10 _).mono ?_
          rintro e w0 ⟨rfl, hB0⟩
          obtain ⟨hc0, hf0⟩ := bcell hB0
          have hz0 := hB0.size
          simp only [World.size_alloc] at hz0
          have hl0_0 : w.heap.size < w0.heap.size := by omega
          go_wp2_with fail
          (with_reducible refine Calls.mono (pass_yes H4.out _) ?_)
          rintro e w1 ⟨rfl, hB⟩
          obtain ⟨hc, hf⟩ := bcell hB
          go_wp2_with fail
          (with_reducible refine Calls.mono (pass_no H3.out _) ?_)
          rintro e w1 ⟨rfl, hb⟩
          replace hB := hB.trans (hb.mono hB.size)
          clear hb hc hf
          obtain ⟨hc, hf⟩ := bcell hB
          go_wp2
          all_goals go_ret
          all_goals exact ⟨rfl, by (repeat (first | exact Below.refl _ _ | exact hB | exact hB0 | refine Below.alloc ?_ (by first | omega | (simp; done) | (simp; omega)) _ | refine Below.setCell ?_ (by first | omega | (simp; done) | (simp; omega)) _ | refine Below.drew ?_ | refine Below.trans ?_ (hB.mono (by first | omega | (simp; done) | (simp; omega))) | refine Below.trans ?_ (hB0.mono (by first | omega | (simp; done) | (simp; omega)))))⟩
      | some p =>
        obtain ⟨c, d⟩ := p
        obtain ⟨b, h4, k1, k2, k3, k4, k5, k6, k7, k8⟩ := pass_less (size := size) (by omega) (by omega) h3
        have g := pass_facts h3
        obtain ⟨n, h5⟩ : ∃ n, Ed.takes ⟨id, fr, tn, op, en, ra, ow, ro⟩ size = n := ⟨_, rfl⟩
        obtain ⟨m, h6⟩ : ∃ m, Ed.takes ⟨id, fr, tn, op, en, ra, ow, ro⟩ more = m := ⟨_, rfl⟩
        simp only [h5, h6] at k2 k3 k5 k6 g
        obtain ⟨_, _, _, _, g1, g2, g3, _, _, _, g4, g5, _, _, g6, g7, g8, g9, _, _, _⟩ := g
        simp only at k4 k5 g1 g2 g3 g8 g9
        have k9 : ((d - b : Int) == m - n) = true := by simp; omega
        have k10 : IntKind.i64.wrap (d - b) = d - b := IntWalk.i64_in _ (by omega)
        have k11 : IntKind.i64.wrap (m - n) = m - n := IntWalk.i64_in _ (by omega)
        have K3 := Lib.hid k3
        clear k3 g3
        have H3 := Lib.hid h3
        have H4 := Lib.hid h4
        have H5 := Lib.hid h5
        have H6 := Lib.hid h6
        have K9 := Lib.hid k9
        clear h3 h4 h5 h6 k9
        go_enter Try.func6, Try.ntmps6
        go_wp2_with fail
        refine (small10 _).mono ?_
        rintro e w0 ⟨rfl, hB0⟩
        obtain ⟨hc0, hf0⟩ := bcell hB0
        have hz0 := hB0.size
        simp only [World.size_alloc] at hz0
        have hl0_0 : w.heap.size < w0.heap.size := by omega
        go_wp2_with fail
        (with_reducible refine Calls.mono (pass_yes H4.out _) ?_)
        rintro e w1 ⟨rfl, hB⟩
        obtain ⟨hc, hf⟩ := bcell hB
        go_wp2_with fail
        (with_reducible refine Calls.mono (pass_yes H3.out _) ?_)
        rintro e w1 ⟨rfl, hb⟩
        replace hB := hB.trans (hb.mono hB.size)
        clear hb hc hf
        obtain ⟨hc, hf⟩ := bcell hB
        go_wp2_with fail
        (with_reducible refine Calls.mono (htakes_is n H5.out _) ?_)
        rintro e w1 ⟨rfl, hb⟩
        replace hB := hB.trans (hb.mono hB.size)
        clear hb hc hf
        obtain ⟨hc, hf⟩ := bcell hB
        go_wp2_with fail
        (with_reducible refine Calls.mono (htakes_is m H6.out _) ?_)
        rintro e w1 ⟨rfl, hb⟩
        replace hB := hB.trans (hb.mono hB.size)
        clear hb hc hf
        obtain ⟨hc, hf⟩ := bcell hB
        have k9 := K9.out
        go_wp2
        all_goals go_ret
        all_goals exact ⟨rfl, by (repeat (first | exact Below.refl _ _ | exact hB | exact hB0 | refine Below.alloc ?_ (by first | omega | (simp; done) | (simp; omega)) _ | refine Below.setCell ?_ (by first | omega | (simp; done) | (simp; omega)) _ | refine Below.drew ?_ | refine Below.trans ?_ (hB.mono (by first | omega | (simp; done) | (simp; omega))) | refine Below.trans ?_ (hB0.mono (by first | omega | (simp; done) | (simp; omega)))))⟩
theorem hopSizes_own : ownKnob Try.prog.godebug = none := by kernel_rfl
theorem hopSizes_laidOut : laidOutB Try.prog = true := by kernel_rfl

set_option maxHeartbeats 1000000 in
set_option maxRecDepth 100000 in
theorem hopSizes_lifted (os : Os) (started : os.Started) (H : Type) (enc : TypeId × Value → H) :
    ReturnsInHanded {} Try.checked os 6 .any (Rows.hopSizesSpec.pre6 enc Try.prog Try.f6 Rows.hopSizesRow.domain false) (Rows.hopSizesSpec.post enc Try.prog Try.f6 false true false false) := by
  refine returnsInHanded_of_change (C := Try.checked) hopSizes_own started (by kernel_rfl) Try.func6
    (ChangeSpec.witness6 (enc := enc) (C := Try.checked) false ⟨#[], #[.agg #[.int .i64 0, .int .i64 0, .int .i64 0, .int .i64 0, .int .i64 0, .int .i64 0, .int .i64 0, .int .i64 0], .int .i64 0, .int .i64 0, .int .i64 0], []⟩ 8 (by kernel_rfl) (by kernel_rfl) (by kernel_rfl) (by kernel_rfl)) ?_
  intro W base args ds gs before hval0 hW hcnd _
  have hval : ∀ (j : Nat) t v, Try.f6.params[j]? = some t → args[j]? = some v → Value.okWide Try.prog W .any base t v := hval0
  have hW' := hW
  obtain ⟨p, q, hA0, hV, rfl, hfz, hnd⟩ := hW
  have hA : DataW.TrodAll enc Try.prog W 0 (fun _ => true) true Try.f6.params.toList args.toList ds p := hA0
  rw [Try.params6] at hA hval
  obtain ⟨v0, vs0, d0, ds0, p0, q0, hargs, rfl, rfl, h0, r0⟩ := trodAll_cons hA
  obtain ⟨v1, vs1, d1, ds1, p1, q1, rfl, rfl, rfl, h1, r1⟩ := trodAll_cons r0
  obtain ⟨v2, vs2, d2, ds2, p2, q2, rfl, rfl, rfl, h2, r2⟩ := trodAll_cons r1
  obtain ⟨v3, vs3, d3, ds3, p3, q3, rfl, rfl, rfl, h3, r3⟩ := trodAll_cons r2
  obtain ⟨rfl, rfl, rfl⟩ := trodAll_nil r3
  obtain rfl : args = #[v0, v1, v2, v3] := by cases args; simp_all
  obtain ⟨rfl, rfl⟩ := trodVars_none hV
  obtain ⟨n0, e0, l0, w0⟩ := open_flat 4 Try.underlying23 (by kernel_rfl) (hval 0 23 v0 rfl rfl) h0
  obtain ⟨a0_0, a0_1, a0_2, a0_3, a0_4, a0_5, a0_6, a0_7, rfl⟩ : ∃ a0_0 a0_1 a0_2 a0_3 a0_4 a0_5 a0_6 a0_7 : Int, n0 = [a0_0, a0_1, a0_2, a0_3, a0_4, a0_5, a0_6, a0_7] := by
    rw [show Try.prog.cellsOf 23 = 8 by kernel_rfl] at l0
    match n0, l0 with
    | [a0_0, a0_1, a0_2, a0_3, a0_4, a0_5, a0_6, a0_7], _ => exact ⟨_, _, _, _, _, _, _, _, rfl⟩
  obtain rfl : v0 = .agg #[.int .i64 a0_0, .int .i64 a0_1, .int .i64 a0_2, .int .i64 a0_3, .int .i64 a0_4, .int .i64 a0_5, .int .i64 a0_6, .int .i64 a0_7] := e0
  obtain ⟨a1, rfl, rfl, rfl, w1⟩ := open_int Try.underlying3 (hval 1 3 v1 rfl rfl) h1
  obtain ⟨a2, rfl, rfl, rfl, w2⟩ := open_int Try.underlying3 (hval 2 3 v2 rfl rfl) h2
  obtain ⟨a3, rfl, rfl, rfl, w3⟩ := open_int Try.underlying3 (hval 3 3 v3 rfl rfl) h3
  clear hA0 hval0
  refine (hopSizes_walk a0_0 a0_1 a0_2 a0_3 a0_4 a0_5 a0_6 a0_7 a1 a2 a3 w0 w1 w2 w3 W).mono fun e W' ⟨he, bel⟩ => ?_
  subst he
  exact ⟨_, rfl, law_post hopSizes_laidOut (by kernel_rfl) rfl Try.underlying4 rfl rfl hW' bel⟩

theorem hopSizes_proved : Rows.HopSizesSaid :=
  OpenClaim.holds_of_wide 6 Try.f6 rfl rfl rfl rfl rfl rfl rfl ⟨rfl, rfl, rfl, rfl, rfl⟩ rfl rfl rfl rfl rfl (by kernel_rfl) Try.func6 (by kernel_rfl)
    (of_decide_eq_true (by kernel_rfl)) (by unfold Func.isWrapper; first | (rw [if_pos (by decide +kernel)]; kernel_rfl) | (rw [if_neg (by decide +kernel)]; exact ⟨rfl, rfl⟩))
    (fun os started H enc _ => hopSizes_lifted os started H enc)
#print axioms hopSizes_proved
end Go.Proofs.Ytgfciepcfkjmkaa
