/- Who is ready at the latest time is there by then, and a second later is too late; for every edge, time and size: HopLatest returns true. No condition. -/
import Derived.Test.YtgfciepcfkjmkaaRows
import Derived.Test.YtgfciepcfkjmkaaSmall10
import Derived.Test.YtgfciepcfkjmkaaHopMath
namespace Go.Proofs.Ytgfciepcfkjmkaa
open Go.ChangeShapes Go.WideShapes Go.ChangeAt Go.RowKit Go.Sort
set_option linter.unusedSimpArgs false
set_option linter.unusedVariables false

set_option maxHeartbeats 4000000 in
set_option maxRecDepth 100000 in
theorem hopLatest_walk (id fr tn op en ra ow ro b size : Int) (hc : ∀ m ∈ [id, fr, tn, op, en, ra, ow, ro], (Lit.int .i64 m).wf = true) (h_b : (Lit.int .i64 b).wf = true) (h_size : (Lit.int .i64 size).wf = true) (w : World) :
    Calls Try.prog 5 #[.agg #[.int .i64 id, .int .i64 fr, .int .i64 tn, .int .i64 op, .int .i64 en, .int .i64 ra, .int .i64 ow, .int .i64 ro], .int .i64 b, .int .i64 size] w fun e w' => e = .returned (.bool true) ∧ Below w.heap.size w w' := by
  clear hc h_b h_size
  cases h1 : Ed.latest ⟨id, fr, tn, op, en, ra, ow, ro⟩ b size with
  | none =>
    cases h2 : Ed.pass ⟨id, fr, tn, op, en, ra, ow, ro⟩ 0 size with
    | none =>
      have H1 := Lib.hid h1
      have H2 := Lib.hid h2
      clear h1 h2
      go_enter Try.func5, Try.ntmps5
      go_wp2_with fail
      refine (small10 _).mono ?_
      rintro e w0 ⟨rfl, hB0⟩
      obtain ⟨hc0, hf0⟩ := bcell hB0
      have hz0 := hB0.size
      simp only [World.size_alloc] at hz0
      have hl0_0 : w.heap.size < w0.heap.size := by omega
      go_wp2_with fail
      (with_reducible refine Calls.mono (latest_no H1.out _) ?_)
      rintro e w1 ⟨rfl, hB⟩
      obtain ⟨hc, hf⟩ := bcell hB
      go_wp2_with fail
      (with_reducible refine Calls.mono (pass_no H2.out _) ?_)
      rintro e w1 ⟨rfl, hb⟩
      replace hB := hB.trans (hb.mono hB.size)
      clear hb hc hf
      obtain ⟨hc, hf⟩ := bcell hB
      go_wp2
      all_goals go_ret
      all_goals exact ⟨rfl, by (repeat (first | exact Below.refl _ _ | exact hB | exact hB0 | refine Below.alloc ?_ (by first | omega | (simp; done) | (simp; omega)) _ | refine Below.setCell ?_ (by first | omega | (simp; done) | (simp; omega)) _ | refine Below.drew ?_ | refine Below.trans ?_ (hB.mono (by first | omega | (simp; done) | (simp; omega))) | refine Below.trans ?_ (hB0.mono (by first | omega | (simp; done) | (simp; omega)))))⟩
    | some p =>
      obtain ⟨x, a⟩ := p
      have h3 := latest_none h1 h2
      have H1 := Lib.hid h1
      have H2 := Lib.hid h2
      clear h1 h2
      rcases h3 with h3 | h3 | h3
      all_goals
        go_enter Try.func5, Try.ntmps5
        go_wp2_with fail
        refine (small10 _).mono ?_
        rintro e w0 ⟨rfl, hB0⟩
        obtain ⟨hc0, hf0⟩ := bcell hB0
        have hz0 := hB0.size
        simp only [World.size_alloc] at hz0
        have hl0_0 : w.heap.size < w0.heap.size := by omega
        go_wp2_with fail
        (with_reducible refine Calls.mono (latest_no H1.out _) ?_)
        rintro e w1 ⟨rfl, hB⟩
        obtain ⟨hc, hf⟩ := bcell hB
        go_wp2_with fail
        (with_reducible refine Calls.mono (pass_yes H2.out _) ?_)
        rintro e w1 ⟨rfl, hb⟩
        replace hB := hB.trans (hb.mono hB.size)
        clear hb hc hf
        obtain ⟨hc, hf⟩ := bcell hB
        go_wp2
        all_goals go_ret
        all_goals exact ⟨rfl, by (repeat (first | exact Below.refl _ _ | exact hB | exact hB0 | refine Below.alloc ?_ (by first | omega | (simp; done) | (simp; omega)) _ | refine Below.setCell ?_ (by first | omega | (simp; done) | (simp; omega)) _ | refine Below.drew ?_ | refine Below.trans ?_ (hB.mono (by first | omega | (simp; done) | (simp; omega))) | refine Below.trans ?_ (hB0.mono (by first | omega | (simp; done) | (simp; omega)))))⟩
  | some t =>
    obtain ⟨k1, k2, ⟨x, a, h2, k3⟩, h4⟩ := latest_facts h1
    cases h3 : Ed.pass ⟨id, fr, tn, op, en, ra, ow, ro⟩ (t + 1) size with
    | none =>
      clear h4
      have H1 := Lib.hid h1
      have H2 := Lib.hid h2
      have H3 := Lib.hid h3
      clear h1 h2 h3
      go_enter Try.func5, Try.ntmps5
      go_wp2_with fail
      refine (small10 _).mono ?_
      rintro e w0 ⟨rfl, hB0⟩
      obtain ⟨hc0, hf0⟩ := bcell hB0
      have hz0 := hB0.size
      simp only [World.size_alloc] at hz0
      have hl0_0 : w.heap.size < w0.heap.size := by omega
      go_wp2_with fail
      (with_reducible refine Calls.mono (latest_yes H1.out _) ?_)
      rintro e w1 ⟨rfl, hB⟩
      obtain ⟨hc, hf⟩ := bcell hB
      go_wp2_with fail
      (with_reducible refine Calls.mono (pass_yes H2.out _) ?_)
      rintro e w1 ⟨rfl, hb⟩
      replace hB := hB.trans (hb.mono hB.size)
      clear hb hc hf
      obtain ⟨hc, hf⟩ := bcell hB
      go_wp2_with fail
      (with_reducible refine Calls.mono (pass_no H3.out _) ?_)
      rintro e w1 ⟨rfl, hb⟩
      replace hB := hB.trans (hb.mono hB.size)
      clear hb hc hf
      obtain ⟨hc, hf⟩ := bcell hB
      go_wp2
      all_goals go_ret
      all_goals exact ⟨rfl, by (repeat (first | exact Below.refl _ _ | exact hB | exact hB0 | refine Below.alloc ?_ (by first | omega | (simp; done) | (simp; omega)) _ | refine Below.setCell ?_ (by first | omega | (simp; done) | (simp; omega)) _ | refine Below.drew ?_ | refine Below.trans ?_ (hB.mono (by first | omega | (simp; done) | (simp; omega))) | refine Below.trans ?_ (hB0.mono (by first | omega | (simp; done) | (simp; omega)))))⟩
    | some p =>
      obtain ⟨y, c⟩ := p
      have k4 := h4 _ _ h3
      clear h4
      have H1 := Lib.hid h1
      have H2 := Lib.hid h2
      have H3 := Lib.hid h3
      clear h1 h2 h3
      go_enter Try.func5, Try.ntmps5
      go_wp2_with fail
      refine (small10 _).mono ?_
      rintro e w0 ⟨rfl, hB0⟩
      obtain ⟨hc0, hf0⟩ := bcell hB0
      have hz0 := hB0.size
      simp only [World.size_alloc] at hz0
      have hl0_0 : w.heap.size < w0.heap.size := by omega
      go_wp2_with fail
      (with_reducible refine Calls.mono (latest_yes H1.out _) ?_)
      rintro e w1 ⟨rfl, hB⟩
      obtain ⟨hc, hf⟩ := bcell hB
      go_wp2_with fail
      (with_reducible refine Calls.mono (pass_yes H2.out _) ?_)
      rintro e w1 ⟨rfl, hb⟩
      replace hB := hB.trans (hb.mono hB.size)
      clear hb hc hf
      obtain ⟨hc, hf⟩ := bcell hB
      go_wp2_with fail
      (with_reducible refine Calls.mono (pass_yes H3.out _) ?_)
      rintro e w1 ⟨rfl, hb⟩
      replace hB := hB.trans (hb.mono hB.size)
      clear hb hc hf
      obtain ⟨hc, hf⟩ := bcell hB
      go_wp2
      all_goals go_ret
      all_goals exact ⟨rfl, by (repeat (first | exact Below.refl _ _ | exact hB | exact hB0 | refine Below.alloc ?_ (by first | omega | (simp; done) | (simp; omega)) _ | refine Below.setCell ?_ (by first | omega | (simp; done) | (simp; omega)) _ | refine Below.drew ?_ | refine Below.trans ?_ (hB.mono (by first | omega | (simp; done) | (simp; omega))) | refine Below.trans ?_ (hB0.mono (by first | omega | (simp; done) | (simp; omega)))))⟩
theorem hopLatest_own : ownKnob Try.prog.godebug = none := by kernel_rfl
theorem hopLatest_laidOut : laidOutB Try.prog = true := by kernel_rfl

set_option maxHeartbeats 1000000 in
set_option maxRecDepth 100000 in
theorem hopLatest_lifted (os : Os) (started : os.Started) (H : Type) (enc : TypeId × Value → H) :
    ReturnsInHanded {} Try.checked os 5 .any (Rows.hopLatestSpec.pre6 enc Try.prog Try.f5 Rows.hopLatestRow.domain false) (Rows.hopLatestSpec.post enc Try.prog Try.f5 false true false false) := by
  refine returnsInHanded_of_change (C := Try.checked) hopLatest_own started (by kernel_rfl) Try.func5
    (ChangeSpec.witness6 (enc := enc) (C := Try.checked) false ⟨#[], #[.agg #[.int .i64 0, .int .i64 0, .int .i64 0, .int .i64 0, .int .i64 0, .int .i64 0, .int .i64 0, .int .i64 0], .int .i64 0, .int .i64 0], []⟩ 8 (by kernel_rfl) (by kernel_rfl) (by kernel_rfl) (by kernel_rfl)) ?_
  intro W base args ds gs before hval0 hW hcnd _
  have hval : ∀ (j : Nat) t v, Try.f5.params[j]? = some t → args[j]? = some v → Value.okWide Try.prog W .any base t v := hval0
  have hW' := hW
  obtain ⟨p, q, hA0, hV, rfl, hfz, hnd⟩ := hW
  have hA : DataW.TrodAll enc Try.prog W 0 (fun _ => true) true Try.f5.params.toList args.toList ds p := hA0
  rw [Try.params5] at hA hval
  obtain ⟨v0, vs0, d0, ds0, p0, q0, hargs, rfl, rfl, h0, r0⟩ := trodAll_cons hA
  obtain ⟨v1, vs1, d1, ds1, p1, q1, rfl, rfl, rfl, h1, r1⟩ := trodAll_cons r0
  obtain ⟨v2, vs2, d2, ds2, p2, q2, rfl, rfl, rfl, h2, r2⟩ := trodAll_cons r1
  obtain ⟨rfl, rfl, rfl⟩ := trodAll_nil r2
  obtain rfl : args = #[v0, v1, v2] := by cases args; simp_all
  obtain ⟨rfl, rfl⟩ := trodVars_none hV
  obtain ⟨n0, e0, l0, w0⟩ := open_flat 4 Try.underlying23 (by kernel_rfl) (hval 0 23 v0 rfl rfl) h0
  obtain ⟨a0_0, a0_1, a0_2, a0_3, a0_4, a0_5, a0_6, a0_7, rfl⟩ : ∃ a0_0 a0_1 a0_2 a0_3 a0_4 a0_5 a0_6 a0_7 : Int, n0 = [a0_0, a0_1, a0_2, a0_3, a0_4, a0_5, a0_6, a0_7] := by
    rw [show Try.prog.cellsOf 23 = 8 by kernel_rfl] at l0
    match n0, l0 with
    | [a0_0, a0_1, a0_2, a0_3, a0_4, a0_5, a0_6, a0_7], _ => exact ⟨_, _, _, _, _, _, _, _, rfl⟩
  obtain rfl : v0 = .agg #[.int .i64 a0_0, .int .i64 a0_1, .int .i64 a0_2, .int .i64 a0_3, .int .i64 a0_4, .int .i64 a0_5, .int .i64 a0_6, .int .i64 a0_7] := e0
  obtain ⟨a1, rfl, rfl, rfl, w1⟩ := open_int Try.underlying3 (hval 1 3 v1 rfl rfl) h1
  obtain ⟨a2, rfl, rfl, rfl, w2⟩ := open_int Try.underlying3 (hval 2 3 v2 rfl rfl) h2
  clear hA0 hval0
  refine (hopLatest_walk a0_0 a0_1 a0_2 a0_3 a0_4 a0_5 a0_6 a0_7 a1 a2 w0 w1 w2 W).mono fun e W' ⟨he, bel⟩ => ?_
  subst he
  exact ⟨_, rfl, law_post hopLatest_laidOut (by kernel_rfl) rfl Try.underlying4 rfl rfl hW' bel⟩

theorem hopLatest_proved : Rows.HopLatestSaid :=
  OpenClaim.holds_of_wide 5 Try.f5 rfl rfl rfl rfl rfl rfl rfl ⟨rfl, rfl, rfl, rfl, rfl⟩ rfl rfl rfl rfl rfl (by kernel_rfl) Try.func5 (by kernel_rfl)
    (of_decide_eq_true (by kernel_rfl)) (by unfold Func.isWrapper; first | (rw [if_pos (by decide +kernel)]; kernel_rfl) | (rw [if_neg (by decide +kernel)]; exact ⟨rfl, rfl⟩))
    (fun os started H enc _ => hopLatest_lifted os started H enc)
#print axioms hopLatest_proved
end Go.Proofs.Ytgfciepcfkjmkaa
