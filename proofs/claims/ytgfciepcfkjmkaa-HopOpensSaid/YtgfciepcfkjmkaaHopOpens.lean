/- Nothing is sent ahead of Open, nor of when it is ready, nor at End, or behind it, and just then; for every edge, time and size: HopOpens returns true. No condition. -/
import Derived.Test.YtgfciepcfkjmkaaRows
import Derived.Test.YtgfciepcfkjmkaaSmall10
import Derived.Test.YtgfciepcfkjmkaaHopMath
namespace Go.Proofs.Ytgfciepcfkjmkaa
open Go.ChangeShapes Go.WideShapes Go.ChangeAt Go.RowKit Go.Sort
set_option linter.unusedSimpArgs false
set_option linter.unusedVariables false

set_option maxHeartbeats 4000000 in
set_option maxRecDepth 100000 in
theorem hopOpens_walk (id fr tn op en ra ow ro t size : Int) (hc : ∀ m ∈ [id, fr, tn, op, en, ra, ow, ro], (Lit.int .i64 m).wf = true) (h_t : (Lit.int .i64 t).wf = true) (h_size : (Lit.int .i64 size).wf = true) (w : World) :
    Calls Try.prog 8 #[.agg #[.int .i64 id, .int .i64 fr, .int .i64 tn, .int .i64 op, .int .i64 en, .int .i64 ra, .int .i64 ow, .int .i64 ro], .int .i64 t, .int .i64 size] w fun e w' => e = .returned (.bool true) ∧ Below w.heap.size w w' := by
  clear hc h_t h_size
  cases h1 : Ed.pass ⟨id, fr, tn, op, en, ra, ow, ro⟩ t size with
  | none =>
    have H1 := Lib.hid h1
    clear h1
    go_enter Try.func8, Try.ntmps8
    go_wp2_with fail
    refine (small10 _).mono ?_
    rintro e w0 ⟨rfl, hB0⟩
    obtain ⟨hc0, hf0⟩ := bcell hB0
    have hz0 := hB0.size
    simp only [World.size_alloc] at hz0
    have hl0_0 : w.heap.size < w0.heap.size := by omega
    go_wp2_with fail
    (with_reducible refine Calls.mono (pass_no H1.out _) ?_)
    rintro e w1 ⟨rfl, hB⟩
    obtain ⟨hc, hf⟩ := bcell hB
    go_wp2
    all_goals go_ret
    all_goals exact ⟨rfl, by (repeat (first | exact Below.refl _ _ | exact hB | exact hB0 | refine Below.alloc ?_ (by first | omega | (simp; done) | (simp; omega)) _ | refine Below.setCell ?_ (by first | omega | (simp; done) | (simp; omega)) _ | refine Below.drew ?_ | refine Below.trans ?_ (hB.mono (by first | omega | (simp; done) | (simp; omega))) | refine Below.trans ?_ (hB0.mono (by first | omega | (simp; done) | (simp; omega)))))⟩
  | some p =>
    obtain ⟨a, b⟩ := p
    have g := pass_facts h1
    obtain ⟨n, h2⟩ : ∃ n, Ed.takes ⟨id, fr, tn, op, en, ra, ow, ro⟩ size = n := ⟨_, rfl⟩
    simp only [h2] at g
    obtain ⟨h3, g1, g2, g3, g4, g5, g6, g7, g8, g9, g10, g11, g12, g13, g14, g15, g16, g17, g18, g19, g20⟩ := g
    have m1 : 0 ≤ n * ra := Int.mul_nonneg g10 (by omega)
    have m2 : n * ra ≤ 4611686014132420609 := Int.le_trans (Int.mul_le_mul g11 g13 (by omega) (by omega)) (by omega)
    have m3 : (n - 1) * ra = n * ra - ra := by rw [Int.sub_mul]; omega
    have m4 : -2147483647 ≤ (n - 1) * ra := by omega
    have m5 : (n - 1) * ra ≤ 4611686014132420609 := by omega
    have e1 : (b == a + n + ow) = true := by simp; omega
    have c1 : (a == op) = true ∨ (a == op) = false ∧ (a == t) = true := by
      rcases g3 with g3 | g3
      · exact .inl (by simp [g3])
      · by_cases h : a = op
        · exact .inl (by simp [h])
        · exact .inr ⟨by simp [h], by simp [g3]⟩
    have c2 : (n == 0) = true ∨ (n == 0) = false ∧ (n - 1) * ra < size := by
      by_cases h : n = 0
      · exact .inl (by simp [h])
      · rcases g9 with g9 | g9
        · exact absurd g9 h
        · exact .inr ⟨by simp [h], g9⟩
    have C1 := Lib.hid c1
    have C2 := Lib.hid c2
    have E1 := Lib.hid e1
    clear c1 c2 g3 g6 g9 m3 e1
    have H1 := Lib.hid h1
    have H2 := Lib.hid h2
    have H3 := Lib.hid h3
    clear h1 h2 h3
    rcases C1.out with c1 | ⟨c1, c3⟩ <;> rcases C2.out with c2 | ⟨c2, c4⟩
    all_goals
      clear C1 C2
      go_enter Try.func8, Try.ntmps8
      go_wp2_with fail
      refine (small10 _).mono ?_
      rintro e w0 ⟨rfl, hB0⟩
      obtain ⟨hc0, hf0⟩ := bcell hB0
      have hz0 := hB0.size
      simp only [World.size_alloc] at hz0
      have hl0_0 : w.heap.size < w0.heap.size := by omega
      go_wp2_with fail
      (with_reducible refine Calls.mono (pass_yes H1.out _) ?_)
      rintro e w1 ⟨rfl, hB⟩
      obtain ⟨hc, hf⟩ := bcell hB
      go_wp2_with fail
      (with_reducible refine Calls.mono (htakes_is n H2.out _) ?_)
      rintro e w1 ⟨rfl, hb⟩
      replace hB := hB.trans (hb.mono hB.size)
      clear hb hc hf
      obtain ⟨hc, hf⟩ := bcell hB
      go_upto_region 6 with fail
      have hz1 := hB.size
      have hl1 : w.heap.size < w1.heap.size := by omega
      have hp : ∀ o, w1.cell? ⟨w.heap.size, o, none⟩ = (#[.int .i64 id, .int .i64 fr, .int .i64 tn, .int .i64 op, .int .i64 en, .int .i64 ra, .int .i64 ow, .int .i64 ro] : Array Value)[o]? := by
        intro o
        rw [hc _ _ (by omega), hc0 _ _ (by simp only [World.size_alloc]; omega)]
        simp only [cell_alloc_if]
        rw [if_pos trivial]
      have HB := Lib.hid (show Below w.heap.size w w1 by (repeat (first | exact Below.refl _ _ | exact hB | exact hB0 | refine Below.alloc ?_ (by first | omega | (simp; done) | (simp; omega)) _ | refine Below.setCell ?_ (by first | omega | (simp; done) | (simp; omega)) _ | refine Below.drew ?_ | refine Below.trans ?_ (hB.mono (by first | omega | (simp; done) | (simp; omega))) | refine Below.trans ?_ (hB0.mono (by first | omega | (simp; done) | (simp; omega))))))
      clear hB hc hf hB0 hc0 hf0 hz0 hl0_0
      have hg := below_regrown w1
      have hq := grown_cells w1
      have d1 : decide (op ≤ a) = true := decide_eq_true g1
      have d2 : decide (t ≤ a) = true := decide_eq_true g2
      have d3 : decide (a < en) = true := decide_eq_true g4
      have d4 : decide (a + n ≤ en) = true := decide_eq_true g5
      have d5 : decide (size ≤ ro) = true := decide_eq_true g7
      have d6 : decide (size ≤ n * ra) = true := decide_eq_true g8
      have e1 := E1.out
      try simp only [List.append]
      first | refine wp_region_text_below ?_ | refine wp_region_quiet_below (by kernel_rfl) (by kernel_rfl) ?_
      repeat (go_big_quiet_step ((go_at_call 14; with_reducible exact Calls.regrown_of (hright_is true H3.out _))))
      refine wpQuiet_nil ?_
      intro _ hqw
      obtain ⟨pq, hqw⟩ := hqw
      subst hqw
      go_wp2
      go_ret
      exact ⟨rfl, HB.out.trans ((hg _ _).mono HB.out.size)⟩
theorem hopOpens_own : ownKnob Try.prog.godebug = none := by kernel_rfl
theorem hopOpens_laidOut : laidOutB Try.prog = true := by kernel_rfl

set_option maxHeartbeats 1000000 in
set_option maxRecDepth 100000 in
theorem hopOpens_lifted (os : Os) (started : os.Started) (H : Type) (enc : TypeId × Value → H) :
    ReturnsInHanded {} Try.checked os 8 .any (Rows.hopOpensSpec.pre6 enc Try.prog Try.f8 Rows.hopOpensRow.domain false) (Rows.hopOpensSpec.post enc Try.prog Try.f8 false true false false) := by
  refine returnsInHanded_of_change (C := Try.checked) hopOpens_own started (by kernel_rfl) Try.func8
    (ChangeSpec.witness6 (enc := enc) (C := Try.checked) false ⟨#[], #[.agg #[.int .i64 0, .int .i64 0, .int .i64 0, .int .i64 0, .int .i64 0, .int .i64 0, .int .i64 0, .int .i64 0], .int .i64 0, .int .i64 0], []⟩ 8 (by kernel_rfl) (by kernel_rfl) (by kernel_rfl) (by kernel_rfl)) ?_
  intro W base args ds gs before hval0 hW hcnd _
  have hval : ∀ (j : Nat) t v, Try.f8.params[j]? = some t → args[j]? = some v → Value.okWide Try.prog W .any base t v := hval0
  have hW' := hW
  obtain ⟨p, q, hA0, hV, rfl, hfz, hnd⟩ := hW
  have hA : DataW.TrodAll enc Try.prog W 0 (fun _ => true) true Try.f8.params.toList args.toList ds p := hA0
  rw [Try.params8] at hA hval
  obtain ⟨v0, vs0, d0, ds0, p0, q0, hargs, rfl, rfl, h0, r0⟩ := trodAll_cons hA
  obtain ⟨v1, vs1, d1, ds1, p1, q1, rfl, rfl, rfl, h1, r1⟩ := trodAll_cons r0
  obtain ⟨v2, vs2, d2, ds2, p2, q2, rfl, rfl, rfl, h2, r2⟩ := trodAll_cons r1
  obtain ⟨rfl, rfl, rfl⟩ := trodAll_nil r2
  obtain rfl : args = #[v0, v1, v2] := by cases args; simp_all
  obtain ⟨rfl, rfl⟩ := trodVars_none hV
  obtain ⟨n0, e0, l0, w0⟩ := open_flat 4 Try.underlying23 (by kernel_rfl) (hval 0 23 v0 rfl rfl) h0
  obtain ⟨a0_0, a0_1, a0_2, a0_3, a0_4, a0_5, a0_6, a0_7, rfl⟩ : ∃ a0_0 a0_1 a0_2 a0_3 a0_4 a0_5 a0_6 a0_7 : Int, n0 = [a0_0, a0_1, a0_2, a0_3, a0_4, a0_5, a0_6, a0_7] := by
    rw [show Try.prog.cellsOf 23 = 8 by kernel_rfl] at l0
    match n0, l0 with
    | [a0_0, a0_1, a0_2, a0_3, a0_4, a0_5, a0_6, a0_7], _ => exact ⟨_, _, _, _, _, _, _, _, rfl⟩
  obtain rfl : v0 = .agg #[.int .i64 a0_0, .int .i64 a0_1, .int .i64 a0_2, .int .i64 a0_3, .int .i64 a0_4, .int .i64 a0_5, .int .i64 a0_6, .int .i64 a0_7] := e0
  obtain ⟨a1, rfl, rfl, rfl, w1⟩ := open_int Try.underlying3 (hval 1 3 v1 rfl rfl) h1
  obtain ⟨a2, rfl, rfl, rfl, w2⟩ := open_int Try.underlying3 (hval 2 3 v2 rfl rfl) h2
  clear hA0 hval0
  refine (hopOpens_walk a0_0 a0_1 a0_2 a0_3 a0_4 a0_5 a0_6 a0_7 a1 a2 w0 w1 w2 W).mono fun e W' ⟨he, bel⟩ => ?_
  subst he
  exact ⟨_, rfl, law_post hopOpens_laidOut (by kernel_rfl) rfl Try.underlying4 rfl rfl hW' bel⟩

theorem hopOpens_proved : Rows.HopOpensSaid :=
  OpenClaim.holds_of_wide 8 Try.f8 rfl rfl rfl rfl rfl rfl rfl ⟨rfl, rfl, rfl, rfl, rfl⟩ rfl rfl rfl rfl rfl (by kernel_rfl) Try.func8 (by kernel_rfl)
    (of_decide_eq_true (by kernel_rfl)) (by unfold Func.isWrapper; first | (rw [if_pos (by decide +kernel)]; kernel_rfl) | (rw [if_neg (by decide +kernel)]; exact ⟨rfl, rfl⟩))
    (fun os started H enc _ => hopOpens_lifted os started H enc)
#print axioms hopOpens_proved
end Go.Proofs.Ytgfciepcfkjmkaa
