/- Numbers may be just from their least to their greatest: CheckEnds returns true for every number. No condition. -/
import Derived.Test.YtalneihabdgafabRows
import Derived.Test.YtalneihabdgafabSmall03
namespace Go.Proofs.Ytalneihabdgafab
open Go.ChangeShapes Go.WideShapes Go.ChangeAt Go.RowKit Go.Sort
set_option linter.unusedSimpArgs false
set_option linter.unusedVariables false

set_option maxHeartbeats 4000000 in
set_option maxRecDepth 100000 in
theorem checkEnds_walk (n : Int) (hw : (Lit.int .i64 n).wf = true) (w : World) :
    Calls Try.prog 5 #[.int .i64 n] w fun e w' => e = .returned (.bool true) ∧ Below w.heap.size w w' := by
  clear hw
  have hn : n ≤ -1 ∨ (0 ≤ n ∧ n ≤ 0) ∨ (1 ≤ n ∧ n ≤ 2) ∨ (3 ≤ n ∧ n ≤ 8) ∨ (9 ≤ n ∧ n ≤ 255) ∨ (256 ≤ n ∧ n ≤ 1048576) ∨ (1048577 ≤ n ∧ n ≤ 2147483647) ∨ (2147483648 ≤ n ∧ n ≤ 1099511627775) ∨ (1099511627776 ≤ n ∧ n ≤ 1099511627776) ∨ 1099511627777 ≤ n := by omega
  have Hn := Lib.hid hn
  clear hn
  go_enter Try.func5, Try.ntmps5
  go_upto_region 18 with (go_at_call 6; refine (small03 _).mono ?_; rintro e w0 ⟨rfl, hB0⟩)
  have hz0 := hB0.size
  refine name_wp (fun W hW => ?_)
  have hWB : Below w.heap.size w W := by rw [hW]; (repeat (first | exact Below.refl _ _ | exact hB0 | refine Below.alloc ?_ (by first | omega | (simp; done) | (simp; omega)) _ | refine Below.setCell ?_ (by first | omega | (simp; done) | (simp; omega)) _ | refine Below.drew ?_ | refine Below.trans ?_ (hB0.mono (by first | omega | (simp; done) | (simp; omega)))))
  have hWs : W.heap.size = w0.heap.size + 9 := by rw [hW]; simp
  have hk0 : ∀ o, W.cell? ⟨w0.heap.size, o, none⟩ = (#[Value.int .i64 (1), Value.int .i64 (1), Value.int .i64 (2), Value.int .i64 (0), Value.int .i64 (9), Value.int .i64 (1)] : Array Value)[o]? := by intro o; rw [hW]; simp only [cell_alloc_if, World.size_alloc]; repeat (first | rw [if_neg (by omega)] | rw [if_pos (by omega)] | rw [if_pos trivial])
  have hk1 : ∀ o, W.cell? ⟨w0.heap.size + 1, o, none⟩ = (#[Value.int .i64 (n), Value.int .i64 (1), Value.int .i64 (2), Value.int .i64 (0), Value.int .i64 (9), Value.int .i64 (1)] : Array Value)[o]? := by intro o; rw [hW]; simp only [cell_alloc_if, World.size_alloc]; repeat (first | rw [if_neg (by omega)] | rw [if_pos (by omega)] | rw [if_pos trivial])
  have hk2 : ∀ o, W.cell? ⟨w0.heap.size + 1 + 1, o, none⟩ = (#[Value.int .i64 (1), Value.int .i64 (1), Value.int .i64 (2), Value.int .i64 (0), Value.int .i64 (9), Value.int .i64 (n)] : Array Value)[o]? := by intro o; rw [hW]; simp only [cell_alloc_if, World.size_alloc]; repeat (first | rw [if_neg (by omega)] | rw [if_pos (by omega)] | rw [if_pos trivial])
  have hk3 : ∀ o, W.cell? ⟨w0.heap.size + 1 + 1 + 1, o, none⟩ = (#[Value.int .i64 (1), Value.int .i64 (1), Value.int .i64 (2), Value.int .i64 (0), Value.int .i64 (n), Value.int .i64 (1)] : Array Value)[o]? := by intro o; rw [hW]; simp only [cell_alloc_if, World.size_alloc]; repeat (first | rw [if_neg (by omega)] | rw [if_pos (by omega)] | rw [if_pos trivial])
  have hk4 : ∀ o, W.cell? ⟨w0.heap.size + 1 + 1 + 1 + 1, o, none⟩ = (#[Value.int .i64 (1), Value.int .i64 (1), Value.int .i64 (2), Value.int .i64 (n), Value.int .i64 (9), Value.int .i64 (1)] : Array Value)[o]? := by intro o; rw [hW]; simp only [cell_alloc_if, World.size_alloc]; repeat (first | rw [if_neg (by omega)] | rw [if_pos (by omega)] | rw [if_pos trivial])
  have hk5 : ∀ o, W.cell? ⟨w0.heap.size + 1 + 1 + 1 + 1 + 1, o, none⟩ = (#[Value.int .i64 (1), Value.int .i64 (2), Value.int .i64 (0), Value.int .i64 (0), Value.int .i64 (0)] : Array Value)[o]? := by intro o; rw [hW]; simp only [cell_alloc_if, World.size_alloc]; repeat (first | rw [if_neg (by omega)] | rw [if_pos (by omega)] | rw [if_pos trivial])
  have hk6 : ∀ o, W.cell? ⟨w0.heap.size + 1 + 1 + 1 + 1 + 1 + 1, o, none⟩ = (#[Value.int .i64 (1), Value.int .i64 (2), Value.int .i64 (n), Value.int .i64 (0), Value.int .i64 (0)] : Array Value)[o]? := by intro o; rw [hW]; simp only [cell_alloc_if, World.size_alloc]; repeat (first | rw [if_neg (by omega)] | rw [if_pos (by omega)] | rw [if_pos trivial])
  have hk7 : ∀ o, W.cell? ⟨w0.heap.size + 1 + 1 + 1 + 1 + 1 + 1 + 1, o, none⟩ = (#[Value.int .i64 (1), Value.int .i64 (2), Value.int .i64 (0), Value.int .i64 (n), Value.int .i64 (0)] : Array Value)[o]? := by intro o; rw [hW]; simp only [cell_alloc_if, World.size_alloc]; repeat (first | rw [if_neg (by omega)] | rw [if_pos (by omega)] | rw [if_pos trivial])
  have hk8 : ∀ o, W.cell? ⟨w0.heap.size + 1 + 1 + 1 + 1 + 1 + 1 + 1 + 1, o, none⟩ = (#[Value.int .i64 (1), Value.int .i64 (2), Value.int .i64 (0), Value.int .i64 (0), Value.int .i64 (n)] : Array Value)[o]? := by intro o; rw [hW]; simp only [cell_alloc_if, World.size_alloc]; repeat (first | rw [if_neg (by omega)] | rw [if_pos (by omega)] | rw [if_pos trivial])
  have HB := Lib.hid hWB
  clear hW hWB hB0 hz0
  rcases Hn.out with hn | ⟨hn, hm⟩ | ⟨hn, hm⟩ | ⟨hn, hm⟩ | ⟨hn, hm⟩ | ⟨hn, hm⟩ | ⟨hn, hm⟩ | ⟨hn, hm⟩ | ⟨hn, hm⟩ | hn
  all_goals
    clear Hn
    obtain ⟨b0, dd0, eb0⟩ : ∃ b : Bool, decide (1 ≤ n) = b ∧ b = decide (1 ≤ n) := ⟨_, rfl, rfl⟩
    first | (rw [decide_eq_true (by omega)] at eb0; subst eb0) | (rw [decide_eq_false (by omega)] at eb0; subst eb0)
    obtain ⟨b1, dd1, eb1⟩ : ∃ b : Bool, decide (n ≤ 1048576) = b ∧ b = decide (n ≤ 1048576) := ⟨_, rfl, rfl⟩
    first | (rw [decide_eq_true (by omega)] at eb1; subst eb1) | (rw [decide_eq_false (by omega)] at eb1; subst eb1)
    obtain ⟨b2, dd2, eb2⟩ : ∃ b : Bool, decide (n < 2147483648) = b ∧ b = decide (n < 2147483648) := ⟨_, rfl, rfl⟩
    first | (rw [decide_eq_true (by omega)] at eb2; subst eb2) | (rw [decide_eq_false (by omega)] at eb2; subst eb2)
    obtain ⟨b3, dd3, eb3⟩ : ∃ b : Bool, decide (0 ≤ n) = b ∧ b = decide (0 ≤ n) := ⟨_, rfl, rfl⟩
    first | (rw [decide_eq_true (by omega)] at eb3; subst eb3) | (rw [decide_eq_false (by omega)] at eb3; subst eb3)
    obtain ⟨b4, dd4, eb4⟩ : ∃ b : Bool, decide (n < 9) = b ∧ b = decide (n < 9) := ⟨_, rfl, rfl⟩
    first | (rw [decide_eq_true (by omega)] at eb4; subst eb4) | (rw [decide_eq_false (by omega)] at eb4; subst eb4)
    obtain ⟨b5, dd5, eb5⟩ : ∃ b : Bool, decide (n < 1099511627776) = b ∧ b = decide (n < 1099511627776) := ⟨_, rfl, rfl⟩
    first | (rw [decide_eq_true (by omega)] at eb5; subst eb5) | (rw [decide_eq_false (by omega)] at eb5; subst eb5)
    obtain ⟨b6, dd6, eb6⟩ : ∃ b : Bool, decide (n < 3) = b ∧ b = decide (n < 3) := ⟨_, rfl, rfl⟩
    first | (rw [decide_eq_true (by omega)] at eb6; subst eb6) | (rw [decide_eq_false (by omega)] at eb6; subst eb6)
    obtain ⟨b7, dd7, eb7⟩ : ∃ b : Bool, decide (n ≤ 1099511627776) = b ∧ b = decide (n ≤ 1099511627776) := ⟨_, rfl, rfl⟩
    first | (rw [decide_eq_true (by omega)] at eb7; subst eb7) | (rw [decide_eq_false (by omega)] at eb7; subst eb7)
    obtain ⟨b8, dd8, eb8⟩ : ∃ b : Bool, decide (n ≤ 255) = b ∧ b = decide (n ≤ 255) := ⟨_, rfl, rfl⟩
    first | (rw [decide_eq_true (by omega)] at eb8; subst eb8) | (rw [decide_eq_false (by omega)] at eb8; subst eb8)
    try simp only [List.append]
    refine wp_region_text_below ?_
    have hg := below_regrown W
    have hq := grown_cells W
    repeat (go_big_quiet_step (first | (go_at_call 8; with_reducible exact Calls.regrown_of (contact_is true (by first | assumption | decide +kernel | (rw [contactB_spec]; omega)) _)) | (go_at_call 8; with_reducible exact Calls.regrown_of (contact_is false (by first | assumption | decide +kernel | (rw [Bool.eq_false_iff, ne_eq, contactB_spec]; omega)) _)) | (go_at_call 9; with_reducible exact Calls.regrown_of (range_is true (by first | assumption | decide +kernel | (rw [rangeB_spec]; omega)) _)) | (go_at_call 9; with_reducible exact Calls.regrown_of (range_is false (by first | assumption | decide +kernel | (rw [Bool.eq_false_iff, ne_eq, rangeB_spec]; omega)) _)) | (go_at_call 10; with_reducible exact Calls.regrown_of (bundle_is true (by first | assumption | decide +kernel | (rw [bundleB_spec]; omega)) _)) | (go_at_call 10; with_reducible exact Calls.regrown_of (bundle_is false (by first | assumption | decide +kernel | (rw [Bool.eq_false_iff, ne_eq, bundleB_spec]; omega)) _)) | (go_at_call 11; with_reducible exact Calls.regrown_same (node_is true (by first | assumption | decide +kernel | (rw [nodeB_spec]; omega)) _)) | (go_at_call 11; with_reducible exact Calls.regrown_same (node_is false (by first | assumption | decide +kernel | (rw [Bool.eq_false_iff, ne_eq, nodeB_spec]; omega)) _)) | (go_at_call 12; with_reducible exact Calls.regrown_same (in_is true (by first | assumption | decide +kernel | (rw [inB_spec]; omega)) _)) | (go_at_call 12; with_reducible exact Calls.regrown_same (in_is false (by first | assumption | decide +kernel | (rw [Bool.eq_false_iff, ne_eq, inB_spec]; omega)) _))))
    refine wpQuiet_nil ?_
    intro _ hqw
    obtain ⟨pq, hqw⟩ := hqw
    subst hqw
    go_wp2
    go_ret
    exact ⟨rfl, HB.out.trans ((hg _ _).mono HB.out.size)⟩

theorem checkEnds_own : ownKnob Try.prog.godebug = none := by kernel_rfl
theorem checkEnds_laidOut : laidOutB Try.prog = true := by kernel_rfl

set_option maxHeartbeats 1000000 in
set_option maxRecDepth 100000 in
theorem checkEnds_lifted (os : Os) (started : os.Started) (H : Type) (enc : TypeId × Value → H) :
    ReturnsInHanded {} Try.checked os 5 .any (Rows.checkEndsSpec.pre6 enc Try.prog Try.f5 Rows.checkEndsRow.domain false) (Rows.checkEndsSpec.post enc Try.prog Try.f5 false true false false) := by
  refine returnsInHanded_of_change (C := Try.checked) checkEnds_own started (by kernel_rfl) Try.func5
    (ChangeSpec.witness6 (enc := enc) (C := Try.checked) false ⟨#[], #[.int .i64 0], []⟩ 8 (by kernel_rfl) (by kernel_rfl) (by kernel_rfl) (by kernel_rfl)) ?_
  intro W base args ds gs before hval0 hW hcnd _
  have hval : ∀ (j : Nat) t v, Try.f5.params[j]? = some t → args[j]? = some v → Value.okWide Try.prog W .any base t v := hval0
  have hW' := hW
  obtain ⟨p, q, hA0, hV, rfl, hfz, hnd⟩ := hW
  have hA : DataW.TrodAll enc Try.prog W 0 (fun _ => true) true Try.f5.params.toList args.toList ds p := hA0
  rw [Try.params5] at hA hval
  obtain ⟨v0, vs0, d0, ds0, p0, q0, hargs, rfl, rfl, h0, r0⟩ := trodAll_cons hA
  obtain ⟨rfl, rfl, rfl⟩ := trodAll_nil r0
  obtain rfl : args = #[v0] := by cases args; simp_all
  obtain ⟨rfl, rfl⟩ := trodVars_none hV
  obtain ⟨a0, rfl, rfl, rfl, w0⟩ := open_int Try.underlying3 (hval 0 3 v0 rfl rfl) h0
  clear hA0 hval0
  refine (checkEnds_walk a0 w0 W).mono fun e W' ⟨he, bel⟩ => ?_
  subst he
  exact ⟨_, rfl, law_post checkEnds_laidOut (by kernel_rfl) rfl Try.underlying4 rfl rfl hW' bel⟩

theorem checkEnds_proved : Rows.CheckEndsSaid :=
  OpenClaim.holds_of_wide 5 Try.f5 rfl rfl rfl rfl rfl rfl rfl ⟨rfl, rfl, rfl, rfl, rfl⟩ rfl rfl rfl rfl rfl (by kernel_rfl) Try.func5 (by kernel_rfl)
    (of_decide_eq_true (by kernel_rfl)) (by unfold Func.isWrapper; first | (rw [if_pos (by decide +kernel)]; kernel_rfl) | (rw [if_neg (by decide +kernel)]; exact ⟨rfl, rfl⟩))
    (fun os started H enc _ => checkEnds_lifted os started H enc)
#print axioms checkEnds_proved
end Go.Proofs.Ytalneihabdgafab
