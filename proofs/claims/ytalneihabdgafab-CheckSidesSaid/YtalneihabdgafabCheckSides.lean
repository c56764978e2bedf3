/- What goes one way may go the other way round, and nothing to itself, but bundles: CheckSides returns true for every contact, range and bundle. No condition. -/
import Derived.Test.YtalneihabdgafabRows
import Derived.Test.YtalneihabdgafabSmall03
namespace Go.Proofs.Ytalneihabdgafab
open Go.ChangeShapes Go.WideShapes Go.ChangeAt Go.RowKit Go.Sort
set_option linter.unusedSimpArgs false
set_option linter.unusedVariables false

theorem wayB_swap (a b : Int) : wayB b a = wayB a b := by
  unfold wayB
  rw [Bool.and_comm (nodeB b), show (b != a) = (a != b) from bne_comm]

set_option maxHeartbeats 4000000 in
set_option maxRecDepth 100000 in
theorem checkSides_walk (id fr tn st en ra rf rt rs re ro bf bt bs bc bd : Int) (hc : ∀ m ∈ [id, fr, tn, st, en, ra], (Lit.int .i64 m).wf = true) (hr : ∀ m ∈ [rf, rt, rs, re, ro], (Lit.int .i64 m).wf = true) (hb : ∀ m ∈ [bf, bt, bs, bc, bd], (Lit.int .i64 m).wf = true) (w : World) :
    Calls Try.prog 4 #[.agg #[.int .i64 id, .int .i64 fr, .int .i64 tn, .int .i64 st, .int .i64 en, .int .i64 ra], .agg #[.int .i64 rf, .int .i64 rt, .int .i64 rs, .int .i64 re, .int .i64 ro], .agg #[.int .i64 bf, .int .i64 bt, .int .i64 bs, .int .i64 bc, .int .i64 bd]] w
      fun e w' => e = .returned (.bool true) ∧ Below w.heap.size w w' := by
  clear hc hr hb
  have h1 := Lib.hid (show contactB id tn fr st en ra = contactB id fr tn st en ra by unfold contactB; rw [wayB_swap])
  have h2 := Lib.hid (show rangeB rt rf rs re ro = rangeB rf rt rs re ro by unfold rangeB; rw [wayB_swap])
  have h3 := Lib.hid (show bundleB bt bf bs bc bd = bundleB bf bt bs bc bd by unfold bundleB; rw [Bool.and_comm (nodeB bt)])
  have h4 := Lib.hid (show contactB id fr fr st en ra = false by rw [Bool.eq_false_iff, ne_eq, contactB_spec]; omega)
  have h5 := Lib.hid (show bundleB bf bt bs bc bd = false ∨ bundleB bf bt bs bc bd = true ∧ nodeB bf = true ∧ nodeB bt = true by
    by_cases h : bundleB bf bt bs bc bd = true
    · refine .inr ⟨h, ?_⟩
      rw [nodeB_spec, nodeB_spec]
      have := bundleB_spec.1 h
      omega
    · exact .inl (by simpa using h))
  go_enter Try.func4, Try.ntmps4
  go_upto_region 13 with fail
  refine (small03 _).mono ?_
  rintro e w0 ⟨rfl, hB0⟩
  obtain ⟨hc0, hf0⟩ := bcell hB0
  have hz0 := hB0.size
  simp only [World.size_alloc] at hz0
  have hl0_0 : w.heap.size < w0.heap.size := by omega
  have hl0_1 : w.heap.size < w0.heap.size + 1 := by omega
  have hl0_2 : w.heap.size < w0.heap.size + 1 + 1 := by omega
  have hl0_3 : w.heap.size < w0.heap.size + 1 + 1 + 1 := by omega
  have hl0_4 : w.heap.size < w0.heap.size + 1 + 1 + 1 + 1 := by omega
  have hl1_0 : w.heap.size + 1 < w0.heap.size := by omega
  have hl1_1 : w.heap.size + 1 < w0.heap.size + 1 := by omega
  have hl1_2 : w.heap.size + 1 < w0.heap.size + 1 + 1 := by omega
  have hl1_3 : w.heap.size + 1 < w0.heap.size + 1 + 1 + 1 := by omega
  have hl1_4 : w.heap.size + 1 < w0.heap.size + 1 + 1 + 1 + 1 := by omega
  have hl2_0 : w.heap.size + 1 + 1 < w0.heap.size := by omega
  have hl2_1 : w.heap.size + 1 + 1 < w0.heap.size + 1 := by omega
  have hl2_2 : w.heap.size + 1 + 1 < w0.heap.size + 1 + 1 := by omega
  have hl2_3 : w.heap.size + 1 + 1 < w0.heap.size + 1 + 1 + 1 := by omega
  have hl2_4 : w.heap.size + 1 + 1 < w0.heap.size + 1 + 1 + 1 + 1 := by omega
  go_upto_region 13 with fail
  refine name_wp (fun W hW => ?_)
  have hWB : Below w.heap.size w W := by rw [hW]; (repeat (first | exact Below.refl _ _ | exact hB0 | refine Below.alloc ?_ (by first | omega | (simp; done) | (simp; omega)) _ | refine Below.setCell ?_ (by first | omega | (simp; done) | (simp; omega)) _ | refine Below.drew ?_ | refine Below.trans ?_ (hB0.mono (by first | omega | (simp; done) | (simp; omega)))))
  have hWs : W.heap.size = w0.heap.size + 4 := by rw [hW]; simp
  have hk0 : ∀ o, W.cell? ⟨w0.heap.size, o, none⟩ = (#[Value.int .i64 (id), Value.int .i64 (tn), Value.int .i64 (fr), Value.int .i64 (st), Value.int .i64 (en), Value.int .i64 (ra)] : Array Value)[o]? := by intro o; rw [hW]; simp only [cell_alloc_if, World.size_alloc]; repeat (first | rw [if_neg (by omega)] | rw [if_pos (by omega)] | rw [if_pos trivial])
  have hk1 : ∀ o, W.cell? ⟨w0.heap.size + 1, o, none⟩ = (#[Value.int .i64 (rt), Value.int .i64 (rf), Value.int .i64 (rs), Value.int .i64 (re), Value.int .i64 (ro)] : Array Value)[o]? := by intro o; rw [hW]; simp only [cell_alloc_if, World.size_alloc]; repeat (first | rw [if_neg (by omega)] | rw [if_pos (by omega)] | rw [if_pos trivial])
  have hk2 : ∀ o, W.cell? ⟨w0.heap.size + 1 + 1, o, none⟩ = (#[Value.int .i64 (bt), Value.int .i64 (bf), Value.int .i64 (bs), Value.int .i64 (bc), Value.int .i64 (bd)] : Array Value)[o]? := by intro o; rw [hW]; simp only [cell_alloc_if, World.size_alloc]; repeat (first | rw [if_neg (by omega)] | rw [if_pos (by omega)] | rw [if_pos trivial])
  have hk3 : ∀ o, W.cell? ⟨w0.heap.size + 1 + 1 + 1, o, none⟩ = (#[Value.int .i64 (id), Value.int .i64 (fr), Value.int .i64 (fr), Value.int .i64 (st), Value.int .i64 (en), Value.int .i64 (ra)] : Array Value)[o]? := by intro o; rw [hW]; simp only [cell_alloc_if, World.size_alloc]; repeat (first | rw [if_neg (by omega)] | rw [if_pos (by omega)] | rw [if_pos trivial])
  have hp0 : ∀ o, W.cell? ⟨w.heap.size, o, none⟩ = (#[Value.int .i64 (id), Value.int .i64 (fr), Value.int .i64 (tn), Value.int .i64 (st), Value.int .i64 (en), Value.int .i64 (ra)] : Array Value)[o]? := by
    intro o
    rw [hW]
    try simp only [cell_alloc_if, World.size_alloc]
    repeat (first | rw [if_neg (by omega)])
    rw [hc0 _ _ (by simp only [World.size_alloc]; omega)]
    simp only [cell_alloc_if, World.size_alloc]
    repeat (first | rw [if_neg (by omega)] | rw [if_pos (by omega)] | rw [if_pos trivial])
  have hp1 : ∀ o, W.cell? ⟨w.heap.size + 1, o, none⟩ = (#[Value.int .i64 (rf), Value.int .i64 (rt), Value.int .i64 (rs), Value.int .i64 (re), Value.int .i64 (ro)] : Array Value)[o]? := by
    intro o
    rw [hW]
    try simp only [cell_alloc_if, World.size_alloc]
    repeat (first | rw [if_neg (by omega)])
    rw [hc0 _ _ (by simp only [World.size_alloc]; omega)]
    simp only [cell_alloc_if, World.size_alloc]
    repeat (first | rw [if_neg (by omega)] | rw [if_pos (by omega)] | rw [if_pos trivial])
  have hp2 : ∀ o, W.cell? ⟨w.heap.size + 1 + 1, o, none⟩ = (#[Value.int .i64 (bf), Value.int .i64 (bt), Value.int .i64 (bs), Value.int .i64 (bc), Value.int .i64 (bd)] : Array Value)[o]? := by
    intro o
    rw [hW]
    try simp only [cell_alloc_if, World.size_alloc]
    repeat (first | rw [if_neg (by omega)])
    rw [hc0 _ _ (by simp only [World.size_alloc]; omega)]
    simp only [cell_alloc_if, World.size_alloc]
    repeat (first | rw [if_neg (by omega)] | rw [if_pos (by omega)] | rw [if_pos trivial])
  have HB := Lib.hid hWB
  clear hW hWB hB0 hc0 hf0
  have hg := below_regrown W
  have hq := grown_cells W
  rcases h5.out with h6 | ⟨h6, h7, h8⟩
  · clear h5
    try simp only [List.append]
    refine wp_region_quiet_below (by kernel_rfl) (by kernel_rfl) ?_
    repeat (go_big_quiet_step (first | (go_at_call 8; first | with_reducible exact Calls.regrown_of (contact_is (contactB id fr tn st en ra) h1.out _) | with_reducible exact Calls.regrown_of (contact_any id fr tn st en ra _) | with_reducible exact Calls.regrown_of (contact_is false h4.out _)) | (go_at_call 9; first | with_reducible exact Calls.regrown_of (range_is (rangeB rf rt rs re ro) h2.out _) | with_reducible exact Calls.regrown_of (range_any _ _ _ _ _ _)) | (go_at_call 10; first | with_reducible exact Calls.regrown_of (bundle_is false (h3.out.trans h6) _) | with_reducible exact Calls.regrown_of (bundle_is false h6 _))))
    refine wpQuiet_nil ?_
    intro _ hqw
    obtain ⟨pq, hqw⟩ := hqw
    subst hqw
    go_wp2
    go_ret
    exact ⟨rfl, HB.out.trans ((hg _ _).mono HB.out.size)⟩
  · clear h5
    try simp only [List.append]
    refine wp_region_quiet_below (by kernel_rfl) (by kernel_rfl) ?_
    repeat (go_big_quiet_step (first | (go_at_call 8; first | with_reducible exact Calls.regrown_of (contact_is (contactB id fr tn st en ra) h1.out _) | with_reducible exact Calls.regrown_of (contact_any id fr tn st en ra _) | with_reducible exact Calls.regrown_of (contact_is false h4.out _)) | (go_at_call 9; first | with_reducible exact Calls.regrown_of (range_is (rangeB rf rt rs re ro) h2.out _) | with_reducible exact Calls.regrown_of (range_any _ _ _ _ _ _)) | (go_at_call 10; first | with_reducible exact Calls.regrown_of (bundle_is true (h3.out.trans h6) _) | with_reducible exact Calls.regrown_of (bundle_is true h6 _)) | (go_at_call 11; first | with_reducible exact Calls.regrown_same (node_is true h7 _) | with_reducible exact Calls.regrown_same (node_is true h8 _))))
    refine wpQuiet_nil ?_
    intro _ hqw
    obtain ⟨pq, hqw⟩ := hqw
    subst hqw
    go_wp2
    go_ret
    exact ⟨rfl, HB.out.trans ((hg _ _).mono HB.out.size)⟩
theorem checkSides_own : ownKnob Try.prog.godebug = none := by kernel_rfl
theorem checkSides_laidOut : laidOutB Try.prog = true := by kernel_rfl

set_option maxHeartbeats 1000000 in
set_option maxRecDepth 100000 in
theorem checkSides_lifted (os : Os) (started : os.Started) (H : Type) (enc : TypeId × Value → H) :
    ReturnsInHanded {} Try.checked os 4 .any (Rows.checkSidesSpec.pre6 enc Try.prog Try.f4 Rows.checkSidesRow.domain false) (Rows.checkSidesSpec.post enc Try.prog Try.f4 false true false false) := by
  refine returnsInHanded_of_change (C := Try.checked) checkSides_own started (by kernel_rfl) Try.func4
    (ChangeSpec.witness6 (enc := enc) (C := Try.checked) false ⟨#[], #[.agg #[.int .i64 0, .int .i64 0, .int .i64 0, .int .i64 0, .int .i64 0, .int .i64 0], .agg #[.int .i64 0, .int .i64 0, .int .i64 0, .int .i64 0, .int .i64 0], .agg #[.int .i64 0, .int .i64 0, .int .i64 0, .int .i64 0, .int .i64 0]], []⟩ 8 (by kernel_rfl) (by kernel_rfl) (by kernel_rfl) (by kernel_rfl)) ?_
  intro W base args ds gs before hval0 hW hcnd _
  have hval : ∀ (j : Nat) t v, Try.f4.params[j]? = some t → args[j]? = some v → Value.okWide Try.prog W .any base t v := hval0
  have hW' := hW
  obtain ⟨p, q, hA0, hV, rfl, hfz, hnd⟩ := hW
  have hA : DataW.TrodAll enc Try.prog W 0 (fun _ => true) true Try.f4.params.toList args.toList ds p := hA0
  rw [Try.params4] at hA hval
  obtain ⟨v0, vs0, d0, ds0, p0, q0, hargs, rfl, rfl, h0, r0⟩ := trodAll_cons hA
  obtain ⟨v1, vs1, d1, ds1, p1, q1, rfl, rfl, rfl, h1, r1⟩ := trodAll_cons r0
  obtain ⟨v2, vs2, d2, ds2, p2, q2, rfl, rfl, rfl, h2, r2⟩ := trodAll_cons r1
  obtain ⟨rfl, rfl, rfl⟩ := trodAll_nil r2
  obtain rfl : args = #[v0, v1, v2] := by cases args; simp_all
  obtain ⟨rfl, rfl⟩ := trodVars_none hV
  obtain ⟨n0, e0, l0, w0⟩ := open_flat 4 Try.underlying23 (by kernel_rfl) (hval 0 23 v0 rfl rfl) h0
  obtain ⟨a0_0, a0_1, a0_2, a0_3, a0_4, a0_5, rfl⟩ : ∃ a0_0 a0_1 a0_2 a0_3 a0_4 a0_5 : Int, n0 = [a0_0, a0_1, a0_2, a0_3, a0_4, a0_5] := by
    rw [show Try.prog.cellsOf 23 = 6 by kernel_rfl] at l0
    match n0, l0 with
    | [a0_0, a0_1, a0_2, a0_3, a0_4, a0_5], _ => exact ⟨_, _, _, _, _, _, rfl⟩
  obtain rfl : v0 = .agg #[.int .i64 a0_0, .int .i64 a0_1, .int .i64 a0_2, .int .i64 a0_3, .int .i64 a0_4, .int .i64 a0_5] := e0
  obtain ⟨n1, e1, l1, w1⟩ := open_flat 4 Try.underlying28 (by kernel_rfl) (hval 1 28 v1 rfl rfl) h1
  obtain ⟨a1_0, a1_1, a1_2, a1_3, a1_4, rfl⟩ : ∃ a1_0 a1_1 a1_2 a1_3 a1_4 : Int, n1 = [a1_0, a1_1, a1_2, a1_3, a1_4] := by
    rw [show Try.prog.cellsOf 28 = 5 by kernel_rfl] at l1
    match n1, l1 with
    | [a1_0, a1_1, a1_2, a1_3, a1_4], _ => exact ⟨_, _, _, _, _, rfl⟩
  obtain rfl : v1 = .agg #[.int .i64 a1_0, .int .i64 a1_1, .int .i64 a1_2, .int .i64 a1_3, .int .i64 a1_4] := e1
  obtain ⟨n2, e2, l2, w2⟩ := open_flat 4 Try.underlying30 (by kernel_rfl) (hval 2 30 v2 rfl rfl) h2
  obtain ⟨a2_0, a2_1, a2_2, a2_3, a2_4, rfl⟩ : ∃ a2_0 a2_1 a2_2 a2_3 a2_4 : Int, n2 = [a2_0, a2_1, a2_2, a2_3, a2_4] := by
    rw [show Try.prog.cellsOf 30 = 5 by kernel_rfl] at l2
    match n2, l2 with
    | [a2_0, a2_1, a2_2, a2_3, a2_4], _ => exact ⟨_, _, _, _, _, rfl⟩
  obtain rfl : v2 = .agg #[.int .i64 a2_0, .int .i64 a2_1, .int .i64 a2_2, .int .i64 a2_3, .int .i64 a2_4] := e2
  clear hA0 hval0
  refine (checkSides_walk a0_0 a0_1 a0_2 a0_3 a0_4 a0_5 a1_0 a1_1 a1_2 a1_3 a1_4 a2_0 a2_1 a2_2 a2_3 a2_4 w0 w1 w2 W).mono fun e W' ⟨he, bel⟩ => ?_
  subst he
  exact ⟨_, rfl, law_post checkSides_laidOut (by kernel_rfl) rfl Try.underlying4 rfl rfl hW' bel⟩

theorem checkSides_proved : Rows.CheckSidesSaid :=
  OpenClaim.holds_of_wide 4 Try.f4 rfl rfl rfl rfl rfl rfl rfl ⟨rfl, rfl, rfl, rfl, rfl⟩ rfl rfl rfl rfl rfl (by kernel_rfl) Try.func4 (by kernel_rfl)
    (of_decide_eq_true (by kernel_rfl)) (by unfold Func.isWrapper; first | (rw [if_pos (by decide +kernel)]; kernel_rfl) | (rw [if_neg (by decide +kernel)]; exact ⟨rfl, rfl⟩))
    (fun os started H enc _ => checkSides_lifted os started H enc)
#print axioms checkSides_proved
end Go.Proofs.Ytalneihabdgafab
