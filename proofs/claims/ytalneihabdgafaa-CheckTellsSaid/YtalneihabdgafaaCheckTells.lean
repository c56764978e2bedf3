/- Which nodes, contacts, ranges and bundles may be, and volumes, are as the document's answer says: CheckTells returns true for every number, contact, range and bundle. No condition. -/
import Derived.Test.YtalneihabdgafaaRows
import Derived.Test.YtalneihabdgafaaSmall03
import Derived.Test.YtalneihabdgafaaRef03
namespace Go.Proofs.Ytalneihabdgafaa
open Go.ChangeShapes Go.WideShapes Go.ChangeAt Go.RowKit Go.Sort
set_option linter.unusedSimpArgs false
set_option linter.unusedVariables false

set_option maxHeartbeats 4000000 in
set_option maxRecDepth 100000 in
theorem checkTells_walk (n id fr tn st en ra rf rt rs re ro bf bt bs bc bd : Int) (hn : (Lit.int .i64 n).wf = true) (hc : ∀ m ∈ [id, fr, tn, st, en, ra], (Lit.int .i64 m).wf = true) (hr : ∀ m ∈ [rf, rt, rs, re, ro], (Lit.int .i64 m).wf = true) (hb : ∀ m ∈ [bf, bt, bs, bc, bd], (Lit.int .i64 m).wf = true) (w : World) :
    Calls Try.prog 3 #[.int .i64 n, .agg #[.int .i64 id, .int .i64 fr, .int .i64 tn, .int .i64 st, .int .i64 en, .int .i64 ra], .agg #[.int .i64 rf, .int .i64 rt, .int .i64 rs, .int .i64 re, .int .i64 ro], .agg #[.int .i64 bf, .int .i64 bt, .int .i64 bs, .int .i64 bc, .int .i64 bd]] w
      fun e w' => e = .returned (.bool true) ∧ Below w.heap.size w w' := by
  clear hn hc hr hb
  go_enter Try.func3, Try.ntmps3
  go_upto_region 2 with fail
  refine (small03 _).mono ?_
  rintro e w0 ⟨rfl, hB0⟩
  obtain ⟨hc0, hf0⟩ := bcell hB0
  have hz0 := hB0.size
  simp only [World.size_alloc] at hz0
  have hl0_0 : w.heap.size < w0.heap.size := by omega
  have hl1_0 : w.heap.size + 1 < w0.heap.size := by omega
  have hl2_0 : w.heap.size + 1 + 1 < w0.heap.size := by omega
  go_upto_region 2 with fail
  refine name_wp (fun W hW => ?_)
  have hWB : Below w.heap.size w W := by rw [hW]; (repeat (first | exact Below.refl _ _ | exact hB0 | refine Below.alloc ?_ (by first | omega | (simp; done) | (simp; omega)) _ | refine Below.setCell ?_ (by first | omega | (simp; done) | (simp; omega)) _ | refine Below.drew ?_ | refine Below.trans ?_ (hB0.mono (by first | omega | (simp; done) | (simp; omega)))))
  have hp0 : ∀ o, W.cell? ⟨w.heap.size, o, none⟩ = (#[Value.int .i64 (id), Value.int .i64 (fr), Value.int .i64 (tn), Value.int .i64 (st), Value.int .i64 (en), Value.int .i64 (ra)] : Array Value)[o]? := by
    intro o
    rw [hW]
    try simp only [cell_alloc_if, World.size_alloc]
    repeat (first | rw [if_neg (by omega)])
    rw [hc0 _ _ (by simp only [World.size_alloc]; omega)]
    simp only [cell_alloc_if, World.size_alloc]
    repeat (first | rw [if_neg (by omega)] | rw [if_pos (by omega)] | rw [if_pos trivial])
  have hp1 : ∀ o, W.cell? ⟨w.heap.size + 1, o, none⟩ = (#[Value.int .i64 (rf), Value.int .i64 (rt), Value.int .i64 (rs), Value.int .i64 (re), Value.int .i64 (ro)] : Array Value)[o]? := by
    intro o
    rw [hW]
    try simp only [cell_alloc_if, World.size_alloc]
    repeat (first | rw [if_neg (by omega)])
    rw [hc0 _ _ (by simp only [World.size_alloc]; omega)]
    simp only [cell_alloc_if, World.size_alloc]
    repeat (first | rw [if_neg (by omega)] | rw [if_pos (by omega)] | rw [if_pos trivial])
  have hp2 : ∀ o, W.cell? ⟨w.heap.size + 1 + 1, o, none⟩ = (#[Value.int .i64 (bf), Value.int .i64 (bt), Value.int .i64 (bs), Value.int .i64 (bc), Value.int .i64 (bd)] : Array Value)[o]? := by
    intro o
    rw [hW]
    try simp only [cell_alloc_if, World.size_alloc]
    repeat (first | rw [if_neg (by omega)])
    rw [hc0 _ _ (by simp only [World.size_alloc]; omega)]
    simp only [cell_alloc_if, World.size_alloc]
    repeat (first | rw [if_neg (by omega)] | rw [if_pos (by omega)] | rw [if_pos trivial])
  rw [← hW] at hl0_0 hl1_0 hl2_0
  have HB := Lib.hid hWB
  clear hW hWB hB0 hc0 hf0 hz0
  have hg := below_regrown W
  have hq := grown_cells W
  try simp only [List.append]
  refine wp_region_quiet_below (by kernel_rfl) (by kernel_rfl) ?_
  repeat (go_big_quiet_step (first | (go_at_call 7; with_reducible exact Calls.regrown_of (contact_any _ _ _ _ _ _ _)) | (go_at_call 8; with_reducible exact Calls.regrown_of (rcontact_any _ _ _ _ _ _ _)) | (go_at_call 9; with_reducible exact Calls.regrown_of (range_any _ _ _ _ _ _)) | (go_at_call 10; with_reducible exact Calls.regrown_of (rrange_any _ _ _ _ _ _)) | (go_at_call 11; with_reducible exact Calls.regrown_of (bundle_any _ _ _ _ _ _)) | (go_at_call 12; with_reducible exact Calls.regrown_of (rbundle_any _ _ _ _ _ _)) | (go_at_call 13; with_reducible exact Calls.regrown_of (volume_any _ _ _ _ _ _ _)) | (go_at_call 14; with_reducible exact Calls.regrown_of (rvolume_any _ _ _ _ _ _ _)) | (go_at_call 5; with_reducible exact Calls.regrown_same (node_any _ _)) | (go_at_call 6; with_reducible exact Calls.regrown_same (rnode_any _ _))))
  refine wpQuiet_nil ?_
  intro _ hqw
  obtain ⟨pq, hqw⟩ := hqw
  subst hqw
  go_wp2
  go_ret
  exact ⟨rfl, HB.out.trans ((hg _ _).mono HB.out.size)⟩
theorem checkTells_own : ownKnob Try.prog.godebug = none := by kernel_rfl
theorem checkTells_laidOut : laidOutB Try.prog = true := by kernel_rfl

set_option maxHeartbeats 1000000 in
set_option maxRecDepth 100000 in
theorem checkTells_lifted (os : Os) (started : os.Started) (H : Type) (enc : TypeId × Value → H) :
    ReturnsInHanded {} Try.checked os 3 .any (Rows.checkTellsSpec.pre6 enc Try.prog Try.f3 Rows.checkTellsRow.domain false) (Rows.checkTellsSpec.post enc Try.prog Try.f3 false true false false) := by
  refine returnsInHanded_of_change (C := Try.checked) checkTells_own started (by kernel_rfl) Try.func3
    (ChangeSpec.witness6 (enc := enc) (C := Try.checked) false ⟨#[], #[.int .i64 0, .agg #[.int .i64 0, .int .i64 0, .int .i64 0, .int .i64 0, .int .i64 0, .int .i64 0], .agg #[.int .i64 0, .int .i64 0, .int .i64 0, .int .i64 0, .int .i64 0], .agg #[.int .i64 0, .int .i64 0, .int .i64 0, .int .i64 0, .int .i64 0]], []⟩ 8 (by kernel_rfl) (by kernel_rfl) (by kernel_rfl) (by kernel_rfl)) ?_
  intro W base args ds gs before hval0 hW hcnd _
  have hval : ∀ (j : Nat) t v, Try.f3.params[j]? = some t → args[j]? = some v → Value.okWide Try.prog W .any base t v := hval0
  have hW' := hW
  obtain ⟨p, q, hA0, hV, rfl, hfz, hnd⟩ := hW
  have hA : DataW.TrodAll enc Try.prog W 0 (fun _ => true) true Try.f3.params.toList args.toList ds p := hA0
  rw [Try.params3] at hA hval
  obtain ⟨v0, vs0, d0, ds0, p0, q0, hargs, rfl, rfl, h0, r0⟩ := trodAll_cons hA
  obtain ⟨v1, vs1, d1, ds1, p1, q1, rfl, rfl, rfl, h1, r1⟩ := trodAll_cons r0
  obtain ⟨v2, vs2, d2, ds2, p2, q2, rfl, rfl, rfl, h2, r2⟩ := trodAll_cons r1
  obtain ⟨v3, vs3, d3, ds3, p3, q3, rfl, rfl, rfl, h3, r3⟩ := trodAll_cons r2
  obtain ⟨rfl, rfl, rfl⟩ := trodAll_nil r3
  obtain rfl : args = #[v0, v1, v2, v3] := by cases args; simp_all
  obtain ⟨rfl, rfl⟩ := trodVars_none hV
  obtain ⟨a0, rfl, rfl, rfl, w0⟩ := open_int Try.underlying3 (hval 0 3 v0 rfl rfl) h0
  obtain ⟨n1, e1, l1, w1⟩ := open_flat 4 Try.underlying23 (by kernel_rfl) (hval 1 23 v1 rfl rfl) h1
  obtain ⟨a1_0, a1_1, a1_2, a1_3, a1_4, a1_5, rfl⟩ : ∃ a1_0 a1_1 a1_2 a1_3 a1_4 a1_5 : Int, n1 = [a1_0, a1_1, a1_2, a1_3, a1_4, a1_5] := by
    rw [show Try.prog.cellsOf 23 = 6 by kernel_rfl] at l1
    match n1, l1 with
    | [a1_0, a1_1, a1_2, a1_3, a1_4, a1_5], _ => exact ⟨_, _, _, _, _, _, rfl⟩
  obtain rfl : v1 = .agg #[.int .i64 a1_0, .int .i64 a1_1, .int .i64 a1_2, .int .i64 a1_3, .int .i64 a1_4, .int .i64 a1_5] := e1
  obtain ⟨n2, e2, l2, w2⟩ := open_flat 4 Try.underlying25 (by kernel_rfl) (hval 2 25 v2 rfl rfl) h2
  obtain ⟨a2_0, a2_1, a2_2, a2_3, a2_4, rfl⟩ : ∃ a2_0 a2_1 a2_2 a2_3 a2_4 : Int, n2 = [a2_0, a2_1, a2_2, a2_3, a2_4] := by
    rw [show Try.prog.cellsOf 25 = 5 by kernel_rfl] at l2
    match n2, l2 with
    | [a2_0, a2_1, a2_2, a2_3, a2_4], _ => exact ⟨_, _, _, _, _, rfl⟩
  obtain rfl : v2 = .agg #[.int .i64 a2_0, .int .i64 a2_1, .int .i64 a2_2, .int .i64 a2_3, .int .i64 a2_4] := e2
  obtain ⟨n3, e3, l3, w3⟩ := open_flat 4 Try.underlying27 (by kernel_rfl) (hval 3 27 v3 rfl rfl) h3
  obtain ⟨a3_0, a3_1, a3_2, a3_3, a3_4, rfl⟩ : ∃ a3_0 a3_1 a3_2 a3_3 a3_4 : Int, n3 = [a3_0, a3_1, a3_2, a3_3, a3_4] := by
    rw [show Try.prog.cellsOf 27 = 5 by kernel_rfl] at l3
    match n3, l3 with
    | [a3_0, a3_1, a3_2, a3_3, a3_4], _ => exact ⟨_, _, _, _, _, rfl⟩
  obtain rfl : v3 = .agg #[.int .i64 a3_0, .int .i64 a3_1, .int .i64 a3_2, .int .i64 a3_3, .int .i64 a3_4] := e3
  clear hA0 hval0
  refine (checkTells_walk a0 a1_0 a1_1 a1_2 a1_3 a1_4 a1_5 a2_0 a2_1 a2_2 a2_3 a2_4 a3_0 a3_1 a3_2 a3_3 a3_4 w0 w1 w2 w3 W).mono fun e W' ⟨he, bel⟩ => ?_
  subst he
  exact ⟨_, rfl, law_post checkTells_laidOut (by kernel_rfl) rfl Try.underlying4 rfl rfl hW' bel⟩

theorem checkTells_proved : Rows.CheckTellsSaid :=
  OpenClaim.holds_of_wide 3 Try.f3 rfl rfl rfl rfl rfl rfl rfl ⟨rfl, rfl, rfl, rfl, rfl⟩ rfl rfl rfl rfl rfl (by kernel_rfl) Try.func3 (by kernel_rfl)
    (of_decide_eq_true (by kernel_rfl)) (by unfold Func.isWrapper; first | (rw [if_pos (by decide +kernel)]; kernel_rfl) | (rw [if_neg (by decide +kernel)]; exact ⟨rfl, rfl⟩))
    (fun os started H enc _ => checkTells_lifted os started H enc)
#print axioms checkTells_proved
end Go.Proofs.Ytalneihabdgafaa
