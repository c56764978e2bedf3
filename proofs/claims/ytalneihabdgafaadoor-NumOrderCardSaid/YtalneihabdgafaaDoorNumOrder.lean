/- More makes no less, and is divided into no fewer: NumOrder returns true for every four numbers, where the library's table lies as its text lays it (the card ties it). -/
import Derived.Test.YtalneihabdgafaaDoorTen
namespace Go.Proofs.YtalneihabdgafaaDoor
open Go.ChangeShapes Go.WideShapes Go.ChangeAt Go.RowKit Go.Sort
set_option linter.unusedSimpArgs false
set_option linter.unusedVariables false

set_option maxRecDepth 100000 in
theorem numOrder_walk (a b c d : Int) (wa : (Lit.int .i64 a).wf = true) (wb : (Lit.int .i64 b).wf = true) (wc : (Lit.int .i64 c).wf = true) (wd : (Lit.int .i64 d).wf = true) (w : World) (ht : TenTab w) :
    Calls Tryd.prog 7 #[.int .i64 a, .int .i64 b, .int .i64 c, .int .i64 d] w fun e w' => e = .returned (.bool true) ∧ Below w.heap.size w w' := by
  obtain ⟨_, a2⟩ := wf64 wa
  obtain ⟨_, b2⟩ := wf64 wb
  clear wa wb wc wd
  have HT := Lib.hid ht
  clear ht
  by_cases g1 : a < 0
  · go_enter Tryd.func7, Tryd.ntmps7
    go_wp2_with (go_at_call 14; refine (small01 _ HT.out).mono ?_; rintro e w0 ⟨rfl, hB⟩)
    go_ret
    exact ⟨rfl, hB⟩
  by_cases g2 : b < a
  · go_enter Tryd.func7, Tryd.ntmps7
    go_wp2_with (go_at_call 14; refine (small01 _ HT.out).mono ?_; rintro e w0 ⟨rfl, hB⟩)
    go_ret
    exact ⟨rfl, hB⟩
  by_cases g3 : c < 1
  · go_enter Tryd.func7, Tryd.ntmps7
    go_wp2_with (go_at_call 14; refine (small01 _ HT.out).mono ?_; rintro e w0 ⟨rfl, hB⟩)
    go_ret
    exact ⟨rfl, hB⟩
  by_cases g4 : d < c
  · go_enter Tryd.func7, Tryd.ntmps7
    go_wp2_with (go_at_call 14; refine (small01 _ HT.out).mono ?_; rintro e w0 ⟨rfl, hB⟩)
    go_ret
    exact ⟨rfl, hB⟩
  obtain ⟨x, hx⟩ : ∃ x, cdiv a c = x := ⟨_, rfl⟩
  obtain ⟨y, hy⟩ : ∃ y, cdiv b c = y := ⟨_, rfl⟩
  obtain ⟨z, hz⟩ : ∃ z, cdiv a d = z := ⟨_, rfl⟩
  have k1 : x ≤ y := by rw [← hx, ← hy]; exact cdiv_le (by omega) (by omega) (by omega)
  have k2 : z ≤ x := by rw [← hx, ← hz]; exact cdiv_le_den (by omega) (by omega) (by omega)
  have k3 := (cdiv_bounds (show 0 ≤ a by omega) (show 1 ≤ c by omega)).2.2.2.2
  rw [hx] at k3
  have k4 : (a == 0) = (x == 0) := by
    rw [Bool.eq_iff_iff]
    simp only [beq_iff_eq]
    exact k3.symm
  have K4 := Lib.hid k4
  have HX := Lib.hid hx
  have HY := Lib.hid hy
  have HZ := Lib.hid hz
  have a1 : 0 ≤ a := by omega
  have b1 : 0 ≤ b := by omega
  have c1 : 1 ≤ c := by omega
  have d1 : 1 ≤ d := by omega
  clear hx hy hz k3 k4
  go_enter Tryd.func7, Tryd.ntmps7
  go_wp2_with fail
  refine (small01 _ HT.out).mono ?_
  rintro e w0 ⟨rfl, hB⟩
  go_wp2_with fail
  (with_reducible refine Calls.mono (ceil_is a1 a2 c1 HX.out _) ?_)
  rintro e w1 ⟨rfl, rfl⟩
  go_wp2_with fail
  (with_reducible refine Calls.mono (ceil_is b1 b2 c1 HY.out _) ?_)
  rintro e w1 ⟨rfl, rfl⟩
  go_wp2_with fail
  (with_reducible refine Calls.mono (ceil_is a1 a2 d1 HZ.out _) ?_)
  rintro e w1 ⟨rfl, rfl⟩
  have k4 := K4.out
  go_wp2
  go_ret
  exact ⟨rfl, hB⟩
theorem numOrder_own : ownKnob Tryd.prog.godebug = none := by kernel_rfl
theorem numOrder_laidOut : laidOutB Tryd.prog = true := by kernel_rfl
theorem numOrder_door (os : Os) (args : Array Value) : laidMetH Tryd.prog Rows.numOrderRow.laid ((World.doorLaid Tryd.prog 400 os).forCall (fun _ _ => 0) ⟨#[], args, []⟩).memory :=
  laidMetH_of_parts3 (fuel := 8) (laidMet_of_run' 8 (by kernel_rfl) (by kernel_rfl)) (by kernel_rfl) (by kernel_rfl)

set_option maxHeartbeats 1000000 in
set_option maxRecDepth 100000 in
theorem numOrder_lifted (os : Os) (started : os.Started) (H : Type) (enc : TypeId × Value → H) :
    ReturnsInHanded {} Tryd.checked os 7 .any (fun w args => (Rows.numOrderSpec.pre enc Tryd.prog Tryd.f7 [] false w args ∧ laidMetH Tryd.prog Rows.numOrderRow.laid w) ∧ sizedMet enc Tryd.prog Tryd.f7 (OpenSpec.ofChange Rows.numOrderSpec) false w args)
      (Rows.numOrderSpec.post enc Tryd.prog Tryd.f7 false true false false) := by
  refine returnsInHanded_of_change_and (C := Tryd.checked) (X := fun w _ => laidMetH Tryd.prog Rows.numOrderRow.laid w) (fun _ _ _ hh h => h.of_heap hh) numOrder_own started (by kernel_rfl) Tryd.func7
    (ChangeSpec.witness_shaped (enc := enc) (C := Tryd.checked) (os := os) (X := fun w _ => laidMetH Tryd.prog Rows.numOrderRow.laid w) false (World.doorLaid Tryd.prog 400 os) #[.int .i64 0, .int .i64 0, .int .i64 0, .int .i64 0] 8 rfl (World.shaped_of_RefB (by kernel_rfl) (by kernel_rfl)) (by kernel_rfl) (by kernel_rfl) (by kernel_rfl) (numOrder_door os _)) ?_
  intro W base args ds gs before hval0 hW _ _ hL _
  have hval : ∀ (j : Nat) t v, Tryd.f7.params[j]? = some t → args[j]? = some v → Value.okWide Tryd.prog W .any base t v := hval0
  have hW' := hW
  obtain ⟨p, q, hA0, hV, rfl, hfz, hnd⟩ := hW
  have hA : DataW.TrodAll enc Tryd.prog W 0 (fun _ => true) true Tryd.f7.params.toList args.toList ds p := hA0
  rw [Tryd.params7] at hA hval
  obtain ⟨v0, vs0, d0, ds0, p0, q0, hargs, rfl, rfl, h0, r0⟩ := trodAll_cons hA
  obtain ⟨v1, vs1, d1, ds1, p1, q1, rfl, rfl, rfl, h1, r1⟩ := trodAll_cons r0
  obtain ⟨v2, vs2, d2, ds2, p2, q2, rfl, rfl, rfl, h2, r2⟩ := trodAll_cons r1
  obtain ⟨v3, vs3, d3, ds3, p3, q3, rfl, rfl, rfl, h3, r3⟩ := trodAll_cons r2
  obtain ⟨rfl, rfl, rfl⟩ := trodAll_nil r3
  obtain rfl : args = #[v0, v1, v2, v3] := by cases args; simp_all
  obtain ⟨rfl, rfl⟩ := trodVars_none hV
  obtain ⟨a0, rfl, rfl, rfl, w0⟩ := open_int Tryd.underlying3 (hval 0 3 v0 rfl rfl) h0
  obtain ⟨a1, rfl, rfl, rfl, w1⟩ := open_int Tryd.underlying3 (hval 1 3 v1 rfl rfl) h1
  obtain ⟨a2, rfl, rfl, rfl, w2⟩ := open_int Tryd.underlying3 (hval 2 3 v2 rfl rfl) h2
  obtain ⟨a3, rfl, rfl, rfl, w3⟩ := open_int Tryd.underlying3 (hval 3 3 v3 rfl rfl) h3
  clear hA0 hval0
  refine (numOrder_walk a0 a1 a2 a3 w0 w1 w2 w3 W (ten_of_laid hL)).mono fun e W' ⟨he, bel⟩ => ?_
  subst he
  exact ⟨_, rfl, law_post numOrder_laidOut (by kernel_rfl) rfl Tryd.underlying4 rfl rfl hW' bel⟩

theorem numOrder_holds : Rows.NumOrderSaid :=
  OpenClaim.holds_of_wide 7 Tryd.f7 rfl rfl rfl rfl rfl rfl rfl ⟨rfl, rfl, rfl, rfl, rfl⟩ rfl rfl rfl rfl rfl (by kernel_rfl) Tryd.func7 (by kernel_rfl)
    (of_decide_eq_true (by kernel_rfl)) (by unfold Func.isWrapper; first | (rw [if_pos (by decide +kernel)]; kernel_rfl) | (rw [if_neg (by decide +kernel)]; exact ⟨rfl, rfl⟩))
    (fun os started H enc _ => numOrder_lifted os started H enc)

theorem numOrder_proved : Rows.NumOrderCardSaid :=
  Claim7.holds_tied_plain_at .later [] Rows.numOrderCard.laidKinds true Rows.numOrderCard.stood.harness false
    numOrder_holds (fun _ h => by cases h) (by kernel_rfl) (fun _ h => by cases h) numOrder_row_tie rfl ⟨rfl, rfl⟩ (by kernel_rfl) rfl
    (fun f fn hf hfn => by
      obtain rfl : f = 7 := Option.some.inj ((show Tryd.prog.funcNamed "felucca/feluccalaw01.NumOrder" = some 7 by kernel_rfl).symm.trans hf) |>.symm
      obtain rfl : fn = Tryd.f7 := (Option.some.inj (Tryd.func7.symm.trans hfn)).symm
      exact ⟨by kernel_rfl, fun j t ht => by
        rw [Tryd.params7] at ht
        have hm : t ∈ [3, 3, 3, 3] := by simpa using Array.mem_of_getElem? ht
        have hall : ([3, 3, 3, 3].all fun u => !Tryd.prog.wantsStandIn u) = true := by kernel_rfl
        exact (show Tryd.prog.wantsStandIn t = false by simpa using List.all_eq_true.1 hall t hm)⟩)
    (by kernel_rfl)
#print axioms numOrder_proved
end Go.Proofs.YtalneihabdgafaaDoor
