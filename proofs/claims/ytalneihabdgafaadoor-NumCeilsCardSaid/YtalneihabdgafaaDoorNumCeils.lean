/- A quotient upwards is the least whose fold is no less, and the one downwards, or one more: NumCeils returns true for every two numbers, where the library's table lies as its text lays it (the card ties it). -/
import Derived.Test.YtalneihabdgafaaDoorTen
namespace Go.Proofs.YtalneihabdgafaaDoor
open Go.ChangeShapes Go.WideShapes Go.ChangeAt Go.RowKit Go.Sort
set_option linter.unusedSimpArgs false
set_option linter.unusedVariables false

set_option maxRecDepth 100000 in
theorem numCeils_walk (a b : Int) (wa : (Lit.int .i64 a).wf = true) (wb : (Lit.int .i64 b).wf = true) (w : World) (ht : TenTab w) :
    Calls Tryd.prog 5 #[.int .i64 a, .int .i64 b] w fun e w' => e = .returned (.bool true) ∧ Below w.heap.size w w' := by
  obtain ⟨a1, a2⟩ := wf64 wa
  clear wa wb a1
  have HT := Lib.hid ht
  clear ht
  by_cases h1 : a < 0
  · have h3 := Lib.hid (show ceilB a b = false by simp [ceilB]; omega)
    go_enter Tryd.func5, Tryd.ntmps5
    go_wp2_with (first | (go_at_call 14; refine (small01 _ HT.out).mono ?_; rintro e w0 ⟨rfl, hB⟩) | (go_at_call 15; (with_reducible refine Calls.mono (ceil_no h3.out _) ?_); rintro e w1 ⟨rfl, rfl⟩))
    go_ret
    exact ⟨rfl, hB⟩
  · by_cases h2 : b < 1
    · have h3 := Lib.hid (show ceilB a b = false by simp [ceilB]; omega)
      go_enter Tryd.func5, Tryd.ntmps5
      go_wp2_with (first | (go_at_call 14; refine (small01 _ HT.out).mono ?_; rintro e w0 ⟨rfl, hB⟩) | (go_at_call 15; (with_reducible refine Calls.mono (ceil_no h3.out _) ?_); rintro e w1 ⟨rfl, rfl⟩))
      go_ret
      exact ⟨rfl, hB⟩
    · have h0 : 0 ≤ a := by omega
      have hb : 1 ≤ b := by omega
      have hz : (b == 0) = false := by simp; omega
      by_cases hm : a % b = 0
      · have hm' : (a % b == 0) = true := by simp [hm]
        have e := Lib.hid (show cdiv a b = a / b by unfold cdiv; rw [if_pos hm]; omega)
        clear hm
        go_enter Tryd.func5, Tryd.ntmps5
        go_wp2_with (first | (go_at_call 14; refine (small01 _ HT.out).mono ?_; rintro e w0 ⟨rfl, hB⟩) | (go_at_call 15; (with_reducible refine Calls.mono (ceil_is h0 a2 hb e.out _) ?_); rintro e w1 ⟨rfl, rfl⟩))
        go_ret
        exact ⟨rfl, hB⟩
      · have hm' : (a % b == 0) = false := by simp [hm]
        have e0 : cdiv a b = a / b + 1 := by unfold cdiv; rw [if_neg hm]
        have c := cdiv_bounds h0 hb
        have c1 : a / b + 1 ≤ 9223372036854775807 := by omega
        have c2 : 0 ≤ a / b := Int.ediv_nonneg h0 (by omega)
        have e := Lib.hid e0
        clear hm e0 c
        go_enter Tryd.func5, Tryd.ntmps5
        go_wp2_with (first | (go_at_call 14; refine (small01 _ HT.out).mono ?_; rintro e w0 ⟨rfl, hB⟩) | (go_at_call 15; (with_reducible refine Calls.mono (ceil_is h0 a2 hb e.out _) ?_); rintro e w1 ⟨rfl, rfl⟩))
        go_ret
        exact ⟨rfl, hB⟩
theorem numCeils_own : ownKnob Tryd.prog.godebug = none := by kernel_rfl
theorem numCeils_laidOut : laidOutB Tryd.prog = true := by kernel_rfl
theorem numCeils_door (os : Os) (args : Array Value) : laidMetH Tryd.prog Rows.numCeilsRow.laid ((World.doorLaid Tryd.prog 400 os).forCall (fun _ _ => 0) ⟨#[], args, []⟩).memory :=
  laidMetH_of_parts3 (fuel := 8) (laidMet_of_run' 8 (by kernel_rfl) (by kernel_rfl)) (by kernel_rfl) (by kernel_rfl)

set_option maxHeartbeats 1000000 in
set_option maxRecDepth 100000 in
theorem numCeils_lifted (os : Os) (started : os.Started) (H : Type) (enc : TypeId × Value → H) :
    ReturnsInHanded {} Tryd.checked os 5 .any (fun w args => (Rows.numCeilsSpec.pre enc Tryd.prog Tryd.f5 [] false w args ∧ laidMetH Tryd.prog Rows.numCeilsRow.laid w) ∧ sizedMet enc Tryd.prog Tryd.f5 (OpenSpec.ofChange Rows.numCeilsSpec) false w args)
      (Rows.numCeilsSpec.post enc Tryd.prog Tryd.f5 false true false false) := by
  refine returnsInHanded_of_change_and (C := Tryd.checked) (X := fun w _ => laidMetH Tryd.prog Rows.numCeilsRow.laid w) (fun _ _ _ hh h => h.of_heap hh) numCeils_own started (by kernel_rfl) Tryd.func5
    (ChangeSpec.witness_shaped (enc := enc) (C := Tryd.checked) (os := os) (X := fun w _ => laidMetH Tryd.prog Rows.numCeilsRow.laid w) false (World.doorLaid Tryd.prog 400 os) #[.int .i64 0, .int .i64 0] 8 rfl (World.shaped_of_RefB (by kernel_rfl) (by kernel_rfl)) (by kernel_rfl) (by kernel_rfl) (by kernel_rfl) (numCeils_door os _)) ?_
  intro W base args ds gs before hval0 hW _ _ hL _
  have hval : ∀ (j : Nat) t v, Tryd.f5.params[j]? = some t → args[j]? = some v → Value.okWide Tryd.prog W .any base t v := hval0
  have hW' := hW
  obtain ⟨p, q, hA0, hV, rfl, hfz, hnd⟩ := hW
  have hA : DataW.TrodAll enc Tryd.prog W 0 (fun _ => true) true Tryd.f5.params.toList args.toList ds p := hA0
  rw [Tryd.params5] at hA hval
  obtain ⟨v0, vs0, d0, ds0, p0, q0, hargs, rfl, rfl, h0, r0⟩ := trodAll_cons hA
  obtain ⟨v1, vs1, d1, ds1, p1, q1, rfl, rfl, rfl, h1, r1⟩ := trodAll_cons r0
  obtain ⟨rfl, rfl, rfl⟩ := trodAll_nil r1
  obtain rfl : args = #[v0, v1] := by cases args; simp_all
  obtain ⟨rfl, rfl⟩ := trodVars_none hV
  obtain ⟨a0, rfl, rfl, rfl, w0⟩ := open_int Tryd.underlying3 (hval 0 3 v0 rfl rfl) h0
  obtain ⟨a1, rfl, rfl, rfl, w1⟩ := open_int Tryd.underlying3 (hval 1 3 v1 rfl rfl) h1
  clear hA0 hval0
  refine (numCeils_walk a0 a1 w0 w1 W (ten_of_laid hL)).mono fun e W' ⟨he, bel⟩ => ?_
  subst he
  exact ⟨_, rfl, law_post numCeils_laidOut (by kernel_rfl) rfl Tryd.underlying4 rfl rfl hW' bel⟩

theorem numCeils_holds : Rows.NumCeilsSaid :=
  OpenClaim.holds_of_wide 5 Tryd.f5 rfl rfl rfl rfl rfl rfl rfl ⟨rfl, rfl, rfl, rfl, rfl⟩ rfl rfl rfl rfl rfl (by kernel_rfl) Tryd.func5 (by kernel_rfl)
    (of_decide_eq_true (by kernel_rfl)) (by unfold Func.isWrapper; first | (rw [if_pos (by decide +kernel)]; kernel_rfl) | (rw [if_neg (by decide +kernel)]; exact ⟨rfl, rfl⟩))
    (fun os started H enc _ => numCeils_lifted os started H enc)

theorem numCeils_proved : Rows.NumCeilsCardSaid :=
  Claim7.holds_tied_plain_at .later [] Rows.numCeilsCard.laidKinds true Rows.numCeilsCard.stood.harness false
    numCeils_holds (fun _ h => by cases h) (by kernel_rfl) (fun _ h => by cases h) numCeils_row_tie rfl ⟨rfl, rfl⟩ (by kernel_rfl) rfl
    (fun f fn hf hfn => by
      obtain rfl : f = 5 := Option.some.inj ((show Tryd.prog.funcNamed "felucca/feluccalaw01.NumCeils" = some 5 by kernel_rfl).symm.trans hf) |>.symm
      obtain rfl : fn = Tryd.f5 := (Option.some.inj (Tryd.func5.symm.trans hfn)).symm
      exact ⟨by kernel_rfl, fun j t ht => by
        rw [Tryd.params5] at ht
        have hm : t ∈ [3, 3] := by simpa using Array.mem_of_getElem? ht
        have hall : ([3, 3].all fun u => !Tryd.prog.wantsStandIn u) = true := by kernel_rfl
        exact (show Tryd.prog.wantsStandIn t = false by simpa using List.all_eq_true.1 hall t hm)⟩)
    (by kernel_rfl)
#print axioms numCeils_proved
end Go.Proofs.YtalneihabdgafaaDoor
