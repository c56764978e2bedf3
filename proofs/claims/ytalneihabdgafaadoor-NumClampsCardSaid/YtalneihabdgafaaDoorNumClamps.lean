/- What is clamped is between, if anything is, and is a number itself, if that is between: NumClamps returns true for every three numbers, where the library's table lies as its text lays it (the card ties it). -/
import Derived.Test.YtalneihabdgafaaDoorTen
namespace Go.Proofs.YtalneihabdgafaaDoor
open Go.ChangeShapes Go.WideShapes Go.ChangeAt Go.RowKit Go.Sort
set_option linter.unusedSimpArgs false
set_option linter.unusedVariables false

set_option maxRecDepth 100000 in
theorem numClamps_walk (n lo hi : Int) (wa : (Lit.int .i64 n).wf = true) (wb : (Lit.int .i64 lo).wf = true) (wc : (Lit.int .i64 hi).wf = true) (w : World) (ht : TenTab w) :
    Calls Tryd.prog 6 #[.int .i64 n, .int .i64 lo, .int .i64 hi] w fun e w' => e = .returned (.bool true) ∧ Below w.heap.size w w' := by
  clear wa wb wc
  have HT := Lib.hid ht
  clear ht
  by_cases h1 : hi < lo
  · have h3 := Lib.hid (show inB n lo hi = false by simp [inB]; omega)
    go_enter Tryd.func6, Tryd.ntmps6
    go_wp2_with (first | (go_at_call 14; refine (small01 _ HT.out).mono ?_; rintro e w0 ⟨rfl, hB⟩) | (go_at_call 19; (with_reducible refine Calls.mono (in_is false h3.out _) ?_); rintro e w1 ⟨rfl, rfl⟩))
    go_ret
    exact ⟨rfl, hB⟩
  · by_cases h2 : n < lo
    · have e1 := Lib.hid (show clampF n lo hi = lo by unfold clampF; rw [if_pos h2])
      have e2 := Lib.hid (show clampF lo lo hi = lo by unfold clampF; rw [if_neg (by omega), if_neg (by omega)])
      have e3 := Lib.hid (show inB lo lo hi = true by simp [inB]; omega)
      have e4 := Lib.hid (show inB n lo hi = false by simp [inB]; omega)
      have e5 : (lo == n) = false := by simp; omega
      go_enter Tryd.func6, Tryd.ntmps6
      go_wp2_with (first | (go_at_call 14; refine (small01 _ HT.out).mono ?_; rintro e w0 ⟨rfl, hB⟩) | (go_at_call 21; (with_reducible refine Calls.mono (clamp_is lo e1.out _) ?_); rintro e w1 ⟨rfl, rfl⟩) | (go_at_call 21; (with_reducible refine Calls.mono (clamp_is lo e2.out _) ?_); rintro e w1 ⟨rfl, rfl⟩) | (go_at_call 19; (with_reducible refine Calls.mono (in_is true e3.out _) ?_); rintro e w1 ⟨rfl, rfl⟩) | (go_at_call 19; (with_reducible refine Calls.mono (in_is false e4.out _) ?_); rintro e w1 ⟨rfl, rfl⟩))
      go_ret
      exact ⟨rfl, hB⟩
    · by_cases h3 : hi < n
      · have e1 := Lib.hid (show clampF n lo hi = hi by unfold clampF; rw [if_neg h2, if_pos h3])
        have e2 := Lib.hid (show clampF hi lo hi = hi by unfold clampF; rw [if_neg (by omega), if_neg (by omega)])
        have e3 := Lib.hid (show inB hi lo hi = true by simp [inB]; omega)
        have e4 := Lib.hid (show inB n lo hi = false by simp [inB]; omega)
        have e5 : (hi == n) = false := by simp; omega
        go_enter Tryd.func6, Tryd.ntmps6
        go_wp2_with (first | (go_at_call 14; refine (small01 _ HT.out).mono ?_; rintro e w0 ⟨rfl, hB⟩) | (go_at_call 21; (with_reducible refine Calls.mono (clamp_is hi e1.out _) ?_); rintro e w1 ⟨rfl, rfl⟩) | (go_at_call 21; (with_reducible refine Calls.mono (clamp_is hi e2.out _) ?_); rintro e w1 ⟨rfl, rfl⟩) | (go_at_call 19; (with_reducible refine Calls.mono (in_is true e3.out _) ?_); rintro e w1 ⟨rfl, rfl⟩) | (go_at_call 19; (with_reducible refine Calls.mono (in_is false e4.out _) ?_); rintro e w1 ⟨rfl, rfl⟩))
        go_ret
        exact ⟨rfl, hB⟩
      · have e1 := Lib.hid (show clampF n lo hi = n by unfold clampF; rw [if_neg h2, if_neg h3])
        have e3 := Lib.hid (show inB n lo hi = true by simp [inB]; omega)
        go_enter Tryd.func6, Tryd.ntmps6
        go_wp2_with (first | (go_at_call 14; refine (small01 _ HT.out).mono ?_; rintro e w0 ⟨rfl, hB⟩) | (go_at_call 21; (with_reducible refine Calls.mono (clamp_is n e1.out _) ?_); rintro e w1 ⟨rfl, rfl⟩) | (go_at_call 19; (with_reducible refine Calls.mono (in_is true e3.out _) ?_); rintro e w1 ⟨rfl, rfl⟩))
        go_ret
        exact ⟨rfl, hB⟩
theorem numClamps_own : ownKnob Tryd.prog.godebug = none := by kernel_rfl
theorem numClamps_laidOut : laidOutB Tryd.prog = true := by kernel_rfl
theorem numClamps_door (os : Os) (args : Array Value) : laidMetH Tryd.prog Rows.numClampsRow.laid ((World.doorLaid Tryd.prog 400 os).forCall (fun _ _ => 0) ⟨#[], args, []⟩).memory :=
  laidMetH_of_parts3 (fuel := 8) (laidMet_of_run' 8 (by kernel_rfl) (by kernel_rfl)) (by kernel_rfl) (by kernel_rfl)

set_option maxHeartbeats 1000000 in
set_option maxRecDepth 100000 in
theorem numClamps_lifted (os : Os) (started : os.Started) (H : Type) (enc : TypeId × Value → H) :
    ReturnsInHanded {} Tryd.checked os 6 .any (fun w args => (Rows.numClampsSpec.pre enc Tryd.prog Tryd.f6 [] false w args ∧ laidMetH Tryd.prog Rows.numClampsRow.laid w) ∧ sizedMet enc Tryd.prog Tryd.f6 (OpenSpec.ofChange Rows.numClampsSpec) false w args)
      (Rows.numClampsSpec.post enc Tryd.prog Tryd.f6 false true false false) := by
  refine returnsInHanded_of_change_and (C := Tryd.checked) (X := fun w _ => laidMetH Tryd.prog Rows.numClampsRow.laid w) (fun _ _ _ hh h => h.of_heap hh) numClamps_own started (by kernel_rfl) Tryd.func6
    (ChangeSpec.witness_shaped (enc := enc) (C := Tryd.checked) (os := os) (X := fun w _ => laidMetH Tryd.prog Rows.numClampsRow.laid w) false (World.doorLaid Tryd.prog 400 os) #[.int .i64 0, .int .i64 0, .int .i64 0] 8 rfl (World.shaped_of_RefB (by kernel_rfl) (by kernel_rfl)) (by kernel_rfl) (by kernel_rfl) (by kernel_rfl) (numClamps_door os _)) ?_
  intro W base args ds gs before hval0 hW _ _ hL _
  have hval : ∀ (j : Nat) t v, Tryd.f6.params[j]? = some t → args[j]? = some v → Value.okWide Tryd.prog W .any base t v := hval0
  have hW' := hW
  obtain ⟨p, q, hA0, hV, rfl, hfz, hnd⟩ := hW
  have hA : DataW.TrodAll enc Tryd.prog W 0 (fun _ => true) true Tryd.f6.params.toList args.toList ds p := hA0
  rw [Tryd.params6] at hA hval
  obtain ⟨v0, vs0, d0, ds0, p0, q0, hargs, rfl, rfl, h0, r0⟩ := trodAll_cons hA
  obtain ⟨v1, vs1, d1, ds1, p1, q1, rfl, rfl, rfl, h1, r1⟩ := trodAll_cons r0
  obtain ⟨v2, vs2, d2, ds2, p2, q2, rfl, rfl, rfl, h2, r2⟩ := trodAll_cons r1
  obtain ⟨rfl, rfl, rfl⟩ := trodAll_nil r2
  obtain rfl : args = #[v0, v1, v2] := by cases args; simp_all
  obtain ⟨rfl, rfl⟩ := trodVars_none hV
  obtain ⟨a0, rfl, rfl, rfl, w0⟩ := open_int Tryd.underlying3 (hval 0 3 v0 rfl rfl) h0
  obtain ⟨a1, rfl, rfl, rfl, w1⟩ := open_int Tryd.underlying3 (hval 1 3 v1 rfl rfl) h1
  obtain ⟨a2, rfl, rfl, rfl, w2⟩ := open_int Tryd.underlying3 (hval 2 3 v2 rfl rfl) h2
  clear hA0 hval0
  refine (numClamps_walk a0 a1 a2 w0 w1 w2 W (ten_of_laid hL)).mono fun e W' ⟨he, bel⟩ => ?_
  subst he
  exact ⟨_, rfl, law_post numClamps_laidOut (by kernel_rfl) rfl Tryd.underlying4 rfl rfl hW' bel⟩

theorem numClamps_holds : Rows.NumClampsSaid :=
  OpenClaim.holds_of_wide 6 Tryd.f6 rfl rfl rfl rfl rfl rfl rfl ⟨rfl, rfl, rfl, rfl, rfl⟩ rfl rfl rfl rfl rfl (by kernel_rfl) Tryd.func6 (by kernel_rfl)
    (of_decide_eq_true (by kernel_rfl)) (by unfold Func.isWrapper; first | (rw [if_pos (by decide +kernel)]; kernel_rfl) | (rw [if_neg (by decide +kernel)]; exact ⟨rfl, rfl⟩))
    (fun os started H enc _ => numClamps_lifted os started H enc)

theorem numClamps_proved : Rows.NumClampsCardSaid :=
  Claim7.holds_tied_plain_at .later [] Rows.numClampsCard.laidKinds true Rows.numClampsCard.stood.harness false
    numClamps_holds (fun _ h => by cases h) (by kernel_rfl) (fun _ h => by cases h) numClamps_row_tie rfl ⟨rfl, rfl⟩ (by kernel_rfl) rfl
    (fun f fn hf hfn => by
      obtain rfl : f = 6 := Option.some.inj ((show Tryd.prog.funcNamed "felucca/feluccalaw01.NumClamps" = some 6 by kernel_rfl).symm.trans hf) |>.symm
      obtain rfl : fn = Tryd.f6 := (Option.some.inj (Tryd.func6.symm.trans hfn)).symm
      exact ⟨by kernel_rfl, fun j t ht => by
        rw [Tryd.params6] at ht
        have hm : t ∈ [3, 3, 3] := by simpa using Array.mem_of_getElem? ht
        have hall : ([3, 3, 3].all fun u => !Tryd.prog.wantsStandIn u) = true := by kernel_rfl
        exact (show Tryd.prog.wantsStandIn t = false by simpa using List.all_eq_true.1 hall t hm)⟩)
    (by kernel_rfl)
#print axioms numClamps_proved
end Go.Proofs.YtalneihabdgafaaDoor
