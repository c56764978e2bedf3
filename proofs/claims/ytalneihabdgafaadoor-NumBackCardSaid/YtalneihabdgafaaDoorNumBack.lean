/- Numbers and their texts are each other's: NumBack returns true for every number, text and greatest number, where the library's table lies as its text lays it (the card ties it). -/
import Derived.Test.YtalneihabdgafaaDoorTen
namespace Go.Proofs.YtalneihabdgafaaDoor
open Go.ChangeShapes Go.WideShapes Go.ChangeAt Go.RowKit Go.Sort
set_option linter.unusedSimpArgs false
set_option linter.unusedVariables false

set_option maxHeartbeats 1000000 in
set_option maxRecDepth 100000 in
theorem numBack_walk (n : Int) (s : ByteArray) (hi : Int) (wa : (Lit.int .i64 n).wf = true) (ws : s.size ≤ maxLen) (wb : (Lit.int .i64 hi).wf = true) (w : World) (ht : TenTab w) :
    Calls Tryd.prog 4 #[.int .i64 n, .string s, .int .i64 hi] w fun e w' => e = .returned (.bool true) ∧ Below w.heap.size w w' := by
  obtain ⟨a1, a2⟩ := wf64 wa
  clear wa wb
  have HT := Lib.hid ht
  clear ht
  by_cases g1 : 200 < s.size
  · go_enter Tryd.func4, Tryd.ntmps4
    go_wp2_with (go_at_call 14; refine (small01 _ HT.out).mono ?_; rintro e w0 ⟨rfl, hB⟩)
    go_ret
    exact ⟨rfl, hB⟩
  have g2 : s.size ≤ 200 := by omega
  have hlen := (itoa_len a1 a2).2
  have hsz : (bs (Lib.itoa n)).size ≤ maxLen := by rw [bs_size]; unfold maxLen; omega
  have H1 : (parseF (bs (Lib.itoa n)).data.toList hi = some n ∧ 0 ≤ n ∧ n ≤ hi) ∨ (parseF (bs (Lib.itoa n)).data.toList hi = none ∧ (n < 0 ∨ 0 ≤ n ∧ hi < n)) := by
    rw [bs_list]
    by_cases h : 0 ≤ n ∧ n ≤ hi
    · exact .inl ⟨parse_itoa a2 h.1 h.2, h⟩
    · refine .inr ⟨parse_itoa_no a1 a2 (by omega), by omega⟩
  have H2 : (∃ k, parseF s.data.toList hi = some k ∧ bs (Lib.itoa k) = s ∧ 0 ≤ k ∧ k ≤ hi ∧ k ≤ 9223372036854775807) ∨ parseF s.data.toList hi = none := by
    cases h : parseF s.data.toList hi with
    | none => exact .inr rfl
    | some k =>
      obtain ⟨k1, k2, k3, k4⟩ := itoa_parse h
      exact .inl ⟨k, rfl, by rw [k1, bs_of], k2, k3, k4⟩
  have K1 := Lib.hid H1
  have K2 := Lib.hid H2
  have HS := Lib.hid hsz
  have WS := Lib.hid ws
  clear H1 H2 hlen hsz ws
  rcases K1.out with ⟨p1, n1, n2⟩ | ⟨p1, n1 | ⟨n1, n2⟩⟩ <;> rcases K2.out with ⟨k, p2, e2, k1, k2, k3⟩ | p2
  all_goals
    have P1 := Lib.hid p1
    have P2 := Lib.hid p2
    try have E2 := Lib.hid e2
    try clear e2
    clear K1 K2 p1 p2
    go_enter Tryd.func4, Tryd.ntmps4
    go_wp2_with fail
    refine (small01 _ HT.out).mono ?_
    rintro e w0 ⟨rfl, hB⟩
    obtain ⟨hc, hf⟩ := bcell hB
    go_wp2_with (first | (go_at_call 23; (with_reducible refine Calls.mono (text_any a1 a2 _ (HT.out.below hB)) ?_); rintro e w1 ⟨rfl, hb⟩; replace hB := hB.trans (hb.mono hB.size); clear hb hc hf; obtain ⟨hc, hf⟩ := bcell hB) | (go_at_call 17; (with_reducible refine Calls.mono (parse_yes HS.out P1.out _) ?_); rintro e w1 ⟨rfl, hb⟩; replace hB := hB.trans (hb.mono hB.size); clear hb hc hf; obtain ⟨hc, hf⟩ := bcell hB) | (go_at_call 17; (with_reducible refine Calls.mono (parse_no HS.out P1.out _) ?_); rintro e w1 ⟨rfl, hb⟩; replace hB := hB.trans (hb.mono hB.size); clear hb hc hf; obtain ⟨hc, hf⟩ := bcell hB) | (go_at_call 17; (with_reducible refine Calls.mono (parse_yes WS.out P2.out _) ?_); rintro e w1 ⟨rfl, hb⟩; replace hB := hB.trans (hb.mono hB.size); clear hb hc hf; obtain ⟨hc, hf⟩ := bcell hB) | (go_at_call 17; (with_reducible refine Calls.mono (parse_no WS.out P2.out _) ?_); rintro e w1 ⟨rfl, hb⟩; replace hB := hB.trans (hb.mono hB.size); clear hb hc hf; obtain ⟨hc, hf⟩ := bcell hB) | (go_at_call 23; (with_reducible refine Calls.mono (text_is s (by omega) k3 E2.out _ (HT.out.below hB)) ?_); rintro e w1 ⟨rfl, hb⟩; replace hB := hB.trans (hb.mono hB.size); clear hb hc hf; obtain ⟨hc, hf⟩ := bcell hB))
    go_ret
    exact ⟨rfl, hB⟩
theorem numBack_own : ownKnob Tryd.prog.godebug = none := by kernel_rfl
theorem numBack_laidOut : laidOutB Tryd.prog = true := by kernel_rfl
theorem numBack_door (os : Os) (args : Array Value) : laidMetH Tryd.prog Rows.numBackRow.laid ((World.doorLaid Tryd.prog 400 os).forCall (fun _ _ => 0) ⟨#[], args, []⟩).memory :=
  laidMetH_of_parts3 (fuel := 8) (laidMet_of_run' 8 (by kernel_rfl) (by kernel_rfl)) (by kernel_rfl) (by kernel_rfl)

set_option maxHeartbeats 1000000 in
set_option maxRecDepth 100000 in
theorem numBack_lifted (os : Os) (started : os.Started) (H : Type) (enc : TypeId × Value → H) :
    ReturnsInHanded {} Tryd.checked os 4 .any (fun w args => (Rows.numBackSpec.pre enc Tryd.prog Tryd.f4 [] false w args ∧ laidMetH Tryd.prog Rows.numBackRow.laid w) ∧ sizedMet enc Tryd.prog Tryd.f4 (OpenSpec.ofChange Rows.numBackSpec) false w args)
      (Rows.numBackSpec.post enc Tryd.prog Tryd.f4 false true false false) := by
  refine returnsInHanded_of_change_and (C := Tryd.checked) (X := fun w _ => laidMetH Tryd.prog Rows.numBackRow.laid w) (fun _ _ _ hh h => h.of_heap hh) numBack_own started (by kernel_rfl) Tryd.func4
    (ChangeSpec.witness_shaped (enc := enc) (C := Tryd.checked) (os := os) (X := fun w _ => laidMetH Tryd.prog Rows.numBackRow.laid w) false (World.doorLaid Tryd.prog 400 os) #[.int .i64 0, .string ByteArray.empty, .int .i64 0] 8 rfl (World.shaped_of_RefB (by kernel_rfl) (by kernel_rfl)) (by kernel_rfl) (by kernel_rfl) (by kernel_rfl) (numBack_door os _)) ?_
  intro W base args ds gs before hval0 hW _ _ hL _
  have hval : ∀ (j : Nat) t v, Tryd.f4.params[j]? = some t → args[j]? = some v → Value.okWide Tryd.prog W .any base t v := hval0
  have hW' := hW
  obtain ⟨p, q, hA0, hV, rfl, hfz, hnd⟩ := hW
  have hA : DataW.TrodAll enc Tryd.prog W 0 (fun _ => true) true Tryd.f4.params.toList args.toList ds p := hA0
  rw [Tryd.params4] at hA hval
  obtain ⟨v0, vs0, d0, ds0, p0, q0, hargs, rfl, rfl, h0, r0⟩ := trodAll_cons hA
  obtain ⟨v1, vs1, d1, ds1, p1, q1, rfl, rfl, rfl, h1, r1⟩ := trodAll_cons r0
  obtain ⟨v2, vs2, d2, ds2, p2, q2, rfl, rfl, rfl, h2, r2⟩ := trodAll_cons r1
  obtain ⟨rfl, rfl, rfl⟩ := trodAll_nil r2
  obtain rfl : args = #[v0, v1, v2] := by cases args; simp_all
  obtain ⟨rfl, rfl⟩ := trodVars_none hV
  obtain ⟨a0, rfl, rfl, rfl, w0⟩ := open_int Tryd.underlying3 (hval 0 3 v0 rfl rfl) h0
  obtain ⟨s1, rfl, rfl, rfl, w1⟩ := Go.ChangeMaps.open_string Tryd.underlying9 (hval 1 9 v1 rfl rfl) h1
  obtain ⟨a2, rfl, rfl, rfl, w2⟩ := open_int Tryd.underlying3 (hval 2 3 v2 rfl rfl) h2
  clear hA0 hval0
  refine (numBack_walk a0 s1 a2 w0 w1 w2 W (ten_of_laid hL)).mono fun e W' ⟨he, bel⟩ => ?_
  subst he
  exact ⟨_, rfl, law_post numBack_laidOut (by kernel_rfl) rfl Tryd.underlying4 rfl rfl hW' bel⟩

theorem numBack_holds : Rows.NumBackSaid :=
  OpenClaim.holds_of_wide 4 Tryd.f4 rfl rfl rfl rfl rfl rfl rfl ⟨rfl, rfl, rfl, rfl, rfl⟩ rfl rfl rfl rfl rfl (by kernel_rfl) Tryd.func4 (by kernel_rfl)
    (of_decide_eq_true (by kernel_rfl)) (by unfold Func.isWrapper; first | (rw [if_pos (by decide +kernel)]; kernel_rfl) | (rw [if_neg (by decide +kernel)]; exact ⟨rfl, rfl⟩))
    (fun os started H enc _ => numBack_lifted os started H enc)

theorem numBack_proved : Rows.NumBackCardSaid :=
  Claim7.holds_tied_plain_at .later [] Rows.numBackCard.laidKinds true Rows.numBackCard.stood.harness false
    numBack_holds (fun _ h => by cases h) (by kernel_rfl) (fun _ h => by cases h) numBack_row_tie rfl ⟨rfl, rfl⟩ (by kernel_rfl) rfl
    (fun f fn hf hfn => by
      obtain rfl : f = 4 := Option.some.inj ((show Tryd.prog.funcNamed "felucca/feluccalaw01.NumBack" = some 4 by kernel_rfl).symm.trans hf) |>.symm
      obtain rfl : fn = Tryd.f4 := (Option.some.inj (Tryd.func4.symm.trans hfn)).symm
      exact ⟨by kernel_rfl, fun j t ht => by
        rw [Tryd.params4] at ht
        have hm : t ∈ [3, 9, 3] := by simpa using Array.mem_of_getElem? ht
        have hall : ([3, 9, 3].all fun u => !Tryd.prog.wantsStandIn u) = true := by kernel_rfl
        exact (show Tryd.prog.wantsStandIn t = false by simpa using List.all_eq_true.1 hall t hm)⟩)
    (by kernel_rfl)
#print axioms numBack_proved
end Go.Proofs.YtalneihabdgafaaDoor
