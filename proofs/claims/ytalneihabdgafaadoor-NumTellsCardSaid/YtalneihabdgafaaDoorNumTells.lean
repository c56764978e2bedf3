/- Quotients upwards, what is between, texts, and what they say, are as the document's answer says: NumTells returns true for every three numbers and text, where the library's table lies as its text lays it (the card ties it). -/
import Derived.Test.YtalneihabdgafaaDoorTen
import Derived.Test.YtalneihabdgafaaDoorRef01
namespace Go.Proofs.YtalneihabdgafaaDoor
open Go.ChangeShapes Go.WideShapes Go.ChangeAt Go.RowKit Go.Sort
set_option linter.unusedSimpArgs false
set_option linter.unusedVariables false

theorem rparse_yes {s : ByteArray} {high n : Int} (hs : s.size ≤ maxLen) (h : parseF s.data.toList high = some n) (w : World) :
    Calls Tryd.prog 18 #[.string s, .int .i64 high] w fun e w' => e = .returned (.tuple #[.int .i64 n, .bool true]) ∧ Below w.heap.size w w' := by
  have := rparse_any s high hs w
  rw [h] at this
  exact this
theorem rparse_no {s : ByteArray} {high : Int} (hs : s.size ≤ maxLen) (h : parseF s.data.toList high = none) (w : World) :
    Calls Tryd.prog 18 #[.string s, .int .i64 high] w fun e w' => e = .returned (.tuple #[.int .i64 0, .bool false]) ∧ Below w.heap.size w w' := by
  have := rparse_any s high hs w
  rw [h] at this
  exact this
theorem rceil_is {a b n : Int} (ha : 0 ≤ a) (ha2 : a ≤ 9223372036854775807) (hb : 1 ≤ b) (h : cdiv a b = n) (w : World) :
    Calls Tryd.prog 16 #[.int .i64 a, .int .i64 b] w fun e w' => e = .returned (.tuple #[.int .i64 n, .bool true]) ∧ w = w' := h ▸ rceil_yes ha ha2 hb w
theorem rtext_is {n : Int} (v : ByteArray) (h0 : -9223372036854775808 ≤ n) (h1 : n ≤ 9223372036854775807) (h : bs (Lib.itoa n) = v) (w : World) :
    Calls Tryd.prog 24 #[.int .i64 n] w fun e w' => e = .returned (.string v) ∧ Below w.heap.size w w' := h ▸ rtext_any h0 h1 w

set_option maxHeartbeats 2000000 in
set_option maxRecDepth 100000 in
theorem numTells_walk (a b c : Int) (s : ByteArray) (wa : (Lit.int .i64 a).wf = true) (wb : (Lit.int .i64 b).wf = true) (wc : (Lit.int .i64 c).wf = true) (ws : s.size ≤ maxLen) (w : World) (ht : TenTab w) :
    Calls Tryd.prog 3 #[.int .i64 a, .int .i64 b, .int .i64 c, .string s] w fun e w' => e = .returned (.bool true) ∧ Below w.heap.size w w' := by
  obtain ⟨a1, a2⟩ := wf64 wa
  clear wa wb wc
  have HT := Lib.hid ht
  clear ht
  by_cases g1 : 200 < s.size
  · go_enter Tryd.func3, Tryd.ntmps3
    go_wp2_with (go_at_call 14; refine (small01 _ HT.out).mono ?_; rintro e w0 ⟨rfl, hB⟩)
    go_ret
    exact ⟨rfl, hB⟩
  have g2 : s.size ≤ 200 := by omega
  obtain ⟨z, hz⟩ : ∃ z, bs (Lib.itoa a) = z := ⟨_, rfl⟩
  obtain ⟨u, hu⟩ : ∃ u, inB a b c = u := ⟨_, rfl⟩
  obtain ⟨v, hv⟩ : ∃ v, clampF a b c = v := ⟨_, rfl⟩
  have HZ := Lib.hid hz
  have HU := Lib.hid (show ∀ w', Calls Tryd.prog 20 #[.int .i64 a, .int .i64 b, .int .i64 c] w' fun e w'' => e = .returned (.bool u) ∧ w' = w'' from fun w' => hu ▸ rin_any a b c w')
  have HU1 := Lib.hid hu
  have HV := Lib.hid (show ∀ w', Calls Tryd.prog 22 #[.int .i64 a, .int .i64 b, .int .i64 c] w' fun e w'' => e = .returned (.int .i64 v) ∧ w' = w'' from fun w' => hv ▸ rclamp_any a b c w')
  have HV1 := Lib.hid hv
  have H1 : (∃ q, cdiv a b = q ∧ 0 ≤ a ∧ 1 ≤ b) ∨ ceilB a b = false := by
    by_cases h : 0 ≤ a ∧ 1 ≤ b
    · exact .inl ⟨_, rfl, h.1, h.2⟩
    · exact .inr (by simp [ceilB]; omega)
  have H2 : (∃ k, parseF s.data.toList a = some k) ∨ parseF s.data.toList a = none := by
    cases parseF s.data.toList a with
    | none => exact .inr rfl
    | some k => exact .inl ⟨k, rfl⟩
  have K1 := Lib.hid H1
  have K2 := Lib.hid H2
  have WS := Lib.hid ws
  clear H1 H2 ws hz hu hv
  rcases K1.out with ⟨q, q1, q2, q3⟩ | q1 <;> rcases K2.out with ⟨k, p2⟩ | p2
  all_goals
    have P2 := Lib.hid p2
    have Q1 := Lib.hid q1
    clear K1 K2 p2 q1
    go_enter Tryd.func3, Tryd.ntmps3
    go_wp2_with fail
    refine (small01 _ HT.out).mono ?_
    rintro e w0 ⟨rfl, hB⟩
    obtain ⟨hc, hf⟩ := bcell hB
    go_wp2_with (first | (go_at_call 15; (with_reducible refine Calls.mono (ceil_is q2 a2 q3 Q1.out _) ?_); rintro e w1 ⟨rfl, rfl⟩) | (go_at_call 15; (with_reducible refine Calls.mono (ceil_no Q1.out _) ?_); rintro e w1 ⟨rfl, rfl⟩) | (go_at_call 16; (with_reducible refine Calls.mono (rceil_is q2 a2 q3 Q1.out _) ?_); rintro e w1 ⟨rfl, rfl⟩) | (go_at_call 16; (with_reducible refine Calls.mono (rceil_no Q1.out _) ?_); rintro e w1 ⟨rfl, rfl⟩) | (go_at_call 17; (with_reducible refine Calls.mono (parse_yes WS.out P2.out _) ?_); rintro e w1 ⟨rfl, hb⟩; replace hB := hB.trans (hb.mono hB.size); clear hb hc hf; obtain ⟨hc, hf⟩ := bcell hB) | (go_at_call 17; (with_reducible refine Calls.mono (parse_no WS.out P2.out _) ?_); rintro e w1 ⟨rfl, hb⟩; replace hB := hB.trans (hb.mono hB.size); clear hb hc hf; obtain ⟨hc, hf⟩ := bcell hB) | (go_at_call 18; (with_reducible refine Calls.mono (rparse_yes WS.out P2.out _) ?_); rintro e w1 ⟨rfl, hb⟩; replace hB := hB.trans (hb.mono hB.size); clear hb hc hf; obtain ⟨hc, hf⟩ := bcell hB) | (go_at_call 18; (with_reducible refine Calls.mono (rparse_no WS.out P2.out _) ?_); rintro e w1 ⟨rfl, hb⟩; replace hB := hB.trans (hb.mono hB.size); clear hb hc hf; obtain ⟨hc, hf⟩ := bcell hB) | (go_at_call 19; (with_reducible refine Calls.mono (in_is u HU1.out _) ?_); rintro e w1 ⟨rfl, rfl⟩) | (go_at_call 20; (with_reducible refine Calls.mono (HU.out _) ?_); rintro e w1 ⟨rfl, rfl⟩) | (go_at_call 21; (with_reducible refine Calls.mono (clamp_is v HV1.out _) ?_); rintro e w1 ⟨rfl, rfl⟩) | (go_at_call 22; (with_reducible refine Calls.mono (HV.out _) ?_); rintro e w1 ⟨rfl, rfl⟩) | (go_at_call 23; (with_reducible refine Calls.mono (text_is z a1 a2 HZ.out _ (HT.out.below hB)) ?_); rintro e w1 ⟨rfl, hb⟩; replace hB := hB.trans (hb.mono hB.size); clear hb hc hf; obtain ⟨hc, hf⟩ := bcell hB) | (go_at_call 24; (with_reducible refine Calls.mono (rtext_is z a1 a2 HZ.out _) ?_); rintro e w1 ⟨rfl, hb⟩; replace hB := hB.trans (hb.mono hB.size); clear hb hc hf; obtain ⟨hc, hf⟩ := bcell hB))
    go_ret
    exact ⟨rfl, hB⟩
theorem numTells_own : ownKnob Tryd.prog.godebug = none := by kernel_rfl
theorem numTells_laidOut : laidOutB Tryd.prog = true := by kernel_rfl
theorem numTells_door (os : Os) (args : Array Value) : laidMetH Tryd.prog Rows.numTellsRow.laid ((World.doorLaid Tryd.prog 400 os).forCall (fun _ _ => 0) ⟨#[], args, []⟩).memory :=
  laidMetH_of_parts3 (fuel := 8) (laidMet_of_run' 8 (by kernel_rfl) (by kernel_rfl)) (by kernel_rfl) (by kernel_rfl)

set_option maxHeartbeats 1000000 in
set_option maxRecDepth 100000 in
theorem numTells_lifted (os : Os) (started : os.Started) (H : Type) (enc : TypeId × Value → H) :
    ReturnsInHanded {} Tryd.checked os 3 .any (fun w args => (Rows.numTellsSpec.pre enc Tryd.prog Tryd.f3 [] false w args ∧ laidMetH Tryd.prog Rows.numTellsRow.laid w) ∧ sizedMet enc Tryd.prog Tryd.f3 (OpenSpec.ofChange Rows.numTellsSpec) false w args)
      (Rows.numTellsSpec.post enc Tryd.prog Tryd.f3 false true false false) := by
  refine returnsInHanded_of_change_and (C := Tryd.checked) (X := fun w _ => laidMetH Tryd.prog Rows.numTellsRow.laid w) (fun _ _ _ hh h => h.of_heap hh) numTells_own started (by kernel_rfl) Tryd.func3
    (ChangeSpec.witness_shaped (enc := enc) (C := Tryd.checked) (os := os) (X := fun w _ => laidMetH Tryd.prog Rows.numTellsRow.laid w) false (World.doorLaid Tryd.prog 400 os) #[.int .i64 0, .int .i64 0, .int .i64 0, .string ByteArray.empty] 8 rfl (World.shaped_of_RefB (by kernel_rfl) (by kernel_rfl)) (by kernel_rfl) (by kernel_rfl) (by kernel_rfl) (numTells_door os _)) ?_
  intro W base args ds gs before hval0 hW _ _ hL _
  have hval : ∀ (j : Nat) t v, Tryd.f3.params[j]? = some t → args[j]? = some v → Value.okWide Tryd.prog W .any base t v := hval0
  have hW' := hW
  obtain ⟨p, q, hA0, hV, rfl, hfz, hnd⟩ := hW
  have hA : DataW.TrodAll enc Tryd.prog W 0 (fun _ => true) true Tryd.f3.params.toList args.toList ds p := hA0
  rw [Tryd.params3] at hA hval
  obtain ⟨v0, vs0, d0, ds0, p0, q0, hargs, rfl, rfl, h0, r0⟩ := trodAll_cons hA
  obtain ⟨v1, vs1, d1, ds1, p1, q1, rfl, rfl, rfl, h1, r1⟩ := trodAll_cons r0
  obtain ⟨v2, vs2, d2, ds2, p2, q2, rfl, rfl, rfl, h2, r2⟩ := trodAll_cons r1
  obtain ⟨v3, vs3, d3, ds3, p3, q3, rfl, rfl, rfl, h3, r3⟩ := trodAll_cons r2
  obtain ⟨rfl, rfl, rfl⟩ := trodAll_nil r3
  obtain rfl : args = #[v0, v1, v2, v3] := by cases args; simp_all
  obtain ⟨rfl, rfl⟩ := trodVars_none hV
  obtain ⟨a0, rfl, rfl, rfl, w0⟩ := open_int Tryd.underlying3 (hval 0 3 v0 rfl rfl) h0
  obtain ⟨a1, rfl, rfl, rfl, w1⟩ := open_int Tryd.underlying3 (hval 1 3 v1 rfl rfl) h1
  obtain ⟨a2, rfl, rfl, rfl, w2⟩ := open_int Tryd.underlying3 (hval 2 3 v2 rfl rfl) h2
  obtain ⟨s3, rfl, rfl, rfl, w3⟩ := Go.ChangeMaps.open_string Tryd.underlying9 (hval 3 9 v3 rfl rfl) h3
  clear hA0 hval0
  refine (numTells_walk a0 a1 a2 s3 w0 w1 w2 w3 W (ten_of_laid hL)).mono fun e W' ⟨he, bel⟩ => ?_
  subst he
  exact ⟨_, rfl, law_post numTells_laidOut (by kernel_rfl) rfl Tryd.underlying4 rfl rfl hW' bel⟩

theorem numTells_holds : Rows.NumTellsSaid :=
  OpenClaim.holds_of_wide 3 Tryd.f3 rfl rfl rfl rfl rfl rfl rfl ⟨rfl, rfl, rfl, rfl, rfl⟩ rfl rfl rfl rfl rfl (by kernel_rfl) Tryd.func3 (by kernel_rfl)
    (of_decide_eq_true (by kernel_rfl)) (by unfold Func.isWrapper; first | (rw [if_pos (by decide +kernel)]; kernel_rfl) | (rw [if_neg (by decide +kernel)]; exact ⟨rfl, rfl⟩))
    (fun os started H enc _ => numTells_lifted os started H enc)

theorem numTells_proved : Rows.NumTellsCardSaid :=
  Claim7.holds_tied_plain_at .later [] Rows.numTellsCard.laidKinds true Rows.numTellsCard.stood.harness false
    numTells_holds (fun _ h => by cases h) (by kernel_rfl) (fun _ h => by cases h) numTells_row_tie rfl ⟨rfl, rfl⟩ (by kernel_rfl) rfl
    (fun f fn hf hfn => by
      obtain rfl : f = 3 := Option.some.inj ((show Tryd.prog.funcNamed "felucca/feluccalaw01.NumTells" = some 3 by kernel_rfl).symm.trans hf) |>.symm
      obtain rfl : fn = Tryd.f3 := (Option.some.inj (Tryd.func3.symm.trans hfn)).symm
      exact ⟨by kernel_rfl, fun j t ht => by
        rw [Tryd.params3] at ht
        have hm : t ∈ [3, 3, 3, 9] := by simpa using Array.mem_of_getElem? ht
        have hall : ([3, 3, 3, 9].all fun u => !Tryd.prog.wantsStandIn u) = true := by kernel_rfl
        exact (show Tryd.prog.wantsStandIn t = false by simpa using List.all_eq_true.1 hall t hm)⟩)
    (by kernel_rfl)
#print axioms numTells_proved
end Go.Proofs.YtalneihabdgafaaDoor
