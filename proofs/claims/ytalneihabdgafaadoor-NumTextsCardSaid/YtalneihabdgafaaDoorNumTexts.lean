/- Unlike numbers have unlike texts, and a text with a nought ahead, or a sign, says nothing: NumTexts returns true for every two numbers, where the library's table lies as its text lays it (the card ties it). -/
import Derived.Test.YtalneihabdgafaaDoorTen
namespace Go.Proofs.YtalneihabdgafaaDoor
open Go.ChangeShapes Go.WideShapes Go.ChangeAt Go.RowKit Go.Sort
set_option linter.unusedSimpArgs false
set_option linter.unusedVariables false

theorem parse_nought {l : List UInt8} {high : Int} (h : 1 ≤ l.length) : parseF (48 :: l) high = none := by
  cases hp : parseF (48 :: l) high with
  | none => rfl
  | some k =>
    have := (parseF_some.1 hp).1
    cases l with
    | nil => simp at h
    | cons a r => simp [lead] at this
theorem parse_plus {l : List UInt8} {high : Int} : parseF (43 :: l) high = none := by
  cases hp : parseF (43 :: l) high with
  | none => rfl
  | some k =>
    have h2 := ((dfold0 _ _).1 (parseF_some.1 hp).2.1).1 43 (List.mem_cons_self ..)
    have : (43 : UInt8).toNat = 43 := rfl
    omega
theorem parse_x {l : List UInt8} {high : Int} : parseF (l ++ [120]) high = none := by
  cases hp : parseF (l ++ [120]) high with
  | none => rfl
  | some k =>
    have h2 := ((dfold0 _ _).1 (parseF_some.1 hp).2.1).1 120 (by simp)
    have : (120 : UInt8).toNat = 120 := rfl
    omega

set_option maxHeartbeats 1000000 in
set_option maxRecDepth 100000 in
theorem numTexts_walk (a b : Int) (wa : (Lit.int .i64 a).wf = true) (wb : (Lit.int .i64 b).wf = true) (w : World) (ht : TenTab w) :
    Calls Tryd.prog 8 #[.int .i64 a, .int .i64 b] w fun e w' => e = .returned (.bool true) ∧ Below w.heap.size w w' := by
  obtain ⟨a1, a2⟩ := wf64 wa
  obtain ⟨b1, b2⟩ := wf64 wb
  clear wa wb
  have HT := Lib.hid ht
  clear ht
  obtain ⟨l1, l2⟩ := itoa_len a1 a2
  obtain ⟨m1, m2⟩ := itoa_len b1 b2
  obtain ⟨sa, hsa⟩ : ∃ sa, bs (Lib.itoa a) = sa := ⟨_, rfl⟩
  obtain ⟨sb, hsb⟩ : ∃ sb, bs (Lib.itoa b) = sb := ⟨_, rfl⟩
  have ez : sa.size = (Lib.itoa a).length := by rw [← hsa, bs_size]
  have ey : sb.size = (Lib.itoa b).length := by rw [← hsb, bs_size]
  have q1 : 1 ≤ sa.size := by omega
  have q2 : sa.size ≤ 20 := by omega
  have q3 : sb.size ≤ 20 := by omega
  have hx0 : ((⟨#[48]⟩ : ByteArray) ++ sa).data.toList = 48 :: Lib.itoa a := by rw [← hsa, show (⟨#[48]⟩ : ByteArray) = bs [48] from rfl, bs_append, bs_list]; rfl
  have hx1 : ((⟨#[43]⟩ : ByteArray) ++ sa).data.toList = 43 :: Lib.itoa a := by rw [← hsa, show (⟨#[43]⟩ : ByteArray) = bs [43] from rfl, bs_append, bs_list]; rfl
  have hx2 : (sa ++ (⟨#[120]⟩ : ByteArray)).data.toList = Lib.itoa a ++ [120] := by rw [← hsa, show (⟨#[120]⟩ : ByteArray) = bs [120] from rfl, bs_append, bs_list]
  have P0 := Lib.hid (show parseF ((⟨#[48]⟩ : ByteArray) ++ sa).data.toList 9223372036854775807 = none by rw [hx0]; exact parse_nought l1)
  have P1 := Lib.hid (show parseF ((⟨#[43]⟩ : ByteArray) ++ sa).data.toList 9223372036854775807 = none by rw [hx1]; exact parse_plus)
  have P2 := Lib.hid (show parseF (sa ++ (⟨#[120]⟩ : ByteArray)).data.toList 9223372036854775807 = none by rw [hx2]; exact parse_x)
  have S0 := Lib.hid (show ((⟨#[48]⟩ : ByteArray) ++ sa).size ≤ maxLen by rw [ByteArray.size_append', show (⟨#[48]⟩ : ByteArray).size = 1 from rfl]; unfold maxLen; omega)
  have S1 := Lib.hid (show ((⟨#[43]⟩ : ByteArray) ++ sa).size ≤ maxLen by rw [ByteArray.size_append', show (⟨#[43]⟩ : ByteArray).size = 1 from rfl]; unfold maxLen; omega)
  have S2 := Lib.hid (show (sa ++ (⟨#[120]⟩ : ByteArray)).size ≤ maxLen by rw [ByteArray.size_append', show (⟨#[120]⟩ : ByteArray).size = 1 from rfl]; unfold maxLen; omega)
  have hab : ((sa.toList == sb.toList) = true ∧ (a == b) = true) ∨ ((sa.toList == sb.toList) = false ∧ (a == b) = false) := by
    by_cases h : a = b
    · subst h
      exact .inl ⟨by rw [← hsa, ← hsb]; exact beq_self_eq_true _, beq_self_eq_true _⟩
    · refine .inr ⟨?_, by simpa using h⟩
      rw [beq_eq_false_iff_ne]
      intro h2
      apply h
      rw [← hsa, ← hsb, ByteArray.toList_eq, ByteArray.toList_eq, bs_list, bs_list] at h2
      exact itoa_inj a1 a2 b1 b2 h2
  have HA := Lib.hid hsa
  have HB := Lib.hid hsb
  have HAB := Lib.hid hab
  clear hsa hsb hab l1 l2 m1 m2 ez ey hx0 hx1 hx2
  rcases HAB.out with ⟨e1, e2⟩ | ⟨e1, e2⟩
  all_goals
    have E1 := Lib.hid e1
    have E2 := Lib.hid e2
    clear HAB e1 e2
    go_enter Tryd.func8, Tryd.ntmps8
    go_wp2_with fail
    refine (small01 _ HT.out).mono ?_
    rintro e w0 ⟨rfl, hB⟩
    obtain ⟨hc, hf⟩ := bcell hB
    go_wp2_with fail
    (with_reducible refine Calls.mono (text_is sa a1 a2 HA.out _ (HT.out.below hB)) ?_)
    rintro e w1 ⟨rfl, hb⟩
    replace hB := hB.trans (hb.mono hB.size)
    clear hb hc hf
    obtain ⟨hc, hf⟩ := bcell hB
    go_wp2_with fail
    (with_reducible refine Calls.mono (text_is sb b1 b2 HB.out _ (HT.out.below hB)) ?_)
    rintro e w1 ⟨rfl, hb⟩
    replace hB := hB.trans (hb.mono hB.size)
    clear hb hc hf
    obtain ⟨hc, hf⟩ := bcell hB
    have e1 := E1.out
    have e2 := E2.out
    go_wp2_with (first | (go_at_call 17; (with_reducible refine Calls.mono (parse_no S0.out P0.out _) ?_); rintro e w1 ⟨rfl, hb⟩; replace hB := hB.trans (hb.mono hB.size); clear hb hc hf; obtain ⟨hc, hf⟩ := bcell hB) | (go_at_call 17; (with_reducible refine Calls.mono (parse_no S1.out P1.out _) ?_); rintro e w1 ⟨rfl, hb⟩; replace hB := hB.trans (hb.mono hB.size); clear hb hc hf; obtain ⟨hc, hf⟩ := bcell hB) | (go_at_call 17; (with_reducible refine Calls.mono (parse_no S2.out P2.out _) ?_); rintro e w1 ⟨rfl, hb⟩; replace hB := hB.trans (hb.mono hB.size); clear hb hc hf; obtain ⟨hc, hf⟩ := bcell hB))
    go_ret
    exact ⟨ret_true (decide_eq_true (by omega)), hB⟩
theorem numTexts_own : ownKnob Tryd.prog.godebug = none := by kernel_rfl
theorem numTexts_laidOut : laidOutB Tryd.prog = true := by kernel_rfl
theorem numTexts_door (os : Os) (args : Array Value) : laidMetH Tryd.prog Rows.numTextsRow.laid ((World.doorLaid Tryd.prog 400 os).forCall (fun _ _ => 0) ⟨#[], args, []⟩).memory :=
  laidMetH_of_parts3 (fuel := 8) (laidMet_of_run' 8 (by kernel_rfl) (by kernel_rfl)) (by kernel_rfl) (by kernel_rfl)

set_option maxHeartbeats 1000000 in
set_option maxRecDepth 100000 in
theorem numTexts_lifted (os : Os) (started : os.Started) (H : Type) (enc : TypeId × Value → H) :
    ReturnsInHanded {} Tryd.checked os 8 .any (fun w args => (Rows.numTextsSpec.pre enc Tryd.prog Tryd.f8 [] false w args ∧ laidMetH Tryd.prog Rows.numTextsRow.laid w) ∧ sizedMet enc Tryd.prog Tryd.f8 (OpenSpec.ofChange Rows.numTextsSpec) false w args)
      (Rows.numTextsSpec.post enc Tryd.prog Tryd.f8 false true false false) := by
  refine returnsInHanded_of_change_and (C := Tryd.checked) (X := fun w _ => laidMetH Tryd.prog Rows.numTextsRow.laid w) (fun _ _ _ hh h => h.of_heap hh) numTexts_own started (by kernel_rfl) Tryd.func8
    (ChangeSpec.witness_shaped (enc := enc) (C := Tryd.checked) (os := os) (X := fun w _ => laidMetH Tryd.prog Rows.numTextsRow.laid w) false (World.doorLaid Tryd.prog 400 os) #[.int .i64 0, .int .i64 0] 8 rfl (World.shaped_of_RefB (by kernel_rfl) (by kernel_rfl)) (by kernel_rfl) (by kernel_rfl) (by kernel_rfl) (numTexts_door os _)) ?_
  intro W base args ds gs before hval0 hW _ _ hL _
  have hval : ∀ (j : Nat) t v, Tryd.f8.params[j]? = some t → args[j]? = some v → Value.okWide Tryd.prog W .any base t v := hval0
  have hW' := hW
  obtain ⟨p, q, hA0, hV, rfl, hfz, hnd⟩ := hW
  have hA : DataW.TrodAll enc Tryd.prog W 0 (fun _ => true) true Tryd.f8.params.toList args.toList ds p := hA0
  rw [Tryd.params8] at hA hval
  obtain ⟨v0, vs0, d0, ds0, p0, q0, hargs, rfl, rfl, h0, r0⟩ := trodAll_cons hA
  obtain ⟨v1, vs1, d1, ds1, p1, q1, rfl, rfl, rfl, h1, r1⟩ := trodAll_cons r0
  obtain ⟨rfl, rfl, rfl⟩ := trodAll_nil r1
  obtain rfl : args = #[v0, v1] := by cases args; simp_all
  obtain ⟨rfl, rfl⟩ := trodVars_none hV
  obtain ⟨a0, rfl, rfl, rfl, w0⟩ := open_int Tryd.underlying3 (hval 0 3 v0 rfl rfl) h0
  obtain ⟨a1, rfl, rfl, rfl, w1⟩ := open_int Tryd.underlying3 (hval 1 3 v1 rfl rfl) h1
  clear hA0 hval0
  refine (numTexts_walk a0 a1 w0 w1 W (ten_of_laid hL)).mono fun e W' ⟨he, bel⟩ => ?_
  subst he
  exact ⟨_, rfl, law_post numTexts_laidOut (by kernel_rfl) rfl Tryd.underlying4 rfl rfl hW' bel⟩

theorem numTexts_holds : Rows.NumTextsSaid :=
  OpenClaim.holds_of_wide 8 Tryd.f8 rfl rfl rfl rfl rfl rfl rfl ⟨rfl, rfl, rfl, rfl, rfl⟩ rfl rfl rfl rfl rfl (by kernel_rfl) Tryd.func8 (by kernel_rfl)
    (of_decide_eq_true (by kernel_rfl)) (by unfold Func.isWrapper; first | (rw [if_pos (by decide +kernel)]; kernel_rfl) | (rw [if_neg (by decide +kernel)]; exact ⟨rfl, rfl⟩))
    (fun os started H enc _ => numTexts_lifted os started H enc)

theorem numTexts_proved : Rows.NumTextsCardSaid :=
  Claim7.holds_tied_plain_at .later [] Rows.numTextsCard.laidKinds true Rows.numTextsCard.stood.harness false
    numTexts_holds (fun _ h => by cases h) (by kernel_rfl) (fun _ h => by cases h) numTexts_row_tie rfl ⟨rfl, rfl⟩ (by kernel_rfl) rfl
    (fun f fn hf hfn => by
      obtain rfl : f = 8 := Option.some.inj ((show Tryd.prog.funcNamed "felucca/feluccalaw01.NumTexts" = some 8 by kernel_rfl).symm.trans hf) |>.symm
      obtain rfl : fn = Tryd.f8 := (Option.some.inj (Tryd.func8.symm.trans hfn)).symm
      exact ⟨by kernel_rfl, fun j t ht => by
        rw [Tryd.params8] at ht
        have hm : t ∈ [3, 3] := by simpa using Array.mem_of_getElem? ht
        have hall : ([3, 3].all fun u => !Tryd.prog.wantsStandIn u) = true := by kernel_rfl
        exact (show Tryd.prog.wantsStandIn t = false by simpa using List.all_eq_true.1 hall t hm)⟩)
    (by kernel_rfl)
#print axioms numTexts_proved
end Go.Proofs.YtalneihabdgafaaDoor
