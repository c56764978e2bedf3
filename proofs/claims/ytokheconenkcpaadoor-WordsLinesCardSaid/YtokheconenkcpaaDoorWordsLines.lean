/- Lines have no line feeds, and with one behind each they are the text again, but for one at its end: WordsLines returns true for every text. -/
import Derived.Test.YtokheconenkcpaaDoorRows
import Derived.Test.YtokheconenkcpaaDoorCards
import Derived.Test.YtokheconenkcpaaDoorSmall02
import Derived.Test.YtokheconenkcpaaDoorWOpen
namespace Go.Proofs.YtokheconenkcpaaDoor
open Go.ChangeShapes Go.WideShapes Go.ChangeAt Go.RowKit Go.Sort
set_option linter.unusedSimpArgs false
set_option linter.unusedVariables false
/-- each with a line feed behind -/
def glue (l : List Bytes) : Bytes := l.flatMap fun x => x ++ [10]
theorem glue_snoc (l : List Bytes) (x : Bytes) : glue (l ++ [x]) = glue l ++ (x ++ [10]) := by simp [glue]
theorem fold_glue : ∀ (s : Bytes) (o : List Bytes) (cur : Bytes), (∀ x ∈ o, (10 : UInt8) ∉ x) → (10 : UInt8) ∉ cur →
    glue (s.foldl stL (o, cur)).1 ++ (s.foldl stL (o, cur)).2 = glue o ++ cur ++ s ∧ (∀ x ∈ (s.foldl stL (o, cur)).1, (10 : UInt8) ∉ x) ∧ (10 : UInt8) ∉ (s.foldl stL (o, cur)).2
  | [], o, cur, h1, h2 => ⟨by simp, h1, h2⟩
  | c :: r, o, cur, h1, h2 => by
    rw [List.foldl_cons]
    by_cases h : c = 10
    · subst h
      rw [stL_ten]
      obtain ⟨e1, e2, e3⟩ := fold_glue r (o ++ [cur]) [] (fun x hx => by
        rcases List.mem_append.1 hx with hx | hx
        · exact h1 x hx
        · simp at hx; subst hx; exact h2) (by simp)
      exact ⟨by rw [e1, glue_snoc]; simp, e2, e3⟩
    · rw [stL_other h]
      obtain ⟨e1, e2, e3⟩ := fold_glue r o (cur ++ [c]) h1 (fun hx => by
        rcases List.mem_append.1 hx with hx | hx
        · exact h2 hx
        · simp at hx; exact h hx.symm)
      exact ⟨by rw [e1]; simp, e2, e3⟩
theorem lines_glue (s : Bytes) : (glue (linesL s) = s ∨ glue (linesL s) = s ++ [10]) ∧ ∀ x ∈ linesL s, (10 : UInt8) ∉ x := by
  obtain ⟨e1, e2, e3⟩ := fold_glue s [] [] (by simp) (by simp)
  unfold linesL finS
  simp only [glue, List.flatMap_nil, List.nil_append] at e1
  split
  · rename_i h
    rw [h, List.append_nil] at e1
    exact ⟨.inl e1, e2⟩
  · refine ⟨.inr ?_, fun x hx => ?_⟩
    · rw [glue_snoc, ← List.append_assoc]
      exact congrArg (· ++ [10]) e1
    · rcases List.mem_append.1 hx with hx | hx
      · exact e2 x hx
      · simp at hx; subst hx; exact e3
theorem glue_take {l : List Bytes} {i : Nat} (h : i < l.length) : glue (l.take (i + 1)) = glue (l.take i) ++ gS l i ++ [10] := by
  rw [take_nextS h, glue_snoc, List.append_assoc]
theorem glue_len_take (l : List Bytes) (i : Nat) : (glue (l.take i)).length ≤ (glue l).length := by
  have : glue l = glue (l.take i) ++ glue (l.drop i) := by simp only [glue, ← List.flatMap_append, List.take_append_drop]
  rw [this]; simp
theorem glue_mem_len {l : List Bytes} {i : Nat} (h : i < l.length) : (gS l i).length ≤ (glue l).length := by
  have h1 := glue_len_take l (i + 1)
  rw [glue_take h] at h1
  simp at h1
  omega
set_option maxHeartbeats 4000000 in
set_option maxRecDepth 100000 in
theorem wlines_walk (s0 : ByteArray) (w : World) (hm : MaxAt w) :
    Calls Tryd.prog 6 #[.string s0] w fun e w' => e = .returned (.bool true) ∧ Below w.heap.size w w' := by
  by_cases hn : 500 < s0.size
  · go_enter Tryd.func6, Tryd.ntmps6
    go_wp2_with fail
    refine (small02 _ hm).mono ?_
    rintro e w1 ⟨rfl, hB⟩
    go_wp2
    go_ret
    exact ⟨rfl, hB⟩
  · have hn1 : s0.size ≤ 500 := by omega
    clear hn
    obtain ⟨d, hd⟩ : ∃ d, linesL s0.data.toList = d := ⟨_, rfl⟩
    obtain ⟨n, hnd⟩ : ∃ n, d.length = n := ⟨_, rfl⟩
    obtain ⟨hg, hten⟩ := lines_glue s0.data.toList
    rw [hd] at hg hten
    have hsz : s0.data.toList.length ≤ 500 := by rw [← size_list]; exact hn1
    have hb : n ≤ 501 := by rw [← hnd, ← hd]; have := lines_len s0.data.toList; omega
    have hgl : (glue d).length ≤ 501 := by
      rcases hg with h | h
      · rw [h]; omega
      · rw [h]; simp; simp at hsz; omega
    have HD := Lib.hid hd
    have HND := Lib.hid hnd
    have HG := Lib.hid hg
    have HT := Lib.hid hten
    have HSZ := Lib.hid hsz
    have HGL := Lib.hid hgl
    clear hd hnd hg hten hsz hgl
    go_enter Tryd.func6, Tryd.ntmps6
    go_wp2_with fail
    refine (small02 _ hm).mono ?_
    rintro e w1 ⟨rfl, hB⟩
    replace hm := hm.below hB
    have hs := hB.size
    go_wp2_with fail
    refine (lines_is s0 d n HD.out HND.out _ hm (by have := HSZ.out; omega)).mono ?_
    rintro e w2 ⟨A, c, rfl, h1, hb2⟩
    replace hB := hB.trans (hb2.mono hs)
    have HL := Lib.hid (Sl.of_own h1)
    have HB := Lib.hid hB
    clear hb2 h1 hm hB hs
    go_wp2
    go_loopw [5, 6] (fun tv iv wr => ∃ (i : Nat) (tb : ByteArray), tv = .string tb ∧ iv = .int .i64 i ∧ i ≤ n ∧ Hid (tb = bs (glue (d.take i))) ∧ tb.size ≤ 501 ∧ w2 = wr) (fun _ iv _ => n - (intOf iv).toNat)
    case atStart => exact ⟨0, bs [], rfl, rfl, by omega, by simp [Hid, glue], by simp [bs, ByteArray.size], rfl⟩
    case round =>
      obtain ⟨i, tb, rfl, rfl, hi, HTB, htb, rfl⟩ := hrel
      by_cases hin : i < n
      · obtain ⟨ad, rfl, hab, c0⟩ := HL.out.lst.atS HND.out hin
        have hid : i < d.length := by rw [HND.out]; exact hin
        obtain ⟨x, hx⟩ : ∃ x, bs (gS d i) = x := ⟨_, rfl⟩
        rw [hx] at c0
        have hxs : x.size ≤ 501 := by rw [← hx, bs_size]; have := glue_mem_len hid; have := HGL.out; omega
        have hxt : ∀ k (hk : k < x.size), x[k]'hk ≠ 10 := fun k hk e => by
          refine HT.out (gS d i) (by rw [gS_eq hid]; exact List.getElem_mem hid) ?_
          have h1 : x.data.toList = gS d i := by rw [← hx, bs_list]
          rw [← h1, ← e]
          exact List.getElem_mem (by rw [← size_list]; exact hk)
        have hcat : tb ++ x ++ ⟨#[10]⟩ = bs (glue (d.take (i + 1))) := by
          rw [HTB.out, ← hx, show (⟨#[10]⟩ : ByteArray) = bs [10] from rfl, bs_append, bs_append, glue_take hid]
        have hcs : (tb ++ x ++ ⟨#[10]⟩).size ≤ 501 := by
          rw [hcat, bs_size]; have := glue_len_take d (i + 1); have := HGL.out; omega
        have hcs2 : (tb ++ x).size ≤ 501 := by
          have e : (tb ++ x ++ (⟨#[10]⟩ : ByteArray)).size = (tb ++ x).size + 1 := by rw [ByteArray.size_append]; rfl
          omega
        have HXT := Lib.hid hxt
        have HCAT := Lib.hid hcat
        clear hxt hcat hx hid
        go_wp2
        go_loopw [7] (fun kv wx => ∃ (k : Nat), kv = .int .i64 k ∧ k ≤ x.size ∧ w2 = wx) (fun kv _ => x.size - (intOf kv).toNat)
        case atStart => exact ⟨0, rfl, by omega, rfl⟩
        case round =>
          obtain ⟨k, rfl, hk, rfl⟩ := hrel
          by_cases hkx : k < x.size
          · have hq : (((x[k]'hkx).toNat : Int) == 10) = false := byte_ne (k := 10) (by omega) (HXT.out k hkx)
            go_wp2_with fail
            go_roundw
            case rel => exact ⟨k + 1, by go_num, by omega, by first | rfl | trivial⟩
            case measure => simp [intOf]; omega
          · go_wp2_with fail
            go_roundw
            case rel => exact ⟨i + 1, _, rfl, by go_num, by omega, HCAT.out, hcs, by first | rfl | trivial⟩
            case measure => simp [intOf]; omega
      · have hie : i = n := by omega
        subst hie
        have hfull : tb = bs (glue d) := by rw [HTB.out, List.take_of_length_le (by rw [HND.out]; omega)]
        rcases HG.out with h | h
        · have ht : tb = s0 := by rw [hfull, h, bs_of]
          subst ht
          have hq : (tb.toList == tb.toList) = true := beq_self_eq_true _
          clear hfull h hin HTB HD HT HSZ HGL HG
          go_wp2_with fail
          go_ret
          exact ⟨rfl, HB.out⟩
        · have ht : tb = s0 ++ ⟨#[10]⟩ := by rw [hfull, h, ← bs_append, bs_of]; rfl
          subst ht
          have hq : ((s0 ++ (⟨#[10]⟩ : ByteArray)).toList == s0.toList) = false := by
            rw [beq_eq_false_iff_ne]
            intro e
            have := congrArg List.length e
            rw [ByteArray.toList_eq, ByteArray.toList_eq, ← size_list, ← size_list, ByteArray.size_append] at this
            have : (⟨#[10]⟩ : ByteArray).size = 1 := rfl
            omega
          have hq2 : ((s0 ++ (⟨#[10]⟩ : ByteArray)).toList == (s0 ++ (⟨#[10]⟩ : ByteArray)).toList) = true := beq_self_eq_true _
          clear hfull h hin HTB HD HT HSZ HGL HG
          go_wp2_with fail
          go_ret
          exact ⟨rfl, HB.out⟩
theorem wordsLines_walk (s0 : ByteArray) (_ : s0.size ≤ maxLen) (w : World) (hm : MaxAt w) :
    Calls Tryd.prog 6 #[.string s0] w fun e w' => e = .returned (.bool true) ∧ Below w.heap.size w w' := wlines_walk s0 w hm
theorem wordsLines_own : ownKnob Tryd.prog.godebug = none := by kernel_rfl
theorem wordsLines_laidOut : laidOutB Tryd.prog = true := by kernel_rfl
set_option maxHeartbeats 1000000 in
set_option maxRecDepth 100000 in
theorem wordsLines_lifted (os : Os) (started : os.Started) (H : Type) (enc : TypeId × Value → H) :
    ReturnsInHanded {} Tryd.checked os 6 .any (fun w args => (Rows.wordsLinesSpec.pre enc Tryd.prog Tryd.f6 [] false w args ∧ laidMetH Tryd.prog Rows.wordsLinesRow.laid w) ∧ sizedMet enc Tryd.prog Tryd.f6 (OpenSpec.ofChange Rows.wordsLinesSpec) false w args)
      (Rows.wordsLinesSpec.post enc Tryd.prog Tryd.f6 false true false false) := by
  refine returnsInHanded_of_change_and_shaped (C := Tryd.checked) (X := fun w _ => laidMetH Tryd.prog Rows.wordsLinesRow.laid w) (fun _ _ _ hh h => h.of_heap hh) wordsLines_own started (by kernel_rfl) Tryd.func6
    (ChangeSpec.witness_shaped (enc := enc) (C := Tryd.checked) (os := os) (X := fun w _ => laidMetH Tryd.prog Rows.wordsLinesRow.laid w) false (World.laidAll Tryd.prog os Rows.wordsLinesRow.laid) #[.string ByteArray.empty] 8 (World.laidAll_os _ _ _) (World.shaped_of_ZipB (by kernel_rfl) (by kernel_rfl)) (by kernel_rfl) (by kernel_rfl) (by kernel_rfl) (by rw [MakeChecks.laidMetH_plain _ _ _ (by kernel_rfl)]; exact laidMet_laidAll _ (by kernel_rfl) (by kernel_rfl))) ?_
  intro W base args ds gs before hval0 hW _ _ _ hL _
  have hval : ∀ (j : Nat) t v, Tryd.f6.params[j]? = some t → args[j]? = some v → Value.okWide Tryd.prog W .any base t v := hval0
  have hW' := hW
  obtain ⟨p, q, hA0, hV, rfl, hfz, hnd⟩ := hW
  have hA : DataW.TrodAll enc Tryd.prog W 0 (fun _ => true) true Tryd.f6.params.toList args.toList ds p := hA0
  rw [Tryd.params6] at hA hval
  obtain ⟨v0, vs0, d0, ds0, p0, q0, hargs, rfl, rfl, h0, r0⟩ := trodAll_cons hA
  obtain ⟨rfl, rfl, rfl⟩ := trodAll_nil r0
  obtain rfl : args = #[v0] := by cases args; simp_all
  obtain ⟨rfl, rfl⟩ := trodVars_none hV
  obtain ⟨s0, rfl, rfl, rfl, w0⟩ := Go.ChangeMaps.open_string Tryd.underlying9 (hval 0 9 v0 rfl rfl) h0
  clear hA0 hval0
  refine (wordsLines_walk s0 w0 W (max_of_shaped hL) ).mono fun e W' ⟨he, bel⟩ => ?_
  subst he
  exact ⟨_, rfl, law_post wordsLines_laidOut (by kernel_rfl) rfl Tryd.underlying4 rfl rfl hW' bel⟩

theorem wordsLines_holds : Rows.WordsLinesSaid :=
  OpenClaim.holds_of_wide 6 Tryd.f6 rfl rfl rfl rfl rfl rfl rfl ⟨rfl, rfl, rfl, rfl, rfl⟩ rfl rfl rfl rfl rfl (by kernel_rfl) Tryd.func6 (by kernel_rfl)
    (of_decide_eq_true (by kernel_rfl)) (by unfold Func.isWrapper; first | (rw [if_pos (by decide +kernel)]; kernel_rfl) | (rw [if_neg (by decide +kernel)]; exact ⟨rfl, rfl⟩))
    (fun os started H enc _ => wordsLines_lifted os started H enc)

theorem wordsLines_proved : Rows.WordsLinesCardSaid :=
  Claim7.holds_tied_plain_at .later [] Rows.wordsLinesCard.laidKinds true Rows.wordsLinesCard.stood.harness false
    wordsLines_holds (fun _ h => by cases h) (by kernel_rfl) (fun _ h => by cases h) wordsLines_row_tie rfl ⟨rfl, rfl⟩ (by kernel_rfl) rfl
    (fun f fn hf hfn => by
      obtain rfl : f = 6 := Option.some.inj ((show Tryd.prog.funcNamed "felucca/feluccalaw02.WordsLines" = some 6 by kernel_rfl).symm.trans hf) |>.symm
      obtain rfl : fn = Tryd.f6 := (Option.some.inj (Tryd.func6.symm.trans hfn)).symm
      exact ⟨by kernel_rfl, fun j t ht => by
        rw [Tryd.params6] at ht
        have hm : t ∈ [9] := by simpa using Array.mem_of_getElem? ht
        have hall : ([9].all fun u => !Tryd.prog.wantsStandIn u) = true := by kernel_rfl
        exact (show Tryd.prog.wantsStandIn t = false by simpa using List.all_eq_true.1 hall t hm)⟩)
    (by kernel_rfl)
#print axioms wordsLines_proved
end Go.Proofs.YtokheconenkcpaaDoor
