/- Lines, words, and words as lines, are as the document says: WordsTells returns true for every text and every words. -/
import Derived.Test.YtokheconenkcpaaDoorRows
import Derived.Test.YtokheconenkcpaaDoorCards
import Derived.Test.YtokheconenkcpaaDoorSmall02
import Derived.Test.YtokheconenkcpaaDoorWOpen
namespace Go.Proofs.YtokheconenkcpaaDoor
open Go.ChangeShapes Go.WideShapes Go.ChangeAt Go.RowKit Go.Sort
set_option linter.unusedSimpArgs false
set_option linter.unusedVariables false
set_option maxHeartbeats 4000000 in
set_option maxRecDepth 100000 in
theorem tells_walk (s0 : ByteArray) (A : Option Addr) (n c : Nat) (d : List Bytes) (hd : d.length = n) (w : World) (hm : MaxAt w) (hl : Sl w w.heap.size 1 A n c (vs d)) :
    Calls Tryd.prog 3 #[.string s0, .slice A n c] w fun e w' => e = .returned (.bool true) ∧ Below w.heap.size w w' := by
  by_cases hn : 500 < s0.size ∨ 50 < n
  · have hn' : 500 < s0.size ∨ (s0.size ≤ 500 ∧ 50 < n) := by omega
    clear hn
    rcases hn' with hn | ⟨hn, hn2⟩
    all_goals
      go_enter Tryd.func3, Tryd.ntmps3
      go_wp2_with fail
      refine (small02 _ hm).mono ?_
      rintro e w1 ⟨rfl, hB⟩
      go_wp2
      go_ret
      exact ⟨rfl, hB⟩
  · have hn1 : s0.size ≤ 500 := by omega
    have hn2 : n ≤ 50 := by omega
    clear hn
    go_enter Tryd.func3, Tryd.ntmps3
    go_wp2_with fail
    refine (small02 _ hm).mono ?_
    rintro e w1 ⟨rfl, hB⟩
    replace hl := hl.below hB
    replace hm := hm.below hB
    have hs := hB.size
    have HD := Lib.hid hd
    have HL := Lib.hid hl
    have HM := Lib.hid hm
    have HB := Lib.hid hB
    clear hd hl hm hB
    go_wp2
    go_loopw [6] (fun iv wr => ∃ (i : Nat), iv = .int .i64 i ∧ i ≤ n ∧ Hid (∀ j, j < i → (gS d j).length ≤ 100) ∧ w1 = wr) (fun iv _ => n - (intOf iv).toNat)
    case atStart => exact ⟨0, rfl, by omega, fun j hj => by omega, rfl⟩
    case round =>
      obtain ⟨i, rfl, hi, HS, rfl⟩ := hrel
      by_cases hin : i < n
      · obtain ⟨ad, rfl, hab, c0⟩ := HL.out.lst.atS HD.out hin
        obtain ⟨x, hx⟩ : ∃ x, bs (gS d i) = x := ⟨_, rfl⟩
        rw [hx] at c0
        have hxl : x.size = (gS d i).length := by rw [← hx, bs_size]
        clear hx
        by_cases hb : 100 < x.size
        · clear hxl
          go_wp2_with fail
          go_ret
          exact ⟨rfl, HB.out⟩
        · have HN : Hid (∀ j, j < i + 1 → (gS d j).length ≤ 100) := fun j hj => by
            by_cases e : j = i
            · subst e; omega
            · exact HS.out j (by omega)
          clear hxl
          go_wp2_with fail
          go_roundw
          case rel => exact ⟨i + 1, by go_num, by omega, HN, by first | rfl | trivial⟩
          case measure => simp [intOf]; omega
      · have hie : i = n := by omega
        subst hie
        have hall : ∀ x ∈ d, x.length ≤ 1000 := fun x hx => by
          obtain ⟨j, hj, rfl⟩ := List.mem_iff_getElem.1 hx
          have := HS.out j (by rw [← HD.out]; exact hj)
          rw [gS_eq hj] at this
          omega
        have HA := Lib.hid hall
        obtain ⟨ll, hll⟩ : ∃ l, linesL s0.data.toList = l := ⟨_, rfl⟩
        obtain ⟨ww, hww⟩ : ∃ l, wordsL s0.data.toList = l := ⟨_, rfl⟩
        obtain ⟨n1, hl1⟩ : ∃ k, ll.length = k := ⟨_, rfl⟩
        obtain ⟨n2, hl2⟩ : ∃ k, ww.length = k := ⟨_, rfl⟩
        have hsz : s0.data.toList.length ≤ 500 := by rw [← size_list]; exact hn1
        have b1 : n1 ≤ 501 := by rw [← hl1, ← hll]; have := lines_len s0.data.toList; omega
        have b2 : n2 ≤ 501 := by rw [← hl2, ← hww]; have := words_len s0.data.toList; omega
        obtain ⟨lr, hlr⟩ : ∃ r, bs (lineL d) = r := ⟨_, rfl⟩
        have HLL := Lib.hid hll
        have HWW := Lib.hid hww
        have HL1 := Lib.hid hl1
        have HL2 := Lib.hid hl2
        have HSZ := Lib.hid hsz
        have HLR := Lib.hid hlr
        clear hall hll hww hl1 hl2 hsz hlr hin HS
        have hB := HB.out
        have hm := HM.out
        have hl := HL.out
        clear HB HM HL
        go_wp2_with fail
        refine (lines_is s0 ll n1 HLL.out HL1.out _ hm (by have := HSZ.out; omega)).mono ?_
        rintro e w2 ⟨A1, c1, rfl, h1, hb⟩
        replace hm := hm.below hb
        replace hl := hl.below (hb.mono hs)
        replace hB := hB.trans (hb.mono hs)
        replace hs := hB.size
        clear hb
        go_wp2_with fail
        refine (rlines_is s0 ll n1 HLL.out HL1.out _ (by have := HSZ.out; omega)).mono ?_
        rintro e w3 ⟨A2, c2, rfl, h2, hb⟩
        replace h1 := own_below h1 hb
        replace hm := hm.below hb
        replace hl := hl.below (hb.mono hs)
        replace hB := hB.trans (hb.mono hs)
        replace hs := hB.size
        clear hb
        go_wp2_with fail
        refine (rsame_is A1 A2 n1 c1 n1 c2 ll ll true (decide_eq_true rfl) _ HL1.out HL1.out (by omega) (Sl.of_own h1) (Sl.of_own h2)).mono ?_
        rintro e w4 ⟨rfl, hb⟩
        replace hm := hm.below hb
        replace hl := hl.below (hb.mono hs)
        replace hB := hB.trans (hb.mono hs)
        replace hs := hB.size
        clear hb h1 h2
        go_wp2_with fail
        refine (words_is s0 ww n2 HWW.out HL2.out _ hm (by have := HSZ.out; omega)).mono ?_
        rintro e w5 ⟨A3, c3, rfl, h1, hb⟩
        replace hm := hm.below hb
        replace hl := hl.below (hb.mono hs)
        replace hB := hB.trans (hb.mono hs)
        replace hs := hB.size
        clear hb
        go_wp2_with fail
        refine (rwords_is s0 ww n2 HWW.out HL2.out _ (by have := HSZ.out; omega)).mono ?_
        rintro e w6 ⟨A4, c4, rfl, h2, hb⟩
        replace h1 := own_below h1 hb
        replace hl := hl.below (hb.mono hs)
        replace hB := hB.trans (hb.mono hs)
        replace hs := hB.size
        clear hb hm
        go_wp2_with fail
        refine (rsame_is A3 A4 n2 c3 n2 c4 ww ww true (decide_eq_true rfl) _ HL2.out HL2.out (by omega) (Sl.of_own h1) (Sl.of_own h2)).mono ?_
        rintro e w7 ⟨rfl, hb⟩
        replace hl := hl.below (hb.mono hs)
        replace hB := hB.trans (hb.mono hs)
        replace hs := hB.size
        clear hb h1 h2
        go_wp2_with fail
        refine (line_is A i c d lr HLR.out _ HD.out (by omega) HA.out (hl.more hs)).mono ?_
        rintro e w8 ⟨rfl, hb⟩
        replace hl := hl.below (hb.mono hs)
        replace hB := hB.trans (hb.mono hs)
        replace hs := hB.size
        clear hb
        go_wp2_with fail
        refine (rline_is A i c d lr HLR.out _ HD.out (by omega) HA.out (hl.more hs)).mono ?_
        rintro e w9 ⟨rfl, hb⟩
        replace hB := hB.trans (hb.mono hs)
        clear hb hl
        go_wp2_with fail
        go_ret
        exact ⟨rfl, hB⟩
theorem wordsTells_walk (s0 : ByteArray) (A : Option Addr) (n c : Nat) (d : List Bytes) (_ : s0.size ≤ maxLen) (hd : d.length = n) (_ : ∀ x ∈ d, x.length ≤ maxLen) (w : World) (hm : MaxAt w) (hl : Sl w w.heap.size 1 A n c (vs d)) :
    Calls Tryd.prog 3 #[.string s0, .slice A n c] w fun e w' => e = .returned (.bool true) ∧ Below w.heap.size w w' := tells_walk s0 A n c d hd w hm hl
theorem wordsTells_own : ownKnob Tryd.prog.godebug = none := by kernel_rfl
theorem wordsTells_laidOut : laidOutB Tryd.prog = true := by kernel_rfl
set_option maxHeartbeats 1000000 in
set_option maxRecDepth 100000 in
theorem wordsTells_lifted (os : Os) (started : os.Started) (H : Type) (enc : TypeId × Value → H) :
    ReturnsInHanded {} Tryd.checked os 3 .any (fun w args => (Rows.wordsTellsSpec.pre enc Tryd.prog Tryd.f3 [] false w args ∧ laidMetH Tryd.prog Rows.wordsTellsRow.laid w) ∧ sizedMet enc Tryd.prog Tryd.f3 (OpenSpec.ofChange Rows.wordsTellsSpec) false w args)
      (Rows.wordsTellsSpec.post enc Tryd.prog Tryd.f3 false true false false) := by
  refine returnsInHanded_of_change_and_shaped (C := Tryd.checked) (X := fun w _ => laidMetH Tryd.prog Rows.wordsTellsRow.laid w) (fun _ _ _ hh h => h.of_heap hh) wordsTells_own started (by kernel_rfl) Tryd.func3
    (ChangeSpec.witness_shaped (enc := enc) (C := Tryd.checked) (os := os) (X := fun w _ => laidMetH Tryd.prog Rows.wordsTellsRow.laid w) false (World.laidAll Tryd.prog os Rows.wordsTellsRow.laid) #[.string ByteArray.empty, .slice none 0 0] 8 (World.laidAll_os _ _ _) (World.shaped_of_ZipB (by kernel_rfl) (by kernel_rfl)) (by kernel_rfl) (by kernel_rfl) (by kernel_rfl) (by rw [MakeChecks.laidMetH_plain _ _ _ (by kernel_rfl)]; exact laidMet_laidAll _ (by kernel_rfl) (by kernel_rfl))) ?_
  intro W base args ds gs before hval0 hW _ _ _ hL _
  have hval : ∀ (j : Nat) t v, Tryd.f3.params[j]? = some t → args[j]? = some v → Value.okWide Tryd.prog W .any base t v := hval0
  have hW' := hW
  obtain ⟨p, q, hA0, hV, rfl, hfz, hnd⟩ := hW
  have hA : DataW.TrodAll enc Tryd.prog W 0 (fun _ => true) true Tryd.f3.params.toList args.toList ds p := hA0
  rw [Tryd.params3] at hA hval
  obtain ⟨v0, vs0, d0, ds0, p0, q0, hargs, rfl, rfl, h0, r0⟩ := trodAll_cons hA
  obtain ⟨v1, vs1, d1, ds1, p1, q1, rfl, rfl, rfl, h1, r1⟩ := trodAll_cons r0
  obtain ⟨rfl, rfl, rfl⟩ := trodAll_nil r1
  obtain rfl : args = #[v0, v1] := by cases args; simp_all
  obtain ⟨rfl, rfl⟩ := trodVars_none hV
  obtain ⟨s0, rfl, rfl, rfl, w0⟩ := Go.ChangeMaps.open_string Tryd.underlying9 (hval 0 9 v0 rfl rfl) h0
  obtain ⟨A1, n1, c1, ns1, rfl, hl1, nl1, w1⟩ := open_texts Tryd.underlying22 Tryd.underlying9 (by kernel_rfl) (hval 1 22 v1 rfl rfl) h1
  clear hA0 hval0
  refine (wordsTells_walk s0 A1 n1 c1 ns1 w0 nl1 w1 W (max_of_shaped hL) hl1).mono fun e W' ⟨he, bel⟩ => ?_
  subst he
  exact ⟨_, rfl, law_post wordsTells_laidOut (by kernel_rfl) rfl Tryd.underlying4 rfl rfl hW' bel⟩

theorem wordsTells_holds : Rows.WordsTellsSaid :=
  OpenClaim.holds_of_wide 3 Tryd.f3 rfl rfl rfl rfl rfl rfl rfl ⟨rfl, rfl, rfl, rfl, rfl⟩ rfl rfl rfl rfl rfl (by kernel_rfl) Tryd.func3 (by kernel_rfl)
    (of_decide_eq_true (by kernel_rfl)) (by unfold Func.isWrapper; first | (rw [if_pos (by decide +kernel)]; kernel_rfl) | (rw [if_neg (by decide +kernel)]; exact ⟨rfl, rfl⟩))
    (fun os started H enc _ => wordsTells_lifted os started H enc)

theorem wordsTells_proved : Rows.WordsTellsCardSaid :=
  Claim7.holds_tied_plain_at .later [] Rows.wordsTellsCard.laidKinds true Rows.wordsTellsCard.stood.harness false
    wordsTells_holds (fun _ h => by cases h) (by kernel_rfl) (fun _ h => by cases h) wordsTells_row_tie rfl ⟨rfl, rfl⟩ (by kernel_rfl) rfl
    (fun f fn hf hfn => by
      obtain rfl : f = 3 := Option.some.inj ((show Tryd.prog.funcNamed "felucca/feluccalaw02.WordsTells" = some 3 by kernel_rfl).symm.trans hf) |>.symm
      obtain rfl : fn = Tryd.f3 := (Option.some.inj (Tryd.func3.symm.trans hfn)).symm
      exact ⟨by kernel_rfl, fun j t ht => by
        rw [Tryd.params3] at ht
        have hm : t ∈ [9, 22] := by simpa using Array.mem_of_getElem? ht
        have hall : ([9, 22].all fun u => !Tryd.prog.wantsStandIn u) = true := by kernel_rfl
        exact (show Tryd.prog.wantsStandIn t = false by simpa using List.all_eq_true.1 hall t hm)⟩)
    (by kernel_rfl)
#print axioms wordsTells_proved
end Go.Proofs.YtokheconenkcpaaDoor
