/- Words have no blanks, no remark, and are not empty, and what stands behind a remark does not count: WordsPlain returns true for every two texts. -/
import Derived.Test.YtokheconenkcpaaDoorRows
import Derived.Test.YtokheconenkcpaaDoorCards
import Derived.Test.YtokheconenkcpaaDoorSmall02
import Derived.Test.YtokheconenkcpaaDoorWOpen
import Derived.Test.YtokheconenkcpaaDoorWWMath2
namespace Go.Proofs.YtokheconenkcpaaDoor
open Go.ChangeShapes Go.WideShapes Go.ChangeAt Go.RowKit Go.Sort
set_option linter.unusedSimpArgs false
set_option linter.unusedVariables false
theorem blank_bytes {c : UInt8} (h : blankC c = false) : c ≠ 32 ∧ c ≠ 9 ∧ c ≠ 13 := by
  rcases blank_cases c with ⟨_, h'⟩ | ⟨_, _, h'⟩ | ⟨_, _, _, h'⟩ | ⟨h1, h2, h3, _⟩
  · rw [h] at h'; cases h'
  · rw [h] at h'; cases h'
  · rw [h] at h'; cases h'
  · exact ⟨h1, h2, h3⟩
theorem foldW_size : ∀ (s : Bytes) (o : List Bytes) (cur : Bytes) (B : Nat), cur.length + s.length ≤ B → (∀ x ∈ o, x.length ≤ B) → (∀ x ∈ (s.foldl stW (o, cur)).1, x.length ≤ B) ∧ (s.foldl stW (o, cur)).2.length ≤ B
  | [], o, cur, B, h, h1 => ⟨h1, by simpa using h⟩
  | c :: r, o, cur, B, h, h1 => by
    rw [List.foldl_cons]
    simp only [List.length_cons] at h
    cases hb : blankC c with
    | true =>
      rw [stW_blank hb]
      split
      · exact foldW_size r o [] B (by simp; omega) h1
      · exact foldW_size r (o ++ [cur]) [] B (by simp; omega) (fun x hx => by
          rcases List.mem_append.1 hx with hx | hx
          · exact h1 x hx
          · simp at hx; subst hx; omega)
    | false => rw [stW_other hb]; exact foldW_size r o (cur ++ [c]) B (by simp; omega) h1
theorem words_size (s : Bytes) : ∀ x ∈ wordsL s, x.length ≤ s.length := by
  obtain ⟨h1, h2⟩ := foldW_size (hashL s) [] [] s.length (by simpa using hash_le s) (by simp)
  unfold wordsL finS
  split
  · exact h1
  · intro x hx
    rcases List.mem_append.1 hx with hx | hx
    · exact h1 x hx
    · simp at hx; subst hx; exact h2
set_option maxHeartbeats 4000000 in
set_option maxRecDepth 100000 in
theorem wplain_walk (s0 t0 : ByteArray) (w : World) (hm : MaxAt w) :
    Calls Tryd.prog 5 #[.string s0, .string t0] w fun e w' => e = .returned (.bool true) ∧ Below w.heap.size w w' := by
  by_cases hn : 300 < s0.size ∨ 300 < t0.size
  · have hn' : 300 < s0.size ∨ (s0.size ≤ 300 ∧ 300 < t0.size) := by omega
    clear hn
    rcases hn' with hn | ⟨hn, hn2⟩
    all_goals
      go_enter Tryd.func5, Tryd.ntmps5
      go_wp2_with fail
      refine (small02 _ hm).mono ?_
      rintro e w1 ⟨rfl, hB⟩
      go_wp2
      go_ret
      exact ⟨rfl, hB⟩
  · have hn1 : s0.size ≤ 300 := by omega
    have hn2 : t0.size ≤ 300 := by omega
    clear hn
    obtain ⟨s, hs0⟩ : ∃ s, s0.data.toList = s := ⟨_, rfl⟩
    obtain ⟨t, ht0⟩ : ∃ t, t0.data.toList = t := ⟨_, rfl⟩
    have hls : s.length ≤ 300 := by rw [← hs0, ← size_list]; exact hn1
    have hlt : t.length ≤ 300 := by rw [← ht0, ← size_list]; exact hn2
    obtain ⟨d, hd⟩ : ∃ d, wordsL s = d := ⟨_, rfl⟩
    obtain ⟨n, hnd⟩ : ∃ n, d.length = n := ⟨_, rfl⟩
    have hb : n ≤ 301 := by rw [← hnd, ← hd]; have := words_len s; omega
    obtain ⟨u0, hu0⟩ : ∃ u, s0 ++ (⟨#[35]⟩ : ByteArray) ++ t0 = u := ⟨_, rfl⟩
    obtain ⟨v0, hv0⟩ : ∃ u, (⟨#[32]⟩ : ByteArray) ++ s0 ++ (⟨#[9]⟩ : ByteArray) = u := ⟨_, rfl⟩
    have hu : u0.data.toList = s ++ [35] ++ t := by
      rw [← hu0, ← bs_of s0, ← bs_of t0, hs0, ht0, show (⟨#[35]⟩ : ByteArray) = bs [35] from rfl, bs_append, bs_append, bs_list]
    have hv : v0.data.toList = [32] ++ s ++ [9] := by
      rw [← hv0, ← bs_of s0, hs0, show (⟨#[32]⟩ : ByteArray) = bs [32] from rfl, show (⟨#[9]⟩ : ByteArray) = bs [9] from rfl, bs_append, bs_append, bs_list]
    have z1 : (⟨#[35]⟩ : ByteArray).size = 1 := rfl
    have z2 : (⟨#[32]⟩ : ByteArray).size = 1 := rfl
    have z3 : (⟨#[9]⟩ : ByteArray).size = 1 := rfl
    have hus : (s0 ++ (⟨#[35]⟩ : ByteArray)).size ≤ 301 := by rw [ByteArray.size_append]; omega
    have huz : (s0 ++ (⟨#[35]⟩ : ByteArray) ++ t0).size ≤ 601 := by rw [ByteArray.size_append]; omega
    have hvs : ((⟨#[32]⟩ : ByteArray) ++ s0).size ≤ 301 := by rw [ByteArray.size_append]; omega
    have hvz : ((⟨#[32]⟩ : ByteArray) ++ s0 ++ (⟨#[9]⟩ : ByteArray)).size ≤ 302 := by rw [ByteArray.size_append]; omega
    have HA := Lib.hid (show wordsL s0.data.toList = d by rw [hs0]; exact hd)
    have HU := Lib.hid (show wordsL u0.data.toList = d by rw [hu, words_remark]; exact hd)
    have HV := Lib.hid (show wordsL v0.data.toList = d by rw [hv, words_blanks]; exact hd)
    have HN := Lib.hid hnd
    have HZS := Lib.hid (show s0.data.toList.length ≤ 100000 by rw [hs0]; omega)
    have HZU := Lib.hid (show u0.data.toList.length ≤ 100000 by rw [hu]; simp; omega)
    have HZV := Lib.hid (show v0.data.toList.length ≤ 100000 by rw [hv]; simp; omega)
    have HW := Lib.hid (show ∀ x ∈ d, wordy x ∧ x.length ≤ 300 from fun x hx => by
      rw [← hd] at hx
      exact ⟨words_wordy s x hx, by have := words_size s x hx; omega⟩)
    have HU0 := Lib.hid hu0
    have HV0 := Lib.hid hv0
    clear hs0 ht0 hls hlt hd hnd hu0 hv0 hu hv z1 z2 z3
    go_enter Tryd.func5, Tryd.ntmps5
    go_wp2_with fail
    refine (small02 _ hm).mono ?_
    rintro e w1 ⟨rfl, hB⟩
    replace hm := hm.below hB
    have hs := hB.size
    go_wp2_with fail
    refine (words_is s0 d n HA.out HN.out _ hm HZS.out).mono ?_
    rintro e w2 ⟨A, c, rfl, h1, hb2⟩
    replace hm := hm.below hb2
    replace hB := hB.trans (hb2.mono hs)
    replace hs := hB.size
    have HL := Lib.hid h1
    have HB := Lib.hid hB
    have HM := Lib.hid hm
    clear hb2 h1 hm hB
    go_wp2
    go_loopw [7] (fun iv wr => ∃ (i : Nat), iv = .int .i64 i ∧ i ≤ n ∧ w2 = wr) (fun iv _ => n - (intOf iv).toNat)
    case atStart => exact ⟨0, rfl, by omega, rfl⟩
    case round =>
      obtain ⟨i, rfl, hi, rfl⟩ := hrel
      by_cases hin : i < n
      · obtain ⟨ad, rfl, hab, c0⟩ := (Sl.of_own HL.out).lst.atS HN.out hin
        have hid : i < d.length := by rw [HN.out]; exact hin
        obtain ⟨⟨hxe, hxw⟩, hxl⟩ := HW.out (gS d i) (by rw [gS_eq hid]; exact List.getElem_mem hid)
        obtain ⟨x, hx⟩ : ∃ x, bs (gS d i) = x := ⟨_, rfl⟩
        rw [hx] at c0
        have hxs : x.size ≤ 300 := by rw [← hx, bs_size]; exact hxl
        have hE : x.toList.isEmpty = false := by rw [← hx, bs_toList]; simpa using hxe
        have hxt : ∀ k (hk : k < x.size), (((x[k]'hk).toNat : Int) == 32) = false ∧ (((x[k]'hk).toNat : Int) == 9) = false ∧ (((x[k]'hk).toNat : Int) == 13) = false ∧ (((x[k]'hk).toNat : Int) == 35) = false := fun k hk => by
          have h1 : x.data.toList = gS d i := by rw [← hx, bs_list]
          have hmem : x[k]'hk ∈ gS d i := by
            rw [← h1]
            exact List.getElem_mem (by rw [← size_list]; exact hk)
          obtain ⟨q1, q2⟩ := hxw _ hmem
          obtain ⟨b1, b2, b3⟩ := blank_bytes q1
          exact ⟨byte_ne (k := 32) (by omega) b1, byte_ne (k := 9) (by omega) b2, byte_ne (k := 13) (by omega) b3, byte_ne (k := 35) (by omega) q2⟩
        have HXT := Lib.hid hxt
        clear hxt hx hid hxe hxw hxl
        go_wp2
        go_loopw [8] (fun kv wx => ∃ (k : Nat), kv = .int .i64 k ∧ k ≤ x.size ∧ w2 = wx) (fun kv _ => x.size - (intOf kv).toNat)
        case atStart => exact ⟨0, rfl, by omega, rfl⟩
        case round =>
          obtain ⟨k, rfl, hk, rfl⟩ := hrel
          by_cases hkx : k < x.size
          · obtain ⟨e1, e2, e3, e4⟩ := HXT.out k hkx
            go_wp2_with fail
            go_roundw
            case rel => exact ⟨k + 1, by go_num, by omega, by first | rfl | trivial⟩
            case measure => simp [intOf]; omega
          · go_wp2_with fail
            go_roundw
            case rel => exact ⟨i + 1, by go_num, by omega, by first | rfl | trivial⟩
            case measure => simp [intOf]; omega
      · have hie : i = n := by omega
        subst hie
        have hB := HB.out
        have hm := HM.out
        have h1 := HL.out
        clear HB HM HL hin
        go_wp2_with fail
        rw [HU0.out]
        refine (words_is u0 d i HU.out HN.out _ hm HZU.out).mono ?_
        rintro e w3 ⟨A2, c2, rfl, h2, hb⟩
        replace h1 := own_below h1 hb
        replace hm := hm.below hb
        replace hB := hB.trans (hb.mono hs)
        replace hs := hB.size
        clear hb
        go_wp2_with fail
        refine (rsame_is A2 A i c2 i c d d true (decide_eq_true rfl) _ HN.out HN.out (by omega) (Sl.of_own h2) (Sl.of_own h1)).mono ?_
        rintro e w4 ⟨rfl, hb⟩
        replace h1 := own_below h1 hb
        replace hm := hm.below hb
        replace hB := hB.trans (hb.mono hs)
        replace hs := hB.size
        clear hb h2
        go_wp2_with fail
        rw [HV0.out]
        refine (words_is v0 d i HV.out HN.out _ hm HZV.out).mono ?_
        rintro e w5 ⟨A3, c3, rfl, h3, hb⟩
        replace h1 := own_below h1 hb
        replace hB := hB.trans (hb.mono hs)
        replace hs := hB.size
        clear hb hm
        go_wp2_with fail
        refine (rsame_is A3 A i c3 i c d d true (decide_eq_true rfl) _ HN.out HN.out (by omega) (Sl.of_own h3) (Sl.of_own h1)).mono ?_
        rintro e w6 ⟨rfl, hb⟩
        replace hB := hB.trans (hb.mono hs)
        clear hb h3 h1
        go_wp2_with fail
        go_ret
        exact ⟨rfl, hB⟩
theorem wordsPlain_walk (s0 t0 : ByteArray) (_ : s0.size ≤ maxLen) (_ : t0.size ≤ maxLen) (w : World) (hm : MaxAt w) :
    Calls Tryd.prog 5 #[.string s0, .string t0] w fun e w' => e = .returned (.bool true) ∧ Below w.heap.size w w' := wplain_walk s0 t0 w hm
theorem wordsPlain_own : ownKnob Tryd.prog.godebug = none := by kernel_rfl
theorem wordsPlain_laidOut : laidOutB Tryd.prog = true := by kernel_rfl
set_option maxHeartbeats 1000000 in
set_option maxRecDepth 100000 in
theorem wordsPlain_lifted (os : Os) (started : os.Started) (H : Type) (enc : TypeId × Value → H) :
    ReturnsInHanded {} Tryd.checked os 5 .any (fun w args => (Rows.wordsPlainSpec.pre enc Tryd.prog Tryd.f5 [] false w args ∧ laidMetH Tryd.prog Rows.wordsPlainRow.laid w) ∧ sizedMet enc Tryd.prog Tryd.f5 (OpenSpec.ofChange Rows.wordsPlainSpec) false w args)
      (Rows.wordsPlainSpec.post enc Tryd.prog Tryd.f5 false true false false) := by
  refine returnsInHanded_of_change_and_shaped (C := Tryd.checked) (X := fun w _ => laidMetH Tryd.prog Rows.wordsPlainRow.laid w) (fun _ _ _ hh h => h.of_heap hh) wordsPlain_own started (by kernel_rfl) Tryd.func5
    (ChangeSpec.witness_shaped (enc := enc) (C := Tryd.checked) (os := os) (X := fun w _ => laidMetH Tryd.prog Rows.wordsPlainRow.laid w) false (World.laidAll Tryd.prog os Rows.wordsPlainRow.laid) #[.string ByteArray.empty, .string ByteArray.empty] 8 (World.laidAll_os _ _ _) (World.shaped_of_ZipB (by kernel_rfl) (by kernel_rfl)) (by kernel_rfl) (by kernel_rfl) (by kernel_rfl) (by rw [MakeChecks.laidMetH_plain _ _ _ (by kernel_rfl)]; exact laidMet_laidAll _ (by kernel_rfl) (by kernel_rfl))) ?_
  intro W base args ds gs before hval0 hW _ _ _ hL _
  have hval : ∀ (j : Nat) t v, Tryd.f5.params[j]? = some t → args[j]? = some v → Value.okWide Tryd.prog W .any base t v := hval0
  have hW' := hW
  obtain ⟨p, q, hA0, hV, rfl, hfz, hnd⟩ := hW
  have hA : DataW.TrodAll enc Tryd.prog W 0 (fun _ => true) true Tryd.f5.params.toList args.toList ds p := hA0
  rw [Tryd.params5] at hA hval
  obtain ⟨v0, vs0, d0, ds0, p0, q0, hargs, rfl, rfl, h0, r0⟩ := trodAll_cons hA
  obtain ⟨v1, vs1, d1, ds1, p1, q1, rfl, rfl, rfl, h1, r1⟩ := trodAll_cons r0
  obtain ⟨rfl, rfl, rfl⟩ := trodAll_nil r1
  obtain rfl : args = #[v0, v1] := by cases args; simp_all
  obtain ⟨rfl, rfl⟩ := trodVars_none hV
  obtain ⟨s0, rfl, rfl, rfl, w0⟩ := Go.ChangeMaps.open_string Tryd.underlying9 (hval 0 9 v0 rfl rfl) h0
  obtain ⟨s1, rfl, rfl, rfl, w1⟩ := Go.ChangeMaps.open_string Tryd.underlying9 (hval 1 9 v1 rfl rfl) h1
  clear hA0 hval0
  refine (wordsPlain_walk s0 s1 w0 w1 W (max_of_shaped hL) ).mono fun e W' ⟨he, bel⟩ => ?_
  subst he
  exact ⟨_, rfl, law_post wordsPlain_laidOut (by kernel_rfl) rfl Tryd.underlying4 rfl rfl hW' bel⟩

theorem wordsPlain_holds : Rows.WordsPlainSaid :=
  OpenClaim.holds_of_wide 5 Tryd.f5 rfl rfl rfl rfl rfl rfl rfl ⟨rfl, rfl, rfl, rfl, rfl⟩ rfl rfl rfl rfl rfl (by kernel_rfl) Tryd.func5 (by kernel_rfl)
    (of_decide_eq_true (by kernel_rfl)) (by unfold Func.isWrapper; first | (rw [if_pos (by decide +kernel)]; kernel_rfl) | (rw [if_neg (by decide +kernel)]; exact ⟨rfl, rfl⟩))
    (fun os started H enc _ => wordsPlain_lifted os started H enc)

theorem wordsPlain_proved : Rows.WordsPlainCardSaid :=
  Claim7.holds_tied_plain_at .later [] Rows.wordsPlainCard.laidKinds true Rows.wordsPlainCard.stood.harness false
    wordsPlain_holds (fun _ h => by cases h) (by kernel_rfl) (fun _ h => by cases h) wordsPlain_row_tie rfl ⟨rfl, rfl⟩ (by kernel_rfl) rfl
    (fun f fn hf hfn => by
      obtain rfl : f = 5 := Option.some.inj ((show Tryd.prog.funcNamed "felucca/feluccalaw02.WordsPlain" = some 5 by kernel_rfl).symm.trans hf) |>.symm
      obtain rfl : fn = Tryd.f5 := (Option.some.inj (Tryd.func5.symm.trans hfn)).symm
      exact ⟨by kernel_rfl, fun j t ht => by
        rw [Tryd.params5] at ht
        have hm : t ∈ [9, 9] := by simpa using Array.mem_of_getElem? ht
        have hall : ([9, 9].all fun u => !Tryd.prog.wantsStandIn u) = true := by kernel_rfl
        exact (show Tryd.prog.wantsStandIn t = false by simpa using List.all_eq_true.1 hall t hm)⟩)
    (by kernel_rfl)
#print axioms wordsPlain_proved
end Go.Proofs.YtokheconenkcpaaDoor
