/- Of two texts with a blank between the words are those of both: WordsCut returns true for every two texts. -/
import Derived.Test.YtokheconenkcpaaDoorRows
import Derived.Test.YtokheconenkcpaaDoorCards
import Derived.Test.YtokheconenkcpaaDoorSmall02
import Derived.Test.YtokheconenkcpaaDoorWOpen
import Derived.Test.YtokheconenkcpaaDoorWWMath2
namespace Go.Proofs.YtokheconenkcpaaDoor
open Go.ChangeShapes Go.WideShapes Go.ChangeAt Go.RowKit Go.Sort
set_option linter.unusedSimpArgs false
set_option linter.unusedVariables false
theorem wpList_append_lst_on {P : Program} (w : World) {ops : Array Oper} {rest : List Oper} {o : Oper} {a : Act} {Q : Exit → Act → World → Prop} (hw : Region.wanted o (yielded ops a.tmps) = true) (s x : Operand) (t : TypeId)
    (ho : o.op = .call { callee := .builtin .append, args := #[s, x], argTypes := #[t, t] })
    (base : Nat) (e : TypeId) (i : TypeInfo) (z : Value) (size bytes : Nat) (ht : P.underlying t = some (.slice e)) (hi : P.info? e = some i) (hz : i.zero = some z)
    (hsize : i.size = size) (hby : i.bytes = bytes) (hzs : z.cells.size = size) (hsz : 0 < size)
    (v : Value) (n : Nat) (xs : List Value) (hs : a.eval s = v) (hown : w.ownsRow base e size v n xs)
    (B : Nat) (A : Option Addr) (m c : Nat) (news : List Value) (hx : a.eval x = .slice A m c) (hr : Lst w B size A m news) (h1 : ∀ u ∈ news, u.oneCell' = true)
    (h63 : n + m ≤ maxLen) (hbytes : (n + m) * bytes ≤ 140737488355328) (hbase : base ≤ w.heap.size)
    (h : ∀ v' w', w'.ownsRow base e size v' (n + m) (xs ++ news) → w.grownBy w' v.ownBlock → (v'.ownBlock = v.ownBlock ∨ v'.ownBlock = some w.heap.size) → wpList P ops Q rest (a.put o.dst v') w') : wpList P ops Q (o :: rest) a w := by
  unfold wpList
  rw [if_pos hw]
  exact .inl (wp_append_lst w s x t ho base e i z size bytes ht hi hz hsize hby hzs hsz v n xs hs hown B A m c news hx hr h1 h63 hbytes hbase h)
theorem own_far {w w' : World} {base : Nat} {e : TypeId} {size n : Nat} {v : Value} {xs : List Value} {row : Option Nat} {b : Nat} (h : w.ownsRow base e size v n xs) (hv : ∀ q, v.ownBlock = some q → q < b) (hg : w.grownBy w' row) (hr : ∀ q, row = some q → b ≤ q) : w'.ownsRow base e size v n xs :=
  h.kept hg (by
    cases hq : v.ownBlock with
    | none => exact .inl rfl
    | some q => exact .inr (fun e => by have := hr q e.symm; have := hv q hq; omega))
set_option maxHeartbeats 4000000 in
set_option maxRecDepth 100000 in
theorem wcut_walk (s0 t0 : ByteArray) (w : World) (hm : MaxAt w) :
    Calls Tryd.prog 7 #[.string s0, .string t0] w fun e w' => e = .returned (.bool true) ∧ Below w.heap.size w w' := by
  obtain ⟨i0, hi0, hz0, hz1, hz2⟩ := info_parts infoS
  by_cases hn : 300 < s0.size ∨ 300 < t0.size
  · have hn' : 300 < s0.size ∨ (s0.size ≤ 300 ∧ 300 < t0.size) := by omega
    clear hn
    rcases hn' with hn | ⟨hn, hn2⟩
    all_goals
      go_enter Tryd.func7, Tryd.ntmps7
      go_wp2_with fail
      refine (small02 _ hm).mono ?_
      rintro e w1 ⟨rfl, hB⟩
      go_wp2
      go_ret
      exact ⟨rfl, hB⟩
  · have hn1 : s0.size ≤ 300 := by omega
    have hn2 : t0.size ≤ 300 := by omega
    clear hn
    go_enter Tryd.func7, Tryd.ntmps7
    go_wp2_with fail
    refine (small02 _ hm).mono ?_
    rintro e w1 ⟨rfl, hB⟩
    replace hm := hm.below hB
    have hs := hB.size
    have HM := Lib.hid hm
    have HB := Lib.hid hB
    clear hm hB
    go_wp2
    go_loopw [6] (fun iv wr => ∃ (i : Nat), iv = .int .i64 i ∧ i ≤ s0.size ∧ Hid (∀ c ∈ s0.data.toList.take i, c ≠ 35) ∧ w1 = wr) (fun iv _ => s0.size - (intOf iv).toNat)
    case atStart => exact ⟨0, rfl, by omega, by simp [Hid], rfl⟩
    case round =>
      obtain ⟨i, rfl, hi, HS, rfl⟩ := hrel
      by_cases hin : i < s0.size
      · by_cases hc : s0[i]'hin = 35
        · have hq : (((s0[i]'hin).toNat : Int) == 35) = true := by rw [hc]; rfl
          clear hc
          go_wp2_with fail
          go_ret
          exact ⟨rfl, HB.out⟩
        · have hq : (((s0[i]'hin).toNat : Int) == 35) = false := byte_ne (k := 35) (by omega) hc
          have HN : Hid (∀ c ∈ s0.data.toList.take (i + 1), c ≠ 35) := fun c hcm => by
            have hl : i < s0.data.toList.length := by rw [← size_list]; exact hin
            rw [List.take_succ_eq_append_getElem hl] at hcm
            rcases List.mem_append.1 hcm with h | h
            · exact HS.out c h
            · simp at h; subst h; exact hc
          clear hc
          go_wp2_with fail
          go_roundw
          case rel => exact ⟨i + 1, by go_num, by omega, HN, by first | rfl | trivial⟩
          case measure => simp [intOf]; omega
      · have hie : i = s0.size := by omega
        obtain ⟨s, hs0⟩ : ∃ s, s0.data.toList = s := ⟨_, rfl⟩
        obtain ⟨t, ht0⟩ : ∃ t, t0.data.toList = t := ⟨_, rfl⟩
        have hall : ∀ c ∈ s, c ≠ 35 := by
          have := HS.out
          rw [hie, List.take_of_length_le (by rw [← size_list]; exact Nat.le_refl _), hs0] at this
          exact this
        have hls : s.length ≤ 300 := by rw [← hs0, ← size_list]; exact hn1
        have hlt : t.length ≤ 300 := by rw [← ht0, ← size_list]; exact hn2
        obtain ⟨a, ha⟩ : ∃ a, wordsL s = a := ⟨_, rfl⟩
        obtain ⟨b, hb⟩ : ∃ b, wordsL t = b := ⟨_, rfl⟩
        have hcut : wordsL (s ++ [32] ++ t) = a ++ b := by rw [words_cut hall (by decide) (by decide), ha, hb]
        obtain ⟨u0, hu0⟩ : ∃ u, s0 ++ (⟨#[32]⟩ : ByteArray) ++ t0 = u := ⟨_, rfl⟩
        have hu : u0.data.toList = s ++ [32] ++ t := by
          rw [← hu0, ← bs_of s0, ← bs_of t0, hs0, ht0, show (⟨#[32]⟩ : ByteArray) = bs [32] from rfl, bs_append, bs_append, bs_list]
        obtain ⟨na, hna⟩ : ∃ k, a.length = k := ⟨_, rfl⟩
        obtain ⟨nb, hnb⟩ : ∃ k, b.length = k := ⟨_, rfl⟩
        have la : na ≤ 301 := by rw [← hna, ← ha]; have := words_len s; omega
        have lb : nb ≤ 301 := by rw [← hnb, ← hb]; have := words_len t; omega
        have hus : (s0 ++ (⟨#[32]⟩ : ByteArray)).size ≤ 301 := by rw [ByteArray.size_append]; have : (⟨#[32]⟩ : ByteArray).size = 1 := rfl; omega
        have huz : (s0 ++ (⟨#[32]⟩ : ByteArray) ++ t0).size ≤ 601 := by rw [ByteArray.size_append]; omega
        have HA := Lib.hid (show wordsL s0.data.toList = a by rw [hs0]; exact ha)
        have HBB := Lib.hid (show wordsL t0.data.toList = b by rw [ht0]; exact hb)
        have HC := Lib.hid (show wordsL u0.data.toList = a ++ b by rw [hu]; exact hcut)
        have HNA := Lib.hid hna
        have HNB := Lib.hid hnb
        have HZS := Lib.hid (show s0.data.toList.length ≤ 100000 by rw [hs0]; omega)
        have HZT := Lib.hid (show t0.data.toList.length ≤ 100000 by rw [ht0]; omega)
        have HZU := Lib.hid (show u0.data.toList.length ≤ 100000 by rw [hu]; simp; omega)
        have HU0 := Lib.hid hu0
        clear hall hls hlt ha hb hcut hu hna hnb hs0 ht0 HS hin hu0
        have hB := HB.out
        have hm := HM.out
        clear HB HM
        go_wp2_with fail
        refine (words_is s0 a na HA.out HNA.out _ hm HZS.out).mono ?_
        rintro e w2 ⟨A1, c1, rfl, h1, hb⟩
        replace hm := hm.below hb
        replace hB := hB.trans (hb.mono hs)
        replace hs := hB.size
        clear hb
        go_wp2_with fail
        refine (words_is t0 b nb HBB.out HNB.out _ hm HZT.out).mono ?_
        rintro e w3 ⟨A2, c2, rfl, h2, hb⟩
        replace h1 := own_below h1 hb
        replace hm := hm.below hb
        replace hB := hB.trans (hb.mono hs)
        replace hs := hB.size
        clear hb
        go_wp2_with fail
        rw [HU0.out]
        refine (words_is u0 (a ++ b) (na + nb) HC.out (by rw [List.length_append, HNA.out, HNB.out]) _ hm HZU.out).mono ?_
        rintro e w4 ⟨A3, c3, rfl, h3, hb⟩
        replace h1 := own_below h1 hb
        replace h2 := own_below h2 hb
        replace hB := hB.trans (hb.mono hs)
        replace hs := hB.size
        clear hb hm
        obtain ⟨b4, hb4⟩ : ∃ b, w4.heap.size = b := ⟨_, rfl⟩
        have q1 : ∀ q, (Value.slice A1 na c1).ownBlock = some q → q < b4 := fun q hq => by rw [← hb4]; exact (h1.lt q hq).2
        have q2 : ∀ q, (Value.slice A2 nb c2).ownBlock = some q → q < b4 := fun q hq => by rw [← hb4]; exact (h2.lt q hq).2
        have q3 : ∀ q, (Value.slice A3 (na + nb) c3).ownBlock = some q → q < b4 := fun q hq => by rw [← hb4]; exact (h3.lt q hq).2
        have hE : (w4.alloc (.cells #[] 9)).ownsRow b4 9 1 (.slice (some ⟨b4, 0, none⟩) 0 0) 0 [] := by rw [← hb4]; exact own_lit w4 w4.heap.size 9 1 0 #[] (Nat.le_refl _) rfl (by simp [maxLen])
        have g1 := h1.alloc (.cells #[] 9)
        have g2 := h2.alloc (.cells #[] 9)
        have g3 := h3.alloc (.cells #[] 9)
        have hB4 := hB.alloc hs (.cells #[] 9)
        have hz4 : (w4.alloc (.cells #[] 9)).heap.size = b4 + 1 := by rw [World.size_alloc, hb4]
        have hwb : w.heap.size ≤ b4 := by rw [← hb4]; exact hs
        clear h1 h2 h3 hB hs
        go_wp2_with (first
          | (at_builtin; refine wpList_append_lst_on _ (by rfl) (.tmp 41) (.tmp 42) 22 rfl b4 9 i0 (.string ByteArray.empty) 1 16 Tryd.underlying22 hi0 hz0 hz1 hz2 rfl (by decide) (.slice (some ⟨b4, 0, none⟩) 0 0) 0 [] (by simp [Act.eval, hb4]) hE _ A1 na c1 (vs a) rfl (Sl.of_own g1).lst (vs_one a) (by unfold maxLen; omega) (by omega) (by omega) ?_
             intro v5 w5 hown5 hg5 hx5
             have r5 : ∀ q, (some b4 : Option Nat) = some q → b4 ≤ q := fun q hq => by injection hq with hq; omega
             replace g2 := own_far g2 q2 hg5 r5
             replace g3 := own_far g3 q3 hg5 r5
             replace hB4 := Below.grown hB4 hg5 (by omega) (fun q hq => by have := r5 q hq; omega)
             have hz5 := hg5.size
             rw [hz4] at hz5
             clear hE g1 hz4 hx5 hg5)
          | (at_builtin; refine wpList_append_lst_on _ (by rfl) (.tmp 43) (.tmp 44) 22 rfl b4 9 i0 (.string ByteArray.empty) 1 16 Tryd.underlying22 hi0 hz0 hz1 hz2 rfl (by decide) v5 (0 + na) ([] ++ vs a) rfl hown5 _ A2 nb c2 (vs b) rfl (Sl.of_own g2).lst (vs_one b) (by unfold maxLen; omega) (by omega) (by omega) ?_
             intro v6 w6 hown6 hg6 hx6
             have r6 : ∀ q, v5.ownBlock = some q → b4 ≤ q := fun q hq => (hown5.lt q hq).1
             replace g3 := own_far g3 q3 hg6 r6
             replace hB4 := Below.grown hB4 hg6 (by omega) (fun q hq => by have := r6 q hq; omega)
             have hs6 := hB4.size
             rw [Nat.zero_add, List.nil_append, ← vs_append] at hown6
             obtain ⟨A6, c6, rfl⟩ := slice_of_own hown6
             clear hown5 g2 hx6 hg6))
        refine (rsame_is A3 A6 (na + nb) c3 (na + nb) c6 (a ++ b) (a ++ b) true (decide_eq_true rfl) _ (by rw [List.length_append, HNA.out, HNB.out]) (by rw [List.length_append, HNA.out, HNB.out]) (by omega) (Sl.of_own g3) (Sl.of_own hown6)).mono ?_
        rintro e w7 ⟨rfl, hb⟩
        replace hB4 := hB4.trans (hb.mono hs6)
        clear hb g3 hown6
        go_wp2_with fail
        go_ret
        exact ⟨rfl, hB4⟩
theorem wordsCut_walk (s0 t0 : ByteArray) (_ : s0.size ≤ maxLen) (_ : t0.size ≤ maxLen) (w : World) (hm : MaxAt w) :
    Calls Tryd.prog 7 #[.string s0, .string t0] w fun e w' => e = .returned (.bool true) ∧ Below w.heap.size w w' := wcut_walk s0 t0 w hm
theorem wordsCut_own : ownKnob Tryd.prog.godebug = none := by kernel_rfl
theorem wordsCut_laidOut : laidOutB Tryd.prog = true := by kernel_rfl
set_option maxHeartbeats 1000000 in
set_option maxRecDepth 100000 in
theorem wordsCut_lifted (os : Os) (started : os.Started) (H : Type) (enc : TypeId × Value → H) :
    ReturnsInHanded {} Tryd.checked os 7 .any (fun w args => (Rows.wordsCutSpec.pre enc Tryd.prog Tryd.f7 [] false w args ∧ laidMetH Tryd.prog Rows.wordsCutRow.laid w) ∧ sizedMet enc Tryd.prog Tryd.f7 (OpenSpec.ofChange Rows.wordsCutSpec) false w args)
      (Rows.wordsCutSpec.post enc Tryd.prog Tryd.f7 false true false false) := by
  refine returnsInHanded_of_change_and_shaped (C := Tryd.checked) (X := fun w _ => laidMetH Tryd.prog Rows.wordsCutRow.laid w) (fun _ _ _ hh h => h.of_heap hh) wordsCut_own started (by kernel_rfl) Tryd.func7
    (ChangeSpec.witness_shaped (enc := enc) (C := Tryd.checked) (os := os) (X := fun w _ => laidMetH Tryd.prog Rows.wordsCutRow.laid w) false (World.laidAll Tryd.prog os Rows.wordsCutRow.laid) #[.string ByteArray.empty, .string ByteArray.empty] 8 (World.laidAll_os _ _ _) (World.shaped_of_ZipB (by kernel_rfl) (by kernel_rfl)) (by kernel_rfl) (by kernel_rfl) (by kernel_rfl) (by rw [MakeChecks.laidMetH_plain _ _ _ (by kernel_rfl)]; exact laidMet_laidAll _ (by kernel_rfl) (by kernel_rfl))) ?_
  intro W base args ds gs before hval0 hW _ _ _ hL _
  have hval : ∀ (j : Nat) t v, Tryd.f7.params[j]? = some t → args[j]? = some v → Value.okWide Tryd.prog W .any base t v := hval0
  have hW' := hW
  obtain ⟨p, q, hA0, hV, rfl, hfz, hnd⟩ := hW
  have hA : DataW.TrodAll enc Tryd.prog W 0 (fun _ => true) true Tryd.f7.params.toList args.toList ds p := hA0
  rw [Tryd.params7] at hA hval
  obtain ⟨v0, vs0, d0, ds0, p0, q0, hargs, rfl, rfl, h0, r0⟩ := trodAll_cons hA
  obtain ⟨v1, vs1, d1, ds1, p1, q1, rfl, rfl, rfl, h1, r1⟩ := trodAll_cons r0
  obtain ⟨rfl, rfl, rfl⟩ := trodAll_nil r1
  obtain rfl : args = #[v0, v1] := by cases args; simp_all
  obtain ⟨rfl, rfl⟩ := trodVars_none hV
  obtain ⟨s0, rfl, rfl, rfl, w0⟩ := Go.ChangeMaps.open_string Tryd.underlying9 (hval 0 9 v0 rfl rfl) h0
  obtain ⟨s1, rfl, rfl, rfl, w1⟩ := Go.ChangeMaps.open_string Tryd.underlying9 (hval 1 9 v1 rfl rfl) h1
  clear hA0 hval0
  refine (wordsCut_walk s0 s1 w0 w1 W (max_of_shaped hL) ).mono fun e W' ⟨he, bel⟩ => ?_
  subst he
  exact ⟨_, rfl, law_post wordsCut_laidOut (by kernel_rfl) rfl Tryd.underlying4 rfl rfl hW' bel⟩

theorem wordsCut_holds : Rows.WordsCutSaid :=
  OpenClaim.holds_of_wide 7 Tryd.f7 rfl rfl rfl rfl rfl rfl rfl ⟨rfl, rfl, rfl, rfl, rfl⟩ rfl rfl rfl rfl rfl (by kernel_rfl) Tryd.func7 (by kernel_rfl)
    (of_decide_eq_true (by kernel_rfl)) (by unfold Func.isWrapper; first | (rw [if_pos (by decide +kernel)]; kernel_rfl) | (rw [if_neg (by decide +kernel)]; exact ⟨rfl, rfl⟩))
    (fun os started H enc _ => wordsCut_lifted os started H enc)

theorem wordsCut_proved : Rows.WordsCutCardSaid :=
  Claim7.holds_tied_plain_at .later [] Rows.wordsCutCard.laidKinds true Rows.wordsCutCard.stood.harness false
    wordsCut_holds (fun _ h => by cases h) (by kernel_rfl) (fun _ h => by cases h) wordsCut_row_tie rfl ⟨rfl, rfl⟩ (by kernel_rfl) rfl
    (fun f fn hf hfn => by
      obtain rfl : f = 7 := Option.some.inj ((show Tryd.prog.funcNamed "felucca/feluccalaw02.WordsCut" = some 7 by kernel_rfl).symm.trans hf) |>.symm
      obtain rfl : fn = Tryd.f7 := (Option.some.inj (Tryd.func7.symm.trans hfn)).symm
      exact ⟨by kernel_rfl, fun j t ht => by
        rw [Tryd.params7] at ht
        have hm : t ∈ [9, 9] := by simpa using Array.mem_of_getElem? ht
        have hall : ([9, 9].all fun u => !Tryd.prog.wantsStandIn u) = true := by kernel_rfl
        exact (show Tryd.prog.wantsStandIn t = false by simpa using List.all_eq_true.1 hall t hm)⟩)
    (by kernel_rfl)
#print axioms wordsCut_proved
end Go.Proofs.YtokheconenkcpaaDoor
