/- Acts of bytes, cut at a ten, are those of both parts, and as many as there are tens: ScriptParts returns true. No condition. -/
import Derived.Test.YtggdomeeienjbaaDoorW2
import Derived.Test.YtggdomeeienjbaaDoorRows
namespace Go.Proofs.YtggdomeeienjbaaDoor
open Go.ChangeShapes Go.WideShapes Go.ChangeAt Go.RowKit Go.Sort
set_option linter.unusedSimpArgs false
set_option linter.unusedVariables false
theorem tdiv_nat (n : Nat) : (n : Int).tdiv 10 = ((n / 10 : Nat) : Int) := by rfl
theorem tmod_nat10 (n : Nat) : (n : Int).tmod 10 = ((n % 10 : Nat) : Int) := by rfl
theorem actsF_parts : ∀ (k : Nat) (l : List Nat), 10 * k ≤ l.length → actsF l = actsF (l.take (10 * k)) ++ actsF (l.drop (10 * k))
  | 0, l, _ => by rw [actsF_nil (l := l.take (10 * 0)) (by simp)]; simp
  | k + 1, l, h => by
    rw [actsF_next (l := l) (by omega), actsF_next (l := l.take (10 * (k + 1))) (by simp; omega)]
    have d2 : (l.take (10 * (k + 1))).drop 10 = (l.drop 10).take (10 * k) := by rw [List.drop_take]; congr 1
    have d3 : l.drop (10 * (k + 1)) = (l.drop 10).drop (10 * k) := by rw [List.drop_drop]; congr 1; omega
    have g : ∀ j, j < 10 → (l.take (10 * (k + 1))).getD j 0 = l.getD j 0 := fun j hj => by
      rw [List.getD_eq_getElem?_getD, List.getD_eq_getElem?_getD, List.getElem?_take, if_pos (by omega)]
    rw [d2, d3, g 0 (by omega), g 1 (by omega), g 2 (by omega), g 3 (by omega), g 4 (by omega), g 5 (by omega), g 6 (by omega), g 7 (by omega), g 8 (by omega), actsF_parts k (l.drop 10) (by simp; omega)]
    rfl
set_option maxHeartbeats 8000000 in
set_option maxRecDepth 100000 in
theorem scriptParts_walk (A : Option Addr) (n c : Nat) (ns : List Nat) (k : Int) (hnl : ns.length = n) (hby : ∀ x ∈ ns, x < 256) (_ : (Lit.int .i64 k).wf = true) (w : World) (ht : TenTab w) (hl : Sl w w.heap.size 1 A n c (cB ns)) :
    Calls Tryd.prog 4 #[.slice A n c, .int .i64 k] w fun e w' => e = .returned (.bool true) ∧ Below w.heap.size w w' := by
  have hdiv := tdiv_nat n
  have hcm := hl.max
  have hnc := hl.cap
  have hmx : maxLen = 281474976710656 ∨ True := .inr trivial
  by_cases hbad : 500 < n ∨ k < 0 ∨ ((n / 10 : Nat) : Int) < k
  · have hb' : 500 < n ∨ (n ≤ 500 ∧ k < 0) ∨ (n ≤ 500 ∧ 0 ≤ k ∧ ((n / 10 : Nat) : Int) < k) := by omega
    clear hbad
    obtain ⟨m, hm⟩ : ∃ m, n / 10 = m := ⟨_, rfl⟩
    rw [hm] at hdiv hb'
    have hmn : m ≤ n := by omega
    rcases hb' with hb | ⟨hb, hk⟩ | ⟨hb, hk, hk2⟩
    all_goals
      try have hwm : IntKind.i64.wrap (m : Int) = (m : Int) := IntWalk.i64_in _ (by omega)
      clear hm
      go_enter Tryd.func4, Tryd.ntmps4
      go_wp2_with fail
      refine (small25_any w ht).mono ?_
      rintro e w1 ⟨rfl, hB⟩
      go_wp2
      go_ret
      exact ⟨rfl, hB⟩
  · obtain ⟨K, rfl⟩ : ∃ K : Nat, k = (K : Int) := ⟨k.toNat, by omega⟩
    obtain ⟨M, hM⟩ : ∃ M, 10 * K = M := ⟨_, rfl⟩
    obtain ⟨m, hm⟩ : ∃ m, n / 10 = m := ⟨_, rfl⟩
    have hMn : M ≤ n := by omega
    have hn5 : n ≤ 500 := by omega
    have hKm : K ≤ m := by omega
    rw [hm] at hdiv
    have hwm : IntKind.i64.wrap (m : Int) = (m : Int) := IntWalk.i64_in _ (by omega)
    have hwK : IntKind.i64.wrap (10 * (K : Int)) = (M : Int) := by rw [show 10 * (K : Int) = (M : Int) by omega]; exact IntWalk.i64_in _ (by omega)
    have hmod : (n : Int).tmod 10 = ((n % 10 : Nat) : Int) := tmod_nat10 n
    obtain ⟨r, hr⟩ : ∃ r, n % 10 = r := ⟨_, rfl⟩
    rw [hr] at hmod
    have hwr : IntKind.i64.wrap (r : Int) = (r : Int) := IntWalk.i64_in _ (by omega)
    have g1 : decide ((n : Int) > 500) = false := decide_eq_false (by omega)
    have g2 : decide ((K : Int) < 0) = false := decide_eq_false (by omega)
    have g3 : decide ((K : Int) > (m : Int)) = false := decide_eq_false (by omega)
    have HBY := Lib.hid hby
    have HNL := Lib.hid hnl
    have TT := Lib.hid ht
    have HL := Lib.hid hl
    have HMM := Lib.hid (⟨hM, hm, hr, hMn, hn5, hnc⟩ : 10 * K = M ∧ n / 10 = m ∧ n % 10 = r ∧ M ≤ n ∧ n ≤ 500 ∧ n ≤ c)
    clear hM hm hr hby hnl ht hl hbad
    go_enter Tryd.func4, Tryd.ntmps4
    go_wp2_with fail
    refine (small25_any w TT.out).mono ?_
    rintro e w1 ⟨rfl, hB⟩
    have hs := hB.size
    go_wp2_with fail
    refine (sacts_any A n c ns HNL.out (by omega) HBY.out w1 (TT.out.below hB) (HL.out.up hB)).mono ?_
    rintro e w2 ⟨v1, L1, rfl, hI1, hb⟩
    rw [HMM.out.2.1] at hI1
    rw [HMM.out.2.2.1]
    have HI1 := Lib.hid hI1
    replace hB := hB.trans (hb.mono hs)
    replace hs := hB.size
    clear hI1 hb
    have j1 : (0 : Int) ≤ (M : Int) := by omega
    have j2 : (M : Int) ≤ (n : Int) := by omega
    have j3 : (M : Int) ≤ (c : Int) := by omega
    have j4 : M ≤ c := by omega
    go_wp2_with fail
    have h10 : (ns.take M).length = M := by rw [List.length_take, HNL.out]; omega
    have hs1 := HL.out.upto (m := M) hMn
    rw [Nat.mul_one, cB_take] at hs1
    refine (sacts_any A M c (ns.take M) h10 (by omega) (fun x hx => HBY.out x (List.mem_of_mem_take hx)) w2 (TT.out.below hB) (hs1.up hB)).mono ?_
    rintro e w3 ⟨v2, L2, rfl, hI2, hb⟩
    have e1 : M / 10 = K := by have := HMM.out.1; omega
    have e2 : M % 10 = 0 := by have := HMM.out.1; omega
    rw [e1] at hI2
    rw [e2]
    have HI2 := Lib.hid hI2
    replace HI1 := Lib.hid (HI1.out.below hb)
    replace hB := hB.trans (hb.mono hs)
    replace hs := hB.size
    clear hI2 hb hs1 h10 e1 e2
    by_cases hcM : c = M
    all_goals
      go_wp2_with fail
      have hs0 := HL.out.from_ (m := M) hMn
      rw [Nat.mul_one, cB_drop] at hs0
      have hs1 := hs0.up hB
      clear hs0
      first | (rw [if_pos hcM, hcM, Nat.sub_self] at hs1) | (rw [if_neg hcM] at hs1)
      have h10 : (ns.drop M).length = n - M := by rw [List.length_drop, HNL.out]
      refine (sacts_any _ (n - M) _ (ns.drop M) h10 (by omega) (fun x hx => HBY.out x (List.mem_of_mem_drop hx)) w3 (TT.out.below hB) hs1).mono ?_
      rintro e w4 ⟨v3, L3, rfl, hI3, hb⟩
      have e1 : (n - M) / 10 = m - K := by have := HMM.out; omega
      have e2 : (n - M) % 10 = r := by have := HMM.out; omega
      rw [e1] at hI3
      rw [e2]
      have HI3 := Lib.hid hI3
      replace HI1 := Lib.hid (HI1.out.below hb)
      replace HI2 := Lib.hid (HI2.out.below hb)
      replace hB := hB.trans (hb.mono hs)
      replace hs := hB.size
      clear hI3 hb hs1 h10 e1 e2
      have o1 := HI1.out.own
      have o2 := HI2.out.own
      have o3 := HI3.out.own
      obtain ⟨A1, c1, rfl⟩ := slice_of_own o1
      obtain ⟨A2, c2, rfl⟩ := slice_of_own o2
      obtain ⟨A3, c3, rfl⟩ := slice_of_own o3
      have l2 := (Sl.of_own o2).lst
      have l3 := (Sl.of_own o3).lst
      have HPP : Hid (actsF ns = actsF (ns.take M) ++ actsF (ns.drop M)) := by
        have h := actsF_parts K ns (by have := HMM.out.1; have := HNL.out; omega)
        rw [HMM.out.1] at h
        exact h
      have hE := own_lit w4 w4.heap.size 36 24 0 #[] (Nat.le_refl _) rfl (by simp [maxLen])
      have hb5 : Below w4.heap.size w4 (w4.alloc (.cells #[] 36)) := by (repeat (first | exact Below.refl _ _ | refine Below.alloc ?_ (by first | omega | (simp; done) | (simp; omega)) _ | refine Below.setCell ?_ (by first | omega | (simp; done) | (simp; omega)) _ | refine Below.drew ?_))
      clear o1 o2 o3
      have hm9 : m ≤ 50 := by have := HMM.out; omega
      obtain ⟨i0, hi0, hz0, hz1, hz2⟩ := info_parts infoAx
      go_upto_region 7 with fail
      go_wp2_with (first
        | (at_builtin; refine wpList_append_lst_on _ (by rfl) (.tmp 76) (.tmp 77) 24 (by rfl) w4.heap.size 36 i0 _ 24 216 Tryd.underlying24 hi0 hz0 hz1 hz2 rfl (by decide) (.slice (some ⟨w4.heap.size, 0, none⟩) 0 0) 0 [] (by rfl) hE _ A2 K c2 (flatAx L2) (by rfl) (l2.below hb5) (flatAx_one _) (by unfold maxLen; omega) (by omega) (by simp) ?_; intro v5 w5 hown5 hg5 _)
        | (at_builtin; refine wpList_append_lst_on _ (by rfl) (.tmp 78) (.tmp 79) 24 (by rfl) w4.heap.size 36 i0 _ 24 216 Tryd.underlying24 hi0 hz0 hz1 hz2 rfl (by decide) v5 (0 + K) ([] ++ flatAx L2) (by rfl) hown5 _ A3 (m - K) c3 (flatAx L3) (by rfl) (l3.below (hb5.grown hg5 (by simp) (fun q hq => (hE.lt q hq).1))) (flatAx_one _) (by unfold maxLen; omega) (by omega) ((hb5.grown hg5 (by simp) (fun q hq => (hE.lt q hq).1)).size) ?_; intro v6 w6 hown6 hg6 _))
      obtain ⟨A6, c6, rfl⟩ := slice_of_own hown6
      have hb55 := hb5.grown hg5 (by simp) (fun q hq => (hE.lt q hq).1)
      have hb6 : Below w4.heap.size w4 w6 := hb55.grown hg6 hb55.size (fun q hq => (hown5.lt q hq).1)
      refine (ssame_any A1 A6 m c1 (0 + K + (m - K)) c6 L1 (L2 ++ L3) w6 HI1.out.len (by rw [List.length_append, HI2.out.len, HI3.out.len]; omega) (by omega) (by omega) ((Sl.of_own HI1.out.own).up hb6) (by have h := Sl.of_own hown6; rw [flatAx_append]; simpa using h) (fun x hx => ((HI1.out.ids x hx).ok).below hb6) (fun x hx => by
        rcases List.mem_append.1 hx with hx | hx
        · exact ((HI2.out.ids x hx).ok).below hb6
        · exact ((HI3.out.ids x hx).ok).below hb6) true (by rw [List.map_append, HI1.out.rows, HI2.out.rows, HI3.out.rows, HPP.out]; exact decide_eq_true rfl)).mono ?_
      rintro e w7 ⟨rfl, hb7⟩
      have hfin := hB.trans ((hb6.trans (hb7.mono hb6.size)).mono hs)
      clear hb7 hb6 hb55 hown6 hown5 hg5 hg6
      go_wp2_with fail
      go_ret
      exact ⟨rfl, hfin⟩
theorem scriptParts_own : ownKnob Tryd.prog.godebug = none := by kernel_rfl
theorem scriptParts_laidOut : laidOutB Tryd.prog = true := by kernel_rfl
theorem scriptParts_door (os : Os) (args : Array Value) : laidMetH Tryd.prog Rows.scriptPartsRow.laid ((World.doorLaid Tryd.prog 400 os).forCall (fun _ _ => 0) ⟨#[], args, []⟩).memory :=
  laidMetH_of_parts3 (fuel := 8) (laidMet_of_run' 8 (by kernel_rfl) (by kernel_rfl)) (by kernel_rfl) (by kernel_rfl)

set_option maxHeartbeats 1000000 in
set_option maxRecDepth 100000 in
theorem scriptParts_lifted (os : Os) (started : os.Started) (H : Type) (enc : TypeId × Value → H) :
    ReturnsInHanded {} Tryd.checked os 4 .any (fun w args => (Rows.scriptPartsSpec.pre enc Tryd.prog Tryd.f4 [] false w args ∧ laidMetH Tryd.prog Rows.scriptPartsRow.laid w) ∧ sizedMet enc Tryd.prog Tryd.f4 (OpenSpec.ofChange Rows.scriptPartsSpec) false w args)
      (Rows.scriptPartsSpec.post enc Tryd.prog Tryd.f4 false true false false) := by
  refine returnsInHanded_of_change_and (C := Tryd.checked) (X := fun w _ => laidMetH Tryd.prog Rows.scriptPartsRow.laid w) (fun _ _ _ hh h => h.of_heap hh) scriptParts_own started (by kernel_rfl) Tryd.func4
    (ChangeSpec.witness_shaped (enc := enc) (C := Tryd.checked) (os := os) (X := fun w _ => laidMetH Tryd.prog Rows.scriptPartsRow.laid w) false (World.doorLaid Tryd.prog 400 os) #[.slice none 0 0, .int .i64 0] 8 rfl (World.shaped_of_RefB (by kernel_rfl) (by kernel_rfl)) (by kernel_rfl) (by kernel_rfl) (by kernel_rfl) (scriptParts_door os _)) ?_
  intro W base args ds gs before hval0 hW _ _ hL _
  have hval : ∀ (j : Nat) t v, Tryd.f4.params[j]? = some t → args[j]? = some v → Value.okWide Tryd.prog W .any base t v := hval0
  have hW' := hW
  obtain ⟨p, q, hA0, hV, rfl, hfz, hnd⟩ := hW
  have hA : DataW.TrodAll enc Tryd.prog W 0 (fun _ => true) true Tryd.f4.params.toList args.toList ds p := hA0
  rw [Tryd.params4] at hA hval
  obtain ⟨v0, vs0, d0, ds0, p0, q0, hargs, rfl, rfl, h0, r0⟩ := trodAll_cons hA
  obtain ⟨v1, vs1, d1, ds1, p1, q1, rfl, rfl, rfl, h1, r1⟩ := trodAll_cons r0
  obtain ⟨rfl, rfl, rfl⟩ := trodAll_nil r1
  obtain rfl : args = #[v0, v1] := by cases args; simp_all
  obtain ⟨rfl, rfl⟩ := trodVars_none hV
  obtain ⟨A0, n0, c0, ns0, rfl, hl0, nl0, w0⟩ := open_bytesS Tryd.underlying22 Tryd.underlying5 (by kernel_rfl) (hval 0 22 v0 rfl rfl) h0
  obtain ⟨a1, rfl, rfl, rfl, w1⟩ := open_int Tryd.underlying3 (hval 1 3 v1 rfl rfl) h1
  clear hA0 hval0
  refine (scriptParts_walk A0 n0 c0 ns0 a1 nl0 w0 w1 W (ten_parts hL) hl0).mono fun e W' ⟨he, bel⟩ => ?_
  subst he
  exact ⟨_, rfl, law_post scriptParts_laidOut (by kernel_rfl) rfl Tryd.underlying4 rfl rfl hW' bel⟩

theorem scriptParts_holds : Rows.ScriptPartsSaid :=
  OpenClaim.holds_of_wide 4 Tryd.f4 rfl rfl rfl rfl rfl rfl rfl ⟨rfl, rfl, rfl, rfl, rfl⟩ rfl rfl rfl rfl rfl (by kernel_rfl) Tryd.func4 (by kernel_rfl)
    (of_decide_eq_true (by kernel_rfl)) (by unfold Func.isWrapper; first | (rw [if_pos (by decide +kernel)]; kernel_rfl) | (rw [if_neg (by decide +kernel)]; exact ⟨rfl, rfl⟩))
    (fun os started H enc _ => scriptParts_lifted os started H enc)

theorem scriptParts_proved : Rows.ScriptPartsCardSaid :=
  Claim7.holds_tied_plain_at .later [] Rows.scriptPartsCard.laidKinds true Rows.scriptPartsCard.stood.harness false
    scriptParts_holds (fun _ h => by cases h) (by kernel_rfl) (fun _ h => by cases h) scriptParts_row_tie rfl ⟨rfl, rfl⟩ (by kernel_rfl) rfl
    (fun f fn hf hfn => by
      obtain rfl : f = 4 := Option.some.inj ((show Tryd.prog.funcNamed "felucca/feluccalaw25.ScriptParts" = some 4 by kernel_rfl).symm.trans hf) |>.symm
      obtain rfl : fn = Tryd.f4 := (Option.some.inj (Tryd.func4.symm.trans hfn)).symm
      exact ⟨by kernel_rfl, fun j t ht => by
        rw [Tryd.params4] at ht
        have hm : t ∈ [22, 3] := by simpa using Array.mem_of_getElem? ht
        have hall : ([22, 3].all fun u => !Tryd.prog.wantsStandIn u) = true := by kernel_rfl
        exact (show Tryd.prog.wantsStandIn t = false by simpa using List.all_eq_true.1 hall t hm)⟩)
    (by kernel_rfl)
#print axioms scriptParts_proved
end Go.Proofs.YtggdomeeienjbaaDoor
