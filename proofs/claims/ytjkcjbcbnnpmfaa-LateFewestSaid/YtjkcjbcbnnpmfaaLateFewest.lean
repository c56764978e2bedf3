/- With the fewest hops one may be in time, with fewer not, and one may at all just if the end is reached in time: LateFewest returns true. No condition. -/
import Derived.Test.YtjkcjbcbnnpmfaaRows
import Derived.Test.YtjkcjbcbnnpmfaaSmall16
import Derived.Test.YtjkcjbcbnnpmfaaLateMath2
import Derived.Test.YtjkcjbcbnnpmfaaOpenS
namespace Go.Proofs.Ytjkcjbcbnnpmfaa
open Go.ChangeShapes Go.WideShapes Go.ChangeAt Go.RowKit Go.Sort Hp
set_option linter.unusedSimpArgs false
set_option linter.unusedVariables false
theorem wf_ints15 {ns : List Int} (hw : ∀ m ∈ ns, (Lit.int .i64 m).wf = true) : ∀ q, q < ns.length → (Lit.int .i64 (ns.getD q 0)).wf = true := fun q hq => by
  rw [List.getD_eq_getElem?_getD, List.getElem?_eq_getElem hq]
  exact hw _ (List.getElem_mem hq)
set_option maxHeartbeats 8000000 in
set_option maxRecDepth 100000 in
theorem lateFewest_w (A : Option Addr) (n c : Nat) (l : List Ed) (x q now by_ size : Int) (w : World) (hd : l.length = n) (hl : Sl w w.heap.size 8 A n c (flatEd l)) :
    Calls Try.prog 6 #[.slice A n c, .int .i64 x, .int .i64 q, .int .i64 now, .int .i64 by_, .int .i64 size] w fun e w' => e = .returned (.bool true) ∧ Below w.heap.size w w' := by
  have HD := Lib.hid hd
  have HL := Lib.hid (fun w' (hb : Below w.heap.size w w') => hl.up hb)
  clear hd hl
  go_enter Try.func6, Try.ntmps6
  go_wp2_with fail
  refine (small16_any w).mono ?_
  rintro e w1 ⟨rfl, hB⟩
  by_cases hn : 30 < n ∨ now < 0 ∨ 1099511627776 < now ∨ by_ < 0 ∨ 1099511627776 < by_
  · have hn' : 30 < n ∨ (n ≤ 30 ∧ now < 0) ∨ (n ≤ 30 ∧ ¬ now < 0 ∧ 1099511627776 < now) ∨ (n ≤ 30 ∧ ¬ now < 0 ∧ ¬ 1099511627776 < now ∧ by_ < 0) ∨ (n ≤ 30 ∧ ¬ now < 0 ∧ ¬ 1099511627776 < now ∧ ¬ by_ < 0 ∧ 1099511627776 < by_) := by omega
    clear hn
    rcases hn' with hn | ⟨hn, h1⟩ | ⟨hn, h1, h2⟩ | ⟨hn, h1, h2, h3⟩ | ⟨hn, h1, h2, h3, h4⟩
    all_goals
      go_wp2_with fail
      go_ret
      exact ⟨rfl, hB⟩
  have hn1 : n ≤ 30 := by omega
  have hn2 : ¬ now < 0 := by omega
  have hn3 : ¬ 1099511627776 < now := by omega
  have hn4 : ¬ by_ < 0 := by omega
  have hn5 : ¬ 1099511627776 < by_ := by omega
  clear hn
  obtain ⟨o, ho, hno⟩ := few_pick (askE l x now size && nodeB q && inB by_ 0 1099511627776) l size (opn [] q) q by_ x now
  have HO := Lib.hid ho
  have HNO := Lib.hid hno
  obtain ⟨ov, hov⟩ : ∃ z, ((o.getD 0 : Nat) : Int) = z := ⟨_, rfl⟩
  obtain ⟨ob, hob⟩ : ∃ z, o.isSome = z := ⟨_, rfl⟩
  have HOV := Lib.hid hov
  have HOB := Lib.hid hob
  clear ho hno hov hob
  go_wp2_with fail
  refine (lfew_any A n c l x q now by_ size none 0 0 [] w1 HD.out (by omega) rfl (by omega) (fun k hk => by omega) (HL.out _ hB) (Sl.nil0 _ _ _) o HO.out HNO.out ov ob HOV.out HOB.out).mono ?_
  rintro e w2 ⟨rfl, hb⟩
  replace hB := hB.trans (hb.mono hB.size)
  clear hb
  go_wp2_with fail
  refine (ereach_any A n c l x q now size by_ w2 HD.out (by omega) (HL.out _ hB)).mono ?_
  rintro e w3 ⟨rc, hTc, rfl, hb⟩
  replace hB := hB.trans (hb.mono hB.size)
  have hM : reachB rc q by_ = ob := by
    rw [← HOB.out]
    exact (fewest_math (by omega) (by omega) hTc HO.out HNO.out).symm
  rw [hM]
  clear hb hTc hM
  cases ob with
  | false =>
    have h1 : ov = 0 := by
      have h2 := HOB.out
      rw [← HOV.out]
      cases o with
      | none => rfl
      | some k => cases h2
    subst h1
    go_wp2_with fail
    go_ret
    exact ⟨rfl, hB⟩
  | true =>
    obtain ⟨h, rfl⟩ : ∃ h, o = some h := Option.isSome_iff_exists.1 HOB.out
    obtain rfl : ov = (h : Int) := HOV.out.symm
    have hc : (askE l x now size && nodeB q && inB by_ 0 1099511627776) = true := by
      cases hc : (askE l x now size && nodeB q && inB by_ 0 1099511627776) with
      | true => rfl
      | false => have := HNO.out hc; cases this
    have hf := HO.out hc
    have hask : askE l q by_ size = true := by
      rw [Bool.and_eq_true, Bool.and_eq_true] at hc
      obtain ⟨x1, x2, x3, x4⟩ := askE_spec.1 hc.1.1
      have h2 : 1 ≤ q ∧ q ≤ 255 := by have := hc.1.2; unfold nodeB inB at this; exact of_decide_eq_true this
      exact askE_spec.2 ⟨h2, by omega, x3, x4⟩
    obtain ⟨hle, ⟨t, ht, hnt⟩, hmin, hz⟩ := fewest_math2 (by omega) hf
    have hhn : h ≤ n := by rw [← HD.out]; exact hle
    have HASK := Lib.hid hask
    have HTT := Lib.hid ht
    have HMIN := Lib.hid hmin
    have HZ := Lib.hid hz
    have g0 : decide ((h : Int) ≤ (n : Int)) = true := decide_eq_true (by omega)
    have g1 : decide (now ≤ t) = true := decide_eq_true hnt
    clear hc hf hask hle ht hmin hz hnt hn2 hn3 hn4 hn5
    go_wp2_with fail
    refine (ltimes_any A n c l q by_ size (h : Int) none 0 0 [] w3 HD.out (by omega) rfl (by omega) (fun k hk => by omega) (HL.out _ hB) (Sl.nil0 _ _ _)).mono ?_
    rintro e w4 ⟨Aa, na, ca, ra, rfl, hra, hna, hTa, hSa, hb⟩
    replace hB := hB.trans (hb.mono hB.size)
    have HRa := Lib.hid hra
    have HTa := Lib.hid hTa
    clear hb hra hTa
    have HAT : Hid (atR ra x = some t) := by
      have := HTa.out.yes HASK.out (by omega)
      rw [Int.toNat_natCast] at this
      show atR ra x = some t
      rw [this]; exact HTT.out
    go_wp2_with fail
    refine (eat_any Aa na ca ra x w4 HRa.out (by omega) hSa t true (by rw [HAT.out]; rfl) (by rw [HAT.out]; rfl)).mono ?_
    rintro e w5 ⟨rfl, hb⟩
    replace hB := hB.trans (hb.mono hB.size)
    clear hb hSa
    go_wp2_with fail
    refine (ltimes_any A n c l q by_ size ((h : Int) - 1) none 0 0 [] w5 HD.out (by omega) rfl (by omega) (fun k hk => by omega) (HL.out _ hB) (Sl.nil0 _ _ _)).mono ?_
    rintro e w6 ⟨Ab, nb, cb, rb, rfl, hrb, hnb, hTb, hSb, hb⟩
    replace hB := hB.trans (hb.mono hB.size)
    have HRb := Lib.hid hrb
    have HTb := Lib.hid hTb
    clear hb hrb hTb
    obtain ⟨u, hu⟩ : ∃ z, (atR rb x).getD 0 = z := ⟨_, rfl⟩
    obtain ⟨ok, hok⟩ : ∃ z, (atR rb x).isSome = z := ⟨_, rfl⟩
    have HU := Lib.hid hu
    have HK := Lib.hid hok
    have HLT : Hid (ok = true → u < now) := fun hk => by
      subst hk
      obtain ⟨z, hzz⟩ := Option.isSome_iff_exists.1 HK.out
      have hzu : z = u := by have := HU.out; rw [hzz] at this; exact this
      cases h with
      | zero =>
        rw [HTb.out.no (.inr (by omega))] at hzz
        cases hzz
      | succ k =>
        have h1 := HTb.out.yes HASK.out (by omega)
        rw [show (((k + 1 : Nat) : Int) - 1).toNat = k by omega] at h1
        rw [h1] at hzz
        have := HMIN.out k z rfl hzz
        omega
    clear hu hok
    go_wp2_with fail
    refine (eat_any Ab nb cb rb x w6 HRb.out (by omega) hSb u ok HU.out HK.out).mono ?_
    rintro e w7 ⟨rfl, hb⟩
    replace hB := hB.trans (hb.mono hB.size)
    clear hb hSb
    have hzz : ((h : Int) == 0) = (x == q) := by
      rw [Bool.eq_iff_iff, beq_iff_eq, beq_iff_eq, ← HZ.out]
      omega
    obtain ⟨zb, hzb⟩ : ∃ b, (x == q) = b := ⟨_, rfl⟩
    rw [hzb] at hzz
    cases ok with
    | false =>
      cases zb
      all_goals
        go_wp2_with fail
        go_ret
        exact ⟨rfl, hB⟩
    | true =>
      have g2 : decide (u < now) = true := decide_eq_true (HLT.out rfl)
      cases zb
      all_goals
        go_wp2_with fail
        go_ret
        exact ⟨rfl, hB⟩
theorem lateFewest_walk (A : Option Addr) (n k : Nat) (ns : List Int) (x q now by_ size : Int) (hnl : ns.length = n * 8) (_ : ∀ m ∈ ns, (Lit.int .i64 m).wf = true) (_ : (Lit.int .i64 x).wf = true) (_ : (Lit.int .i64 q).wf = true) (_ : (Lit.int .i64 now).wf = true) (_ : (Lit.int .i64 by_).wf = true) (_ : (Lit.int .i64 size).wf = true) (w : World) (hl : Sl w w.heap.size 8 A n k (ns.map (Value.int .i64))) :
    Calls Try.prog 6 #[.slice A n k, .int .i64 x, .int .i64 q, .int .i64 now, .int .i64 by_, .int .i64 size] w fun e w' => e = .returned (.bool true) ∧ Below w.heap.size w w' := by
  obtain ⟨d, hd, hlf⟩ := rowsEd_of n ns hnl
  rw [hlf] at hl
  exact lateFewest_w A n k d x q now by_ size w hd hl
theorem lateFewest_own : ownKnob Try.prog.godebug = none := by kernel_rfl
theorem lateFewest_laidOut : laidOutB Try.prog = true := by kernel_rfl

set_option maxHeartbeats 1000000 in
set_option maxRecDepth 100000 in
theorem lateFewest_lifted (os : Os) (started : os.Started) (H : Type) (enc : TypeId × Value → H) :
    ReturnsInHanded {} Try.checked os 6 .any (Rows.lateFewestSpec.pre6 enc Try.prog Try.f6 Rows.lateFewestRow.domain false) (Rows.lateFewestSpec.post enc Try.prog Try.f6 false true false false) := by
  refine returnsInHanded_of_change (C := Try.checked) lateFewest_own started (by kernel_rfl) Try.func6
    (ChangeSpec.witness6 (enc := enc) (C := Try.checked) false ⟨#[], #[.slice none 0 0, .int .i64 0, .int .i64 0, .int .i64 0, .int .i64 0, .int .i64 0], []⟩ 8 (by kernel_rfl) (by kernel_rfl) (by kernel_rfl) (by kernel_rfl)) ?_
  intro W base args ds gs before hval0 hW hcnd _
  have hval : ∀ (j : Nat) t v, Try.f6.params[j]? = some t → args[j]? = some v → Value.okWide Try.prog W .any base t v := hval0
  have hW' := hW
  obtain ⟨p, q, hA0, hV, rfl, hfz, hnd⟩ := hW
  have hA : DataW.TrodAll enc Try.prog W 0 (fun _ => true) true Try.f6.params.toList args.toList ds p := hA0
  rw [Try.params6] at hA hval
  obtain ⟨v0, vs0, d0, ds0, p0, q0, hargs, rfl, rfl, h0, r0⟩ := trodAll_cons hA
  obtain ⟨v1, vs1, d1, ds1, p1, q1, rfl, rfl, rfl, h1, r1⟩ := trodAll_cons r0
  obtain ⟨v2, vs2, d2, ds2, p2, q2, rfl, rfl, rfl, h2, r2⟩ := trodAll_cons r1
  obtain ⟨v3, vs3, d3, ds3, p3, q3, rfl, rfl, rfl, h3, r3⟩ := trodAll_cons r2
  obtain ⟨v4, vs4, d4, ds4, p4, q4, rfl, rfl, rfl, h4, r4⟩ := trodAll_cons r3
  obtain ⟨v5, vs5, d5, ds5, p5, q5, rfl, rfl, rfl, h5, r5⟩ := trodAll_cons r4
  obtain ⟨rfl, rfl, rfl⟩ := trodAll_nil r5
  obtain rfl : args = #[v0, v1, v2, v3, v4, v5] := by cases args; simp_all
  obtain ⟨rfl, rfl⟩ := trodVars_none hV
  obtain ⟨A0, n0, c0, ns0, rfl, hl0, nl0, w0⟩ := open_rowsS 4 (K := 8) Try.underlying22 (by kernel_rfl) (by kernel_rfl) (by omega) (hval 0 22 v0 rfl rfl) h0
  obtain ⟨a1, rfl, rfl, rfl, w1⟩ := open_int Try.underlying3 (hval 1 3 v1 rfl rfl) h1
  obtain ⟨a2, rfl, rfl, rfl, w2⟩ := open_int Try.underlying3 (hval 2 3 v2 rfl rfl) h2
  obtain ⟨a3, rfl, rfl, rfl, w3⟩ := open_int Try.underlying3 (hval 3 3 v3 rfl rfl) h3
  obtain ⟨a4, rfl, rfl, rfl, w4⟩ := open_int Try.underlying3 (hval 4 3 v4 rfl rfl) h4
  obtain ⟨a5, rfl, rfl, rfl, w5⟩ := open_int Try.underlying3 (hval 5 3 v5 rfl rfl) h5
  clear hA0 hval0
  refine (lateFewest_walk A0 n0 c0 ns0 a1 a2 a3 a4 a5 nl0 w0 w1 w2 w3 w4 w5 W hl0).mono fun e W' ⟨he, bel⟩ => ?_
  subst he
  exact ⟨_, rfl, law_post lateFewest_laidOut (by kernel_rfl) rfl Try.underlying4 rfl rfl hW' bel⟩

theorem lateFewest_proved : Rows.LateFewestSaid :=
  OpenClaim.holds_of_wide 6 Try.f6 rfl rfl rfl rfl rfl rfl rfl ⟨rfl, rfl, rfl, rfl, rfl⟩ rfl rfl rfl rfl rfl (by kernel_rfl) Try.func6 (by kernel_rfl)
    (of_decide_eq_true (by kernel_rfl)) (by unfold Func.isWrapper; first | (rw [if_pos (by decide +kernel)]; kernel_rfl) | (rw [if_neg (by decide +kernel)]; exact ⟨rfl, rfl⟩))
    (fun os started H enc _ => lateFewest_lifted os started H enc)
#print axioms lateFewest_proved
end Go.Proofs.Ytjkcjbcbnnpmfaa
