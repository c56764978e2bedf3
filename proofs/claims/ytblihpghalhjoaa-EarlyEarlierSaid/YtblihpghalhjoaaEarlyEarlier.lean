/- Who begins earlier, or with less, is nowhere later: EarlyEarlier returns true. No condition. -/
import Derived.Test.YtblihpghalhjoaaRows
import Derived.Test.YtblihpghalhjoaaSmall15
import Derived.Test.YtblihpghalhjoaaEarlyMath3
import Derived.Test.YtblihpghalhjoaaOpenS
namespace Go.Proofs.Ytblihpghalhjoaa
open Go.ChangeShapes Go.WideShapes Go.ChangeAt Go.RowKit Go.Sort Hp
set_option linter.unusedSimpArgs false
set_option linter.unusedVariables false
theorem wf_ints15 {ns : List Int} (hw : ∀ m ∈ ns, (Lit.int .i64 m).wf = true) : ∀ q, q < ns.length → (Lit.int .i64 (ns.getD q 0)).wf = true := fun q hq => by
  rw [List.getD_eq_getElem?_getD, List.getElem?_eq_getElem hq]
  exact hw _ (List.getElem_mem hq)
set_option maxHeartbeats 8000000 in
set_option maxRecDepth 100000 in
theorem earlyEarlier_w (A : Option Addr) (n c : Nat) (l : List Ed) (q now later size more : Int) (w : World) (hd : l.length = n) (hl : Sl w w.heap.size 8 A n c (flatEd l)) :
    Calls Try.prog 5 #[.slice A n c, .int .i64 q, .int .i64 now, .int .i64 later, .int .i64 size, .int .i64 more] w fun e w' => e = .returned (.bool true) ∧ Below w.heap.size w w' := by
  have HD := Lib.hid hd
  have HL := Lib.hid (fun w' (hb : Below w.heap.size w w') => hl.up hb)
  clear hd hl
  go_enter Try.func5, Try.ntmps5
  go_wp2_with fail
  refine (small15_any w).mono ?_
  rintro e w1 ⟨rfl, hB⟩
  by_cases hn : 40 < n ∨ now < 0 ∨ size < 0 ∨ later < now ∨ more < size
  · have hn' : 40 < n ∨ (n ≤ 40 ∧ now < 0) ∨ (n ≤ 40 ∧ ¬ now < 0 ∧ size < 0) ∨ (n ≤ 40 ∧ ¬ now < 0 ∧ ¬ size < 0 ∧ later < now) ∨ (n ≤ 40 ∧ ¬ now < 0 ∧ ¬ size < 0 ∧ ¬ later < now ∧ more < size) := by omega
    clear hn
    rcases hn' with hn | ⟨hn, h1⟩ | ⟨hn, h1, h2⟩ | ⟨hn, h1, h2, h3⟩ | ⟨hn, h1, h2, h3, h4⟩
    all_goals
      go_wp2_with fail
      go_ret
      exact ⟨rfl, hB⟩
  have hn1 : n ≤ 40 := by omega
  have hn2 : ¬ now < 0 := by omega
  have hn3 : ¬ size < 0 := by omega
  have hn4 : ¬ later < now := by omega
  have hn5 : ¬ more < size := by omega
  clear hn
  go_wp2_with fail
  refine (etimes_any A n c l q now size none 0 0 [] w1 HD.out (by omega) rfl (by omega) (fun k hk => by omega) (HL.out _ hB) (Sl.nil0 _ _ _)).mono ?_
  rintro e w2 ⟨Aa, na, ca, ra, rfl, hra, hna, hTa, hSa, hb⟩
  replace hB := hB.trans (hb.mono hB.size)
  have HRa := Lib.hid hra
  have HTa := Lib.hid hTa
  clear hb hra hTa
  go_wp2_with fail
  refine (etimes_any A n c l q later more none 0 0 [] w2 HD.out (by omega) rfl (by omega) (fun k hk => by omega) (HL.out _ hB) (Sl.nil0 _ _ _)).mono ?_
  rintro e w3 ⟨Ab, nb, cb, rb, rfl, hrb, hnb, hTb, hSb, hb⟩
  replace hB := hB.trans (hb.mono hB.size)
  replace hSa := hSa.up hb
  have HRb := Lib.hid hrb
  have HTb := Lib.hid hTb
  clear hb hrb hTb
  obtain ⟨hJ, hlen⟩ := earlier_math (by omega) (by omega) (by omega) (by omega) HTa.out HTb.out
  rw [HRa.out, HRb.out] at hlen
  have HJ := Lib.hid hJ
  have HSA := Lib.hid (fun w' (hb : Below w3.heap.size w3 w') => hSa.up hb)
  have HSB := Lib.hid (fun w' (hb : Below w3.heap.size w3 w') => hSb.up hb)
  have HB := Lib.hid hB
  clear hJ hSa hSb hB hn2 hn3 hn4 hn5
  go_wp2_with fail
  go_loopw [16] (fun iv wr => ∃ k : Nat, iv = .int .i64 k ∧ k ≤ nb ∧ Below w3.heap.size w3 wr) (fun iv _ => nb - (intOf iv).toNat)
  case atStart => exact ⟨0, rfl, by omega, Below.refl _ _⟩
  case round =>
    obtain ⟨k, rfl, hk, hB⟩ := hrel
    by_cases hkn : k < nb
    · obtain ⟨ad, rfl, hab, c0, c1⟩ := (HSB.out _ hB).lst.fst2 HRb.out hkn
      obtain ⟨v, hv, hle⟩ := HJ.out k (by rw [HRb.out]; exact hkn)
      obtain ⟨x, hx⟩ : ∃ x, gt rb k = x := ⟨_, rfl⟩
      rw [hx] at c0 c1 hv hle
      have HX := Lib.hid hx
      have HV1 := Lib.hid (show (atR ra x.1).getD 0 = v by rw [hv]; rfl)
      have HV2 := Lib.hid (show (atR ra x.1).isSome = true by rw [hv]; rfl)
      clear hx hv
      go_wp2_with fail
      clear c0 c1 hab
      refine (eat_any Aa na ca ra x.1 wr HRa.out (by omega) (HSA.out _ hB) v true HV1.out HV2.out).mono ?_
      rintro e w5 ⟨rfl, hb⟩
      replace hB := hB.trans (hb.mono hB.size)
      obtain ⟨ad1, hA1, hab, c0, c1⟩ := (HSB.out _ hB).lst.fst2 HRb.out hkn
      injection hA1 with hA1
      subst hA1
      rw [HX.out] at c0 c1
      clear hb
      have g1 : decide (x.2 < v) = false := decide_eq_false (by omega)
      go_wp2_with fail
      go_roundw
      case rel => exact ⟨k + 1, by go_num, by omega, hB⟩
      case measure => simp [intOf]; omega
    · obtain rfl : k = nb := by omega
      have g1 : decide ((k : Int) ≤ (na : Int)) = true := decide_eq_true (by omega)
      go_wp2_with fail
      go_ret
      exact ⟨rfl, HB.out.trans (hB.mono HB.out.size)⟩
theorem earlyEarlier_walk (A : Option Addr) (n k : Nat) (ns : List Int) (q now later size more : Int) (hnl : ns.length = n * 8) (_ : ∀ m ∈ ns, (Lit.int .i64 m).wf = true) (_ : (Lit.int .i64 q).wf = true) (_ : (Lit.int .i64 now).wf = true) (_ : (Lit.int .i64 later).wf = true) (_ : (Lit.int .i64 size).wf = true) (_ : (Lit.int .i64 more).wf = true) (w : World) (hl : Sl w w.heap.size 8 A n k (ns.map (Value.int .i64))) :
    Calls Try.prog 5 #[.slice A n k, .int .i64 q, .int .i64 now, .int .i64 later, .int .i64 size, .int .i64 more] w fun e w' => e = .returned (.bool true) ∧ Below w.heap.size w w' := by
  obtain ⟨d, hd, hlf⟩ := rowsEd_of n ns hnl
  rw [hlf] at hl
  exact earlyEarlier_w A n k d q now later size more w hd hl
theorem earlyEarlier_own : ownKnob Try.prog.godebug = none := by kernel_rfl
theorem earlyEarlier_laidOut : laidOutB Try.prog = true := by kernel_rfl

set_option maxHeartbeats 1000000 in
set_option maxRecDepth 100000 in
theorem earlyEarlier_lifted (os : Os) (started : os.Started) (H : Type) (enc : TypeId × Value → H) :
    ReturnsInHanded {} Try.checked os 5 .any (Rows.earlyEarlierSpec.pre6 enc Try.prog Try.f5 Rows.earlyEarlierRow.domain false) (Rows.earlyEarlierSpec.post enc Try.prog Try.f5 false true false false) := by
  refine returnsInHanded_of_change (C := Try.checked) earlyEarlier_own started (by kernel_rfl) Try.func5
    (ChangeSpec.witness6 (enc := enc) (C := Try.checked) false ⟨#[], #[.slice none 0 0, .int .i64 0, .int .i64 0, .int .i64 0, .int .i64 0, .int .i64 0], []⟩ 8 (by kernel_rfl) (by kernel_rfl) (by kernel_rfl) (by kernel_rfl)) ?_
  intro W base args ds gs before hval0 hW hcnd _
  have hval : ∀ (j : Nat) t v, Try.f5.params[j]? = some t → args[j]? = some v → Value.okWide Try.prog W .any base t v := hval0
  have hW' := hW
  obtain ⟨p, q, hA0, hV, rfl, hfz, hnd⟩ := hW
  have hA : DataW.TrodAll enc Try.prog W 0 (fun _ => true) true Try.f5.params.toList args.toList ds p := hA0
  rw [Try.params5] at hA hval
  obtain ⟨v0, vs0, d0, ds0, p0, q0, hargs, rfl, rfl, h0, r0⟩ := trodAll_cons hA
  obtain ⟨v1, vs1, d1, ds1, p1, q1, rfl, rfl, rfl, h1, r1⟩ := trodAll_cons r0
  obtain ⟨v2, vs2, d2, ds2, p2, q2, rfl, rfl, rfl, h2, r2⟩ := trodAll_cons r1
  obtain ⟨v3, vs3, d3, ds3, p3, q3, rfl, rfl, rfl, h3, r3⟩ := trodAll_cons r2
  obtain ⟨v4, vs4, d4, ds4, p4, q4, rfl, rfl, rfl, h4, r4⟩ := trodAll_cons r3
  obtain ⟨v5, vs5, d5, ds5, p5, q5, rfl, rfl, rfl, h5, r5⟩ := trodAll_cons r4
  obtain ⟨rfl, rfl, rfl⟩ := trodAll_nil r5
  obtain rfl : args = #[v0, v1, v2, v3, v4, v5] := by cases args; simp_all
  obtain ⟨rfl, rfl⟩ := trodVars_none hV
  obtain ⟨A0, n0, c0, ns0, rfl, hl0, nl0, w0⟩ := open_rowsS 4 (K := 8) Try.underlying22 (by kernel_rfl) (by kernel_rfl) (by omega) (hval 0 22 v0 rfl rfl) h0
  obtain ⟨a1, rfl, rfl, rfl, w1⟩ := open_int Try.underlying3 (hval 1 3 v1 rfl rfl) h1
  obtain ⟨a2, rfl, rfl, rfl, w2⟩ := open_int Try.underlying3 (hval 2 3 v2 rfl rfl) h2
  obtain ⟨a3, rfl, rfl, rfl, w3⟩ := open_int Try.underlying3 (hval 3 3 v3 rfl rfl) h3
  obtain ⟨a4, rfl, rfl, rfl, w4⟩ := open_int Try.underlying3 (hval 4 3 v4 rfl rfl) h4
  obtain ⟨a5, rfl, rfl, rfl, w5⟩ := open_int Try.underlying3 (hval 5 3 v5 rfl rfl) h5
  clear hA0 hval0
  refine (earlyEarlier_walk A0 n0 c0 ns0 a1 a2 a3 a4 a5 nl0 w0 w1 w2 w3 w4 w5 W hl0).mono fun e W' ⟨he, bel⟩ => ?_
  subst he
  exact ⟨_, rfl, law_post earlyEarlier_laidOut (by kernel_rfl) rfl Try.underlying4 rfl rfl hW' bel⟩

theorem earlyEarlier_proved : Rows.EarlyEarlierSaid :=
  OpenClaim.holds_of_wide 5 Try.f5 rfl rfl rfl rfl rfl rfl rfl ⟨rfl, rfl, rfl, rfl, rfl⟩ rfl rfl rfl rfl rfl (by kernel_rfl) Try.func5 (by kernel_rfl)
    (of_decide_eq_true (by kernel_rfl)) (by unfold Func.isWrapper; first | (rw [if_pos (by decide +kernel)]; kernel_rfl) | (rw [if_neg (by decide +kernel)]; exact ⟨rfl, rfl⟩))
    (fun os started H enc _ => earlyEarlier_lifted os started H enc)
#print axioms earlyEarlier_proved
end Go.Proofs.Ytblihpghalhjoaa
