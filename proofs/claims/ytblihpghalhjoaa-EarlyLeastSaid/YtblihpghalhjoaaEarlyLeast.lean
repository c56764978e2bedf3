/- No walk is anywhere earlier than is told, and no edge leads on to anywhere earlier: EarlyLeast returns true. No condition. -/
import Derived.Test.YtblihpghalhjoaaRows
import Derived.Test.YtblihpghalhjoaaSmall15
import Derived.Test.YtblihpghalhjoaaEarlyMath3
import Derived.Test.YtblihpghalhjoaaOpenS
namespace Go.Proofs.Ytblihpghalhjoaa
open Go.ChangeShapes Go.WideShapes Go.ChangeAt Go.RowKit Go.Sort Hp
set_option linter.unusedSimpArgs false
set_option linter.unusedVariables false
theorem wf_ints15 {ns : List Int} (hw : ∀ m ∈ ns, (Lit.int .i64 m).wf = true) : ∀ q, q < ns.length → (Lit.int .i64 (ns.getD q 0)).wf = true := fun q hq => by
  rw [List.getD_eq_getElem?_getD, List.getElem?_eq_getElem hq]
  exact hw _ (List.getElem_mem hq)
theorem add_succ' (ad : Addr) (j : Nat) : ad.add (j + 1) = ⟨ad.block, ad.off + (j + 1), none⟩ := by
  unfold Addr.add; simp
set_option maxHeartbeats 8000000 in
set_option maxRecDepth 100000 in
theorem earlyLeast_w (A : Option Addr) (n c : Nat) (l : List Ed) (q now size : Int) (As : Option Addr) (m cs : Nat) (ids : List Int) (w : World) (hd : l.length = n) (hs : ids.length = m) (hwf : ∀ k, k < m → (Lit.int .i64 (ids.getD k 0)).wf = true) (hl : Sl w w.heap.size 8 A n c (flatEd l)) (hls : Sl w w.heap.size 1 As m cs (ids.map (Value.int .i64))) :
    Calls Try.prog 4 #[.slice A n c, .int .i64 q, .int .i64 now, .int .i64 size, .slice As m cs] w fun e w' => e = .returned (.bool true) ∧ Below w.heap.size w w' := by
  have HD := Lib.hid hd
  have HL := Lib.hid (fun w' (hb : Below w.heap.size w w') => hl.up hb)
  clear hd hl
  have HS := Lib.hid hs
  have HWF := Lib.hid hwf
  have HLS := Lib.hid (fun w' (hb : Below w.heap.size w w') => hls.up hb)
  clear hs hwf hls
  go_enter Try.func4, Try.ntmps4
  go_wp2_with fail
  refine (small15_any w).mono ?_
  rintro e w1 ⟨rfl, hB⟩
  by_cases hn : 40 < n ∨ 20 < m
  · have hn' : 40 < n ∨ (n ≤ 40 ∧ 20 < m) := by omega
    clear hn
    rcases hn' with hn | ⟨hn, h1⟩
    all_goals
      go_wp2_with fail
      go_ret
      exact ⟨rfl, hB⟩
  have hn1 : n ≤ 40 := by omega
  have hn2 : m ≤ 20 := by omega
  clear hn
  go_wp2_with fail
  refine (etimes_any A n c l q now size none 0 0 [] w1 HD.out (by omega) rfl (by omega) (fun k hk => by omega) (HL.out _ hB) (Sl.nil0 _ _ _)).mono ?_
  rintro e w2 ⟨Aa, na, ca, ra, rfl, hra, hna, hTa, hSa, hb⟩
  replace hB := hB.trans (hb.mono hB.size)
  have HRa := Lib.hid hra
  have HTa := Lib.hid hTa
  clear hb hra hTa
  obtain ⟨oa, hoa⟩ : ∃ o, walkE l ids q now size = o := ⟨_, rfl⟩
  obtain ⟨oe, hoe⟩ : ∃ o, endsE l ids q = o := ⟨_, rfl⟩
  have HOA := Lib.hid hoa
  have HOE := Lib.hid hoe
  clear hoa hoe
  go_wp2_with fail
  refine (pwalk_any A n c l As m cs ids q now size w2 HD.out (by omega) HS.out (by omega) HWF.out (HL.out _ hB) (HLS.out _ hB) oa HOA.out).mono ?_
  rintro e w3 ⟨vh, rfl, hvh, hb⟩
  replace hB := hB.trans (hb.mono hB.size)
  replace hSa := hSa.up hb
  clear hb
  go_wp2_with fail
  refine (pEnds_any A n c l As m cs ids q w3 HD.out (by omega) HS.out (by omega) HWF.out (HL.out _ hB) (HLS.out _ hB) oe HOE.out).mono ?_
  rintro e w4 ⟨ve, rfl, hve, hb⟩
  replace hB := hB.trans (hb.mono hB.size)
  replace hSa := hSa.up hb
  replace hvh := own_below hvh hb
  clear hb
  cases oa with
  | none =>
    obtain ⟨Ah, ch, rfl⟩ := slice_of_own hvh
    obtain ⟨oes, hoes⟩ : ∃ b, oe.isSome = b := ⟨_, rfl⟩
    rw [hoes]
    clear hvh hve hoes
    cases oes
    all_goals
      go_wp2_with fail
      go_ret
      exact ⟨rfl, hB⟩
  | some hs_ =>
    obtain ⟨es, hask, hf, hp⟩ := walkE_some HOA.out
    have he2 := endsE_of (askE_ends hask) hf
    obtain rfl : oe = some (nodesE q es) := HOE.out.symm.trans he2
    have hlf := followE_len hf
    have hlp := passE_len hp
    have hln := nodesE_len q es
    rw [HS.out] at hlf
    rw [hlf] at hlp hln
    have hW := least_walk HTa.out hask hf hp
    have hQ := HTa.out.start hask
    change w4.ownsRow _ _ 3 vh hs_.length (flatHp hs_) at hvh
    change w4.ownsRow _ _ 1 ve (nodesE q es).length ((nodesE q es).map (Value.int .i64)) at hve
    rw [hlp] at hvh
    rw [hln] at hve
    obtain ⟨Ah, ch, rfl⟩ := slice_of_own hvh
    obtain ⟨Ae, ce, rfl⟩ := slice_of_own hve
    have hSh := Sl.of_own hvh
    have hSe := Sl.of_own hve
    have HW : Hid (∀ i, i < m → ∃ u, atR ra ((nodesE q es).getD (i + 1) 0) = some u ∧ u ≤ (gHp hs_ i).ar) := fun i hi => hW i (by rw [hlf]; exact hi)
    have HQ := Lib.hid hQ
    have HLP := Lib.hid hlp
    have HLN := Lib.hid hln
    have HAS := Lib.hid hask
    have HSA := Lib.hid (fun w' (hb : Below w4.heap.size w4 w') => hSa.up hb)
    have HSH := Lib.hid (fun w' (hb : Below w4.heap.size w4 w') => hSh.up hb)
    have HSE := Lib.hid (fun w' (hb : Below w4.heap.size w4 w') => hSe.up hb)
    have HB := Lib.hid hB
    have HL4 : Hid (∀ w', Below w4.heap.size w4 w' → Sl w' w'.heap.size 8 A n c (flatEd l)) := fun w' hb => HL.out _ (HB.out.trans (hb.mono HB.out.size))
    obtain ⟨ns, hns⟩ : ∃ x, nodesE q es = x := ⟨_, rfl⟩
    rw [hns] at HW HLN HSE
    clear hask hf hp he2 hlf hlp hln hW hQ hvh hve hSh hSe hSa hB hns HOE HOA
    go_wp2_with fail
    go_loopw [17] (fun iv wr => ∃ k : Nat, iv = .int .i64 k ∧ k ≤ m ∧ Below w4.heap.size w4 wr) (fun iv _ => m - (intOf iv).toNat)
    case atStart => exact ⟨0, rfl, by omega, Below.refl _ _⟩
    case round =>
      obtain ⟨k, rfl, hk, hB⟩ := hrel
      by_cases hkm : k < m
      · obtain ⟨ad, rfl, hab, c0⟩ := (HSE.out _ hB).lst.atI HLN.out (k := k + 1) (by omega)
        rw [add_succ'] at c0
        obtain ⟨v, hv, hle⟩ := HW.out k hkm
        obtain ⟨x, hx⟩ : ∃ x, ns.getD (k + 1) 0 = x := ⟨_, rfl⟩
        rw [hx] at c0 hv
        have HV1 := Lib.hid (show (atR ra x).getD 0 = v by rw [hv]; rfl)
        have HV2 := Lib.hid (show (atR ra x).isSome = true by rw [hv]; rfl)
        clear hx hv
        go_wp2_with fail
        clear c0 hab
        refine (eat_any Aa na ca ra x wr HRa.out (by omega) (HSA.out _ hB) v true HV1.out HV2.out).mono ?_
        rintro e w5 ⟨rfl, hb⟩
        replace hB := hB.trans (hb.mono hB.size)
        clear hb
        obtain ⟨ad1, rfl, hab1, h0, h1, h2⟩ := (HSH.out _ hB).lst.atHp HLP.out hkm
        obtain ⟨y, hy⟩ : ∃ y, gHp hs_ k = y := ⟨_, rfl⟩
        rw [hy] at h0 h1 h2 hle
        have g1 : decide (y.ar < v) = false := decide_eq_false (by omega)
        clear hy
        go_wp2_with fail
        go_roundw
        case rel => exact ⟨k + 1, by go_num, by omega, hB⟩
        case measure => simp [intOf]; omega
      · obtain rfl : k = m := by omega
        have HB5 := Lib.hid hB
        obtain ⟨wO, hwO⟩ : ∃ x, x = wr := ⟨_, rfl⟩
        subst hwO
        clear hB
        go_wp2_with fail
        go_loopw [20] (fun iv wr => ∃ j : Nat, iv = .int .i64 j ∧ j ≤ n ∧ Below w4.heap.size w4 wr) (fun iv _ => n - (intOf iv).toNat)
        case atStart => exact ⟨0, rfl, by omega, HB5.out⟩
        case round =>
          obtain ⟨j, rfl, hj, hB⟩ := hrel
          by_cases hjn : j < n
          · have hjl : gEd l j ∈ l := gEd_mem (by rw [HD.out]; exact hjn)
            obtain ⟨ad, rfl, hab, e0, e1, e2, e3, e4, e5, e6, e7⟩ := (HL4.out _ hB).lst.atEd HD.out hjn
            obtain ⟨x, hx⟩ : ∃ x, gEd l j = x := ⟨_, rfl⟩
            rw [hx] at e0 e1 e2 e3 e4 e5 e6 e7 hjl
            have HX := Lib.hid hx
            obtain ⟨t, ht⟩ : ∃ v, (atR ra x.fr).getD 0 = v := ⟨_, rfl⟩
            obtain ⟨kn, hkn⟩ : ∃ v, (atR ra x.fr).isSome = v := ⟨_, rfl⟩
            have HT1 := Lib.hid ht
            have HT2 := Lib.hid hkn
            have HJL := Lib.hid hjl
            clear hx ht hkn hjl
            go_wp2_with fail
            clear e0 e1 e2 e3 e4 e5 e6 e7 hab
            refine (eat_any Aa na ca ra x.fr wr HRa.out (by omega) (HSA.out _ hB) t kn HT1.out HT2.out).mono ?_
            rintro e w5 ⟨rfl, hb⟩
            replace hB := hB.trans (hb.mono hB.size)
            clear hb
            obtain ⟨ad1, hA1, hab, e0, e1, e2, e3, e4, e5, e6, e7⟩ := (HL4.out _ hB).lst.atEd HD.out hjn
            injection hA1 with hA1
            subst hA1
            rw [HX.out] at e0 e1 e2 e3 e4 e5 e6 e7
            cases hpp : x.pass t size with
            | none =>
              have HPP := Lib.hid hpp
              clear hpp
              go_wp2_with fail
              clear e0 e1 e2 e3 e4 e5 e6 e7 hab
              refine (hpass_no HPP.out _).mono ?_
              rintro e w6 ⟨rfl, hb⟩
              replace hB := hB.trans (hb.mono hB.size)
              clear hb
              obtain ⟨ad1, hA1, hab, e0, e1, e2, e3, e4, e5, e6, e7⟩ := (HL4.out _ hB).lst.atEd HD.out hjn
              injection hA1 with hA1
              subst hA1
              rw [HX.out] at e0 e1 e2 e3 e4 e5 e6 e7
              obtain ⟨v, hv⟩ : ∃ v, (atR ra x.tn).getD 0 = v := ⟨_, rfl⟩
              obtain ⟨ok, hok⟩ : ∃ v, (atR ra x.tn).isSome = v := ⟨_, rfl⟩
              have HV1 := Lib.hid hv
              have HV2 := Lib.hid hok
              clear hv hok
              go_wp2_with fail
              clear e0 e1 e2 e3 e4 e5 e6 e7 hab
              refine (eat_any Aa na ca ra x.tn w6 HRa.out (by omega) (HSA.out _ hB) v ok HV1.out HV2.out).mono ?_
              rintro e w7 ⟨rfl, hb⟩
              replace hB := hB.trans (hb.mono hB.size)
              clear hb
              cases kn
              all_goals
                go_wp2_with fail
                go_roundw
                case rel => exact ⟨j + 1, by go_num, by omega, hB⟩
                case measure => simp [intOf]; omega
            | some p =>
              obtain ⟨s, a⟩ := p
              have HPP := Lib.hid hpp
              clear hpp
              go_wp2_with fail
              clear e0 e1 e2 e3 e4 e5 e6 e7 hab
              refine (hpass_yes HPP.out _).mono ?_
              rintro e w6 ⟨rfl, hb⟩
              replace hB := hB.trans (hb.mono hB.size)
              clear hb
              obtain ⟨ad1, hA1, hab, e0, e1, e2, e3, e4, e5, e6, e7⟩ := (HL4.out _ hB).lst.atEd HD.out hjn
              injection hA1 with hA1
              subst hA1
              rw [HX.out] at e0 e1 e2 e3 e4 e5 e6 e7
              cases kn with
              | false =>
                obtain ⟨v, hv⟩ : ∃ v, (atR ra x.tn).getD 0 = v := ⟨_, rfl⟩
                obtain ⟨ok, hok⟩ : ∃ v, (atR ra x.tn).isSome = v := ⟨_, rfl⟩
                have HV1 := Lib.hid hv
                have HV2 := Lib.hid hok
                clear hv hok
                go_wp2_with fail
                clear e0 e1 e2 e3 e4 e5 e6 e7 hab
                refine (eat_any Aa na ca ra x.tn w6 HRa.out (by omega) (HSA.out _ hB) v ok HV1.out HV2.out).mono ?_
                rintro e w7 ⟨rfl, hb⟩
                replace hB := hB.trans (hb.mono hB.size)
                clear hb
                go_wp2_with fail
                go_roundw
                case rel => exact ⟨j + 1, by go_num, by omega, hB⟩
                case measure => simp [intOf]; omega
              | true =>
                have hTT : atR ra x.fr = some t := by
                  have h1 := HT1.out
                  have h2 := HT2.out
                  cases h : atR ra x.fr with
                  | none => rw [h] at h2; cases h2
                  | some z => rw [h] at h1; rw [← h1]; rfl
                obtain ⟨v, hv, hle⟩ := least_edge HTa.out HAS.out HJL.out hTT HPP.out
                have HV1 := Lib.hid (show (atR ra x.tn).getD 0 = v by rw [hv]; rfl)
                have HV2 := Lib.hid (show (atR ra x.tn).isSome = true by rw [hv]; rfl)
                clear hTT hv
                go_wp2_with fail
                clear e0 e1 e2 e3 e4 e5 e6 e7 hab
                refine (eat_any Aa na ca ra x.tn w6 HRa.out (by omega) (HSA.out _ hB) v true HV1.out HV2.out).mono ?_
                rintro e w7 ⟨rfl, hb⟩
                replace hB := hB.trans (hb.mono hB.size)
                clear hb
                have g1 : decide (a < v) = false := decide_eq_false (by omega)
                go_wp2_with fail
                go_roundw
                case rel => exact ⟨j + 1, by go_num, by omega, hB⟩
                case measure => simp [intOf]; omega
          · obtain rfl : j = n := by omega
            go_wp2_with fail
            refine (eat_any Aa na ca ra q wr HRa.out (by omega) (HSA.out _ hB) now true (by rw [HQ.out]; rfl) (by rw [HQ.out]; rfl)).mono ?_
            rintro e w7 ⟨rfl, hb⟩
            replace hB := hB.trans (hb.mono hB.size)
            clear hb
            go_wp2_with fail
            go_ret
            exact ⟨rfl, HB.out.trans (hB.mono HB.out.size)⟩
theorem earlyLeast_walk (A : Option Addr) (n k : Nat) (ns : List Int) (q now size : Int) (As : Option Addr) (m cs : Nat) (sh : List Int) (hnl : ns.length = n * 8) (_ : ∀ m ∈ ns, (Lit.int .i64 m).wf = true) (_ : (Lit.int .i64 q).wf = true) (_ : (Lit.int .i64 now).wf = true) (_ : (Lit.int .i64 size).wf = true) (hnl' : sh.length = m * 1) (hw' : ∀ m ∈ sh, (Lit.int .i64 m).wf = true) (w : World) (hl : Sl w w.heap.size 8 A n k (ns.map (Value.int .i64))) (hls : Sl w w.heap.size 1 As m cs (sh.map (Value.int .i64))) :
    Calls Try.prog 4 #[.slice A n k, .int .i64 q, .int .i64 now, .int .i64 size, .slice As m cs] w fun e w' => e = .returned (.bool true) ∧ Below w.heap.size w w' := by
  obtain ⟨d, hd, hlf⟩ := rowsEd_of n ns hnl
  rw [hlf] at hl
  exact earlyLeast_w A n k d q now size As m cs sh w hd (by omega) (fun q hq => wf_ints15 hw' q (by omega)) hl hls
theorem earlyLeast_own : ownKnob Try.prog.godebug = none := by kernel_rfl
theorem earlyLeast_laidOut : laidOutB Try.prog = true := by kernel_rfl

set_option maxHeartbeats 1000000 in
set_option maxRecDepth 100000 in
theorem earlyLeast_lifted (os : Os) (started : os.Started) (H : Type) (enc : TypeId × Value → H) :
    ReturnsInHanded {} Try.checked os 4 .any (Rows.earlyLeastSpec.pre6 enc Try.prog Try.f4 Rows.earlyLeastRow.domain false) (Rows.earlyLeastSpec.post enc Try.prog Try.f4 false true false false) := by
  refine returnsInHanded_of_change (C := Try.checked) earlyLeast_own started (by kernel_rfl) Try.func4
    (ChangeSpec.witness6 (enc := enc) (C := Try.checked) false ⟨#[], #[.slice none 0 0, .int .i64 0, .int .i64 0, .int .i64 0, .slice none 0 0], []⟩ 8 (by kernel_rfl) (by kernel_rfl) (by kernel_rfl) (by kernel_rfl)) ?_
  intro W base args ds gs before hval0 hW hcnd _
  have hval : ∀ (j : Nat) t v, Try.f4.params[j]? = some t → args[j]? = some v → Value.okWide Try.prog W .any base t v := hval0
  have hW' := hW
  obtain ⟨p, q, hA0, hV, rfl, hfz, hnd⟩ := hW
  have hA : DataW.TrodAll enc Try.prog W 0 (fun _ => true) true Try.f4.params.toList args.toList ds p := hA0
  rw [Try.params4] at hA hval
  obtain ⟨v0, vs0, d0, ds0, p0, q0, hargs, rfl, rfl, h0, r0⟩ := trodAll_cons hA
  obtain ⟨v1, vs1, d1, ds1, p1, q1, rfl, rfl, rfl, h1, r1⟩ := trodAll_cons r0
  obtain ⟨v2, vs2, d2, ds2, p2, q2, rfl, rfl, rfl, h2, r2⟩ := trodAll_cons r1
  obtain ⟨v3, vs3, d3, ds3, p3, q3, rfl, rfl, rfl, h3, r3⟩ := trodAll_cons r2
  obtain ⟨v4, vs4, d4, ds4, p4, q4, rfl, rfl, rfl, h4, r4⟩ := trodAll_cons r3
  obtain ⟨rfl, rfl, rfl⟩ := trodAll_nil r4
  obtain rfl : args = #[v0, v1, v2, v3, v4] := by cases args; simp_all
  obtain ⟨rfl, rfl⟩ := trodVars_none hV
  obtain ⟨A0, n0, c0, ns0, rfl, hl0, nl0, w0⟩ := open_rowsS 4 (K := 8) Try.underlying22 (by kernel_rfl) (by kernel_rfl) (by omega) (hval 0 22 v0 rfl rfl) h0
  obtain ⟨a1, rfl, rfl, rfl, w1⟩ := open_int Try.underlying3 (hval 1 3 v1 rfl rfl) h1
  obtain ⟨a2, rfl, rfl, rfl, w2⟩ := open_int Try.underlying3 (hval 2 3 v2 rfl rfl) h2
  obtain ⟨a3, rfl, rfl, rfl, w3⟩ := open_int Try.underlying3 (hval 3 3 v3 rfl rfl) h3
  obtain ⟨A4, n4, c4, ns4, rfl, hl4, nl4, w4⟩ := open_rowsS 4 (K := 1) Try.underlying23 (by kernel_rfl) (by kernel_rfl) (by omega) (hval 4 23 v4 rfl rfl) h4
  clear hA0 hval0
  refine (earlyLeast_walk A0 n0 c0 ns0 a1 a2 a3 A4 n4 c4 ns4 nl0 w0 w1 w2 w3 nl4 w4 W hl0 hl4).mono fun e W' ⟨he, bel⟩ => ?_
  subst he
  exact ⟨_, rfl, law_post earlyLeast_laidOut (by kernel_rfl) rfl Try.underlying4 rfl rfl hW' bel⟩

theorem earlyLeast_proved : Rows.EarlyLeastSaid :=
  OpenClaim.holds_of_wide 4 Try.f4 rfl rfl rfl rfl rfl rfl rfl ⟨rfl, rfl, rfl, rfl, rfl⟩ rfl rfl rfl rfl rfl (by kernel_rfl) Try.func4 (by kernel_rfl)
    (of_decide_eq_true (by kernel_rfl)) (by unfold Func.isWrapper; first | (rw [if_pos (by decide +kernel)]; kernel_rfl) | (rw [if_neg (by decide +kernel)]; exact ⟨rfl, rfl⟩))
    (fun os started H enc _ => earlyLeast_lifted os started H enc)
#print axioms earlyLeast_proved
end Go.Proofs.Ytblihpghalhjoaa
