/- Who may not enter some nodes is in none of them, and nowhere earlier: EarlyShuts returns true. No condition. -/
import Derived.Test.YtblihpghalhjoaaRows
import Derived.Test.YtblihpghalhjoaaSmall15
import Derived.Test.YtblihpghalhjoaaEarlyMath3
import Derived.Test.YtblihpghalhjoaaOpenS
namespace Go.Proofs.Ytblihpghalhjoaa
open Go.ChangeShapes Go.WideShapes Go.ChangeAt Go.RowKit Go.Sort Hp
set_option linter.unusedSimpArgs false
set_option linter.unusedVariables false
theorem wf_ints15 {ns : List Int} (hw : ∀ m ∈ ns, (Lit.int .i64 m).wf = true) : ∀ q, q < ns.length → (Lit.int .i64 (ns.getD q 0)).wf = true := fun q hq => by
  rw [List.getD_eq_getElem?_getD, List.getElem?_eq_getElem hq]
  exact hw _ (List.getElem_mem hq)
theorem add_succ' (ad : Addr) (j : Nat) : ad.add (j + 1) = ⟨ad.block, ad.off + (j + 1), none⟩ := by
  unfold Addr.add; simp
set_option maxHeartbeats 8000000 in
set_option maxRecDepth 100000 in
theorem earlyShuts_w (A : Option Addr) (n c : Nat) (l : List Ed) (q now size : Int) (As : Option Addr) (m cs : Nat) (sh : List Int) (w : World) (hd : l.length = n) (hs : sh.length = m) (hwf : ∀ k, k < m → (Lit.int .i64 (sh.getD k 0)).wf = true) (hl : Sl w w.heap.size 8 A n c (flatEd l)) (hls : Sl w w.heap.size 1 As m cs (sh.map (Value.int .i64))) :
    Calls Try.prog 6 #[.slice A n c, .int .i64 q, .int .i64 now, .int .i64 size, .slice As m cs] w fun e w' => e = .returned (.bool true) ∧ Below w.heap.size w w' := by
  have HD := Lib.hid hd
  have HL := Lib.hid (fun w' (hb : Below w.heap.size w w') => hl.up hb)
  clear hd hl
  have HS := Lib.hid hs
  have HWF := Lib.hid hwf
  have HLS := Lib.hid (fun w' (hb : Below w.heap.size w w') => hls.up hb)
  clear hs hwf hls
  go_enter Try.func6, Try.ntmps6
  go_wp2_with fail
  refine (small15_any w).mono ?_
  rintro e w1 ⟨rfl, hB⟩
  by_cases hn : 40 < n ∨ 40 < m
  · have hn' : 40 < n ∨ (n ≤ 40 ∧ 40 < m) := by omega
    clear hn
    rcases hn' with hn | ⟨hn, h1⟩
    all_goals
      go_wp2_with fail
      go_ret
      exact ⟨rfl, hB⟩
  have hn1 : n ≤ 40 := by omega
  have hn2 : m ≤ 40 := by omega
  clear hn
  go_wp2_with fail
  refine (etimes_any A n c l q now size none 0 0 [] w1 HD.out (by omega) rfl (by omega) (fun k hk => by omega) (HL.out _ hB) (Sl.nil0 _ _ _)).mono ?_
  rintro e w2 ⟨Aa, na, ca, ra, rfl, hra, hna, hTa, hSa, hb⟩
  replace hB := hB.trans (hb.mono hB.size)
  have HRa := Lib.hid hra
  have HTa := Lib.hid hTa
  clear hb hra hTa
  go_wp2_with fail
  refine (etimes_any A n c l q now size As m cs sh w2 HD.out (by omega) HS.out (by omega) HWF.out (HL.out _ hB) (HLS.out _ hB)).mono ?_
  rintro e w3 ⟨Ab, nb, cb, rb, rfl, hrb, hnb, hTb, hSb, hb⟩
  replace hB := hB.trans (hb.mono hB.size)
  replace hSa := hSa.up hb
  have HRb := Lib.hid hrb
  have HTb := Lib.hid hTb
  clear hb hrb hTb
  obtain ⟨hJ, hK, hP⟩ := shuts_math HTa.out HTb.out
  rw [HRa.out, HRb.out] at hP
  have HJ := Lib.hid hJ
  have HK := Lib.hid hK
  have HP := Lib.hid hP
  have HSA := Lib.hid (fun w' (hb : Below w3.heap.size w3 w') => hSa.up hb)
  have HSB := Lib.hid (fun w' (hb : Below w3.heap.size w3 w') => hSb.up hb)
  have HB := Lib.hid hB
  have HLS3 : Hid (∀ w', Below w3.heap.size w3 w' → Sl w' w'.heap.size 1 As m cs (sh.map (Value.int .i64))) := fun w' hb => HLS.out _ (HB.out.trans (hb.mono HB.out.size))
  clear hJ hK hP hSa hSb hB
  go_wp2_with fail
  go_loopw [14] (fun iv wr => ∃ k : Nat, iv = .int .i64 k ∧ k ≤ nb ∧ Below w3.heap.size w3 wr) (fun iv _ => nb - (intOf iv).toNat)
  case atStart => exact ⟨0, rfl, by omega, Below.refl _ _⟩
  case round =>
    obtain ⟨k, rfl, hk, hB⟩ := hrel
    by_cases hkn : k < nb
    · obtain ⟨ad, rfl, hab, c0, c1⟩ := (HSB.out _ hB).lst.fst2 HRb.out hkn
      obtain ⟨v, hv, hle⟩ := HJ.out k (by rw [HRb.out]; exact hkn)
      obtain ⟨x, hx⟩ : ∃ x, gt rb k = x := ⟨_, rfl⟩
      rw [hx] at c0 c1 hv hle
      have HX := Lib.hid hx
      have HV1 := Lib.hid (show (atR ra x.1).getD 0 = v by rw [hv]; rfl)
      have HV2 := Lib.hid (show (atR ra x.1).isSome = true by rw [hv]; rfl)
      clear hx hv
      go_wp2_with fail
      clear c0 c1 hab
      refine (eat_any Aa na ca ra x.1 wr HRa.out (by omega) (HSA.out _ hB) v true HV1.out HV2.out).mono ?_
      rintro e w5 ⟨rfl, hb⟩
      replace hB := hB.trans (hb.mono hB.size)
      have hs5 := hB.size
      clear hb
      rcases Nat.eq_zero_or_pos k with rfl | hk0
      · obtain ⟨ad1, hA1, hab, c0, c1⟩ := (HSB.out _ hB).lst.fst2 HRb.out hkn
        injection hA1 with hA1
        subst hA1
        rw [HX.out] at c0 c1
        simp only [Nat.zero_mul, Addr.add_zero'] at c0 c1
        have g1 : decide (x.2 < v) = false := decide_eq_false (by omega)
        have g3 : decide (0 < nb) = true := decide_eq_true hkn
        have hkI : (0 : Int) < (nb : Int) := by omega
        go_wp2_with fail
        clear hle
        have q_c0 := fun d os => cell_regrown c0 d os
        have q_c1 := fun d os => cell_regrown c1 d os
        try simp only [List.append]
        first | refine wp_region_text_below ?_ | refine wp_region_quiet_below (by kernel_rfl) (by kernel_rfl) ?_
        repeat (go_big_quiet_step ((fail)))
        refine wpQuiet_nil ?_
        intro _ hqw
        obtain ⟨pq, hqw⟩ := hqw
        subst hqw
        clear q_c0 q_c1
        have hbel := below_regrown w5 pq.d pq.os
        replace hB := hB.trans (hbel.mono hs5)
        clear hbel c0 c1 hab
        generalize grow (redrawn w5 pq.d) pq.os = wq at *
        go_wp2_with fail
        go_roundw
        case rel => exact ⟨0 + 1, by go_num, by omega, hB⟩
        case measure => simp [intOf]; omega
      · obtain ⟨p, rfl⟩ : ∃ p, k = p + 1 := ⟨k - 1, by omega⟩
        have hlt := srt_lt HTb.out.srt (k := p) (by rw [HRb.out]; exact hkn)
        rw [HX.out] at hlt
        obtain ⟨ad1, hA1, hab, c0, c1⟩ := (HSB.out _ hB).lst.fst2 HRb.out hkn
        injection hA1 with hA1
        subst hA1
        rw [HX.out] at c0 c1
        obtain ⟨ad1, hA1, _, y0, y1⟩ := (HSB.out _ hB).lst.fst2 HRb.out (k := p) (by omega)
        injection hA1 with hA1
        subst hA1
        obtain ⟨y, hy⟩ : ∃ y, gt rb p = y := ⟨_, rfl⟩
        rw [hy] at y0 y1 hlt
        have g1 : decide (x.2 < v) = false := decide_eq_false (by omega)
        have g2 : decide (x.1 ≤ y.1) = false := decide_eq_false (by omega)
        clear hy hlt hle hk0
        go_wp2_with fail
        have g4 : ((p : Int) + 1 - 1) = (p : Int) := by omega
        have hpI : (p : Int) < (nb : Int) := by omega
        have hpI1 : (p : Int) + 1 < (nb : Int) := by omega
        have g5 : decide ((0 : Int) < (p : Int) + 1) = true := decide_eq_true (by omega)
        have hw1 : IntKind.i64.wrap (p : Int) = (p : Int) := IntWalk.i64_in _ (by omega)
        have q_c0 := fun d os => cell_regrown c0 d os
        have q_c1 := fun d os => cell_regrown c1 d os
        have q_y0 := fun d os => cell_regrown y0 d os
        have q_y1 := fun d os => cell_regrown y1 d os
        try simp only [List.append]
        first | refine wp_region_text_below ?_ | refine wp_region_quiet_below (by kernel_rfl) (by kernel_rfl) ?_
        repeat (go_big_quiet_step ((fail)))
        refine wpQuiet_nil ?_
        intro _ hqw
        obtain ⟨pq, hqw⟩ := hqw
        subst hqw
        clear q_c0 q_c1 q_y0 q_y1
        have hbel := below_regrown w5 pq.d pq.os
        replace hB := hB.trans (hbel.mono hs5)
        clear hbel c0 c1 y0 y1 hab hw1
        generalize grow (redrawn w5 pq.d) pq.os = wq at *
        go_wp2_with fail
        go_roundw
        case rel => exact ⟨(p + 1) + 1, by go_num, by omega, hB⟩
        case measure => simp [intOf]; omega
    · obtain rfl : k = nb := by omega
      have HB5 := Lib.hid hB
      obtain ⟨wO, hwO⟩ : ∃ x, x = wr := ⟨_, rfl⟩
      subst hwO
      clear hB
      go_wp2_with fail
      go_loopw [17] (fun iv wr => ∃ j : Nat, iv = .int .i64 j ∧ j ≤ m ∧ Below w3.heap.size w3 wr) (fun iv _ => m - (intOf iv).toNat)
      case atStart => exact ⟨0, rfl, by omega, HB5.out⟩
      case round =>
        obtain ⟨j, rfl, hj, hB⟩ := hrel
        by_cases hjm : j < m
        · obtain ⟨ad, rfl, hab, c0⟩ := (HLS3.out _ hB).lst.atI HS.out hjm
          obtain ⟨x, hx⟩ : ∃ x, sh.getD j 0 = x := ⟨_, rfl⟩
          rw [hx] at c0
          have hmem : x ∈ sh := by
            have hjl : j < sh.length := by rw [HS.out]; exact hjm
            rw [← hx, List.getD_eq_getElem?_getD, List.getElem?_eq_getElem hjl]; exact List.getElem_mem _
          have HX := Lib.hid hx
          obtain ⟨v, hv⟩ : ∃ v, (atR rb x).getD 0 = v := ⟨_, rfl⟩
          obtain ⟨ok, hok⟩ : ∃ v, (atR rb x).isSome = v := ⟨_, rfl⟩
          have HV1 := Lib.hid hv
          have HV2 := Lib.hid hok
          have HXQ : Hid (ok = true → x = q) := fun h => HK.out x hmem (by rw [hok]; exact h)
          clear hx hv hok hmem
          go_wp2_with fail
          clear c0 hab
          refine (eat_any Ab k cb rb x wr HRb.out (by omega) (HSB.out _ hB) v ok HV1.out HV2.out).mono ?_
          rintro e w5 ⟨rfl, hb⟩
          replace hB := hB.trans (hb.mono hB.size)
          clear hb
          cases ok with
          | false =>
            go_wp2_with fail
            go_roundw
            case rel => exact ⟨j + 1, by go_num, by omega, hB⟩
            case measure => simp [intOf]; omega
          | true =>
            obtain rfl : x = q := HXQ.out rfl
            obtain ⟨ad1, hA1, hab, c0⟩ := (HLS3.out _ hB).lst.atI HS.out hjm
            injection hA1 with hA1
            subst hA1
            rw [HX.out] at c0
            go_wp2_with fail
            go_roundw
            case rel => exact ⟨j + 1, by go_num, by omega, hB⟩
            case measure => simp [intOf]; omega
        · obtain rfl : j = m := by omega
          rcases Nat.eq_zero_or_pos k with hk0 | hk0
          · have hz : na = 0 := by have := HP.out; omega
            have g1 : decide ((0 : Int) < (k : Int)) = false := decide_eq_false (by omega)
            have g2 : decide ((0 : Int) < (na : Int)) = false := decide_eq_false (by omega)
            have g1n : decide (0 < k) = false := decide_eq_false (by omega)
            have g2n : decide (0 < na) = false := decide_eq_false (by omega)
            clear hk0 hz
            go_wp2_with fail
            go_ret
            exact ⟨rfl, HB.out.trans (hB.mono HB.out.size)⟩
          · have hz : 0 < na := by have := HP.out; omega
            have g1 : decide ((0 : Int) < (k : Int)) = true := decide_eq_true (by omega)
            have g2 : decide ((0 : Int) < (na : Int)) = true := decide_eq_true (by omega)
            have g1n : decide (0 < k) = true := decide_eq_true (by omega)
            have g2n : decide (0 < na) = true := decide_eq_true (by omega)
            clear hk0 hz
            go_wp2_with fail
            go_ret
            exact ⟨rfl, HB.out.trans (hB.mono HB.out.size)⟩
theorem earlyShuts_walk (A : Option Addr) (n k : Nat) (ns : List Int) (q now size : Int) (As : Option Addr) (m cs : Nat) (sh : List Int) (hnl : ns.length = n * 8) (_ : ∀ m ∈ ns, (Lit.int .i64 m).wf = true) (_ : (Lit.int .i64 q).wf = true) (_ : (Lit.int .i64 now).wf = true) (_ : (Lit.int .i64 size).wf = true) (hnl' : sh.length = m * 1) (hw' : ∀ m ∈ sh, (Lit.int .i64 m).wf = true) (w : World) (hl : Sl w w.heap.size 8 A n k (ns.map (Value.int .i64))) (hls : Sl w w.heap.size 1 As m cs (sh.map (Value.int .i64))) :
    Calls Try.prog 6 #[.slice A n k, .int .i64 q, .int .i64 now, .int .i64 size, .slice As m cs] w fun e w' => e = .returned (.bool true) ∧ Below w.heap.size w w' := by
  obtain ⟨d, hd, hlf⟩ := rowsEd_of n ns hnl
  rw [hlf] at hl
  exact earlyShuts_w A n k d q now size As m cs sh w hd (by omega) (fun q hq => wf_ints15 hw' q (by omega)) hl hls
theorem earlyShuts_own : ownKnob Try.prog.godebug = none := by kernel_rfl
theorem earlyShuts_laidOut : laidOutB Try.prog = true := by kernel_rfl

set_option maxHeartbeats 1000000 in
set_option maxRecDepth 100000 in
theorem earlyShuts_lifted (os : Os) (started : os.Started) (H : Type) (enc : TypeId × Value → H) :
    ReturnsInHanded {} Try.checked os 6 .any (Rows.earlyShutsSpec.pre6 enc Try.prog Try.f6 Rows.earlyShutsRow.domain false) (Rows.earlyShutsSpec.post enc Try.prog Try.f6 false true false false) := by
  refine returnsInHanded_of_change (C := Try.checked) earlyShuts_own started (by kernel_rfl) Try.func6
    (ChangeSpec.witness6 (enc := enc) (C := Try.checked) false ⟨#[], #[.slice none 0 0, .int .i64 0, .int .i64 0, .int .i64 0, .slice none 0 0], []⟩ 8 (by kernel_rfl) (by kernel_rfl) (by kernel_rfl) (by kernel_rfl)) ?_
  intro W base args ds gs before hval0 hW hcnd _
  have hval : ∀ (j : Nat) t v, Try.f6.params[j]? = some t → args[j]? = some v → Value.okWide Try.prog W .any base t v := hval0
  have hW' := hW
  obtain ⟨p, q, hA0, hV, rfl, hfz, hnd⟩ := hW
  have hA : DataW.TrodAll enc Try.prog W 0 (fun _ => true) true Try.f6.params.toList args.toList ds p := hA0
  rw [Try.params6] at hA hval
  obtain ⟨v0, vs0, d0, ds0, p0, q0, hargs, rfl, rfl, h0, r0⟩ := trodAll_cons hA
  obtain ⟨v1, vs1, d1, ds1, p1, q1, rfl, rfl, rfl, h1, r1⟩ := trodAll_cons r0
  obtain ⟨v2, vs2, d2, ds2, p2, q2, rfl, rfl, rfl, h2, r2⟩ := trodAll_cons r1
  obtain ⟨v3, vs3, d3, ds3, p3, q3, rfl, rfl, rfl, h3, r3⟩ := trodAll_cons r2
  obtain ⟨v4, vs4, d4, ds4, p4, q4, rfl, rfl, rfl, h4, r4⟩ := trodAll_cons r3
  obtain ⟨rfl, rfl, rfl⟩ := trodAll_nil r4
  obtain rfl : args = #[v0, v1, v2, v3, v4] := by cases args; simp_all
  obtain ⟨rfl, rfl⟩ := trodVars_none hV
  obtain ⟨A0, n0, c0, ns0, rfl, hl0, nl0, w0⟩ := open_rowsS 4 (K := 8) Try.underlying22 (by kernel_rfl) (by kernel_rfl) (by omega) (hval 0 22 v0 rfl rfl) h0
  obtain ⟨a1, rfl, rfl, rfl, w1⟩ := open_int Try.underlying3 (hval 1 3 v1 rfl rfl) h1
  obtain ⟨a2, rfl, rfl, rfl, w2⟩ := open_int Try.underlying3 (hval 2 3 v2 rfl rfl) h2
  obtain ⟨a3, rfl, rfl, rfl, w3⟩ := open_int Try.underlying3 (hval 3 3 v3 rfl rfl) h3
  obtain ⟨A4, n4, c4, ns4, rfl, hl4, nl4, w4⟩ := open_rowsS 4 (K := 1) Try.underlying23 (by kernel_rfl) (by kernel_rfl) (by omega) (hval 4 23 v4 rfl rfl) h4
  clear hA0 hval0
  refine (earlyShuts_walk A0 n0 c0 ns0 a1 a2 a3 A4 n4 c4 ns4 nl0 w0 w1 w2 w3 nl4 w4 W hl0 hl4).mono fun e W' ⟨he, bel⟩ => ?_
  subst he
  exact ⟨_, rfl, law_post earlyShuts_laidOut (by kernel_rfl) rfl Try.underlying4 rfl rfl hW' bel⟩

theorem earlyShuts_proved : Rows.EarlyShutsSaid :=
  OpenClaim.holds_of_wide 6 Try.f6 rfl rfl rfl rfl rfl rfl rfl ⟨rfl, rfl, rfl, rfl, rfl⟩ rfl rfl rfl rfl rfl (by kernel_rfl) Try.func6 (by kernel_rfl)
    (of_decide_eq_true (by kernel_rfl)) (by unfold Func.isWrapper; first | (rw [if_pos (by decide +kernel)]; kernel_rfl) | (rw [if_neg (by decide +kernel)]; exact ⟨rfl, rfl⟩))
    (fun os started H enc _ => earlyShuts_lifted os started H enc)
#print axioms earlyShuts_proved
end Go.Proofs.Ytblihpghalhjoaa
