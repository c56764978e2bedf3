/- With more hops, with a later time to be there, and with fewer nodes shut, one may be ready no earlier: LateMore returns true. No condition. -/
import Derived.Test.YtjkcjbcbnnpmfaaRows
import Derived.Test.YtjkcjbcbnnpmfaaSmall16
import Derived.Test.YtjkcjbcbnnpmfaaLateMath2
import Derived.Test.YtjkcjbcbnnpmfaaOpenS
namespace Go.Proofs.Ytjkcjbcbnnpmfaa
open Go.ChangeShapes Go.WideShapes Go.ChangeAt Go.RowKit Go.Sort Hp
set_option linter.unusedSimpArgs false
set_option linter.unusedVariables false
theorem wf_ints15 {ns : List Int} (hw : ∀ m ∈ ns, (Lit.int .i64 m).wf = true) : ∀ q, q < ns.length → (Lit.int .i64 (ns.getD q 0)).wf = true := fun q hq => by
  rw [List.getD_eq_getElem?_getD, List.getElem?_eq_getElem hq]
  exact hw _ (List.getElem_mem hq)
set_option maxHeartbeats 8000000 in
set_option maxRecDepth 100000 in
theorem lateMore_w (A : Option Addr) (n c : Nat) (l : List Ed) (q by_ later size hops : Int) (As : Option Addr) (m cs : Nat) (sh : List Int) (w : World) (hd : l.length = n) (hs : sh.length = m) (hwf : ∀ k, k < m → (Lit.int .i64 (sh.getD k 0)).wf = true) (hl : Sl w w.heap.size 8 A n c (flatEd l)) (hls : Sl w w.heap.size 1 As m cs (sh.map (Value.int .i64))) :
    Calls Try.prog 5 #[.slice A n c, .int .i64 q, .int .i64 by_, .int .i64 later, .int .i64 size, .int .i64 hops, .slice As m cs] w fun e w' => e = .returned (.bool true) ∧ Below w.heap.size w w' := by
  have HD := Lib.hid hd
  have HL := Lib.hid (fun w' (hb : Below w.heap.size w w') => hl.up hb)
  clear hd hl
  have HS := Lib.hid hs
  have HWF := Lib.hid hwf
  have HLS := Lib.hid (fun w' (hb : Below w.heap.size w w') => hls.up hb)
  clear hs hwf hls
  go_enter Try.func5, Try.ntmps5
  go_wp2_with fail
  refine (small16_any w).mono ?_
  rintro e w1 ⟨rfl, hB⟩
  by_cases hn : 30 < n ∨ 30 < m ∨ by_ < 0 ∨ later < by_ ∨ 1099511627776 < later ∨ hops < 0 ∨ 1000 < hops
  · have hn' : (30 < n) ∨ (n ≤ 30 ∧ 30 < m) ∨ (n ≤ 30 ∧ m ≤ 30 ∧ by_ < 0) ∨ (n ≤ 30 ∧ m ≤ 30 ∧ ¬ by_ < 0 ∧ later < by_) ∨ (n ≤ 30 ∧ m ≤ 30 ∧ ¬ by_ < 0 ∧ ¬ later < by_ ∧ 1099511627776 < later) ∨ (n ≤ 30 ∧ m ≤ 30 ∧ ¬ by_ < 0 ∧ ¬ later < by_ ∧ ¬ 1099511627776 < later ∧ hops < 0) ∨ (n ≤ 30 ∧ m ≤ 30 ∧ ¬ by_ < 0 ∧ ¬ later < by_ ∧ ¬ 1099511627776 < later ∧ ¬ hops < 0 ∧ 1000 < hops) := by omega
    clear hn
    rcases hn' with hn | ⟨hn, h1⟩ | ⟨hn, h1, h2⟩ | ⟨hn, h1, h2, h3⟩ | ⟨hn, h1, h2, h3, h4⟩ | ⟨hn, h1, h2, h3, h4, h5⟩ | ⟨hn, h1, h2, h3, h4, h5, h6⟩
    all_goals
      go_wp2_with fail
      go_ret
      exact ⟨rfl, hB⟩
  have hn1 : n ≤ 30 := by omega
  have hn2 : m ≤ 30 := by omega
  have hn3 : ¬ by_ < 0 := by omega
  have hn4 : ¬ later < by_ := by omega
  have hn5 : ¬ 1099511627776 < later := by omega
  have hn6 : ¬ hops < 0 := by omega
  have hn7 : ¬ 1000 < hops := by omega
  clear hn
  have hw1 : IntKind.i64.wrap (hops + 1) = hops + 1 := IntWalk.i64_in _ (by omega)
  go_wp2_with fail
  refine (ltimes_any A n c l q by_ size hops As m cs sh w1 HD.out (by omega) HS.out (by omega) HWF.out (HL.out _ hB) (HLS.out _ hB)).mono ?_
  rintro e w2 ⟨Aa, na, ca, ra, rfl, hra, hna, hTa, hSa, hb⟩
  replace hB := hB.trans (hb.mono hB.size)
  have HRa := Lib.hid hra
  have HTa := Lib.hid hTa
  clear hb hra hTa
  go_wp2_with fail
  refine (ltimes_any A n c l q by_ size (hops + 1) As m cs sh w2 HD.out (by omega) HS.out (by omega) HWF.out (HL.out _ hB) (HLS.out _ hB)).mono ?_
  rintro e w3 ⟨Ab, nb, cb, rb, rfl, hrb, hnb, hTb, hSb, hb⟩
  replace hB := hB.trans (hb.mono hB.size)
  replace hSa := hSa.up hb
  have HRb := Lib.hid hrb
  have HTb := Lib.hid hTb
  clear hb hrb hTb
  go_wp2_with fail
  refine (ltimes_any A n c l q later size hops As m cs sh w3 HD.out (by omega) HS.out (by omega) HWF.out (HL.out _ hB) (HLS.out _ hB)).mono ?_
  rintro e w4 ⟨Ac, nc, cc, rc, rfl, hrc, hnc, hTc, hSc, hb⟩
  replace hB := hB.trans (hb.mono hB.size)
  replace hSa := hSa.up hb
  replace hSb := hSb.up hb
  have HRc := Lib.hid hrc
  have HTc := Lib.hid hTc
  clear hb hrc hTc
  go_wp2_with fail
  refine (ltimes_any A n c l q by_ size hops none 0 0 [] w4 HD.out (by omega) rfl (by omega) (fun k hk => by omega) (HL.out _ hB) (Sl.nil0 _ _ _)).mono ?_
  rintro e w5 ⟨Ad, nd, cd, rd, rfl, hrd, hnd, hTd, hSd, hb⟩
  replace hB := hB.trans (hb.mono hB.size)
  replace hSa := hSa.up hb
  replace hSb := hSb.up hb
  replace hSc := hSc.up hb
  have HRd := Lib.hid hrd
  have HTd := Lib.hid hTd
  clear hb hrd hTd
  obtain ⟨hJ, hend⟩ := more_math (by omega) (by omega) (by omega) (by omega) HTa.out HTb.out HTc.out HTd.out
  rw [HRa.out] at hJ hend
  have HJ := Lib.hid hJ
  have HEND := Lib.hid hend
  have HSA := Lib.hid (fun w' (hb : Below w5.heap.size w5 w') => hSa.up hb)
  have HSB := Lib.hid (fun w' (hb : Below w5.heap.size w5 w') => hSb.up hb)
  have HSC := Lib.hid (fun w' (hb : Below w5.heap.size w5 w') => hSc.up hb)
  have HSD := Lib.hid (fun w' (hb : Below w5.heap.size w5 w') => hSd.up hb)
  have HB := Lib.hid hB
  clear hJ hend hSa hSb hSc hSd hB hn3 hn4 hn5 hn6 hn7 hw1
  go_wp2_with fail
  go_loopw [20] (fun iv wr => ∃ k : Nat, iv = .int .i64 k ∧ k ≤ na ∧ Below w5.heap.size w5 wr) (fun iv _ => na - (intOf iv).toNat)
  case atStart => exact ⟨0, rfl, by omega, Below.refl _ _⟩
  case round =>
    obtain ⟨k, rfl, hk, hB⟩ := hrel
    by_cases hkn : k < na
    · obtain ⟨ad, rfl, hab, c0, c1⟩ := (HSA.out _ hB).lst.fst2 HRa.out hkn
      obtain ⟨⟨u1, e1, l1⟩, ⟨u2, e2, l2⟩, ⟨u3, e3, l3⟩⟩ := HJ.out k hkn
      obtain ⟨x, hx⟩ : ∃ x, gt ra k = x := ⟨_, rfl⟩
      rw [hx] at c0 c1 e1 e2 e3 l1 l2 l3
      have HX := Lib.hid hx
      have Hu11 := Lib.hid (show (atR rb x.1).getD 0 = u1 by rw [e1]; rfl)
      have Hu12 := Lib.hid (show (atR rb x.1).isSome = true by rw [e1]; rfl)
      have Hu21 := Lib.hid (show (atR rc x.1).getD 0 = u2 by rw [e2]; rfl)
      have Hu22 := Lib.hid (show (atR rc x.1).isSome = true by rw [e2]; rfl)
      have Hu31 := Lib.hid (show (atR rd x.1).getD 0 = u3 by rw [e3]; rfl)
      have Hu32 := Lib.hid (show (atR rd x.1).isSome = true by rw [e3]; rfl)
      have g1 : decide (u1 < x.2) = false := decide_eq_false (by omega)
      have g2 : decide (u2 < x.2) = false := decide_eq_false (by omega)
      have g3 : decide (u3 < x.2) = false := decide_eq_false (by omega)
      clear hx e1 e2 e3 l1 l2 l3
      go_wp2_with fail
      clear c0 c1 hab
      refine (eat_any Ab nb cb rb x.1 wr HRb.out (by omega) (HSB.out _ hB) u1 true Hu11.out Hu12.out).mono ?_
      rintro e w6 ⟨rfl, hb⟩
      replace hB := hB.trans (hb.mono hB.size)
      clear hb
      obtain ⟨ad1, hA1, hab, c0, c1⟩ := (HSA.out _ hB).lst.fst2 HRa.out hkn
      injection hA1 with hA1
      subst hA1
      rw [HX.out] at c0 c1
      go_wp2_with fail
      clear c0 c1 hab
      refine (eat_any Ac nc cc rc x.1 w6 HRc.out (by omega) (HSC.out _ hB) u2 true Hu21.out Hu22.out).mono ?_
      rintro e w7 ⟨rfl, hb⟩
      replace hB := hB.trans (hb.mono hB.size)
      clear hb
      obtain ⟨ad1, hA1, hab, c0, c1⟩ := (HSA.out _ hB).lst.fst2 HRa.out hkn
      injection hA1 with hA1
      subst hA1
      rw [HX.out] at c0 c1
      go_wp2_with fail
      clear c0 c1 hab
      refine (eat_any Ad nd cd rd x.1 w7 HRd.out (by omega) (HSD.out _ hB) u3 true Hu31.out Hu32.out).mono ?_
      rintro e w8 ⟨rfl, hb⟩
      replace hB := hB.trans (hb.mono hB.size)
      clear hb
      have hs8 := hB.size
      rcases Nat.eq_zero_or_pos k with rfl | hk0
      · obtain ⟨ad1, hA1, hab, c0, c1⟩ := (HSA.out _ hB).lst.fst2 HRa.out hkn
        injection hA1 with hA1
        subst hA1
        rw [HX.out] at c0 c1
        simp only [Nat.zero_mul, Addr.add_zero'] at c0 c1
        have g4 : decide (0 < na) = true := decide_eq_true hkn
        have hkI : (0 : Int) < (na : Int) := by omega
        go_wp2_with fail
        have q_c0 := fun d os => cell_regrown c0 d os
        have q_c1 := fun d os => cell_regrown c1 d os
        try simp only [List.append]
        first | refine wp_region_text_below ?_ | refine wp_region_quiet_below (by kernel_rfl) (by kernel_rfl) ?_
        repeat (go_big_quiet_step ((fail)))
        refine wpQuiet_nil ?_
        intro _ hqw
        obtain ⟨pq, hqw⟩ := hqw
        subst hqw
        clear q_c0 q_c1
        have hbel := below_regrown w8 pq.d pq.os
        replace hB := hB.trans (hbel.mono hs8)
        clear hbel c0 c1 hab
        generalize grow (redrawn w8 pq.d) pq.os = wq at *
        go_wp2_with fail
        go_roundw
        case rel => exact ⟨0 + 1, by go_num, by omega, hB⟩
        case measure => simp [intOf]; omega
      · obtain ⟨p, rfl⟩ : ∃ p, k = p + 1 := ⟨k - 1, by omega⟩
        have hlt := srt_lt HTa.out.srt (k := p) (by rw [HRa.out]; exact hkn)
        rw [HX.out] at hlt
        obtain ⟨ad1, hA1, hab, c0, c1⟩ := (HSA.out _ hB).lst.fst2 HRa.out hkn
        injection hA1 with hA1
        subst hA1
        rw [HX.out] at c0 c1
        obtain ⟨ad1, hA1, _, y0, y1⟩ := (HSA.out _ hB).lst.fst2 HRa.out (k := p) (by omega)
        injection hA1 with hA1
        subst hA1
        obtain ⟨y, hy⟩ : ∃ y, gt ra p = y := ⟨_, rfl⟩
        rw [hy] at y0 y1 hlt
        have g5 : decide (x.1 ≤ y.1) = false := decide_eq_false (by omega)
        clear hy hlt hk0
        go_wp2_with fail
        have hpI : (p : Int) < (na : Int) := by omega
        have hpI1 : (p : Int) + 1 < (na : Int) := by omega
        have g6 : decide ((0 : Int) < (p : Int) + 1) = true := decide_eq_true (by omega)
        have hw1 : IntKind.i64.wrap (p : Int) = (p : Int) := IntWalk.i64_in _ (by omega)
        have q_c0 := fun d os => cell_regrown c0 d os
        have q_c1 := fun d os => cell_regrown c1 d os
        have q_y0 := fun d os => cell_regrown y0 d os
        have q_y1 := fun d os => cell_regrown y1 d os
        try simp only [List.append]
        first | refine wp_region_text_below ?_ | refine wp_region_quiet_below (by kernel_rfl) (by kernel_rfl) ?_
        repeat (go_big_quiet_step ((fail)))
        refine wpQuiet_nil ?_
        intro _ hqw
        obtain ⟨pq, hqw⟩ := hqw
        subst hqw
        clear q_c0 q_c1 q_y0 q_y1
        have hbel := below_regrown w8 pq.d pq.os
        replace hB := hB.trans (hbel.mono hs8)
        clear hbel c0 c1 y0 y1 hab hw1
        generalize grow (redrawn w8 pq.d) pq.os = wq at *
        go_wp2_with fail
        go_roundw
        case rel => exact ⟨(p + 1) + 1, by go_num, by omega, hB⟩
        case measure => simp [intOf]; omega
    · obtain rfl : k = na := by omega
      rcases Nat.eq_zero_or_pos k with hk0 | hk0
      · obtain ⟨u, hu⟩ : ∃ z, (atR ra q).getD 0 = z := ⟨_, rfl⟩
        obtain ⟨ok, hok⟩ : ∃ z, (atR ra q).isSome = z := ⟨_, rfl⟩
        have HK0 := Lib.hid hk0
        have HUU := Lib.hid hu
        have HOO := Lib.hid hok
        clear hk0 hu hok
        go_wp2_with fail
        refine (eat_any Aa k ca ra q wr HRa.out (by omega) (HSA.out _ hB) u ok HUU.out HOO.out).mono ?_
        rintro e w6 ⟨rfl, hb⟩
        replace hB := hB.trans (hb.mono hB.size)
        clear hb
        have g1 : ((k : Int) == 0) = true := beq_iff_eq.2 (by have := HK0.out; omega)
        go_wp2_with fail
        go_ret
        exact ⟨rfl, HB.out.trans (hB.mono HB.out.size)⟩
      · have he := HEND.out hk0
        have HE := Lib.hid he
        have g1 : ((k : Int) == 0) = false := beq_eq_false_iff_ne.2 (by omega)
        clear he hk0
        go_wp2_with fail
        refine (eat_any Aa k ca ra q wr HRa.out (by omega) (HSA.out _ hB) by_ true (by rw [HE.out]; rfl) (by rw [HE.out]; rfl)).mono ?_
        rintro e w6 ⟨rfl, hb⟩
        replace hB := hB.trans (hb.mono hB.size)
        clear hb
        go_wp2_with fail
        go_ret
        exact ⟨rfl, HB.out.trans (hB.mono HB.out.size)⟩
theorem lateMore_walk (A : Option Addr) (n k : Nat) (ns : List Int) (q by_ later size hops : Int) (As : Option Addr) (m cs : Nat) (sh : List Int) (hnl : ns.length = n * 8) (_ : ∀ m ∈ ns, (Lit.int .i64 m).wf = true) (_ : (Lit.int .i64 q).wf = true) (_ : (Lit.int .i64 by_).wf = true) (_ : (Lit.int .i64 later).wf = true) (_ : (Lit.int .i64 size).wf = true) (_ : (Lit.int .i64 hops).wf = true) (hnl' : sh.length = m * 1) (hw' : ∀ m ∈ sh, (Lit.int .i64 m).wf = true) (w : World) (hl : Sl w w.heap.size 8 A n k (ns.map (Value.int .i64))) (hls : Sl w w.heap.size 1 As m cs (sh.map (Value.int .i64))) :
    Calls Try.prog 5 #[.slice A n k, .int .i64 q, .int .i64 by_, .int .i64 later, .int .i64 size, .int .i64 hops, .slice As m cs] w fun e w' => e = .returned (.bool true) ∧ Below w.heap.size w w' := by
  obtain ⟨d, hd, hlf⟩ := rowsEd_of n ns hnl
  rw [hlf] at hl
  exact lateMore_w A n k d q by_ later size hops As m cs sh w hd (by omega) (fun q hq => wf_ints15 hw' q (by omega)) hl hls
theorem lateMore_own : ownKnob Try.prog.godebug = none := by kernel_rfl
theorem lateMore_laidOut : laidOutB Try.prog = true := by kernel_rfl

set_option maxHeartbeats 1000000 in
set_option maxRecDepth 100000 in
theorem lateMore_lifted (os : Os) (started : os.Started) (H : Type) (enc : TypeId × Value → H) :
    ReturnsInHanded {} Try.checked os 5 .any (Rows.lateMoreSpec.pre6 enc Try.prog Try.f5 Rows.lateMoreRow.domain false) (Rows.lateMoreSpec.post enc Try.prog Try.f5 false true false false) := by
  refine returnsInHanded_of_change (C := Try.checked) lateMore_own started (by kernel_rfl) Try.func5
    (ChangeSpec.witness6 (enc := enc) (C := Try.checked) false ⟨#[], #[.slice none 0 0, .int .i64 0, .int .i64 0, .int .i64 0, .int .i64 0, .int .i64 0, .slice none 0 0], []⟩ 8 (by kernel_rfl) (by kernel_rfl) (by kernel_rfl) (by kernel_rfl)) ?_
  intro W base args ds gs before hval0 hW hcnd _
  have hval : ∀ (j : Nat) t v, Try.f5.params[j]? = some t → args[j]? = some v → Value.okWide Try.prog W .any base t v := hval0
  have hW' := hW
  obtain ⟨p, q, hA0, hV, rfl, hfz, hnd⟩ := hW
  have hA : DataW.TrodAll enc Try.prog W 0 (fun _ => true) true Try.f5.params.toList args.toList ds p := hA0
  rw [Try.params5] at hA hval
  obtain ⟨v0, vs0, d0, ds0, p0, q0, hargs, rfl, rfl, h0, r0⟩ := trodAll_cons hA
  obtain ⟨v1, vs1, d1, ds1, p1, q1, rfl, rfl, rfl, h1, r1⟩ := trodAll_cons r0
  obtain ⟨v2, vs2, d2, ds2, p2, q2, rfl, rfl, rfl, h2, r2⟩ := trodAll_cons r1
  obtain ⟨v3, vs3, d3, ds3, p3, q3, rfl, rfl, rfl, h3, r3⟩ := trodAll_cons r2
  obtain ⟨v4, vs4, d4, ds4, p4, q4, rfl, rfl, rfl, h4, r4⟩ := trodAll_cons r3
  obtain ⟨v5, vs5, d5, ds5, p5, q5, rfl, rfl, rfl, h5, r5⟩ := trodAll_cons r4
  obtain ⟨v6, vs6, d6, ds6, p6, q6, rfl, rfl, rfl, h6, r6⟩ := trodAll_cons r5
  obtain ⟨rfl, rfl, rfl⟩ := trodAll_nil r6
  obtain rfl : args = #[v0, v1, v2, v3, v4, v5, v6] := by cases args; simp_all
  obtain ⟨rfl, rfl⟩ := trodVars_none hV
  obtain ⟨A0, n0, c0, ns0, rfl, hl0, nl0, w0⟩ := open_rowsS 4 (K := 8) Try.underlying22 (by kernel_rfl) (by kernel_rfl) (by omega) (hval 0 22 v0 rfl rfl) h0
  obtain ⟨a1, rfl, rfl, rfl, w1⟩ := open_int Try.underlying3 (hval 1 3 v1 rfl rfl) h1
  obtain ⟨a2, rfl, rfl, rfl, w2⟩ := open_int Try.underlying3 (hval 2 3 v2 rfl rfl) h2
  obtain ⟨a3, rfl, rfl, rfl, w3⟩ := open_int Try.underlying3 (hval 3 3 v3 rfl rfl) h3
  obtain ⟨a4, rfl, rfl, rfl, w4⟩ := open_int Try.underlying3 (hval 4 3 v4 rfl rfl) h4
  obtain ⟨a5, rfl, rfl, rfl, w5⟩ := open_int Try.underlying3 (hval 5 3 v5 rfl rfl) h5
  obtain ⟨A6, n6, c6, ns6, rfl, hl6, nl6, w6⟩ := open_rowsS 4 (K := 1) Try.underlying23 (by kernel_rfl) (by kernel_rfl) (by omega) (hval 6 23 v6 rfl rfl) h6
  clear hA0 hval0
  refine (lateMore_walk A0 n0 c0 ns0 a1 a2 a3 a4 a5 A6 n6 c6 ns6 nl0 w0 w1 w2 w3 w4 w5 nl6 w6 W hl0 hl6).mono fun e W' ⟨he, bel⟩ => ?_
  subst he
  exact ⟨_, rfl, law_post lateMore_laidOut (by kernel_rfl) rfl Try.underlying4 rfl rfl hW' bel⟩

theorem lateMore_proved : Rows.LateMoreSaid :=
  OpenClaim.holds_of_wide 5 Try.f5 rfl rfl rfl rfl rfl rfl rfl ⟨rfl, rfl, rfl, rfl, rfl⟩ rfl rfl rfl rfl rfl (by kernel_rfl) Try.func5 (by kernel_rfl)
    (of_decide_eq_true (by kernel_rfl)) (by unfold Func.isWrapper; first | (rw [if_pos (by decide +kernel)]; kernel_rfl) | (rw [if_neg (by decide +kernel)]; exact ⟨rfl, rfl⟩))
    (fun os started H enc _ => lateMore_lifted os started H enc)
#print axioms lateMore_proved
end Go.Proofs.Ytjkcjbcbnnpmfaa
