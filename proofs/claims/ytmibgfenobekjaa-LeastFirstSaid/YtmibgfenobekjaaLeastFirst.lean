/- The best route is one, there as early as one may be, with as few hops as one may be there then: LeastFirst returns true. No condition. -/
import Derived.Test.YtmibgfenobekjaaRows
import Derived.Test.YtmibgfenobekjaaSmall17
import Derived.Test.YtmibgfenobekjaaLeastLaw
import Derived.Test.YtmibgfenobekjaaGQ22
import Derived.Test.YtmibgfenobekjaaGQ15
import Derived.Test.YtmibgfenobekjaaGQ21
namespace Go.Proofs.Ytmibgfenobekjaa
open Go.ChangeShapes Go.WideShapes Go.ChangeAt Go.RowKit Go.Sort Hp
set_option linter.unusedSimpArgs false
set_option linter.unusedVariables false
set_option maxHeartbeats 8000000 in
set_option maxRecDepth 100000 in
theorem leastFirst_w (A : Option Addr) (n c : Nat) (l : List Ed) (f q now size by_ : Int) (w : World) (hd : l.length = n) (hl : Sl w w.heap.size 8 A n c (flatEd l)) :
    Calls Try.prog 4 #[.slice A n c, .int .i64 f, .int .i64 q, .int .i64 now, .int .i64 size, .int .i64 by_] w fun e w' => e = .returned (.bool true) ∧ Below w.heap.size w w' := by
  have HD := Lib.hid hd
  have HL := Lib.hid (fun w' (hb : Below w.heap.size w w') => hl.up hb)
  clear hd hl
  go_enter Try.func4, Try.ntmps4
  go_wp2_with fail
  refine (small17_any w).mono ?_
  rintro e w1 ⟨rfl, hB⟩
  by_cases hG : 30 < n
  · go_wp2_with fail
    go_ret
    exact ⟨rfl, hB⟩
  have hn1 : n ≤ 30 := by omega
  clear hG
  obtain ⟨o, ho⟩ : ∃ o, bestX l f q now size by_ [] = o := ⟨_, rfl⟩
  obtain ⟨t, ht⟩ : ∃ t, bestV o = t := ⟨_, rfl⟩
  obtain ⟨H, hH⟩ : ∃ H, bestH o = H := ⟨_, rfl⟩
  obtain ⟨b, hb0⟩ : ∃ b, o.isSome = b := ⟨_, rfl⟩
  have HO := Lib.hid ho
  have HTT := Lib.hid ht
  have HH := Lib.hid hH
  have HB0 := Lib.hid hb0
  clear ho ht hH hb0
  go_wp2_with fail
  refine (lroute_b A n c l f q now size by_ none 0 0 [] w1 HD.out (by omega) rfl (by omega) (fun k hk => by omega) (HL.out _ hB) (Sl.nil0 _ _ _) o HO.out t HTT.out H HH.out b HB0.out).mono ?_
  rintro e wk1 ⟨Av, nv, cv, hI, rfl, hnv, hvn, sv, hb⟩
  replace hB := hB.trans (hb.mono hB.size)
  clear hb
  have HI := Lib.hid hI
  have HNV := Lib.hid hnv
  clear hI hnv
  go_wp2_with fail
  have hb : Below wk1.heap.size wk1 (wk1.alloc (.cells #[.slice Av nv cv, .int .i64 t] 27)) := (Below.refl _ _).alloc (Nat.le_refl _) _
  have xv := Blok.new wk1 27 #[.slice Av nv cv, .int .i64 t]
  obtain ⟨bxv, hbxv⟩ : ∃ q, wk1.heap.size = q := ⟨_, rfl⟩
  have hsxv : (wk1.alloc (.cells #[.slice Av nv cv, .int .i64 t] 27)).heap.size = bxv + 1 := by rw [← hbxv]; simp
  replace sv := sv.up hb
  replace hB := hB.trans (hb.mono hB.size)
  clear hb
  generalize wk1.alloc (.cells #[.slice Av nv cv, .int .i64 t] 27) = wk2 at *
  rw [hbxv] at xv
  try rw [hbxv]
  clear hbxv
  refine (etimes_any A n c l f now size none 0 0 [] wk2 HD.out (by omega) rfl (by omega) (fun k hk => by omega) (HL.out _ hB) (Sl.nil0 _ _ _)).mono ?_
  rintro e wk3 ⟨At, nt, ct, r, rfl, hr, hnt, hT, st, hb⟩
  replace sv := sv.up hb
  replace xv := xv.below hb xv.lt
  replace hB := hB.trans (hb.mono hB.size)
  clear hb
  have HR := Lib.hid hr
  have HT := Lib.hid hT
  clear hr hT
  obtain ⟨u, hu⟩ : ∃ u, (atR r q).getD 0 = u := ⟨_, rfl⟩
  obtain ⟨ok, hok⟩ : ∃ u, (atR r q).isSome = u := ⟨_, rfl⟩
  have HU := Lib.hid hu
  have HOK := Lib.hid hok
  clear hu hok
  go_wp2_with fail
  refine (eat_any At nt ct r q wk3 HR.out (by omega) st u ok HU.out HOK.out).mono ?_
  rintro e wk4 ⟨rfl, hb⟩
  replace sv := sv.up hb
  replace st := st.up hb
  replace xv := xv.below hb xv.lt
  replace hB := hB.trans (hb.mono hB.size)
  clear hb
  clear st
  rcases first_math HI.out HT.out with ⟨ho, hno⟩ | ⟨es, a, k, ho, hq, hle, hask, hqn, hF, hk, hB1⟩
  · subst ho
    obtain rfl : t = 0 := HTT.out.symm
    obtain rfl : b = false := HB0.out.symm
    obtain rfl : H = [] := HH.out.symm
    obtain rfl : nv = 0 := HNV.out.symm
    have hcu : ok = false ∨ (ok = true ∧ by_ < u) := by
      have h1 := HOK.out
      have h2 := HU.out
      cases hq : atR r q with
      | none => rw [hq] at h1; exact .inl h1.symm
      | some a => rw [hq] at h1 h2; exact .inr ⟨h1.symm, by have h3 := hno a hq; have h4 : a = u := h2; omega⟩
    have hcq : q < 1 ∨ (1 ≤ q ∧ q ≤ 255) ∨ (1 ≤ q ∧ 255 < q) := by omega
    clear hno
    rcases hcu with rfl | ⟨rfl, hlt⟩
    all_goals
      rcases hcq with g0 | ⟨g0, g1⟩ | ⟨g0, g1⟩
      all_goals
        have xv_c0 := (xv.cell 0 : wk4.cell? ⟨bxv, 0, none⟩ = some (.slice Av 0 cv))
        have xv_c1 := (xv.cell 1 : wk4.cell? ⟨bxv, 1, none⟩ = some (.int .i64 0))
        have xv_lt := xv.lt
        go_wp2_with fail
        try clear xv_c0 xv_c1 xv_lt
        refine (psame_any Av none 0 cv 0 0 [] [] 0 0 wk4 rfl rfl (by omega) (by omega) sv (Sl.nil0 _ _ _) true (by decide)).mono ?_
        rintro e wk5 ⟨rfl, hb⟩
        replace sv := sv.up hb
        replace xv := xv.below hb xv.lt
        replace hB := hB.trans (hb.mono hB.size)
        clear hb
        go_wp2_with fail
        go_ret
        exact ⟨rfl, hB⟩
  · subst ho
    obtain rfl : t = a := HTT.out.symm
    obtain rfl : b = true := HB0.out.symm
    obtain rfl : H = hopsE size now es := HH.out.symm
    obtain rfl : u = t := by have h2 := HU.out; rw [hq] at h2; exact h2.symm
    obtain rfl : ok = true := by have h2 := HOK.out; rw [hq] at h2; exact h2.symm
    obtain rfl : k = nv := by have := HNV.out; omega
    have hrt := hB1.route hqn hask
    have hwf := wfI_ids (askE_spec.1 hask).2.2.2 hB1.rte.mem
    obtain ⟨ids, hids⟩ : ∃ ids, (hopsE size now es).map Hp.id = ids := ⟨_, rfl⟩
    rw [← hopsE_ids size now, hids] at hwf
    rw [hids] at hrt
    obtain ⟨HS, hHS⟩ : ∃ HS, hopsE size now es = HS := ⟨_, rfl⟩
    rw [hHS] at sv hids hrt hk
    have h40 := (HT.out.lim hq).2.2
    have hnow := (askE_spec.1 hask).2.1.1
    obtain ⟨g0, g1⟩ := hqn
    have HB1 := Lib.hid hB1
    have HQ := Lib.hid hq
    have HASK := Lib.hid hask
    have HF := Lib.hid hF
    have HK := Lib.hid hk
    have HRT := Lib.hid hrt
    have HWF := Lib.hid hwf
    have HIDS := Lib.hid hids
    clear hB1 hq hask hF hk hrt hwf hids hHS
    have xv_c0 := (xv.cell 0 : wk4.cell? ⟨bxv, 0, none⟩ = some (.slice Av k cv))
    have xv_c1 := (xv.cell 1 : wk4.cell? ⟨bxv, 1, none⟩ = some (.int .i64 u))
    have xv_lt := xv.lt
    go_wp2_with fail
    try clear xv_c0 xv_c1 xv_lt
    refine (pids_v Av k cv HS u wk4 HK.out (by omega) sv ids HIDS.out).mono ?_
    rintro e wk5 ⟨Ai, ci, rfl, hil, si, hb⟩
    replace sv := sv.up hb
    replace xv := xv.below hb xv.lt
    replace hB := hB.trans (hb.mono hB.size)
    clear hb
    have HIL := Lib.hid hil
    clear hil
    go_wp2_with fail
    refine (proute_v A n c l Ai k ci ids f q now size wk5 HD.out (by omega) HIL.out (by omega) (wf_getD HIL.out HWF.out) (HL.out _ hB) si _ HRT.out HS rfl u rfl true rfl).mono ?_
    rintro e wk6 ⟨As, ns, cs, rfl, hs1, hs2, ss, hb⟩
    obtain rfl : k = ns := by have := HK.out; omega
    clear hs1 hs2
    replace sv := sv.up hb
    replace si := si.up hb
    replace xv := xv.below hb xv.lt
    replace hB := hB.trans (hb.mono hB.size)
    clear hb
    clear si
    go_wp2_with fail
    have hb : Below wk6.heap.size wk6 (wk6.alloc (.cells #[.slice As k cs, .int .i64 u] 27)) := (Below.refl _ _).alloc (Nat.le_refl _) _
    have xs := Blok.new wk6 27 #[.slice As k cs, .int .i64 u]
    obtain ⟨bxs, hbxs⟩ : ∃ q, wk6.heap.size = q := ⟨_, rfl⟩
    have hsxs : (wk6.alloc (.cells #[.slice As k cs, .int .i64 u] 27)).heap.size = bxs + 1 := by rw [← hbxs]; simp
    replace sv := sv.up hb
    replace ss := ss.up hb
    replace xv := xv.below hb xv.lt
    replace hB := hB.trans (hb.mono hB.size)
    clear hb
    generalize wk6.alloc (.cells #[.slice As k cs, .int .i64 u] 27) = wk7 at *
    rw [hbxs] at xs
    try rw [hbxs]
    clear hbxs
    refine (lfew_any A n c l f q now u size none 0 0 [] wk7 HD.out (by omega) rfl (by omega) (fun k hk => by omega) (HL.out _ hB) (Sl.nil0 _ _ _) (some k) (fun _ => HF.out) (fun e => by exfalso; rw [HASK.out, show nodeB q = true by (unfold nodeB inB; exact decide_eq_true ⟨g0, g1⟩), show inB u 0 1099511627776 = true by (unfold inB; exact decide_eq_true ⟨by omega, by omega⟩)] at e; cases e) (k : Int) true rfl rfl).mono ?_
    rintro e wk8 ⟨rfl, hb⟩
    replace sv := sv.up hb
    replace ss := ss.up hb
    replace xv := xv.below hb xv.lt
    replace xs := xs.below hb xs.lt
    replace hB := hB.trans (hb.mono hB.size)
    clear hb
    have xv_c0 := (xv.cell 0 : wk8.cell? ⟨bxv, 0, none⟩ = some (.slice Av k cv))
    have xv_c1 := (xv.cell 1 : wk8.cell? ⟨bxv, 1, none⟩ = some (.int .i64 u))
    have xv_lt := xv.lt
    have xs_c0 := (xs.cell 0 : wk8.cell? ⟨bxs, 0, none⟩ = some (.slice As k cs))
    have xs_c1 := (xs.cell 1 : wk8.cell? ⟨bxs, 1, none⟩ = some (.int .i64 u))
    have xs_lt := xs.lt
    go_wp2_with fail
    try clear xv_c0 xv_c1 xv_lt xs_c0 xs_c1 xs_lt
    refine (psame_any Av As k cv k cs HS HS u u wk8 HK.out HK.out (by omega) (by omega) sv ss true (by simp)).mono ?_
    rintro e wk9 ⟨rfl, hb⟩
    replace sv := sv.up hb
    replace ss := ss.up hb
    replace xv := xv.below hb xv.lt
    replace xs := xs.below hb xs.lt
    replace hB := hB.trans (hb.mono hB.size)
    clear hb
    have xv_c0 := (xv.cell 0 : wk9.cell? ⟨bxv, 0, none⟩ = some (.slice Av k cv))
    have xv_c1 := (xv.cell 1 : wk9.cell? ⟨bxv, 1, none⟩ = some (.int .i64 u))
    have xv_lt := xv.lt
    go_wp2_with fail
    try clear xv_c0 xv_c1 xv_lt
    go_ret
    exact ⟨rfl, hB⟩
theorem leastFirst_walk (A : Option Addr) (n k : Nat) (ns : List Int) (f q now size by_ : Int) (hnl : ns.length = n * 8) (_ : ∀ m ∈ ns, (Lit.int .i64 m).wf = true) (_ : (Lit.int .i64 f).wf = true) (_ : (Lit.int .i64 q).wf = true) (_ : (Lit.int .i64 now).wf = true) (_ : (Lit.int .i64 size).wf = true) (_ : (Lit.int .i64 by_).wf = true) (w : World) (hl : Sl w w.heap.size 8 A n k (ns.map (Value.int .i64))) :
    Calls Try.prog 4 #[.slice A n k, .int .i64 f, .int .i64 q, .int .i64 now, .int .i64 size, .int .i64 by_] w fun e w' => e = .returned (.bool true) ∧ Below w.heap.size w w' := by
  obtain ⟨d, hd, hlf⟩ := rowsEd_of n ns hnl
  rw [hlf] at hl
  exact leastFirst_w A n k d f q now size by_ w hd hl
theorem leastFirst_own : ownKnob Try.prog.godebug = none := by kernel_rfl
theorem leastFirst_laidOut : laidOutB Try.prog = true := by kernel_rfl

set_option maxHeartbeats 1000000 in
set_option maxRecDepth 100000 in
theorem leastFirst_lifted (os : Os) (started : os.Started) (H : Type) (enc : TypeId × Value → H) :
    ReturnsInHanded {} Try.checked os 4 .any (Rows.leastFirstSpec.pre6 enc Try.prog Try.f4 Rows.leastFirstRow.domain false) (Rows.leastFirstSpec.post enc Try.prog Try.f4 false true false false) := by
  refine returnsInHanded_of_change (C := Try.checked) leastFirst_own started (by kernel_rfl) Try.func4
    (ChangeSpec.witness6 (enc := enc) (C := Try.checked) false ⟨#[], #[.slice none 0 0, .int .i64 0, .int .i64 0, .int .i64 0, .int .i64 0, .int .i64 0], []⟩ 8 (by kernel_rfl) (by kernel_rfl) (by kernel_rfl) (by kernel_rfl)) ?_
  intro W base args ds gs before hval0 hW hcnd _
  have hval : ∀ (j : Nat) t v, Try.f4.params[j]? = some t → args[j]? = some v → Value.okWide Try.prog W .any base t v := hval0
  have hW' := hW
  obtain ⟨p, q, hA0, hV, rfl, hfz, hnd⟩ := hW
  have hA : DataW.TrodAll enc Try.prog W 0 (fun _ => true) true Try.f4.params.toList args.toList ds p := hA0
  rw [Try.params4] at hA hval
  obtain ⟨v0, vs0, d0, ds0, p0, q0, hargs, rfl, rfl, h0, r0⟩ := trodAll_cons hA
  obtain ⟨v1, vs1, d1, ds1, p1, q1, rfl, rfl, rfl, h1, r1⟩ := trodAll_cons r0
  obtain ⟨v2, vs2, d2, ds2, p2, q2, rfl, rfl, rfl, h2, r2⟩ := trodAll_cons r1
  obtain ⟨v3, vs3, d3, ds3, p3, q3, rfl, rfl, rfl, h3, r3⟩ := trodAll_cons r2
  obtain ⟨v4, vs4, d4, ds4, p4, q4, rfl, rfl, rfl, h4, r4⟩ := trodAll_cons r3
  obtain ⟨v5, vs5, d5, ds5, p5, q5, rfl, rfl, rfl, h5, r5⟩ := trodAll_cons r4
  obtain ⟨rfl, rfl, rfl⟩ := trodAll_nil r5
  obtain rfl : args = #[v0, v1, v2, v3, v4, v5] := by cases args; simp_all
  obtain ⟨rfl, rfl⟩ := trodVars_none hV
  obtain ⟨A0, n0, c0, ns0, rfl, hl0, nl0, w0⟩ := open_rowsS 4 (K := 8) Try.underlying22 (by kernel_rfl) (by kernel_rfl) (by omega) (hval 0 22 v0 rfl rfl) h0
  obtain ⟨a1, rfl, rfl, rfl, w1⟩ := open_int Try.underlying3 (hval 1 3 v1 rfl rfl) h1
  obtain ⟨a2, rfl, rfl, rfl, w2⟩ := open_int Try.underlying3 (hval 2 3 v2 rfl rfl) h2
  obtain ⟨a3, rfl, rfl, rfl, w3⟩ := open_int Try.underlying3 (hval 3 3 v3 rfl rfl) h3
  obtain ⟨a4, rfl, rfl, rfl, w4⟩ := open_int Try.underlying3 (hval 4 3 v4 rfl rfl) h4
  obtain ⟨a5, rfl, rfl, rfl, w5⟩ := open_int Try.underlying3 (hval 5 3 v5 rfl rfl) h5
  clear hA0 hval0
  refine (leastFirst_walk A0 n0 c0 ns0 a1 a2 a3 a4 a5 nl0 w0 w1 w2 w3 w4 w5 W hl0).mono fun e W' ⟨he, bel⟩ => ?_
  subst he
  exact ⟨_, rfl, law_post leastFirst_laidOut (by kernel_rfl) rfl Try.underlying4 rfl rfl hW' bel⟩

theorem leastFirst_proved : Rows.LeastFirstSaid :=
  OpenClaim.holds_of_wide 4 Try.f4 rfl rfl rfl rfl rfl rfl rfl ⟨rfl, rfl, rfl, rfl, rfl⟩ rfl rfl rfl rfl rfl (by kernel_rfl) Try.func4 (by kernel_rfl)
    (of_decide_eq_true (by kernel_rfl)) (by unfold Func.isWrapper; first | (rw [if_pos (by decide +kernel)]; kernel_rfl) | (rw [if_neg (by decide +kernel)]; exact ⟨rfl, rfl⟩))
    (fun os started H enc _ => leastFirst_lifted os started H enc)
#print axioms leastFirst_proved
end Go.Proofs.Ytmibgfenobekjaa
