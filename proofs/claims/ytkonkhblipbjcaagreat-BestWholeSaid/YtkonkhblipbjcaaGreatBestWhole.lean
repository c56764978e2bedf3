/- Each route in time is one of them, or there are as many as are asked for, all ahead of it: BestWhole returns true. No condition. -/
import Derived.Test.YtkonkhblipbjcaaGreatRows
import Derived.Test.YtkonkhblipbjcaaGreatGQ28
import Derived.Test.YtkonkhblipbjcaaGreatGQ29
import Derived.BigQuiet
import Derived.Deep.QuietTactic
import Derived.Test.YtkonkhblipbjcaaGreatBestLaw
namespace Go.Proofs.YtkonkhblipbjcaaGreat
open Go.ChangeShapes Go.WideShapes Go.ChangeAt Go.RowKit Go.Sort Hp
set_option linter.unusedSimpArgs false
set_option linter.unusedVariables false
set_option maxHeartbeats 8000000 in
set_option maxRecDepth 100000 in
theorem bestWhole_w (A : Option Addr) (n c : Nat) (l : List Ed) (Ai : Option Addr) (ni ci : Nat) (ids : List Int) (f q now size by_ k : Int) (w : World) (hd : l.length = n) (hdi : ids.length = ni) (hwi : ∀ k, k < ni → (Lit.int .i64 (ids.getD k 0)).wf = true) (hl : Sl w w.heap.size 8 A n c (flatEd l)) (hli : Sl w w.heap.size 1 Ai ni ci (ids.map (Value.int .i64))) :
    Calls Tryz.prog 5 #[.slice A n c, .slice Ai ni ci, .int .i64 f, .int .i64 q, .int .i64 now, .int .i64 size, .int .i64 by_, .int .i64 k] w fun e w' => e = .returned (.bool true) ∧ Below w.heap.size w w' := by
  have HD := Lib.hid hd
  have HL := Lib.hid (fun w' (hb : Below w.heap.size w w') => hl.up hb)
  clear hd hl
  have HDI := Lib.hid hdi
  have HWI := Lib.hid hwi
  have HLI := Lib.hid (fun w' (hb : Below w.heap.size w w') => hli.up hb)
  clear hdi hwi hli
  go_enter Tryz.func5, Tryz.ntmps5
  go_wp2_with fail
  refine (small19_any w).mono ?_
  rintro e w1 ⟨rfl, hB⟩
  by_cases hG : 12 < n ∨ 20 < ni ∨ k < 1 ∨ 20 < k
  · have hG' : (12 < n) ∨ (n ≤ 12 ∧ 20 < ni) ∨ (n ≤ 12 ∧ ni ≤ 20 ∧ k < 1) ∨ (n ≤ 12 ∧ ni ≤ 20 ∧ ¬ k < 1 ∧ 20 < k) := by omega
    clear hG
    rcases hG' with g0 | ⟨g0, g1⟩ | ⟨g0, g1, g2⟩ | ⟨g0, g1, g2, g3⟩
    all_goals
      go_wp2_with fail
      go_ret
      exact ⟨rfl, hB⟩
  have hn1 : n ≤ 12 := by omega
  have hn2 : ni ≤ 20 := by omega
  have hn3 : ¬ k < 1 := by omega
  have hn4 : k ≤ 20 := by omega
  clear hG
  obtain ⟨km, rfl⟩ : ∃ km : Nat, k = (km : Int) := ⟨k.toNat, by omega⟩
  have hkm : km ≤ 20 := by omega
  have hkm3 : ¬ (km : Int) < 1 := hn3
  have hkm4 : ¬ km < 1 := by omega
  obtain ⟨p, hp⟩ : ∃ p, routeE l ids f q now size = p := ⟨_, rfl⟩
  obtain ⟨ar, har⟩ : ∃ z, arrO p = z := ⟨_, rfl⟩
  obtain ⟨hs, hhs⟩ : ∃ z, hopsO p = z := ⟨_, rfl⟩
  obtain ⟨is, his⟩ : ∃ b, p.isSome = b := ⟨_, rfl⟩
  have HP := Lib.hid hp
  have HAR := Lib.hid har
  have HHS := Lib.hid hhs
  have HIS := Lib.hid his
  clear hp har hhs his
  obtain ⟨Ra, hRa⟩ : ∃ R, (allR l f q now size by_).take ((km : Int) : Int).toNat = R := ⟨_, rfl⟩
  obtain ⟨ma, hma⟩ : ∃ m, Ra.length = m := ⟨_, rfl⟩
  have HRa := Lib.hid hRa
  have HMa := Lib.hid hma
  clear hRa hma
  go_wp2_with fail
  refine (proute_v A n c l Ai ni ci ids f q now size w1 HD.out (by omega) HDI.out (by omega) HWI.out (HL.out _ hB) (HLI.out _ hB) p HP.out hs HHS.out ar HAR.out is HIS.out).mono ?_
  rintro e wk1 ⟨As, ns, cs, rfl, hns, hms, ss, hb⟩
  replace hB := hB.trans (hb.mono hB.size)
  clear hb
  have HNS := Lib.hid hns
  clear hns
  have hc : is = false ∨ (is = true ∧ by_ < ar) ∨ (is = true ∧ ar ≤ by_) := by cases is with | false => exact .inl rfl | true => by_cases h : by_ < ar <;> simp [h] <;> omega
  rcases hc with rfl | ⟨rfl, hlt⟩ | ⟨rfl, hle⟩
  · go_wp2_with fail
    have hb : Below wk1.heap.size wk1 (wk1.alloc (.cells #[.slice As ns cs, .int .i64 ar] 30)) := (Below.refl _ _).alloc (Nat.le_refl _) _
    have xs := Blok.new wk1 30 #[.slice As ns cs, .int .i64 ar]
    obtain ⟨bxs, hbxs⟩ : ∃ q, wk1.heap.size = q := ⟨_, rfl⟩
    have hsxs : (wk1.alloc (.cells #[.slice As ns cs, .int .i64 ar] 30)).heap.size = bxs + 1 := by rw [← hbxs]; simp
    replace ss := ss.up hb
    replace hB := hB.trans (hb.mono hB.size)
    clear hb
    generalize wk1.alloc (.cells #[.slice As ns cs, .int .i64 ar] 30) = wk2 at *
    rw [hbxs] at xs
    try rw [hbxs]
    clear hbxs
    go_ret
    exact ⟨rfl, hB⟩
  · go_wp2_with fail
    have hb : Below wk1.heap.size wk1 (wk1.alloc (.cells #[.slice As ns cs, .int .i64 ar] 30)) := (Below.refl _ _).alloc (Nat.le_refl _) _
    have xs := Blok.new wk1 30 #[.slice As ns cs, .int .i64 ar]
    obtain ⟨bxs, hbxs⟩ : ∃ q, wk1.heap.size = q := ⟨_, rfl⟩
    have hsxs : (wk1.alloc (.cells #[.slice As ns cs, .int .i64 ar] 30)).heap.size = bxs + 1 := by rw [← hbxs]; simp
    replace ss := ss.up hb
    replace hB := hB.trans (hb.mono hB.size)
    clear hb
    generalize wk1.alloc (.cells #[.slice As ns cs, .int .i64 ar] 30) = wk2 at *
    rw [hbxs] at xs
    try rw [hbxs]
    clear hbxs
    go_ret
    exact ⟨rfl, hB⟩
  · obtain ⟨p0, rfl⟩ : ∃ p0, p = some p0 := Option.isSome_iff_exists.1 HIS.out
    have hrt : RtOk l f q now size by_ (hs, ar) := by
      have h1 : p0.1 = hs := HHS.out
      have h2 : p0.2 = ar := HAR.out
      have h3 : p0 = (hs, ar) := Prod.ext h1 h2
      have hpp := HP.out
      rw [h3] at hpp
      exact rtOk_of_route hpp hle
    have HRT := Lib.hid hrt
    clear hrt
    go_wp2_with fail
    have hb : Below wk1.heap.size wk1 (wk1.alloc (.cells #[.slice As ns cs, .int .i64 ar] 30)) := (Below.refl _ _).alloc (Nat.le_refl _) _
    have xs := Blok.new wk1 30 #[.slice As ns cs, .int .i64 ar]
    obtain ⟨bxs, hbxs⟩ : ∃ q, wk1.heap.size = q := ⟨_, rfl⟩
    have hsxs : (wk1.alloc (.cells #[.slice As ns cs, .int .i64 ar] 30)).heap.size = bxs + 1 := by rw [← hbxs]; simp
    replace ss := ss.up hb
    replace hB := hB.trans (hb.mono hB.size)
    clear hb
    generalize wk1.alloc (.cells #[.slice As ns cs, .int .i64 ar] 30) = wk2 at *
    rw [hbxs] at xs
    try rw [hbxs]
    clear hbxs
    try clear hsxs
    refine (broutes_v A n c l f q now size by_ (km : Int) wk2 HD.out (by omega) (by omega) (HL.out _ hB) Ra HRa.out ma HMa.out).mono ?_
    rintro e wk3 ⟨Aa, ca, rfl, ra, hb⟩
    replace ss := ss.up hb
    replace xs := xs.below hb xs.lt
    replace hB := hB.trans (hb.mono hB.size)
    clear hb
    have Fss := Lib.hid (fun w' (hb : Below wk3.heap.size wk3 w') => ss.up hb)
    have Fxs := Lib.hid (fun w' (hb : Below wk3.heap.size wk3 w') => xs.below hb xs.lt)
    have Fra := Lib.hid (fun w' (hb : Below wk3.heap.size wk3 w') => ra.below hb)
    have HBA := Lib.hid hB
    clear ss xs ra hB
    have HMK : Hid (ma ≤ km) := by
      show ma ≤ km
      rw [← HMa.out, ← HRa.out, List.length_take]; exact Nat.min_le_left _ _
    have hm20 : ma ≤ 20 := Nat.le_trans HMK.out hkm
    go_wp2_with fail
    go_loopw [21] (fun iv wr => ∃ (i : Nat), iv = .int .i64 i ∧ i ≤ ma ∧ Hid (∀ j, j < i → Ra.getD j ([], 0) ≠ (hs, ar)) ∧ Below wk3.heap.size wk3 wr) (fun iv _ => ma - (intOf iv).toNat)
    case atStart => exact ⟨0, rfl, by omega, (fun j hj => by omega), Below.refl _ _⟩
    case round =>
      obtain ⟨i, rfl, hi, HI, hBr⟩ := hrel
      by_cases him : i < ma
      · obtain ⟨ga, hga, _, hgl, _⟩ := (Fra.out _ hBr).addr (by omega)
        subst hga
        obtain ⟨A1, n1, c1, x10, x11, hl1, hm1, sl1⟩ := (Fra.out _ hBr).cells (k := i) (by omega)
        obtain ⟨p1, hp1⟩ : ∃ z, Ra.getD (i) ([], 0) = z := ⟨_, rfl⟩
        rw [hp1] at x11 hl1 sl1
        obtain ⟨H1, t1⟩ := p1
        replace x11 : wr.cell? ⟨ga, (i) * 2 + 1, none⟩ = some (.int .i64 t1) := x11
        replace sl1 : Sl wr wr.heap.size 3 A1 n1 c1 (flatHp H1) := sl1
        have HL1 : Hid (H1.length = n1) := hl1
        have HP1 := Lib.hid hp1
        clear hl1 hp1
        have y0 : wr.cell? ⟨bxs, 0, none⟩ = some (.slice As ns cs) := (Fxs.out _ hBr).cell 0
        have y1 : wr.cell? ⟨bxs, 1, none⟩ = some (.int .i64 ar) := (Fxs.out _ hBr).cell 1
        have hbl := (Fxs.out _ hBr).lt
        have sss := Fss.out _ hBr
        have HQ1 := Lib.hid (fun (dd : Nat) (os : Array Obj) => sl1.up (below_regrown wr dd os))
        have HQ2 := Lib.hid (fun (dd : Nat) (os : Array Obj) => sss.up (below_regrown wr dd os))
        obtain ⟨b, hb⟩ : ∃ z, (decide (t1 = ar) && decide (H1 = hs)) = z := ⟨_, rfl⟩
        have HBQ := Lib.hid hb
        have hiI : (i : Int) < (ma : Int) := by omega
        clear sl1 sss hb
        go_wp2_with fail
        have q_x10 := fun d os => cell_regrown x10 d os
        have q_x11 := fun d os => cell_regrown x11 d os
        have q_y0 := fun d os => cell_regrown y0 d os
        have q_y1 := fun d os => cell_regrown y1 d os
        try simp only [List.append]
        first | refine wp_region_text_below ?_ | refine wp_region_quiet_below (by kernel_rfl) (by kernel_rfl) ?_
        repeat (go_big_quiet_step (((go_at_call 14; with_reducible exact Calls.regrown_of (psame_any A1 As n1 c1 ns cs H1 hs t1 ar _ HL1.out HNS.out hm1 (by omega) (HQ1.out _ _) (HQ2.out _ _) b HBQ.out)))))
        refine wpQuiet_nil ?_
        intro _ hqw
        obtain ⟨pq, hqw⟩ := hqw
        subst hqw
        clear q_x10 q_x11 q_y0 q_y1
        have hbel := below_regrown wr pq.d pq.os
        replace hBr := hBr.trans (hbel.mono hBr.size)
        clear hbel x10 x11 y0 y1 hgl hbl
        generalize grow (redrawn wr pq.d) pq.os = wq at *
        cases b with
        | true =>
          have hB := HBA.out.trans (hBr.mono HBA.out.size)
          clear hBr
          go_wp2_with fail
          go_ret
          exact ⟨rfl, hB⟩
        | false =>
          have HI2 : Hid (∀ j, j < i + 1 → Ra.getD j ([], 0) ≠ (hs, ar)) := fun j hj => by
            by_cases e : j = i
            · subst e
              rw [HP1.out]
              intro hc
              injection hc with h1 h2
              have := HBQ.out
              rw [decide_eq_true h1, decide_eq_true h2] at this
              cases this
            · exact HI.out j (by omega)
          go_wp2_with fail
          go_roundw
          case rel => exact ⟨i + 1, by go_num, by omega, HI2, hBr⟩
          case measure => simp [intOf]; omega
      · obtain rfl : i = ma := by omega
        have hmem : (hs, ar) ∉ (allR l f q now size by_).take km := fun hc => by
          have e : (allR l f q now size by_).take km = Ra := HRa.out
          rw [e] at hc
          obtain ⟨j, hj, he⟩ := List.getElem_of_mem hc
          rw [HMa.out] at hj
          refine HI.out j hj ?_
          rw [List.getD_eq_getElem?_getD, List.getElem?_eq_getElem (by rw [HMa.out]; exact hj), he]
          rfl
        obtain ⟨h1, h2⟩ := whole_behind HRT.out hmem
        have e : (allR l f q now size by_).take km = Ra := HRa.out
        rw [e] at h1 h2
        obtain rfl : km = i := by rw [← h1]; exact HMa.out
        have H2 := Lib.hid h2
        clear hmem h1 h2 e him
        obtain ⟨wA, hwA⟩ : ∃ x, x = wr := ⟨_, rfl⟩
        subst hwA
        go_wp2_with fail
        go_loopw [22] (fun iv wr => ∃ (i : Nat), iv = .int .i64 i ∧ i ≤ km ∧ Below wk3.heap.size wk3 wr) (fun iv _ => km - (intOf iv).toNat)
        case atStart => exact ⟨0, rfl, by omega, hBr⟩
        case round =>
          clear hBr
          obtain ⟨i, rfl, hi, hBr⟩ := hrel
          by_cases him : i < km
          · obtain ⟨ga, hga, _, hgl, _⟩ := (Fra.out _ hBr).addr (by omega)
            subst hga
            obtain ⟨A1, n1, c1, x10, x11, hl1, hm1, sl1⟩ := (Fra.out _ hBr).cells (k := i) (by omega)
            obtain ⟨p1, hp1⟩ : ∃ z, Ra.getD (i) ([], 0) = z := ⟨_, rfl⟩
            rw [hp1] at x11 hl1 sl1
            obtain ⟨H1, t1⟩ := p1
            replace x11 : wr.cell? ⟨ga, (i) * 2 + 1, none⟩ = some (.int .i64 t1) := x11
            replace sl1 : Sl wr wr.heap.size 3 A1 n1 c1 (flatHp H1) := sl1
            have HL1 : Hid (H1.length = n1) := hl1
            have HP1 := Lib.hid hp1
            clear hl1 hp1
            have y0 : wr.cell? ⟨bxs, 0, none⟩ = some (.slice As ns cs) := (Fxs.out _ hBr).cell 0
            have y1 : wr.cell? ⟨bxs, 1, none⟩ = some (.int .i64 ar) := (Fxs.out _ hBr).cell 1
            have hbl := (Fxs.out _ hBr).lt
            have sss := Fss.out _ hBr
            have HQ1 := Lib.hid (fun (dd : Nat) (os : Array Obj) => sl1.up (below_regrown wr dd os))
            have HQ2 := Lib.hid (fun (dd : Nat) (os : Array Obj) => sss.up (below_regrown wr dd os))
            have HZ : Hid (cmpR t1 H1 ar hs = -1) := by
              have h := H2.out i him
              rw [HP1.out] at h
              exact h
            have hiI : (i : Int) < (km : Int) := by omega
            clear sl1 sss
            go_wp2_with fail
            have q_x10 := fun d os => cell_regrown x10 d os
            have q_x11 := fun d os => cell_regrown x11 d os
            have q_y0 := fun d os => cell_regrown y0 d os
            have q_y1 := fun d os => cell_regrown y1 d os
            try simp only [List.append]
            first | refine wp_region_text_below ?_ | refine wp_region_quiet_below (by kernel_rfl) (by kernel_rfl) ?_
            repeat (go_big_quiet_step (((go_at_call 15; with_reducible exact Calls.regrown_of (ocmp_any A1 As n1 c1 ns cs H1 hs t1 ar _ HL1.out HNS.out hm1 (by omega) (HQ1.out _ _) (HQ2.out _ _) (-1) HZ.out)))))
            refine wpQuiet_nil ?_
            intro _ hqw
            obtain ⟨pq, hqw⟩ := hqw
            subst hqw
            clear q_x10 q_x11 q_y0 q_y1
            have hbel := below_regrown wr pq.d pq.os
            replace hBr := hBr.trans (hbel.mono hBr.size)
            clear hbel x10 x11 y0 y1 hgl hbl
            generalize grow (redrawn wr pq.d) pq.os = wq at *
            go_wp2_with fail
            go_roundw
            case rel => exact ⟨i + 1, by go_num, by omega, hBr⟩
            case measure => simp [intOf]; omega
          · obtain rfl : i = km := by omega
            have hB := HBA.out.trans (hBr.mono HBA.out.size)
            clear hBr him
            go_wp2_with fail
            go_ret
            exact ⟨rfl, hB⟩
theorem bestWhole_walk (A : Option Addr) (n kk : Nat) (ns : List Int) (Ai : Option Addr) (ni ki : Nat) (nsi : List Int) (f : Int) (q : Int) (now : Int) (size : Int) (by_ : Int) (k : Int) (hnl : ns.length = n * 8) (_ : ∀ m ∈ ns, (Lit.int .i64 m).wf = true) (hni : nsi.length = ni * 1) (hwi : ∀ m ∈ nsi, (Lit.int .i64 m).wf = true) (_ : (Lit.int .i64 f).wf = true) (_ : (Lit.int .i64 q).wf = true) (_ : (Lit.int .i64 now).wf = true) (_ : (Lit.int .i64 size).wf = true) (_ : (Lit.int .i64 by_).wf = true) (_ : (Lit.int .i64 k).wf = true) (w : World) (hl : Sl w w.heap.size 8 A n kk (ns.map (Value.int .i64))) (hli : Sl w w.heap.size 1 Ai ni ki (nsi.map (Value.int .i64))) :
    Calls Tryz.prog 5 #[.slice A n kk, .slice Ai ni ki, .int .i64 f, .int .i64 q, .int .i64 now, .int .i64 size, .int .i64 by_, .int .i64 k] w fun e w' => e = .returned (.bool true) ∧ Below w.heap.size w w' := by
  obtain ⟨d, hd, hlf⟩ := rowsEd_of n ns hnl
  have hii : nsi.length = ni := by omega
  rw [hlf] at hl
  exact bestWhole_w A n kk d Ai ni ki nsi f q now size by_ k w hd hii (wf_getD hii hwi) hl hli
theorem bestWhole_own : ownKnob Tryz.prog.godebug = none := by kernel_rfl
theorem bestWhole_laidOut : laidOutB Tryz.prog = true := by kernel_rfl

set_option maxHeartbeats 1000000 in
set_option maxRecDepth 100000 in
theorem bestWhole_lifted (os : Os) (started : os.Started) (H : Type) (enc : TypeId × Value → H) :
    ReturnsInHanded {} Tryz.checked os 5 .any (Rows.bestWholeSpec.pre6 enc Tryz.prog Tryz.f5 Rows.bestWholeRow.domain false) (Rows.bestWholeSpec.post enc Tryz.prog Tryz.f5 false true false false) := by
  refine returnsInHanded_of_change (C := Tryz.checked) bestWhole_own started (by kernel_rfl) Tryz.func5
    (ChangeSpec.witness6 (enc := enc) (C := Tryz.checked) false ⟨#[], #[.slice none 0 0, .slice none 0 0, .int .i64 0, .int .i64 0, .int .i64 0, .int .i64 0, .int .i64 0, .int .i64 0], []⟩ 8 (by kernel_rfl) (by kernel_rfl) (by kernel_rfl) (by kernel_rfl)) ?_
  intro W base args ds gs before hval0 hW hcnd _
  have hval : ∀ (j : Nat) t v, Tryz.f5.params[j]? = some t → args[j]? = some v → Value.okWide Tryz.prog W .any base t v := hval0
  have hW' := hW
  obtain ⟨p, q, hA0, hV, rfl, hfz, hnd⟩ := hW
  have hA : DataW.TrodAll enc Tryz.prog W 0 (fun _ => true) true Tryz.f5.params.toList args.toList ds p := hA0
  rw [Tryz.params5] at hA hval
  obtain ⟨v0, vs0, d0, ds0, p0, q0, hargs, rfl, rfl, h0, r0⟩ := trodAll_cons hA
  obtain ⟨v1, vs1, d1, ds1, p1, q1, rfl, rfl, rfl, h1, r1⟩ := trodAll_cons r0
  obtain ⟨v2, vs2, d2, ds2, p2, q2, rfl, rfl, rfl, h2, r2⟩ := trodAll_cons r1
  obtain ⟨v3, vs3, d3, ds3, p3, q3, rfl, rfl, rfl, h3, r3⟩ := trodAll_cons r2
  obtain ⟨v4, vs4, d4, ds4, p4, q4, rfl, rfl, rfl, h4, r4⟩ := trodAll_cons r3
  obtain ⟨v5, vs5, d5, ds5, p5, q5, rfl, rfl, rfl, h5, r5⟩ := trodAll_cons r4
  obtain ⟨v6, vs6, d6, ds6, p6, q6, rfl, rfl, rfl, h6, r6⟩ := trodAll_cons r5
  obtain ⟨v7, vs7, d7, ds7, p7, q7, rfl, rfl, rfl, h7, r7⟩ := trodAll_cons r6
  obtain ⟨rfl, rfl, rfl⟩ := trodAll_nil r7
  obtain rfl : args = #[v0, v1, v2, v3, v4, v5, v6, v7] := by cases args; simp_all
  obtain ⟨rfl, rfl⟩ := trodVars_none hV
  obtain ⟨A0, n0, c0, ns0, rfl, hl0, nl0, w0⟩ := open_rowsS 4 (K := 8) Tryz.underlying22 (by kernel_rfl) (by kernel_rfl) (by omega) (hval 0 22 v0 rfl rfl) h0
  obtain ⟨A1, n1, c1, ns1, rfl, hl1, nl1, w1⟩ := open_rowsS 4 (K := 1) Tryz.underlying33 (by kernel_rfl) (by kernel_rfl) (by omega) (hval 1 33 v1 rfl rfl) h1
  obtain ⟨a2, rfl, rfl, rfl, w2⟩ := open_int Tryz.underlying3 (hval 2 3 v2 rfl rfl) h2
  obtain ⟨a3, rfl, rfl, rfl, w3⟩ := open_int Tryz.underlying3 (hval 3 3 v3 rfl rfl) h3
  obtain ⟨a4, rfl, rfl, rfl, w4⟩ := open_int Tryz.underlying3 (hval 4 3 v4 rfl rfl) h4
  obtain ⟨a5, rfl, rfl, rfl, w5⟩ := open_int Tryz.underlying3 (hval 5 3 v5 rfl rfl) h5
  obtain ⟨a6, rfl, rfl, rfl, w6⟩ := open_int Tryz.underlying3 (hval 6 3 v6 rfl rfl) h6
  obtain ⟨a7, rfl, rfl, rfl, w7⟩ := open_int Tryz.underlying3 (hval 7 3 v7 rfl rfl) h7
  clear hA0 hval0
  refine (bestWhole_walk A0 n0 c0 ns0 A1 n1 c1 ns1 a2 a3 a4 a5 a6 a7 nl0 w0 nl1 w1 w2 w3 w4 w5 w6 w7 W hl0 hl1).mono fun e W' ⟨he, bel⟩ => ?_
  subst he
  exact ⟨_, rfl, law_post bestWhole_laidOut (by kernel_rfl) rfl Tryz.underlying4 rfl rfl hW' bel⟩

theorem bestWhole_proved : Rows.BestWholeSaid :=
  OpenClaim.holds_of_wide 5 Tryz.f5 rfl rfl rfl rfl rfl rfl rfl ⟨rfl, rfl, rfl, rfl, rfl⟩ rfl rfl rfl rfl rfl (by kernel_rfl) Tryz.func5 (by kernel_rfl)
    (of_decide_eq_true (by kernel_rfl)) (by unfold Func.isWrapper; first | (rw [if_pos (by decide +kernel)]; kernel_rfl) | (rw [if_neg (by decide +kernel)]; exact ⟨rfl, rfl⟩))
    (fun os started H enc _ => bestWhole_lifted os started H enc)
#print axioms bestWhole_proved
end Go.Proofs.YtkonkhblipbjcaaGreat
