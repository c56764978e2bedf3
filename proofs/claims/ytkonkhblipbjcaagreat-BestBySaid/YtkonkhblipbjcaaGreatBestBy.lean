/- Who is to be there earlier gets those of all that are there by then: BestBy returns true. No condition. -/
import Derived.Test.YtkonkhblipbjcaaGreatRows
import Derived.Test.YtkonkhblipbjcaaGreatGQ28
import Derived.Test.YtkonkhblipbjcaaGreatGQ29
import Derived.BigQuiet
import Derived.Deep.QuietTactic
import Derived.Test.YtkonkhblipbjcaaGreatBestLaw
namespace Go.Proofs.YtkonkhblipbjcaaGreat
open Go.ChangeShapes Go.WideShapes Go.ChangeAt Go.RowKit Go.Sort Hp
set_option linter.unusedSimpArgs false
set_option linter.unusedVariables false
set_option maxHeartbeats 8000000 in
set_option maxRecDepth 100000 in
theorem bestBy_w (A : Option Addr) (n c : Nat) (l : List Ed) (f q now size by_ u : Int) (w : World) (hd : l.length = n)  (hl : Sl w w.heap.size 8 A n c (flatEd l))  :
    Calls Tryz.prog 7 #[.slice A n c, .int .i64 f, .int .i64 q, .int .i64 now, .int .i64 size, .int .i64 by_, .int .i64 u] w fun e w' => e = .returned (.bool true) ∧ Below w.heap.size w w' := by
  have HD := Lib.hid hd
  have HL := Lib.hid (fun w' (hb : Below w.heap.size w w') => hl.up hb)
  clear hd hl
  go_enter Tryz.func7, Tryz.ntmps7
  go_wp2_with fail
  refine (small19_any w).mono ?_
  rintro e w1 ⟨rfl, hB⟩
  by_cases hG : 12 < n ∨ by_ < u
  · have hG' : (12 < n) ∨ (n ≤ 12 ∧ by_ < u) := by omega
    clear hG
    rcases hG' with g0 | ⟨g0, g1⟩
    all_goals
      go_wp2_with fail
      go_ret
      exact ⟨rfl, hB⟩
  have hn1 : n ≤ 12 := by omega
  have hn2 : u ≤ by_ := by omega
  clear hG
  obtain ⟨Ra, hRa⟩ : ∃ R, (allR l f q now size by_).take (20 : Int).toNat = R := ⟨_, rfl⟩
  obtain ⟨ma, hma⟩ : ∃ m, Ra.length = m := ⟨_, rfl⟩
  have HRa := Lib.hid hRa
  have HMa := Lib.hid hma
  clear hRa hma
  obtain ⟨Rb, hRb⟩ : ∃ R, (allR l f q now size u).take (20 : Int).toNat = R := ⟨_, rfl⟩
  obtain ⟨mb, hmb⟩ : ∃ m, Rb.length = m := ⟨_, rfl⟩
  have HRb := Lib.hid hRb
  have HMb := Lib.hid hmb
  clear hRb hmb
  obtain ⟨q1, q2, q3, q4⟩ := by_math hn2 HRa.out HRb.out HMa.out HMb.out
  have hla : ma ≤ 20 := by rw [← HMa.out, ← HRa.out, List.length_take]; exact Nat.min_le_left _ _
  have Q2 := Lib.hid q2
  have Q3 := Lib.hid q3
  have Q4 := Lib.hid q4
  clear q2 q3 q4
  go_wp2_with fail
  refine (broutes_v A n c l f q now size by_ 20 w1 HD.out (by omega) (by omega) (HL.out _ hB) Ra HRa.out ma HMa.out).mono ?_
  rintro e wk1 ⟨Aa, ca, rfl, ra, hb⟩
  replace hB := hB.trans (hb.mono hB.size)
  clear hb
  go_wp2_with fail
  refine (broutes_v A n c l f q now size u 20 wk1 HD.out (by omega) (by omega) (HL.out _ hB) Rb HRb.out mb HMb.out).mono ?_
  rintro e wk2 ⟨Ab, cb, rfl, rb, hb⟩
  replace ra := ra.below hb
  replace hB := hB.trans (hb.mono hB.size)
  clear hb
  have hca := ra.cap
  have hcb := rb.cap
  have Fra := Lib.hid (fun w' (hb : Below wk2.heap.size wk2 w') => ra.below hb)
  have Frb := Lib.hid (fun w' (hb : Below wk2.heap.size wk2 w') => rb.below hb)
  have HBA := Lib.hid hB
  clear ra rb hB
  go_wp2_with fail
  go_loopw [18] (fun iv wr => ∃ (i : Nat), iv = .int .i64 i ∧ i ≤ mb ∧ Below wk2.heap.size wk2 wr) (fun iv _ => mb - (intOf iv).toNat)
  case atStart => exact ⟨0, rfl, by omega, Below.refl _ _⟩
  case round =>
    obtain ⟨i, rfl, hi, hBr⟩ := hrel
    by_cases him : i < mb
    · obtain ⟨ga, hga, _, hgl, _⟩ := (Fra.out _ hBr).addr (by omega)
      subst hga
      obtain ⟨A1, n1, c1, x0, x1, _, _, _⟩ := (Fra.out _ hBr).cells (k := i) (by omega)
      have hle := Q3.out i him
      obtain ⟨t1, ht1⟩ : ∃ z, (Ra.getD i ([], 0)).2 = z := ⟨_, rfl⟩
      rw [ht1] at x1 hle
      have hiI : (i : Int) < (ma : Int) := by omega
      have hiN : i < ma := by omega
      have g1 : decide (t1 ≤ u) = true := decide_eq_true hle
      clear ht1 x0
      go_wp2_with fail
      clear x1 hgl g1
      go_wp2_with fail
      go_roundw
      case rel => exact ⟨i + 1, by go_num, by omega, hBr⟩
      case measure => simp [intOf]; omega
    · obtain rfl : mb = i := by omega
      have hra := Fra.out _ hBr
      have hrb := Frb.out _ hBr
      have HS1 := Lib.hid (fun (dd : Nat) (os : Array Obj) => (hrb.below (below_regrown wr dd os)).first (Nat.le_refl mb))
      have HS2 := Lib.hid (fun (dd : Nat) (os : Array Obj) => (hra.below (below_regrown wr dd os)).first q1)
      have HL1 : Hid ((Rb.take mb).length ≤ 1000000) := by show _ ≤ _; rw [List.length_take]; omega
      have HL2 : Hid ((Ra.take mb).length ≤ 1000000) := by show _ ≤ _; rw [List.length_take]; omega
      have HEQ : Hid (decide (Rb.take mb = Ra.take mb) = true) := decide_eq_true (by rw [Q2.out, List.take_of_length_le (by rw [HMb.out]; exact Nat.le_refl _)])
      have hr1 := fun w0 => run_hiR w0 Ab mb cb mb hcb
      have hr2 := fun w0 => run_hiR w0 Aa ma ca mb (by omega)
      clear hrb him
      rcases Nat.lt_or_ge mb ma with hlt | hge
      · obtain ⟨ga, hga, _, hgl, _⟩ := hra.addr (by omega)
        subst hga
        obtain ⟨A1, n1, c1, x0, x1, _, _, _⟩ := hra.cells (k := mb) hlt
        have hle := Q4.out hlt
        obtain ⟨t1, ht1⟩ : ∃ z, (Ra.getD mb ([], 0)).2 = z := ⟨_, rfl⟩
        rw [ht1] at x1 hle
        have hiI : (mb : Int) < (ma : Int) := by omega
        have g1 : decide (t1 ≤ u) = false := decide_eq_false (by omega)
        have hn20 : ((mb : Int) == 20) = false := by simp; omega
        clear ht1 x0 hra
        go_wp2_with fail
        clear x1 hgl g1
        by_cases h20 : ma = 20
        · have g20 : ((ma : Int) == 20) = true := by simp; omega
          clear h20
          try simp only [List.append]
          first | refine wp_region_text_below ?_ | refine wp_region_quiet_below (by kernel_rfl) (by kernel_rfl) ?_
          repeat (go_big_quiet_step (((go_at_call 17; with_reducible exact Calls.regrown_of (sameV (HS1.out _ _) (HS2.out _ _) HL1.out HL2.out true HEQ.out)))))
          refine wpQuiet_nil ?_
          intro _ hqw
          obtain ⟨pq, hqw⟩ := hqw
          subst hqw
          have hbel := below_regrown wr pq.d pq.os
          have hB := HBA.out.trans ((hBr.trans (hbel.mono hBr.size)).mono HBA.out.size)
          clear hbel
          generalize grow (redrawn wr pq.d) pq.os = wq at *
          go_wp2_with fail
          go_ret
          exact ⟨rfl, hB⟩
        · have g20 : ((ma : Int) == 20) = false := by simp; omega
          clear h20
          try simp only [List.append]
          first | refine wp_region_text_below ?_ | refine wp_region_quiet_below (by kernel_rfl) (by kernel_rfl) ?_
          repeat (go_big_quiet_step (((go_at_call 17; with_reducible exact Calls.regrown_of (sameV (HS1.out _ _) (HS2.out _ _) HL1.out HL2.out true HEQ.out)))))
          refine wpQuiet_nil ?_
          intro _ hqw
          obtain ⟨pq, hqw⟩ := hqw
          subst hqw
          have hbel := below_regrown wr pq.d pq.os
          have hB := HBA.out.trans ((hBr.trans (hbel.mono hBr.size)).mono HBA.out.size)
          clear hbel
          generalize grow (redrawn wr pq.d) pq.os = wq at *
          go_wp2_with fail
          go_ret
          exact ⟨rfl, hB⟩
      · obtain rfl : ma = mb := by omega
        have g1 : ¬ ma < ma := by omega
        have g2 : ¬ (ma : Int) < (ma : Int) := by omega
        clear hra
        go_wp2_with fail
        clear g1 g2
        by_cases h20 : ma = 20
        · have g20 : ((ma : Int) == 20) = true := by simp; omega
          clear h20
          try simp only [List.append]
          first | refine wp_region_text_below ?_ | refine wp_region_quiet_below (by kernel_rfl) (by kernel_rfl) ?_
          repeat (go_big_quiet_step (((go_at_call 17; with_reducible exact Calls.regrown_of (sameV (HS1.out _ _) (HS2.out _ _) HL1.out HL2.out true HEQ.out)))))
          refine wpQuiet_nil ?_
          intro _ hqw
          obtain ⟨pq, hqw⟩ := hqw
          subst hqw
          have hbel := below_regrown wr pq.d pq.os
          have hB := HBA.out.trans ((hBr.trans (hbel.mono hBr.size)).mono HBA.out.size)
          clear hbel
          generalize grow (redrawn wr pq.d) pq.os = wq at *
          go_wp2_with fail
          go_ret
          exact ⟨rfl, hB⟩
        · have g20 : ((ma : Int) == 20) = false := by simp; omega
          clear h20
          try simp only [List.append]
          first | refine wp_region_text_below ?_ | refine wp_region_quiet_below (by kernel_rfl) (by kernel_rfl) ?_
          repeat (go_big_quiet_step (((go_at_call 17; with_reducible exact Calls.regrown_of (sameV (HS1.out _ _) (HS2.out _ _) HL1.out HL2.out true HEQ.out)))))
          refine wpQuiet_nil ?_
          intro _ hqw
          obtain ⟨pq, hqw⟩ := hqw
          subst hqw
          have hbel := below_regrown wr pq.d pq.os
          have hB := HBA.out.trans ((hBr.trans (hbel.mono hBr.size)).mono HBA.out.size)
          clear hbel
          generalize grow (redrawn wr pq.d) pq.os = wq at *
          go_wp2_with fail
          go_ret
          exact ⟨rfl, hB⟩
theorem bestBy_walk (A : Option Addr) (n kk : Nat) (ns : List Int) (f : Int) (q : Int) (now : Int) (size : Int) (by_ : Int) (u : Int) (hnl : ns.length = n * 8) (_ : ∀ m ∈ ns, (Lit.int .i64 m).wf = true) (_ : (Lit.int .i64 f).wf = true) (_ : (Lit.int .i64 q).wf = true) (_ : (Lit.int .i64 now).wf = true) (_ : (Lit.int .i64 size).wf = true) (_ : (Lit.int .i64 by_).wf = true) (_ : (Lit.int .i64 u).wf = true) (w : World) (hl : Sl w w.heap.size 8 A n kk (ns.map (Value.int .i64))) :
    Calls Tryz.prog 7 #[.slice A n kk, .int .i64 f, .int .i64 q, .int .i64 now, .int .i64 size, .int .i64 by_, .int .i64 u] w fun e w' => e = .returned (.bool true) ∧ Below w.heap.size w w' := by
  obtain ⟨d, hd, hlf⟩ := rowsEd_of n ns hnl

  rw [hlf] at hl
  exact bestBy_w A n kk d f q now size by_ u w hd  hl 
theorem bestBy_own : ownKnob Tryz.prog.godebug = none := by kernel_rfl
theorem bestBy_laidOut : laidOutB Tryz.prog = true := by kernel_rfl

set_option maxHeartbeats 1000000 in
set_option maxRecDepth 100000 in
theorem bestBy_lifted (os : Os) (started : os.Started) (H : Type) (enc : TypeId × Value → H) :
    ReturnsInHanded {} Tryz.checked os 7 .any (Rows.bestBySpec.pre6 enc Tryz.prog Tryz.f7 Rows.bestByRow.domain false) (Rows.bestBySpec.post enc Tryz.prog Tryz.f7 false true false false) := by
  refine returnsInHanded_of_change (C := Tryz.checked) bestBy_own started (by kernel_rfl) Tryz.func7
    (ChangeSpec.witness6 (enc := enc) (C := Tryz.checked) false ⟨#[], #[.slice none 0 0, .int .i64 0, .int .i64 0, .int .i64 0, .int .i64 0, .int .i64 0, .int .i64 0], []⟩ 8 (by kernel_rfl) (by kernel_rfl) (by kernel_rfl) (by kernel_rfl)) ?_
  intro W base args ds gs before hval0 hW hcnd _
  have hval : ∀ (j : Nat) t v, Tryz.f7.params[j]? = some t → args[j]? = some v → Value.okWide Tryz.prog W .any base t v := hval0
  have hW' := hW
  obtain ⟨p, q, hA0, hV, rfl, hfz, hnd⟩ := hW
  have hA : DataW.TrodAll enc Tryz.prog W 0 (fun _ => true) true Tryz.f7.params.toList args.toList ds p := hA0
  rw [Tryz.params7] at hA hval
  obtain ⟨v0, vs0, d0, ds0, p0, q0, hargs, rfl, rfl, h0, r0⟩ := trodAll_cons hA
  obtain ⟨v1, vs1, d1, ds1, p1, q1, rfl, rfl, rfl, h1, r1⟩ := trodAll_cons r0
  obtain ⟨v2, vs2, d2, ds2, p2, q2, rfl, rfl, rfl, h2, r2⟩ := trodAll_cons r1
  obtain ⟨v3, vs3, d3, ds3, p3, q3, rfl, rfl, rfl, h3, r3⟩ := trodAll_cons r2
  obtain ⟨v4, vs4, d4, ds4, p4, q4, rfl, rfl, rfl, h4, r4⟩ := trodAll_cons r3
  obtain ⟨v5, vs5, d5, ds5, p5, q5, rfl, rfl, rfl, h5, r5⟩ := trodAll_cons r4
  obtain ⟨v6, vs6, d6, ds6, p6, q6, rfl, rfl, rfl, h6, r6⟩ := trodAll_cons r5
  obtain ⟨rfl, rfl, rfl⟩ := trodAll_nil r6
  obtain rfl : args = #[v0, v1, v2, v3, v4, v5, v6] := by cases args; simp_all
  obtain ⟨rfl, rfl⟩ := trodVars_none hV
  obtain ⟨A0, n0, c0, ns0, rfl, hl0, nl0, w0⟩ := open_rowsS 4 (K := 8) Tryz.underlying22 (by kernel_rfl) (by kernel_rfl) (by omega) (hval 0 22 v0 rfl rfl) h0
  obtain ⟨a1, rfl, rfl, rfl, w1⟩ := open_int Tryz.underlying3 (hval 1 3 v1 rfl rfl) h1
  obtain ⟨a2, rfl, rfl, rfl, w2⟩ := open_int Tryz.underlying3 (hval 2 3 v2 rfl rfl) h2
  obtain ⟨a3, rfl, rfl, rfl, w3⟩ := open_int Tryz.underlying3 (hval 3 3 v3 rfl rfl) h3
  obtain ⟨a4, rfl, rfl, rfl, w4⟩ := open_int Tryz.underlying3 (hval 4 3 v4 rfl rfl) h4
  obtain ⟨a5, rfl, rfl, rfl, w5⟩ := open_int Tryz.underlying3 (hval 5 3 v5 rfl rfl) h5
  obtain ⟨a6, rfl, rfl, rfl, w6⟩ := open_int Tryz.underlying3 (hval 6 3 v6 rfl rfl) h6
  clear hA0 hval0
  refine (bestBy_walk A0 n0 c0 ns0 a1 a2 a3 a4 a5 a6 nl0 w0 w1 w2 w3 w4 w5 w6 W hl0).mono fun e W' ⟨he, bel⟩ => ?_
  subst he
  exact ⟨_, rfl, law_post bestBy_laidOut (by kernel_rfl) rfl Tryz.underlying4 rfl rfl hW' bel⟩

theorem bestBy_proved : Rows.BestBySaid :=
  OpenClaim.holds_of_wide 7 Tryz.f7 rfl rfl rfl rfl rfl rfl rfl ⟨rfl, rfl, rfl, rfl, rfl⟩ rfl rfl rfl rfl rfl (by kernel_rfl) Tryz.func7 (by kernel_rfl)
    (of_decide_eq_true (by kernel_rfl)) (by unfold Func.isWrapper; first | (rw [if_pos (by decide +kernel)]; kernel_rfl) | (rw [if_neg (by decide +kernel)]; exact ⟨rfl, rfl⟩))
    (fun os started H enc _ => bestBy_lifted os started H enc)
#print axioms bestBy_proved
end Go.Proofs.YtkonkhblipbjcaaGreat
