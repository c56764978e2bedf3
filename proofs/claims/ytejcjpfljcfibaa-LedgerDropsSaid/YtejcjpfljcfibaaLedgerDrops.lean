/- Who is dropped has all room, all others as much as before: LedgerDrops returns true. No condition. -/
import Derived.Test.YtejcjpfljcfibaaRows
import Derived.Test.YtejcjpfljcfibaaLedgerMath
import Derived.Test.YtejcjpfljcfibaaSmall09
import Derived.Test.YtejcjpfljcfibaaOpenS
import Derived.Deep.RegionWith
import Derived.Test.YtejcjpfljcfibaaQTail
namespace Go.Proofs.Ytejcjpfljcfibaa
open Go.ChangeShapes Go.WideShapes Go.ChangeAt Go.RowKit Go.Sort
set_option linter.unusedSimpArgs false
set_option linter.unusedVariables false
theorem right_true (A : Option Addr) (n c : Nat) (d : List Bk) (w : World) (hd : d.length = n) (hn : n ≤ 1000000) (h : Sl w w.heap.size 4 A n c (flatBk d)) (hr : rightB d = true) :
    Calls Try.prog 10 #[.slice A n c] w fun e w' => e = .returned (.bool true) ∧ Below w.heap.size w w' := by
  have := right_any A n c d w hd hn h
  rw [hr] at this
  exact this
theorem inL_one (x j : Int) : inL [x] j = decide (j = x) := by
  unfold inL
  by_cases h : j = x
  · subst h; simp
  · simp [h]; exact fun e => h e.symm
theorem back_zero (j cl : Int) : backF ⟨j, 0, 0, 0⟩ cl = 0 := by
  unfold backF capAdd
  dsimp only
  repeat' split
  all_goals omega
theorem drops_self {l : List Bk} {x : Int} (hr : rightB l = true) : rowB (dropL l [x]) x = ⟨x, 0, 0, 0⟩ := by
  rw [drop_row (right_sort hr), inL_one]
  simp
theorem drops_other {l : List Bk} {x j : Int} (hr : rightB l = true) (h : ¬ j = x) : rowB (dropL l [x]) j = rowB l j := by
  rw [drop_row (right_sort hr), inL_one]
  simp [h]
set_option maxHeartbeats 40000000 in
set_option maxRecDepth 100000 in
theorem drops_walk (A : Option Addr) (n k : Nat) (l : List Bk) (c : Ct) (x cl : Int) (hd : l.length = n) (hxw : (Lit.int .i64 x).wf = true) (w : World) (hl : Sl w w.heap.size 4 A n k (flatBk l)) :
    Calls Try.prog 8 #[.slice A n k, .agg #[.int .i64 c.id, .int .i64 c.fr, .int .i64 c.tn, .int .i64 c.st, .int .i64 c.en, .int .i64 c.rt], .int .i64 x, .int .i64 cl] w fun e w' => e = .returned (.bool true) ∧ Below w.heap.size w w' := by
  have hB : Below w.heap.size w (w.alloc (.cells #[.int .i64 c.id, .int .i64 c.fr, .int .i64 c.tn, .int .i64 c.st, .int .i64 c.en, .int .i64 c.rt] 29)) := by (repeat (first | exact Below.refl _ _ | refine Below.alloc ?_ (by first | omega | (simp; done) | (simp; omega)) _ | refine Below.setCell ?_ (by first | omega | (simp; done) | (simp; omega)) _ | refine Below.drew ?_))
  have hXc := Blok.new w 29 #[.int .i64 c.id, .int .i64 c.fr, .int .i64 c.tn, .int .i64 c.st, .int .i64 c.en, .int .i64 c.rt]
  replace hl := hl.below hB
  have hs := hB.size
  by_cases hn : 50 < n ∨ cl < 0 ∨ 2 < cl
  · skip
    have hn' : 50 < n ∨ (n ≤ 50 ∧ cl < 0) ∨ (n ≤ 50 ∧ 0 ≤ cl ∧ 2 < cl) := by omega
    clear hn
    rcases hn' with hn | ⟨hn, hn2⟩ | ⟨hn, hn2, hn3⟩
    all_goals
      go_enter Try.func8, Try.ntmps8
      go_wp2_with fail
      generalize (w.alloc (.cells #[.int .i64 c.id, .int .i64 c.fr, .int .i64 c.tn, .int .i64 c.st, .int .i64 c.en, .int .i64 c.rt] 29)) = w0 at *
      refine (small09 w0).mono ?_
      rintro e w1 ⟨rfl, hb⟩
      replace hl := hl.below (hb.mono hs)
      replace hXc := hXc.below hb hXc.lt
      replace hB := hB.trans (hb.mono hs)
      replace hs := hB.size
      clear hb
      go_wp2
      go_ret
      exact ⟨rfl, hB⟩
  · skip
    have hc : inB cl 0 2 = true := by unfold inB; simp; omega
    have hn1 : n ≤ 50 := by omega
    have hc1 : 0 ≤ cl := by omega
    have hc2 : cl ≤ 2 := by omega
    have HC := Lib.hid hc
    clear hn hc
    go_enter Try.func8, Try.ntmps8
    go_wp2_with fail
    generalize (w.alloc (.cells #[.int .i64 c.id, .int .i64 c.fr, .int .i64 c.tn, .int .i64 c.st, .int .i64 c.en, .int .i64 c.rt] 29)) = w0 at *
    refine (small09 w0).mono ?_
    rintro e w1 ⟨rfl, hb⟩
    replace hl := hl.below (hb.mono hs)
    replace hXc := hXc.below hb hXc.lt
    replace hB := hB.trans (hb.mono hs)
    replace hs := hB.size
    clear hb
    go_wp2_with fail
    refine (right_any A n k l w1 hd (by omega) (hl.more hs)).mono ?_
    rintro e w2 ⟨rfl, hb⟩
    replace hl := hl.below (hb.mono hs)
    replace hXc := hXc.below hb hXc.lt
    replace hB := hB.trans (hb.mono hs)
    replace hs := hB.size
    clear hb
    cases hrt : rightB l
    · go_wp2_with fail
      go_ret
      exact ⟨rfl, hB⟩
    · skip
      have hwf := right_wf hrt
      obtain ⟨m, hm⟩ : ∃ m, dropL l [x] = m := ⟨_, rfl⟩
      have hrm : rightB m = true := by rw [← hm]; exact drop_right hrt
      have hmm : dropL m [x] = m := by rw [← hm]; exact drop_twice l [x]
      obtain ⟨nm, hnm⟩ : ∃ q, m.length = q := ⟨_, rfl⟩
      have nm1 : nm ≤ 50 := by
        have h1 : (dropL l [x]).length ≤ l.length := by unfold dropL; exact List.length_filter_le _ _
        rw [hm] at h1
        omega
      have HM := Lib.hid hm
      have HRT := Lib.hid hrt
      have HRM := Lib.hid hrm
      have HMM := Lib.hid hmm
      have HNM := Lib.hid hnm
      have HWF := Lib.hid hwf
      have HXW := Lib.hid hxw
      clear hm hrt hrm hmm hnm hwf hxw
      go_wp2_with fail
      have hO := own_lit w2 0 3 1 1 #[.int .i64 x] (by omega) rfl (by simp [maxLen])
      replace hXc := hXc.alloc (.cells #[.int .i64 x] 3)
      replace hl := hl.below ((Below.refl _ _).alloc hs (.cells #[.int .i64 x] 3))
      replace hB := hB.alloc hs (.cells #[.int .i64 x] 3)
      replace hs := hB.size
      generalize (w2.alloc (.cells #[.int .i64 x] 3)) = w3 at *
      refine (drop_any A n k l (some ⟨w2.heap.size, 0, none⟩) 1 1 [x] w3 hd (by omega) rfl (by omega) (hl.more hs) (Sl.of_own hO) HWF.out (fun k hk => by have hk0 : k = 0 := (by omega); subst hk0; exact HXW.out)).mono ?_
      rw [HM.out, HNM.out]
      rintro e w4 ⟨vm, rfl, hvm, hb⟩
      clear hO
      replace hl := hl.below (hb.mono hs)
      replace hXc := hXc.below hb hXc.lt
      replace hB := hB.trans (hb.mono hs)
      replace hs := hB.size
      clear hb
      obtain ⟨Am, cm, rfl⟩ := slice_of_own hvm
      have c0 : w4.cell? ⟨w.heap.size, 0, none⟩ = some (.int .i64 c.id) := hXc.cell 0
      have c1 : w4.cell? ⟨w.heap.size, 1, none⟩ = some (.int .i64 c.fr) := hXc.cell 1
      have c2 : w4.cell? ⟨w.heap.size, 2, none⟩ = some (.int .i64 c.tn) := hXc.cell 2
      have c3 : w4.cell? ⟨w.heap.size, 3, none⟩ = some (.int .i64 c.st) := hXc.cell 3
      have c4 : w4.cell? ⟨w.heap.size, 4, none⟩ = some (.int .i64 c.en) := hXc.cell 4
      have c5 : w4.cell? ⟨w.heap.size, 5, none⟩ = some (.int .i64 c.rt) := hXc.cell 5
      have lt_c := hXc.lt
      go_wp2_with fail
      clear c0 c1 c2 c3 c4 c5 lt_c
      obtain ⟨rm, hrm⟩ : ∃ r, roomF c (rowB m c.id) cl = r := ⟨_, rfl⟩
      have HR := Lib.hid hrm
      clear hrm
      refine (room_any Am nm cm m c cl w4 HNM.out (by omega) (Sl.of_own hvm) (right_sort HRM.out) _ rfl (right_ok HRM.out _) rm HR.out).mono ?_
      rintro e w5 ⟨rfl, hb⟩
      replace hvm := own_below hvm hb
      replace hl := hl.below (hb.mono hs)
      replace hXc := hXc.below hb hXc.lt
      replace hB := hB.trans (hb.mono hs)
      replace hs := hB.size
      clear hb
      have c0 : w5.cell? ⟨w.heap.size, 0, none⟩ = some (.int .i64 c.id) := hXc.cell 0
      have c1 : w5.cell? ⟨w.heap.size, 1, none⟩ = some (.int .i64 c.fr) := hXc.cell 1
      have c2 : w5.cell? ⟨w.heap.size, 2, none⟩ = some (.int .i64 c.tn) := hXc.cell 2
      have c3 : w5.cell? ⟨w.heap.size, 3, none⟩ = some (.int .i64 c.st) := hXc.cell 3
      have c4 : w5.cell? ⟨w.heap.size, 4, none⟩ = some (.int .i64 c.en) := hXc.cell 4
      have c5 : w5.cell? ⟨w.heap.size, 5, none⟩ = some (.int .i64 c.rt) := hXc.cell 5
      have lt_c := hXc.lt
      by_cases hid : c.id = x
      · skip
        have hqb : (c.id == x) = true := by simp [hid]
        have hr1 : rowB m x = ⟨x, 0, 0, 0⟩ := by rw [← HM.out]; exact drops_self HRT.out
        have hv : rm = volC c := by
          rw [← HR.out, hid, hr1]
          unfold roomF
          rw [if_pos HC.out, back_zero]
          have := volC_ok c
          omega
        have hvol : volumeF c.id c.fr c.tn c.st c.en c.rt = rm := hv.symm
        have HV := Lib.hid hvol
        have HR1 := Lib.hid hr1
        clear hv hvol hr1 hid
        go_wp2_with fail
        refine (volume_is rm HV.out w5).mono ?_
        rintro e w6 ⟨rfl, hb⟩
        clear c0 c1 c2 c3 c4 c5 lt_c
        clear hqb
        replace hvm := own_below hvm hb
        replace hl := hl.below (hb.mono hs)
        replace hXc := hXc.below hb hXc.lt
        replace hB := hB.trans (hb.mono hs)
        replace hs := hB.size
        clear hb
        go_wp2_with fail
        refine (backlog_any Am nm cm m x cl w6 HNM.out (by omega) (Sl.of_own hvm) (right_sort HRM.out) _ rfl (right_ok HRM.out _) 0 (by rw [HR1.out]; exact back_zero _ _)).mono ?_
        rintro e w7 ⟨rfl, hb⟩
        replace hvm := own_below hvm hb
        replace hl := hl.below (hb.mono hs)
        replace hXc := hXc.below hb hXc.lt
        replace hB := hB.trans (hb.mono hs)
        replace hs := hB.size
        clear hb
        go_wp2_with fail
        refine (right_any Am nm cm m w7 HNM.out (by omega) (Sl.of_own hvm)).mono ?_
        rw [HRM.out]
        rintro e w8 ⟨rfl, hb⟩
        replace hB := hB.trans (hb.mono hs)
        clear hb hXc hvm hl
        go_wp2
        go_ret
        exact ⟨rfl, hB⟩
      · skip
        have hqb : (c.id == x) = false := beq_eq_false_iff_ne.2 hid
        have hr1 : rowB m c.id = rowB l c.id := by rw [← HM.out]; exact drops_other HRT.out hid
        have hv : roomF c (rowB l c.id) cl = rm := by rw [← hr1]; exact HR.out
        have HV := Lib.hid hv
        obtain ⟨bk, hbk⟩ : ∃ b, backF (rowB l c.id) cl = b := ⟨_, rfl⟩
        have hbm : backF (rowB m c.id) cl = bk := by rw [hr1]; exact hbk
        have HB1 := Lib.hid hbk
        have HB2 := Lib.hid hbm
        clear hv hr1 hid hbk hbm
        go_wp2_with fail
        have qL : ∀ d os, Sl (grow (redrawn w5 d) os) (grow (redrawn w5 d) os).heap.size 4 A n k (flatBk l) := fun d os => (hl.below ((below_regrown w5 d os).mono hs)).more (Nat.le_trans hs (below_regrown w5 d os).size)
        have qM : ∀ d os, Sl (grow (redrawn w5 d) os) (grow (redrawn w5 d) os).heap.size 4 Am nm cm (flatBk m) := fun d os => Sl.of_own (own_below hvm (below_regrown w5 d os))
        have HQL := Lib.hid qL
        have HQM := Lib.hid qM
        clear qL qM
        have q_c0 := fun d os => cell_regrown c0 d os
        have q_c1 := fun d os => cell_regrown c1 d os
        have q_c2 := fun d os => cell_regrown c2 d os
        have q_c3 := fun d os => cell_regrown c3 d os
        have q_c4 := fun d os => cell_regrown c4 d os
        have q_c5 := fun d os => cell_regrown c5 d os
        try simp only [List.append]
        refine wp_region_gate 26 (by kernel_rfl) (by kernel_rfl) ?_
        simp only [Nat.reduceAdd, List.take_succ_cons, List.take_zero]
        repeat (go_big_quiet_step ((first
          | (go_at_call 25; with_reducible exact Calls.regrown_of (room_any A n k l c cl _ hd (by omega) (HQL.out _ _) (right_sort HRT.out) _ rfl (right_ok HRT.out _) rm HV.out))
          | (go_at_call 23; with_reducible exact Calls.regrown_of (backlog_any Am nm cm m c.id cl _ HNM.out (by omega) (HQM.out _ _) (right_sort HRM.out) _ rfl (right_ok HRM.out _) bk HB2.out))
          | (go_at_call 23; with_reducible exact Calls.regrown_of (backlog_any A n k l c.id cl _ hd (by omega) (HQL.out _ _) (right_sort HRT.out) _ rfl (right_ok HRT.out _) bk HB1.out))
          | (go_at_call 10; with_reducible exact Calls.regrown_of (right_true Am nm cm m _ HNM.out (by omega) (HQM.out _ _) HRM.out)))))
        refine wpQuiet_nil ?_
        intro _ hqw
        obtain ⟨pq, hqw⟩ := hqw
        subst hqw
        clear q_c0 q_c1 q_c2 q_c3 q_c4 q_c5
        have hb := below_regrown w5 pq.d pq.os
        replace hvm := own_below hvm hb
        replace hB := hB.trans (hb.mono hs)
        replace hs := hB.size
        clear hb hl hXc HQL HQM c0 c1 c2 c3 c4 c5 lt_c HV HB1 HB2
        generalize grow (redrawn w5 pq.d) pq.os = w6 at *
        change wpAny _ _ _ _ 8 _ _ _
        refine wpAny_take (i := 27) (v := ?_) rfl (by kernel_rfl) (by kernel_rfl) (by kernel_rfl) (fun _ _ _ h => h) (Or.inl ⟨by rfl, ?_⟩) ?_
        rotate_left
        · (intro w; go_simp; try with_reducible rfl)
        refine wpAny_take (i := 28) (v := ?_) rfl (by kernel_rfl) (by kernel_rfl) (by kernel_rfl) (fun _ _ _ h => h) (Or.inl ⟨by rfl, ?_⟩) ?_
        rotate_left
        · (intro w; go_simp; try with_reducible rfl)
        refine wpAny_take (i := 31) (v := ?_) rfl (by kernel_rfl) (by kernel_rfl) (by kernel_rfl) (fun _ _ _ h => h) (Or.inl ⟨by rfl, ?_⟩) ?_
        rotate_left
        · (intro w; go_simp; try with_reducible rfl)
        refine wpAny_of_idx [29, 30, 32, 33, 34] _ _ _ (by kernel_rfl) ?_
        simp only [pickL, List.flatMap_cons, List.flatMap_nil, List.drop_succ_cons, List.drop_zero, List.take_succ_cons, List.take_zero, List.append_nil, List.cons_append, List.nil_append]
        go_wp2_with fail
        have hO := own_lit w6 0 3 1 1 #[.int .i64 x] (by omega) rfl (by simp [maxLen])
        replace hvm := hvm.alloc (.cells #[.int .i64 x] 3)
        replace hB := hB.alloc hs (.cells #[.int .i64 x] 3)
        replace hs := hB.size
        generalize (w6.alloc (.cells #[.int .i64 x] 3)) = w7 at *
        refine (drop_any Am nm cm m (some ⟨w6.heap.size, 0, none⟩) 1 1 [x] w7 HNM.out (by omega) rfl (by omega) (Sl.of_own hvm) (Sl.of_own hO) (right_wf HRM.out) (fun k hk => by have hk0 : k = 0 := (by omega); subst hk0; exact HXW.out)).mono ?_
        rw [HMM.out, HNM.out]
        rintro e w8 ⟨v9, rfl, hv9, hb⟩
        clear hO
        replace hvm := own_below hvm hb
        replace hB := hB.trans (hb.mono hs)
        replace hs := hB.size
        clear hb
        obtain ⟨A9, c9, rfl⟩ := slice_of_own hv9
        go_wp2_with fail
        refine (same_any A9 Am nm c9 nm cm m m w8 HNM.out HNM.out (by omega) (by omega) (Sl.of_own hv9) (Sl.of_own hvm)).mono ?_
        rw [decide_eq_true (rfl : m = m)]
        rintro e w9 ⟨rfl, hb⟩
        replace hB := hB.trans (hb.mono hs)
        clear hb hv9 hvm
        go_wp2
        go_ret
        exact ⟨rfl, hB⟩
theorem ledgerDrops_walk (A : Option Addr) (n k : Nat) (ns : List Int) (a0 a1 a2 a3 a4 a5 x y : Int) (hnl : ns.length = n * 4) (_ : ∀ m ∈ ns, (Lit.int .i64 m).wf = true) (_ : ∀ m ∈ [a0, a1, a2, a3, a4, a5], (Lit.int .i64 m).wf = true) (hx : (Lit.int .i64 x).wf = true) (_ : (Lit.int .i64 y).wf = true) (w : World) (hl : Sl w w.heap.size 4 A n k (ns.map (Value.int .i64))) :
    Calls Try.prog 8 #[.slice A n k, .agg #[.int .i64 a0, .int .i64 a1, .int .i64 a2, .int .i64 a3, .int .i64 a4, .int .i64 a5], .int .i64 x, .int .i64 y] w fun e w' => e = .returned (.bool true) ∧ Below w.heap.size w w' := by
  obtain ⟨d, hd, hlf⟩ := rowsBk_of n ns hnl
  rw [hlf] at hl
  exact drops_walk A n k d ⟨a0, a1, a2, a3, a4, a5⟩ x y hd hx w hl
theorem ledgerDrops_own : ownKnob Try.prog.godebug = none := by kernel_rfl
theorem ledgerDrops_laidOut : laidOutB Try.prog = true := by kernel_rfl

set_option maxHeartbeats 1000000 in
set_option maxRecDepth 100000 in
theorem ledgerDrops_lifted (os : Os) (started : os.Started) (H : Type) (enc : TypeId × Value → H) :
    ReturnsInHanded {} Try.checked os 8 .any (Rows.ledgerDropsSpec.pre6 enc Try.prog Try.f8 Rows.ledgerDropsRow.domain false) (Rows.ledgerDropsSpec.post enc Try.prog Try.f8 false true false false) := by
  refine returnsInHanded_of_change (C := Try.checked) ledgerDrops_own started (by kernel_rfl) Try.func8
    (ChangeSpec.witness6 (enc := enc) (C := Try.checked) false ⟨#[], #[.slice none 0 0, .agg #[.int .i64 0, .int .i64 0, .int .i64 0, .int .i64 0, .int .i64 0, .int .i64 0], .int .i64 0, .int .i64 0], []⟩ 8 (by kernel_rfl) (by kernel_rfl) (by kernel_rfl) (by kernel_rfl)) ?_
  intro W base args ds gs before hval0 hW hcnd _
  have hval : ∀ (j : Nat) t v, Try.f8.params[j]? = some t → args[j]? = some v → Value.okWide Try.prog W .any base t v := hval0
  have hW' := hW
  obtain ⟨p, q, hA0, hV, rfl, hfz, hnd⟩ := hW
  have hA : DataW.TrodAll enc Try.prog W 0 (fun _ => true) true Try.f8.params.toList args.toList ds p := hA0
  rw [Try.params8] at hA hval
  obtain ⟨v0, vs0, d0, ds0, p0, q0, hargs, rfl, rfl, h0, r0⟩ := trodAll_cons hA
  obtain ⟨v1, vs1, d1, ds1, p1, q1, rfl, rfl, rfl, h1, r1⟩ := trodAll_cons r0
  obtain ⟨v2, vs2, d2, ds2, p2, q2, rfl, rfl, rfl, h2, r2⟩ := trodAll_cons r1
  obtain ⟨v3, vs3, d3, ds3, p3, q3, rfl, rfl, rfl, h3, r3⟩ := trodAll_cons r2
  obtain ⟨rfl, rfl, rfl⟩ := trodAll_nil r3
  obtain rfl : args = #[v0, v1, v2, v3] := by cases args; simp_all
  obtain ⟨rfl, rfl⟩ := trodVars_none hV
  obtain ⟨A0, n0, c0, ns0, rfl, hl0, nl0, w0⟩ := open_rowsS 4 (K := 4) Try.underlying22 (by kernel_rfl) (by kernel_rfl) (by omega) (hval 0 22 v0 rfl rfl) h0
  obtain ⟨n1, e1, l1, w1⟩ := open_flat 4 Try.underlying29 (by kernel_rfl) (hval 1 29 v1 rfl rfl) h1
  obtain ⟨a1_0, a1_1, a1_2, a1_3, a1_4, a1_5, rfl⟩ : ∃ a1_0 a1_1 a1_2 a1_3 a1_4 a1_5 : Int, n1 = [a1_0, a1_1, a1_2, a1_3, a1_4, a1_5] := by
    rw [show Try.prog.cellsOf 29 = 6 by kernel_rfl] at l1
    match n1, l1 with
    | [a1_0, a1_1, a1_2, a1_3, a1_4, a1_5], _ => exact ⟨_, _, _, _, _, _, rfl⟩
  obtain rfl : v1 = .agg #[.int .i64 a1_0, .int .i64 a1_1, .int .i64 a1_2, .int .i64 a1_3, .int .i64 a1_4, .int .i64 a1_5] := e1
  obtain ⟨a2, rfl, rfl, rfl, w2⟩ := open_int Try.underlying3 (hval 2 3 v2 rfl rfl) h2
  obtain ⟨a3, rfl, rfl, rfl, w3⟩ := open_int Try.underlying3 (hval 3 3 v3 rfl rfl) h3
  clear hA0 hval0
  refine (ledgerDrops_walk A0 n0 c0 ns0 a1_0 a1_1 a1_2 a1_3 a1_4 a1_5 a2 a3 nl0 w0 w1 w2 w3 W hl0).mono fun e W' ⟨he, bel⟩ => ?_
  subst he
  exact ⟨_, rfl, law_post ledgerDrops_laidOut (by kernel_rfl) rfl Try.underlying4 rfl rfl hW' bel⟩

theorem ledgerDrops_proved : Rows.LedgerDropsSaid :=
  OpenClaim.holds_of_wide 8 Try.f8 rfl rfl rfl rfl rfl rfl rfl ⟨rfl, rfl, rfl, rfl, rfl⟩ rfl rfl rfl rfl rfl (by kernel_rfl) Try.func8 (by kernel_rfl)
    (of_decide_eq_true (by kernel_rfl)) (by unfold Func.isWrapper; first | (rw [if_pos (by decide +kernel)]; kernel_rfl) | (rw [if_neg (by decide +kernel)]; exact ⟨rfl, rfl⟩))
    (fun os started H enc _ => ledgerDrops_lifted os started H enc)
#print axioms ledgerDrops_proved
end Go.Proofs.Ytejcjpfljcfibaa
