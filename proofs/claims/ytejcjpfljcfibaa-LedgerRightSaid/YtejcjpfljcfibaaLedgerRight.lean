/- What is right stays right, and each act changes what it is told to, of one contact alone: LedgerRight returns true. No condition. -/
import Derived.Test.YtejcjpfljcfibaaRows
import Derived.Test.YtejcjpfljcfibaaLedgerMath
import Derived.Test.YtejcjpfljcfibaaTyAl
import Derived.Test.YtejcjpfljcfibaaSmall09
import Derived.Test.YtejcjpfljcfibaaOpenS
import Derived.Test.YtejcjpfljcfibaaQTail
import Derived.Deep.CutBlock
import Derived.Deep.DeepCutAuto
namespace Go.Proofs.Ytejcjpfljcfibaa
open Go.ChangeShapes Go.WideShapes Go.ChangeAt Go.RowKit Go.Sort
set_option linter.unusedSimpArgs false
set_option linter.unusedVariables false
theorem inL_one' (x j : Int) : inL [x] j = decide (j = x) := by
  unfold inL
  simp only [List.any_cons, List.any_nil, Bool.or_false]
  rw [Bool.eq_iff_iff]
  simp
  exact eq_comm
theorem right_true (A : Option Addr) (n c : Nat) (d : List Bk) (w : World) (hd : d.length = n) (hn : n ≤ 1000000) (h : Sl w w.heap.size 4 A n c (flatBk d)) (hr : rightB d = true) :
    Calls Try.prog 10 #[.slice A n c] w fun e w' => e = .returned (.bool true) ∧ Below w.heap.size w w' := by
  have := right_any A n c d w hd hn h
  rw [hr] at this
  exact this
theorem same_true (A A' : Option Addr) (n c n' c' : Nat) (d d' : List Bk) (w : World) (hd : d.length = n) (hd' : d'.length = n') (hn : n ≤ 1000000) (hn' : n' ≤ 1000000) (h : Sl w w.heap.size 4 A n c (flatBk d)) (h' : Sl w w.heap.size 4 A' n' c' (flatBk d')) (he : d = d') :
    Calls Try.prog 12 #[.slice A n c, .slice A' n' c'] w fun e w' => e = .returned (.bool true) ∧ Below w.heap.size w w' := by
  have := same_any A A' n c n' c' d d' w hd hd' hn hn' h h'
  rw [decide_eq_true he] at this
  exact this
/-- What an act makes of a ledger. -/
structure ActR (d q : List Bk) (cid cl : Int) (p wh : Bool) (v : Int) : Prop where
  right : rightB q = true
  same : p = false → q = d
  other : ∀ j, j ≠ cid → rowB q j = rowB d j
  len : q.length ≤ d.length + 1
  row : p = true → wh = true → inB cl 0 2 = true ∧ rowB q cid = bump (rowB d cid) cl v
theorem actR_book {d : List Bk} (c : Ct) (cl s : Int) (hr : rightB d = true) : ActR d (bookL d c cl s) c.id cl (bookB d c cl s) true s where
  right := book_right hr
  same h := by unfold bookL; rw [if_neg (by rw [h]; simp)]
  other j hj := by rw [book_row hr, if_neg (fun h => hj h.2)]
  len := bookL_len _ _ _ _
  row h _ := ⟨(book_facts hr h).2.1, by rw [book_row hr, if_pos ⟨h, rfl⟩]⟩
theorem actR_rel {d : List Bk} (id cl s : Int) (hr : rightB d = true) : ActR d (relL d id cl s) id cl (relB d id cl s) true (wrap64 (-s)) where
  right := rel_right hr
  same h := by unfold relL; rw [if_neg (by rw [h]; simp)]
  other j hj := by rw [rel_row hr, if_neg (fun h => hj h.2)]
  len := relL_len _ _ _ _
  row h _ := by
    have hf := rel_facts h
    have hg := getU_ok (right_ok hr id) cl
    have hw : wrap64 (-s) = -s := by unfold wrap64; omega
    exact ⟨hf.1, by rw [rel_row hr, if_pos ⟨h, rfl⟩, hw]⟩
theorem actR_drop {d : List Bk} (id cl v : Int) (hr : rightB d = true) : ActR d (dropL d [id]) id cl true false v where
  right := drop_right hr
  same h := by cases h
  other j hj := by rw [drop_row (right_sort hr), if_neg (by rw [inL_one']; simpa using hj)]
  len := by have h1 : (dropL d [id]).length ≤ d.length := (by unfold dropL; exact List.length_filter_le _ _); omega
  row _ h := by cases h
theorem dropR_row {d : List Bk} (id : Int) (hr : rightB d = true) : rowB (dropL d [id]) id = ⟨id, 0, 0, 0⟩ := by
  rw [drop_row (right_sort hr), if_pos (by rw [inL_one']; simp)]
/-- A slice that reads as a right ledger. -/
def RightS (N : Nat) (s : Value) (wx : World) : Prop :=
  ∃ (A1 : Option Addr) (m1 k1 : Nat) (q : List Bk), s = .slice A1 m1 k1 ∧ m1 ≤ N ∧ Hid (q.length = m1) ∧ Hid (rightB q = true) ∧ Hid (Sl wx wx.heap.size 4 A1 m1 k1 (flatBk q))
/-- What the switch leaves. -/
def MidR (d : List Bk) (m : Nat) (cid cl y0 : Int) (s10 s11 s12 : Value) (wx : World) : Prop :=
  ∃ (A1 : Option Addr) (m1 e1 : Nat) (q : List Bk) (p : Bool) (v : Int), s10 = .slice A1 m1 e1 ∧ s11 = .bool p ∧ s12 = .int .i64 v ∧ Hid (q.length = m1) ∧ m1 ≤ m + 1 ∧ Hid (ActR d q cid cl p (y0 == 1 || y0 == 2) v) ∧ Hid (Sl wx wx.heap.size 4 A1 m1 e1 (flatBk q))
set_option maxHeartbeats 16000000 in
set_option maxRecDepth 100000 in
theorem rights_walk (A : Option Addr) (n k : Nat) (d : List Bk) (A' : Option Addr) (n' c' : Nat) (t : List Al) (id : Int) (hd : d.length = n) (ht : t.length = n') (hwf : ∀ i, i < n' → (Lit.int .i64 (gAl t i).id).wf = true) (w : World) (hl : Sl w w.heap.size 4 A n k (flatBk d)) (hl' : Sl w w.heap.size 9 A' n' c' (flatAl t)) :
    Calls Try.prog 5 #[.slice A n k, .slice A' n' c', .int .i64 id] w fun e w' => e = .returned (.bool true) ∧ Below w.heap.size w w' := by
  have hWF := Lib.hid hwf
  clear hwf
  by_cases hn : 50 < n ∨ 50 < n'
  · have hn' : 50 < n ∨ (n ≤ 50 ∧ 50 < n') := by omega
    clear hn
    rcases hn' with hn | ⟨hn, hn2⟩
    all_goals
      go_enter Try.func5, Try.ntmps5
      go_wp2_with fail
      refine (small09 _).mono ?_
      rintro e w1 ⟨rfl, hB⟩
      go_wp2
      go_ret
      exact ⟨rfl, hB⟩
  · have hn1 : n ≤ 50 := by omega
    have hn2 : n' ≤ 50 := by omega
    clear hn
    have g1 : decide ((n : Int) > 50) = false := by simp; omega
    have g2 : decide ((n' : Int) > 50) = false := by simp; omega
    go_enter Try.func5, Try.ntmps5
    go_wp2_with fail
    refine (small09 _).mono ?_
    rintro e w1 ⟨rfl, hB⟩
    replace hl := hl.below hB
    replace hl' := hl'.below hB
    have hs := hB.size
    go_wp2_with fail
    refine (right_any A n k d w1 hd (by omega) (hl.more hs)).mono ?_
    rintro e w2 ⟨rfl, hb⟩
    replace hl := hl.below (hb.mono hs)
    replace hl' := hl'.below (hb.mono hs)
    replace hB := hB.trans (hb.mono hs)
    replace hs := hB.size
    clear hb
    cases hrt : rightB d
    · go_wp2_with fail
      go_ret
      exact ⟨rfl, hB⟩
    · have HD := Lib.hid hd
      have HT := Lib.hid ht
      have HR := Lib.hid hrt
      have HL := Lib.hid hl
      have HL' := Lib.hid hl'
      have HB := Lib.hid hB
      clear hd ht hrt hl hl' g1 g2
      go_wp2
      go_loopw [0, 8] (fun lv iv wr => ∃ (i : Nat), RightS (50 + i) lv wr ∧ iv = .int .i64 i ∧ i ≤ n' ∧ Below w.heap.size w wr ∧ Hid (Sl wr w.heap.size 9 A' n' c' (flatAl t))) (fun _ iv _ => n' - (intOf iv).toNat)
      case atStart => exact ⟨0, ⟨A, n, k, d, rfl, by omega, HD, HR, HL.out.more hs⟩, rfl, by omega, HB.out, HL'.out⟩
      case round =>
        clear HD HR HL HL' HB hB hs hn1
        obtain ⟨i, ⟨A, m, kk, d, rfl, hm, HD, HR, HL⟩, rfl, hi, hB, HL'⟩ := hrel
        have hs := hB.size
        by_cases hin : i < n'
        · obtain ⟨ad, rfl, hab, c0, c1, c2, c3, c4, c5, c6, c7, c8⟩ := HL'.out.lst.atAl HT.out hin
          obtain ⟨y, hy⟩ : ∃ y, gAl t i = y := ⟨_, rfl⟩
          rw [hy] at c0 c1 c2 c3 c4 c5 c6 c7 c8
          obtain ⟨y0, y1, y2, y3, y4, y5, y6, y7, y8⟩ := y
          simp only at c0 c1 c2 c3 c4 c5 c6 c7 c8
          have HWF := Lib.hid (hWF.out i hin)
          rw [hy] at HWF
          clear hy
          have hX := Blok.new wr 31 #[.int .i64 y0, .int .i64 y1, .int .i64 y2, .int .i64 y3, .int .i64 y4, .int .i64 y5, .int .i64 y6, .int .i64 y7, .int .i64 y8]
          have hb : Below wr.heap.size wr (wr.alloc (.cells #[.int .i64 y0, .int .i64 y1, .int .i64 y2, .int .i64 y3, .int .i64 y4, .int .i64 y5, .int .i64 y6, .int .i64 y7, .int .i64 y8] 31)) := by (repeat (first | exact Below.refl _ _ | refine Below.alloc ?_ (by first | omega | (simp; done) | (simp; omega)) _ | refine Below.setCell ?_ (by first | omega | (simp; done) | (simp; omega)) _ | refine Below.drew ?_))
          go_upto_block 2 with fail
          generalize wr.alloc (.cells #[.int .i64 y0, .int .i64 y1, .int .i64 y2, .int .i64 y3, .int .i64 y4, .int .i64 y5, .int .i64 y6, .int .i64 y7, .int .i64 y8] 31) = w3 at *
          replace HL := HL.out.up hb
          replace HL' := HL'.out.below (hb.mono hs)
          replace hB := hB.trans (hb.mono hs)
          replace hs := hB.size
          clear hb c0 c1 c2 c3 c4 c5 c6 c7 c8
          generalize wr.heap.size = bx at *
          have HM := Lib.hid hm
          go_cut [10, 11, 12] (fun s10 s11 s12 wx => MidR d m y1 y7 y0 s10 s11 s12 wx ∧ Below w3.heap.size w3 wx)
          case first =>
            rcases (by omega : y0 = 1 ∨ y0 = 2 ∨ (y0 ≠ 1 ∧ y0 ≠ 2)) with rfl | rfl | ⟨h1, h2⟩
            · skip
              have k1 : w3.cell? ⟨bx, 1, none⟩ = some (.int .i64 y1) := hX.cell 1
              have k2 : w3.cell? ⟨bx, 2, none⟩ = some (.int .i64 y2) := hX.cell 2
              have k3 : w3.cell? ⟨bx, 3, none⟩ = some (.int .i64 y3) := hX.cell 3
              have k4 : w3.cell? ⟨bx, 4, none⟩ = some (.int .i64 y4) := hX.cell 4
              have k5 : w3.cell? ⟨bx, 5, none⟩ = some (.int .i64 y5) := hX.cell 5
              have k6 : w3.cell? ⟨bx, 6, none⟩ = some (.int .i64 y6) := hX.cell 6
              have k7 : w3.cell? ⟨bx, 7, none⟩ = some (.int .i64 y7) := hX.cell 7
              have k8 : w3.cell? ⟨bx, 8, none⟩ = some (.int .i64 y8) := hX.cell 8
              have lt_x := hX.lt
              go_wp2_with fail
              refine (book_any A m kk d ⟨y1, y2, y3, y4, y5, y6⟩ y7 y8 w3 HD.out (by omega) HL HR.out _ rfl _ rfl).mono ?_
              rintro e w4 ⟨v8, rfl, hv, hb⟩
              obtain ⟨A1, e1, rfl⟩ := slice_of_own hv
              have ha := actR_book ⟨y1, y2, y3, y4, y5, y6⟩ y7 y8 HR.out
              have hlen := ha.len
              rw [HD.out] at hlen
              clear k1 k2 k3 k4 k5 k6 k7 k8 lt_x
              go_wp2_with fail
              go_meet
              exact ⟨⟨A1, _, e1, _, _, _, rfl, rfl, rfl, rfl, hlen, ha, Sl.of_own hv⟩, hb⟩
            · skip
              have k1 : w3.cell? ⟨bx, 1, none⟩ = some (.int .i64 y1) := hX.cell 1
              have k2 : w3.cell? ⟨bx, 2, none⟩ = some (.int .i64 y2) := hX.cell 2
              have k3 : w3.cell? ⟨bx, 3, none⟩ = some (.int .i64 y3) := hX.cell 3
              have k4 : w3.cell? ⟨bx, 4, none⟩ = some (.int .i64 y4) := hX.cell 4
              have k5 : w3.cell? ⟨bx, 5, none⟩ = some (.int .i64 y5) := hX.cell 5
              have k6 : w3.cell? ⟨bx, 6, none⟩ = some (.int .i64 y6) := hX.cell 6
              have k7 : w3.cell? ⟨bx, 7, none⟩ = some (.int .i64 y7) := hX.cell 7
              have k8 : w3.cell? ⟨bx, 8, none⟩ = some (.int .i64 y8) := hX.cell 8
              have lt_x := hX.lt
              go_wp2_with fail
              refine (rel_any A m kk d y1 y7 y8 w3 HD.out (by omega) HL HR.out _ rfl _ rfl).mono ?_
              rintro e w4 ⟨v8, rfl, hv, hb⟩
              obtain ⟨A1, e1, rfl⟩ := slice_of_own hv
              have ha := actR_rel y1 y7 y8 HR.out
              have hlen := ha.len
              rw [HD.out] at hlen
              have k8' : w4.cell? ⟨bx, 8, none⟩ = some (.int .i64 y8) := (hX.below hb hX.lt).cell 8
              clear k1 k2 k3 k4 k5 k6 k7 k8 lt_x
              go_wp2_with fail
              go_meet
              exact ⟨⟨A1, _, e1, _, _, _, rfl, rfl, rfl, rfl, hlen, (Lib.hid ha), Sl.of_own hv⟩, hb⟩
            · have b1 : (y0 == 1) = false := beq_eq_false_iff_ne.2 h1
              have b2 : (y0 == 2) = false := beq_eq_false_iff_ne.2 h2
              clear h1 h2
              have k0 : w3.cell? ⟨bx, 0, none⟩ = some (.int .i64 y0) := hX.cell 0
              have k1 : w3.cell? ⟨bx, 1, none⟩ = some (.int .i64 y1) := hX.cell 1
              have k7 : w3.cell? ⟨bx, 7, none⟩ = some (.int .i64 y7) := hX.cell 7
              have k8 : w3.cell? ⟨bx, 8, none⟩ = some (.int .i64 y8) := hX.cell 8
              have lt_x := hX.lt
              go_wp2_with fail
              have hO := own_lit w3 0 3 1 1 #[.int .i64 y1] (by omega) rfl (by simp [maxLen])
              have hbO : Below w3.heap.size w3 (w3.alloc (.cells #[.int .i64 y1] 3)) := by (repeat (first | exact Below.refl _ _ | refine Below.alloc ?_ (by first | omega | (simp; done) | (simp; omega)) _ | refine Below.setCell ?_ (by first | omega | (simp; done) | (simp; omega)) _ | refine Below.drew ?_))
              have hLO := HL.up hbO
              have hX4 := hX.below hbO hX.lt
              clear k0 k1 k7 k8 lt_x
              generalize hw4 : (w3.alloc (.cells #[.int .i64 y1] 3)) = w4 at *
              clear hw4
              refine (drop_any A m kk d (some ⟨w3.heap.size, 0, none⟩) 1 1 [y1] w4 HD.out (by omega) rfl (by omega) hLO (Sl.of_own hO) (right_wf HR.out) (fun k hk => by have hk0 : k = 0 := (by omega); subst hk0; exact HWF.out)).mono ?_
              rintro e w5 ⟨v8, rfl, hv, hb⟩
              obtain ⟨A1, e1, rfl⟩ := slice_of_own hv
              have ha := actR_drop y1 y7 y8 HR.out
              have hlen := ha.len
              rw [HD.out] at hlen
              have hrow := dropR_row y1 HR.out
              have hb5 := hbO.trans (hb.mono hbO.size)
              have hX5 := hX4.below hb hX4.lt
              have k1 : w5.cell? ⟨bx, 1, none⟩ = some (.int .i64 y1) := hX5.cell 1
              have lt_x := hX5.lt
              clear hb hO
              obtain ⟨m1, hm1⟩ : ∃ m1, (dropL d [y1]).length = m1 := ⟨_, rfl⟩
              rw [hm1] at hlen hv ⊢
              go_wp2_with fail
              refine (used_any A1 m1 e1 _ y1 w5 hm1 (by omega) (Sl.of_own hv) (right_sort ha.right) _ hrow).mono ?_
              rintro e w6 ⟨rfl, hb6⟩
              clear k1 lt_x
              have hrun : ∀ w0, (binOp .neq 38 (.agg #[.int .i64 0, .int .i64 0, .int .i64 0]) (.agg #[.int .i64 0, .int .i64 0, .int .i64 0])).run Try.prog w0 = .ok (.bool false) w0 := fun w0 => by
                have := neql3 0 0 0 0 0 0 w0
                simpa using this
              go_wp2_with fail
              go_meet
              exact ⟨⟨A1, _, e1, _, true, _, rfl, rfl, rfl, hm1, hlen, (Lib.hid (by rw [b1, b2]; exact ha)), (Sl.of_own hv).up hb6⟩, hb5.trans (hb6.mono hb5.size)⟩
          case rest =>
            revert wc
            intro w4 hcut
            obtain ⟨⟨A1, m1, e1, q, p, v, rfl, rfl, rfl, HQ, hm1, HACT, HV⟩, hb⟩ := hcut
            replace hX := hX.below hb hX.lt
            replace HL := HL.up hb
            replace HL' := HL'.below (hb.mono hs)
            replace hB := hB.trans (hb.mono hs)
            replace hs := hB.size
            clear hb
            have HRQ := Lib.hid HACT.out.right
            have HVO := HV.out
            clear HV
            go_upto_region 20 with fail
            go_cut [115] (fun s wx => s = .bool false ∧ Below w4.heap.size w4 wx)
            case first =>
              have k1 : w4.cell? ⟨bx, 1, none⟩ = some (.int .i64 y1) := hX.cell 1
              have lt_x := hX.lt
              have HQM : Hid (∀ dd os, Sl (grow (redrawn w4 dd) os) (grow (redrawn w4 dd) os).heap.size 4 A1 m1 e1 (flatBk q)) := fun dd os => HVO.up (below_regrown w4 dd os)
              have HQL : Hid (∀ dd os, Sl (grow (redrawn w4 dd) os) (grow (redrawn w4 dd) os).heap.size 4 A m kk (flatBk d)) := fun dd os => HL.up (below_regrown w4 dd os)
              have hmm := HM.out
              clear hX HL HVO HL' hB hs
              obtain ⟨x, hx⟩ : ∃ x, rowB d id = x := ⟨_, rfl⟩
              have hrun : ∀ w0, (binOp .neq 38 (.agg #[.int .i64 x.ua, .int .i64 x.ub, .int .i64 x.uc]) (.agg #[.int .i64 x.ua, .int .i64 x.ub, .int .i64 x.uc])).run Try.prog w0 = .ok (.bool false) w0 := fun w0 => by
                have := neql3 x.ua x.ub x.uc x.ua x.ub x.uc w0
                simpa using this
              have HXD := Lib.hid hx
              clear hx
              cases p
              all_goals
                by_cases hid : id = y1
              · skip
                have HSM := Lib.hid (HACT.out.same rfl)
                have hidb : (id != y1) = false := by simp [hid]
                clear hid
                skip
                have q_k1 := fun d os => cell_regrown k1 d os
                try simp only [List.append]
                first | refine wp_region_text_below ?_ | refine wp_region_quiet_below (by kernel_rfl) (by kernel_rfl) ?_
                repeat (go_big_quiet_step (((first | (go_at_call 10; with_reducible exact Calls.regrown_of (right_true A1 m1 e1 q _ HQ.out (by omega) (HQM.out _ _) HRQ.out)) | (go_at_call 12; with_reducible exact Calls.regrown_of (same_true A1 A m1 e1 m kk q d _ HQ.out HD.out (by omega) (by omega) (HQM.out _ _) (HQL.out _ _) HSM.out))))))
                refine wpQuiet_nil ?_
                intro _ hqw
                obtain ⟨pq, hqw⟩ := hqw
                subst hqw
                clear q_k1
                have hbq := below_regrown w4 pq.d pq.os
                clear k1 lt_x HQM HQL hrun hidb
                generalize grow (redrawn w4 pq.d) pq.os = wq at *
                go_wp2_with fail
                go_meet
                exact ⟨rfl, hbq⟩
              · skip
                have HSM := Lib.hid (HACT.out.same rfl)
                have HXQ : Hid (rowB q id = x) := (HACT.out.other id hid).trans HXD.out
                have hidb : (id != y1) = true := by simp [hid]
                clear hid
                skip
                have q_k1 := fun d os => cell_regrown k1 d os
                try simp only [List.append]
                first | refine wp_region_text_below ?_ | refine wp_region_quiet_below (by kernel_rfl) (by kernel_rfl) ?_
                repeat (go_big_quiet_step (((first | (go_at_call 10; with_reducible exact Calls.regrown_of (right_true A1 m1 e1 q _ HQ.out (by omega) (HQM.out _ _) HRQ.out)) | (go_at_call 12; with_reducible exact Calls.regrown_of (same_true A1 A m1 e1 m kk q d _ HQ.out HD.out (by omega) (by omega) (HQM.out _ _) (HQL.out _ _) HSM.out)) | (go_at_call 21; with_reducible exact Calls.regrown_of (used_any A1 m1 e1 q id _ HQ.out (by omega) (HQM.out _ _) (right_sort HRQ.out) x HXQ.out)) | (go_at_call 21; with_reducible exact Calls.regrown_of (used_any A m kk d id _ HD.out (by omega) (HQL.out _ _) (right_sort HR.out) x HXD.out))))))
                refine wpQuiet_nil ?_
                intro _ hqw
                obtain ⟨pq, hqw⟩ := hqw
                subst hqw
                clear q_k1
                have hbq := below_regrown w4 pq.d pq.os
                clear k1 lt_x HQM HQL hrun hidb
                generalize grow (redrawn w4 pq.d) pq.os = wq at *
                go_wp2_with fail
                go_meet
                exact ⟨rfl, hbq⟩
              · skip
                have hidb : (id != y1) = false := by simp [hid]
                clear hid
                skip
                have q_k1 := fun d os => cell_regrown k1 d os
                try simp only [List.append]
                first | refine wp_region_text_below ?_ | refine wp_region_quiet_below (by kernel_rfl) (by kernel_rfl) ?_
                repeat (go_big_quiet_step (((first | (go_at_call 10; with_reducible exact Calls.regrown_of (right_true A1 m1 e1 q _ HQ.out (by omega) (HQM.out _ _) HRQ.out))))))
                refine wpQuiet_nil ?_
                intro _ hqw
                obtain ⟨pq, hqw⟩ := hqw
                subst hqw
                clear q_k1
                have hbq := below_regrown w4 pq.d pq.os
                clear k1 lt_x HQM HQL hrun hidb
                generalize grow (redrawn w4 pq.d) pq.os = wq at *
                go_wp2_with fail
                go_meet
                exact ⟨rfl, hbq⟩
              · skip
                have HXQ : Hid (rowB q id = x) := (HACT.out.other id hid).trans HXD.out
                have hidb : (id != y1) = true := by simp [hid]
                clear hid
                skip
                have q_k1 := fun d os => cell_regrown k1 d os
                try simp only [List.append]
                first | refine wp_region_text_below ?_ | refine wp_region_quiet_below (by kernel_rfl) (by kernel_rfl) ?_
                repeat (go_big_quiet_step (((first | (go_at_call 10; with_reducible exact Calls.regrown_of (right_true A1 m1 e1 q _ HQ.out (by omega) (HQM.out _ _) HRQ.out)) | (go_at_call 21; with_reducible exact Calls.regrown_of (used_any A1 m1 e1 q id _ HQ.out (by omega) (HQM.out _ _) (right_sort HRQ.out) x HXQ.out)) | (go_at_call 21; with_reducible exact Calls.regrown_of (used_any A m kk d id _ HD.out (by omega) (HQL.out _ _) (right_sort HR.out) x HXD.out))))))
                refine wpQuiet_nil ?_
                intro _ hqw
                obtain ⟨pq, hqw⟩ := hqw
                subst hqw
                clear q_k1
                have hbq := below_regrown w4 pq.d pq.os
                clear k1 lt_x HQM HQL hrun hidb
                generalize grow (redrawn w4 pq.d) pq.os = wq at *
                go_wp2_with fail
                go_meet
                exact ⟨rfl, hbq⟩
            case rest =>
              revert wc
              intro w5 hcut
              obtain ⟨rfl, hb⟩ := hcut
              replace hX := hX.below hb hX.lt
              replace HL := HL.up hb
              replace HVO := HVO.up hb
              replace HL' := HL'.below (hb.mono hs)
              replace hB := hB.trans (hb.mono hs)
              replace hs := hB.size
              clear hb
              have hmm := HM.out
              obtain ⟨z, hz⟩ : ∃ z, rowB d y1 = z := ⟨_, rfl⟩
              have HZ := Lib.hid hz
              clear hz
              have k1 : w5.cell? ⟨bx, 1, none⟩ = some (.int .i64 y1) := hX.cell 1
              have lt_x := hX.lt
              go_wp2_with fail
              refine (used_any A m kk d y1 w5 HD.out (by omega) HL (right_sort HR.out) z HZ.out).mono ?_
              rintro e w6 ⟨rfl, hb⟩
              replace hX := hX.below hb hX.lt
              replace HVO := HVO.up hb
              replace HL' := HL'.below (hb.mono hs)
              replace hB := hB.trans (hb.mono hs)
              replace hs := hB.size
              clear hb HL k1 lt_x
              go_upto_region 23 with fail
              have hbA : Below w6.heap.size w6 (w6.alloc (.cells #[.int .i64 z.ua, .int .i64 z.ub, .int .i64 z.uc] 38)) := by (repeat (first | exact Below.refl _ _ | refine Below.alloc ?_ (by first | omega | (simp; done) | (simp; omega)) _ | refine Below.setCell ?_ (by first | omega | (simp; done) | (simp; omega)) _ | refine Below.drew ?_))
              have hU := Blok.new w6 38 #[.int .i64 z.ua, .int .i64 z.ub, .int .i64 z.uc]
              generalize w6.alloc (.cells #[.int .i64 z.ua, .int .i64 z.ub, .int .i64 z.uc] 38) = w7 at *
              obtain ⟨bu, hbu⟩ : ∃ b, w6.heap.size = b := ⟨_, rfl⟩
              rw [hbu] at hU hbA ⊢
              have hX7 := hX.below hbA (by have := hX.lt; omega)
              go_cut [131] (fun s wx => ∃ bq : Bool, s = .bool bq ∧ (bq = true → p = true ∧ (y0 == 1 || y0 == 2) = true) ∧ w7 = wx)
              case first =>
                have k0 : w7.cell? ⟨bx, 0, none⟩ = some (.int .i64 y0) := hX7.cell 0
                have lt_x := hX7.lt
                cases p
                · go_wp2_with fail
                  go_meet
                  exact ⟨false, rfl, (by simp), rfl⟩
                · rcases (by omega : y0 = 1 ∨ y0 = 2 ∨ (y0 ≠ 1 ∧ y0 ≠ 2)) with h1 | h1 | ⟨h1, h2⟩
                  · have b1 : (y0 == 1) = true := beq_iff_eq.2 h1
                    clear h1
                    go_wp2_with fail
                    go_meet
                    exact ⟨true, rfl, (by intro _; simp [b1]), rfl⟩
                  · have b1 : (y0 == 1) = false := by rw [beq_eq_false_iff_ne]; omega
                    have b2 : (y0 == 2) = true := beq_iff_eq.2 h1
                    clear h1
                    go_wp2_with fail
                    go_meet
                    exact ⟨true, rfl, (by intro _; simp [b2]), rfl⟩
                  · have b1 : (y0 == 1) = false := beq_eq_false_iff_ne.2 h1
                    have b2 : (y0 == 2) = false := beq_eq_false_iff_ne.2 h2
                    clear h1 h2
                    go_wp2_with fail
                    go_meet
                    exact ⟨false, rfl, (by intro h; cases h), rfl⟩
              case rest =>
                obtain ⟨bq, rfl, hbq, rfl⟩ := hcut
                cases bq
                · clear hbq
                  go_wp2_with fail
                  go_roundw
                  case rel => exact ⟨i + 1, ⟨A1, m1, e1, q, rfl, by omega, HQ, HRQ, (HVO.more (Nat.le_of_eq hbu)).below hbA |>.more (by have := hbA.size; omega)⟩, by go_num, by omega, hB.trans (hbA.mono (by omega)), HL'.below (hbA.mono (by omega))⟩
                  case measure => simp [intOf]; omega
                · obtain ⟨hp, hwh⟩ := hbq rfl
                  obtain ⟨hcl, hrow⟩ := HACT.out.row hp hwh
                  have ok1 := right_ok HR.out y1
                  have ok2 := right_ok HRQ.out y1
                  rw [hrow] at ok2
                  rw [HZ.out] at hrow ok1 ok2
                  clear hp hwh hbq
                  obtain ⟨zi, ua, ub, uc⟩ := z
                  unfold okU at ok1 ok2
                  rcases class_cases hcl with rfl | rfl | rfl
                  · skip
                    simp [bump] at hrow ok2
                    dsimp only at ok1
                    have hwr : IntKind.i64.wrap (ua + v) = ua + v := IntWalk.i64_in _ (by omega)
                    have HROW := Lib.hid hrow
                    clear hrow hcl
                    have k7 : w7.cell? ⟨bx, 7, none⟩ = some (.int .i64 0) := hX7.cell 7
                    have lt_x := hX7.lt
                    have u0 : w7.cell? ⟨bu, 0, none⟩ = some (.int .i64 ua) := hU.cell 0
                    have u1 : w7.cell? ⟨bu, 1, none⟩ = some (.int .i64 ub) := hU.cell 1
                    have u2 : w7.cell? ⟨bu, 2, none⟩ = some (.int .i64 uc) := hU.cell 2
                    have uf : w7.frozen? ⟨bu, 0, none⟩ = false := hU.free 0
                    have lt_u := hU.lt
                    go_wp2_with fail
                    refine wp_region_still_tail 9 (by kernel_rfl) (by kernel_rfl) ?_
                    change wpStill _ _ (World.drew _) (fun a' => wpList _ _ _ _ a' (World.drew _)) _ _
                    simp only [List.take_succ_cons, List.take_zero, List.drop_succ_cons, List.drop_zero]
                    repeat still_step
                    refine wpStill_nil ?_
                    go_wp2_with fail
                    have hU8 : Blok ((w7.setCell ⟨bu, 0, none⟩ (.int .i64 (ua + v))).drew) bu 38 #[.int .i64 (ua + v), .int .i64 ub, .int .i64 uc] := by
                      have h := Blok.set_ hU 0 (.int .i64 (ua + v))
                      show Blok (w7.setCell ⟨bu, 0, none⟩ (.int .i64 (ua + v))) bu 38 #[.int .i64 (ua + v), .int .i64 ub, .int .i64 uc]
                      simpa using h
                    have hb8 : Below bu w6 ((w7.setCell ⟨bu, 0, none⟩ (.int .i64 (ua + v))).drew) := by (repeat (first | exact Below.refl _ _ | exact hbA | refine Below.alloc ?_ (by first | omega | (simp; done) | (simp; omega)) _ | refine Below.setCell ?_ (by first | omega | (simp; done) | (simp; omega)) _ | refine Below.drew ?_ | refine Below.trans ?_ (hbA.mono (by first | omega | (simp; done) | (simp; omega)))))
                    have hX8 := hX.below hb8 (by have := hX.lt; omega)
                    have HV8 := ((HVO.more (Nat.le_of_eq hbu)).below hb8).more (by have := hb8.size; omega : bu ≤ ((w7.setCell ⟨bu, 0, none⟩ (.int .i64 (ua + v))).drew).heap.size)
                    have HL8 := HL'.below (hb8.mono (by omega))
                    have hB8 := hB.trans (hb8.mono (by omega))
                    have hs8 := hB8.size
                    clear k7 lt_x u0 u1 u2 uf lt_u hb8 hU hX7 hX HVO HL' hB hs hbA hwr
                    generalize (w7.setCell ⟨bu, 0, none⟩ (.int .i64 (ua + v))).drew = w8 at *
                    have k1 : w8.cell? ⟨bx, 1, none⟩ = some (.int .i64 y1) := hX8.cell 1
                    have lt_x := hX8.lt
                    have u0 : w8.cell? ⟨bu, 0, none⟩ = some (.int .i64 (ua + v)) := hU8.cell 0
                    have u1 : w8.cell? ⟨bu, 1, none⟩ = some (.int .i64 ub) := hU8.cell 1
                    have u2 : w8.cell? ⟨bu, 2, none⟩ = some (.int .i64 uc) := hU8.cell 2
                    have lt_u := hU8.lt
                    have HQM : Hid (∀ dd os, Sl (grow (redrawn w8 dd) os) (grow (redrawn w8 dd) os).heap.size 4 A1 m1 e1 (flatBk q)) := fun dd os => HV8.up (below_regrown w8 dd os)
                    have hrun : ∀ w0, (binOp .neq 38 (.agg #[.int .i64 (ua + v), .int .i64 ub, .int .i64 uc]) (.agg #[.int .i64 (ua + v), .int .i64 ub, .int .i64 uc])).run Try.prog w0 = .ok (.bool false) w0 := fun w0 => by
                      have := neql3 (ua + v) ub uc (ua + v) ub uc w0
                      simpa using this
                    clear ok1 ok2 hU8 hX8
                    have q_k1 := fun d os => cell_regrown k1 d os
                    have q_u0 := fun d os => cell_regrown u0 d os
                    have q_u1 := fun d os => cell_regrown u1 d os
                    have q_u2 := fun d os => cell_regrown u2 d os
                    try simp only [List.append]
                    first | refine wp_region_text_below ?_ | refine wp_region_quiet_below (by kernel_rfl) (by kernel_rfl) ?_
                    repeat (go_big_quiet_step (((go_at_call 21; with_reducible exact Calls.regrown_of (used_any A1 m1 e1 q y1 _ HQ.out (by omega) (HQM.out _ _) (right_sort HRQ.out) _ HROW.out)))))
                    refine wpQuiet_nil ?_
                    intro _ hqw
                    obtain ⟨pq, hqw⟩ := hqw
                    subst hqw
                    clear q_k1 q_u0 q_u1 q_u2
                    have hbq := below_regrown w8 pq.d pq.os
                    clear k1 lt_x u0 u1 u2 lt_u HQM hrun
                    generalize grow (redrawn w8 pq.d) pq.os = wq at *
                    go_wp2_with fail
                    go_roundw
                    case rel => exact ⟨i + 1, ⟨A1, m1, e1, q, rfl, by omega, HQ, HRQ, HV8.up hbq⟩, by go_num, by omega, hB8.trans (hbq.mono hs8), HL8.below (hbq.mono hs8)⟩
                    case measure => simp [intOf]; omega
                  · skip
                    simp [bump] at hrow ok2
                    dsimp only at ok1
                    have hwr : IntKind.i64.wrap (ub + v) = ub + v := IntWalk.i64_in _ (by omega)
                    have HROW := Lib.hid hrow
                    clear hrow hcl
                    have k7 : w7.cell? ⟨bx, 7, none⟩ = some (.int .i64 1) := hX7.cell 7
                    have lt_x := hX7.lt
                    have u0 : w7.cell? ⟨bu, 0, none⟩ = some (.int .i64 ua) := hU.cell 0
                    have u1 : w7.cell? ⟨bu, 1, none⟩ = some (.int .i64 ub) := hU.cell 1
                    have u2 : w7.cell? ⟨bu, 2, none⟩ = some (.int .i64 uc) := hU.cell 2
                    have uf : w7.frozen? ⟨bu, 1, none⟩ = false := hU.free 1
                    have lt_u := hU.lt
                    go_wp2_with fail
                    refine wp_region_still_tail 9 (by kernel_rfl) (by kernel_rfl) ?_
                    change wpStill _ _ (World.drew _) (fun a' => wpList _ _ _ _ a' (World.drew _)) _ _
                    simp only [List.take_succ_cons, List.take_zero, List.drop_succ_cons, List.drop_zero]
                    repeat still_step
                    refine wpStill_nil ?_
                    go_wp2_with fail
                    have hU8 : Blok ((w7.setCell ⟨bu, 1, none⟩ (.int .i64 (ub + v))).drew) bu 38 #[.int .i64 ua, .int .i64 (ub + v), .int .i64 uc] := by
                      have h := Blok.set_ hU 1 (.int .i64 (ub + v))
                      show Blok (w7.setCell ⟨bu, 1, none⟩ (.int .i64 (ub + v))) bu 38 #[.int .i64 ua, .int .i64 (ub + v), .int .i64 uc]
                      simpa using h
                    have hb8 : Below bu w6 ((w7.setCell ⟨bu, 1, none⟩ (.int .i64 (ub + v))).drew) := by (repeat (first | exact Below.refl _ _ | exact hbA | refine Below.alloc ?_ (by first | omega | (simp; done) | (simp; omega)) _ | refine Below.setCell ?_ (by first | omega | (simp; done) | (simp; omega)) _ | refine Below.drew ?_ | refine Below.trans ?_ (hbA.mono (by first | omega | (simp; done) | (simp; omega)))))
                    have hX8 := hX.below hb8 (by have := hX.lt; omega)
                    have HV8 := ((HVO.more (Nat.le_of_eq hbu)).below hb8).more (by have := hb8.size; omega : bu ≤ ((w7.setCell ⟨bu, 1, none⟩ (.int .i64 (ub + v))).drew).heap.size)
                    have HL8 := HL'.below (hb8.mono (by omega))
                    have hB8 := hB.trans (hb8.mono (by omega))
                    have hs8 := hB8.size
                    clear k7 lt_x u0 u1 u2 uf lt_u hb8 hU hX7 hX HVO HL' hB hs hbA hwr
                    generalize (w7.setCell ⟨bu, 1, none⟩ (.int .i64 (ub + v))).drew = w8 at *
                    have k1 : w8.cell? ⟨bx, 1, none⟩ = some (.int .i64 y1) := hX8.cell 1
                    have lt_x := hX8.lt
                    have u0 : w8.cell? ⟨bu, 0, none⟩ = some (.int .i64 ua) := hU8.cell 0
                    have u1 : w8.cell? ⟨bu, 1, none⟩ = some (.int .i64 (ub + v)) := hU8.cell 1
                    have u2 : w8.cell? ⟨bu, 2, none⟩ = some (.int .i64 uc) := hU8.cell 2
                    have lt_u := hU8.lt
                    have HQM : Hid (∀ dd os, Sl (grow (redrawn w8 dd) os) (grow (redrawn w8 dd) os).heap.size 4 A1 m1 e1 (flatBk q)) := fun dd os => HV8.up (below_regrown w8 dd os)
                    have hrun : ∀ w0, (binOp .neq 38 (.agg #[.int .i64 ua, .int .i64 (ub + v), .int .i64 uc]) (.agg #[.int .i64 ua, .int .i64 (ub + v), .int .i64 uc])).run Try.prog w0 = .ok (.bool false) w0 := fun w0 => by
                      have := neql3 ua (ub + v) uc ua (ub + v) uc w0
                      simpa using this
                    clear ok1 ok2 hU8 hX8
                    have q_k1 := fun d os => cell_regrown k1 d os
                    have q_u0 := fun d os => cell_regrown u0 d os
                    have q_u1 := fun d os => cell_regrown u1 d os
                    have q_u2 := fun d os => cell_regrown u2 d os
                    try simp only [List.append]
                    first | refine wp_region_text_below ?_ | refine wp_region_quiet_below (by kernel_rfl) (by kernel_rfl) ?_
                    repeat (go_big_quiet_step (((go_at_call 21; with_reducible exact Calls.regrown_of (used_any A1 m1 e1 q y1 _ HQ.out (by omega) (HQM.out _ _) (right_sort HRQ.out) _ HROW.out)))))
                    refine wpQuiet_nil ?_
                    intro _ hqw
                    obtain ⟨pq, hqw⟩ := hqw
                    subst hqw
                    clear q_k1 q_u0 q_u1 q_u2
                    have hbq := below_regrown w8 pq.d pq.os
                    clear k1 lt_x u0 u1 u2 lt_u HQM hrun
                    generalize grow (redrawn w8 pq.d) pq.os = wq at *
                    go_wp2_with fail
                    go_roundw
                    case rel => exact ⟨i + 1, ⟨A1, m1, e1, q, rfl, by omega, HQ, HRQ, HV8.up hbq⟩, by go_num, by omega, hB8.trans (hbq.mono hs8), HL8.below (hbq.mono hs8)⟩
                    case measure => simp [intOf]; omega
                  · skip
                    simp [bump] at hrow ok2
                    dsimp only at ok1
                    have hwr : IntKind.i64.wrap (uc + v) = uc + v := IntWalk.i64_in _ (by omega)
                    have HROW := Lib.hid hrow
                    clear hrow hcl
                    have k7 : w7.cell? ⟨bx, 7, none⟩ = some (.int .i64 2) := hX7.cell 7
                    have lt_x := hX7.lt
                    have u0 : w7.cell? ⟨bu, 0, none⟩ = some (.int .i64 ua) := hU.cell 0
                    have u1 : w7.cell? ⟨bu, 1, none⟩ = some (.int .i64 ub) := hU.cell 1
                    have u2 : w7.cell? ⟨bu, 2, none⟩ = some (.int .i64 uc) := hU.cell 2
                    have uf : w7.frozen? ⟨bu, 2, none⟩ = false := hU.free 2
                    have lt_u := hU.lt
                    go_wp2_with fail
                    refine wp_region_still_tail 9 (by kernel_rfl) (by kernel_rfl) ?_
                    change wpStill _ _ (World.drew _) (fun a' => wpList _ _ _ _ a' (World.drew _)) _ _
                    simp only [List.take_succ_cons, List.take_zero, List.drop_succ_cons, List.drop_zero]
                    repeat still_step
                    refine wpStill_nil ?_
                    go_wp2_with fail
                    have hU8 : Blok ((w7.setCell ⟨bu, 2, none⟩ (.int .i64 (uc + v))).drew) bu 38 #[.int .i64 ua, .int .i64 ub, .int .i64 (uc + v)] := by
                      have h := Blok.set_ hU 2 (.int .i64 (uc + v))
                      show Blok (w7.setCell ⟨bu, 2, none⟩ (.int .i64 (uc + v))) bu 38 #[.int .i64 ua, .int .i64 ub, .int .i64 (uc + v)]
                      simpa using h
                    have hb8 : Below bu w6 ((w7.setCell ⟨bu, 2, none⟩ (.int .i64 (uc + v))).drew) := by (repeat (first | exact Below.refl _ _ | exact hbA | refine Below.alloc ?_ (by first | omega | (simp; done) | (simp; omega)) _ | refine Below.setCell ?_ (by first | omega | (simp; done) | (simp; omega)) _ | refine Below.drew ?_ | refine Below.trans ?_ (hbA.mono (by first | omega | (simp; done) | (simp; omega)))))
                    have hX8 := hX.below hb8 (by have := hX.lt; omega)
                    have HV8 := ((HVO.more (Nat.le_of_eq hbu)).below hb8).more (by have := hb8.size; omega : bu ≤ ((w7.setCell ⟨bu, 2, none⟩ (.int .i64 (uc + v))).drew).heap.size)
                    have HL8 := HL'.below (hb8.mono (by omega))
                    have hB8 := hB.trans (hb8.mono (by omega))
                    have hs8 := hB8.size
                    clear k7 lt_x u0 u1 u2 uf lt_u hb8 hU hX7 hX HVO HL' hB hs hbA hwr
                    generalize (w7.setCell ⟨bu, 2, none⟩ (.int .i64 (uc + v))).drew = w8 at *
                    have k1 : w8.cell? ⟨bx, 1, none⟩ = some (.int .i64 y1) := hX8.cell 1
                    have lt_x := hX8.lt
                    have u0 : w8.cell? ⟨bu, 0, none⟩ = some (.int .i64 ua) := hU8.cell 0
                    have u1 : w8.cell? ⟨bu, 1, none⟩ = some (.int .i64 ub) := hU8.cell 1
                    have u2 : w8.cell? ⟨bu, 2, none⟩ = some (.int .i64 (uc + v)) := hU8.cell 2
                    have lt_u := hU8.lt
                    have HQM : Hid (∀ dd os, Sl (grow (redrawn w8 dd) os) (grow (redrawn w8 dd) os).heap.size 4 A1 m1 e1 (flatBk q)) := fun dd os => HV8.up (below_regrown w8 dd os)
                    have hrun : ∀ w0, (binOp .neq 38 (.agg #[.int .i64 ua, .int .i64 ub, .int .i64 (uc + v)]) (.agg #[.int .i64 ua, .int .i64 ub, .int .i64 (uc + v)])).run Try.prog w0 = .ok (.bool false) w0 := fun w0 => by
                      have := neql3 ua ub (uc + v) ua ub (uc + v) w0
                      simpa using this
                    clear ok1 ok2 hU8 hX8
                    have q_k1 := fun d os => cell_regrown k1 d os
                    have q_u0 := fun d os => cell_regrown u0 d os
                    have q_u1 := fun d os => cell_regrown u1 d os
                    have q_u2 := fun d os => cell_regrown u2 d os
                    try simp only [List.append]
                    first | refine wp_region_text_below ?_ | refine wp_region_quiet_below (by kernel_rfl) (by kernel_rfl) ?_
                    repeat (go_big_quiet_step (((go_at_call 21; with_reducible exact Calls.regrown_of (used_any A1 m1 e1 q y1 _ HQ.out (by omega) (HQM.out _ _) (right_sort HRQ.out) _ HROW.out)))))
                    refine wpQuiet_nil ?_
                    intro _ hqw
                    obtain ⟨pq, hqw⟩ := hqw
                    subst hqw
                    clear q_k1 q_u0 q_u1 q_u2
                    have hbq := below_regrown w8 pq.d pq.os
                    clear k1 lt_x u0 u1 u2 lt_u HQM hrun
                    generalize grow (redrawn w8 pq.d) pq.os = wq at *
                    go_wp2_with fail
                    go_roundw
                    case rel => exact ⟨i + 1, ⟨A1, m1, e1, q, rfl, by omega, HQ, HRQ, HV8.up hbq⟩, by go_num, by omega, hB8.trans (hbq.mono hs8), HL8.below (hbq.mono hs8)⟩
                    case measure => simp [intOf]; omega

        · have hie : i = n' := by omega
          subst hie
          go_wp2_with fail
          go_ret
          exact ⟨rfl, hB⟩
theorem wf_of_flat {n : Nat} {ns : List Int} {d : List Al} (hd : d.length = n) (h : ns.map (Value.int .i64) = flatAl d) (hw : ∀ m ∈ ns, (Lit.int .i64 m).wf = true) : ∀ i, i < n → (Lit.int .i64 (gAl d i).id).wf = true := fun i hi => by
  have h1 := flatAl_at1 d i (by omega)
  rw [← h] at h1
  have h2 := List.mem_of_getElem? h1
  obtain ⟨m, hm, e⟩ := List.mem_map.1 h2
  injection e with _ e
  rw [← e]
  exact hw m hm
theorem ledgerRight_walk (A : Option Addr) (n k : Nat) (ns : List Int) (A' : Option Addr) (n' k' : Nat) (ns' : List Int) (id : Int) (hnl : ns.length = n * 4) (_ : ∀ m ∈ ns, (Lit.int .i64 m).wf = true) (hnl' : ns'.length = n' * 9) (hw' : ∀ m ∈ ns', (Lit.int .i64 m).wf = true) (_ : (Lit.int .i64 id).wf = true) (w : World) (hl : Sl w w.heap.size 4 A n k (ns.map (Value.int .i64))) (hl' : Sl w w.heap.size 9 A' n' k' (ns'.map (Value.int .i64))) :
    Calls Try.prog 5 #[.slice A n k, .slice A' n' k', .int .i64 id] w fun e w' => e = .returned (.bool true) ∧ Below w.heap.size w w' := by
  obtain ⟨d, hd, hlf⟩ := rowsBk_of n ns hnl
  obtain ⟨t, ht, hlt⟩ := rowsAl_of n' ns' hnl'
  have hwf := wf_of_flat ht hlt hw'
  rw [hlf] at hl
  rw [hlt] at hl'
  exact rights_walk A n k d A' n' k' t id hd ht hwf w hl hl'
theorem ledgerRight_own : ownKnob Try.prog.godebug = none := by kernel_rfl
theorem ledgerRight_laidOut : laidOutB Try.prog = true := by kernel_rfl

set_option maxHeartbeats 1000000 in
set_option maxRecDepth 100000 in
theorem ledgerRight_lifted (os : Os) (started : os.Started) (H : Type) (enc : TypeId × Value → H) :
    ReturnsInHanded {} Try.checked os 5 .any (Rows.ledgerRightSpec.pre6 enc Try.prog Try.f5 Rows.ledgerRightRow.domain false) (Rows.ledgerRightSpec.post enc Try.prog Try.f5 false true false false) := by
  refine returnsInHanded_of_change (C := Try.checked) ledgerRight_own started (by kernel_rfl) Try.func5
    (ChangeSpec.witness6 (enc := enc) (C := Try.checked) false ⟨#[], #[.slice none 0 0, .slice none 0 0, .int .i64 0], []⟩ 8 (by kernel_rfl) (by kernel_rfl) (by kernel_rfl) (by kernel_rfl)) ?_
  intro W base args ds gs before hval0 hW hcnd _
  have hval : ∀ (j : Nat) t v, Try.f5.params[j]? = some t → args[j]? = some v → Value.okWide Try.prog W .any base t v := hval0
  have hW' := hW
  obtain ⟨p, q, hA0, hV, rfl, hfz, hnd⟩ := hW
  have hA : DataW.TrodAll enc Try.prog W 0 (fun _ => true) true Try.f5.params.toList args.toList ds p := hA0
  rw [Try.params5] at hA hval
  obtain ⟨v0, vs0, d0, ds0, p0, q0, hargs, rfl, rfl, h0, r0⟩ := trodAll_cons hA
  obtain ⟨v1, vs1, d1, ds1, p1, q1, rfl, rfl, rfl, h1, r1⟩ := trodAll_cons r0
  obtain ⟨v2, vs2, d2, ds2, p2, q2, rfl, rfl, rfl, h2, r2⟩ := trodAll_cons r1
  obtain ⟨rfl, rfl, rfl⟩ := trodAll_nil r2
  obtain rfl : args = #[v0, v1, v2] := by cases args; simp_all
  obtain ⟨rfl, rfl⟩ := trodVars_none hV
  obtain ⟨A0, n0, c0, ns0, rfl, hl0, nl0, w0⟩ := open_rowsS 4 (K := 4) Try.underlying22 (by kernel_rfl) (by kernel_rfl) (by omega) (hval 0 22 v0 rfl rfl) h0
  obtain ⟨A1, n1, c1, ns1, rfl, hl1, nl1, w1⟩ := open_rowsS 4 (K := 9) Try.underlying23 (by kernel_rfl) (by kernel_rfl) (by omega) (hval 1 23 v1 rfl rfl) h1
  obtain ⟨a2, rfl, rfl, rfl, w2⟩ := open_int Try.underlying3 (hval 2 3 v2 rfl rfl) h2
  clear hA0 hval0
  refine (ledgerRight_walk A0 n0 c0 ns0 A1 n1 c1 ns1 a2 nl0 w0 nl1 w1 w2 W hl0 hl1).mono fun e W' ⟨he, bel⟩ => ?_
  subst he
  exact ⟨_, rfl, law_post ledgerRight_laidOut (by kernel_rfl) rfl Try.underlying4 rfl rfl hW' bel⟩

theorem ledgerRight_proved : Rows.LedgerRightSaid :=
  OpenClaim.holds_of_wide 5 Try.f5 rfl rfl rfl rfl rfl rfl rfl ⟨rfl, rfl, rfl, rfl, rfl⟩ rfl rfl rfl rfl rfl (by kernel_rfl) Try.func5 (by kernel_rfl)
    (of_decide_eq_true (by kernel_rfl)) (by unfold Func.isWrapper; first | (rw [if_pos (by decide +kernel)]; kernel_rfl) | (rw [if_neg (by decide +kernel)]; exact ⟨rfl, rfl⟩))
    (fun os started H enc _ => ledgerRight_lifted os started H enc)
#print axioms ledgerRight_proved
end Go.Proofs.Ytejcjpfljcfibaa
