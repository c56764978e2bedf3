
/- As many directives are read as lines have words, and a fault is of such a line, of the first one that is wrong: TextLines returns true for every text. It reads tables of the library's. -/
import Derived.Test.YtcclfmaockapjaaDoorRows
import Derived.Test.YtcclfmaockapjaaDoorTie
import Derived.Test.YtcclfmaockapjaaDoorCards
import Derived.Test.YtcclfmaockapjaaDoorTxMath
import Derived.Test.YtcclfmaockapjaaDoorTen05
namespace Go.Proofs.YtcclfmaockapjaaDoor
open Go.ChangeShapes Go.WideShapes Go.ChangeAt Go.RowKit Go.Sort
set_option linter.unusedSimpArgs false
set_option linter.unusedVariables false
set_option maxHeartbeats 16000000 in
set_option maxRecDepth 100000 in
theorem tlines_law (s0 : ByteArray) (w : World) (ht : TenTab w) (hm : MaxAt w) :
    Calls Tryd.prog 4 #[.string s0] w fun e w' => e = .returned (.bool true) ∧ Below w.heap.size w w' := by
  have HT := Lib.hid (fun w' (hb : Below w.heap.size w w') => ht.below hb)
  have HM := Lib.hid (fun w' (hb : Below w.heap.size w w') => hm.below hb)
  have hB := Below.refl w.heap.size w
  have hs := Nat.le_refl w.heap.size
  clear ht hm
  go_enter Tryd.func4, Tryd.ntmps4
  go_wp2_with fail
  refine (small05_any w (HT.out w hB) (HM.out w hB)).mono ?_
  rintro e y0 ⟨rfl, hb⟩
  replace hB := hB.trans (hb.mono hs)
  replace hs := hB.size
  clear hb
  by_cases hn2 : 2000 < s0.size
  · go_wp2
    go_ret
    exact ⟨rfl, hB⟩
  have hsz : s0.data.toList.length ≤ 50000 := by rw [← size_list]; omega
  have HSZ := Lib.hid hsz
  obtain ⟨rows, hrows⟩ : ∃ r, linesL s0.data.toList = r := ⟨_, rfl⟩
  obtain ⟨n, hn⟩ : ∃ n, rows.length = n := ⟨_, rfl⟩
  obtain ⟨ds, ln, cd, hz⟩ : ∃ ds ln cd, textF rows 1 = (ds, ln, cd) := ⟨_, _, _, rfl⟩
  have hnb : n ≤ 50001 := by rw [← hn, ← hrows]; have := lines_len s0.data.toList; omega
  have HRL := Lib.hid (fun x (hx : x ∈ rows) => Nat.le_trans (lines_mem (s := s0.data.toList) (by rw [hrows]; exact hx)) hsz)
  have HR := Lib.hid hrows
  have HN := Lib.hid hn
  have HZ := Lib.hid hz
  clear hrows hn hz hsz
  go_wp2_with fail
  refine (tparse_any s0 rows n HR.out HN.out y0 (HM.out y0 hB) HSZ.out ds ln cd HZ.out).mono ?_
  rintro e y1 ⟨v, rfl, hv, hb⟩
  obtain ⟨nd, hnd⟩ : ∃ k, ds.length = k := ⟨_, rfl⟩
  rw [hnd] at hv
  have HND := Lib.hid hnd
  clear hnd
  obtain ⟨A1, c1, rfl⟩ := slice_of_own hv
  clear hv
  replace hB := hB.trans (hb.mono hs)
  replace hs := hB.size
  clear hb
  go_upto_region 5 with fail
  have hf := Blok.new y1 35 #[.int .i64 ln, .int .i64 cd]
  have hb : Below y1.heap.size y1 (y1.alloc (.cells #[.int .i64 ln, .int .i64 cd] 35)) := by (repeat (first | exact Below.refl _ _ | refine Below.alloc ?_ (by first | omega | (simp; done) | (simp; omega)) _ | refine Below.setCell ?_ (by first | omega | (simp; done) | (simp; omega)) _ | refine Below.drew ?_))
  replace hB := hB.trans (hb.mono hs)
  replace hs := hB.size
  clear hb
  generalize y1.alloc (.cells #[.int .i64 ln, .int .i64 cd] 35) = y2 at *
  generalize hzz : y1.heap.size = bf at *
  clear hzz
  go_wp2_with fail
  refine (tlines_any s0 rows n HR.out HN.out y2 (HM.out y2 hB) HSZ.out).mono ?_
  rintro e y3 ⟨v, rfl, hv, hb⟩
  obtain ⟨lno, hlno⟩ : ∃ l, lnoF rows 1 = l := ⟨_, rfl⟩
  rw [hlno] at hv
  obtain ⟨k, hk⟩ : ∃ k, lno.length = k := ⟨_, rfl⟩
  rw [hk] at hv
  have HLNO := Lib.hid hlno
  have HK := Lib.hid hk
  have hkb : k ≤ 50001 := by rw [← hk, ← hlno]; have := lno_short rows 1; rw [HN.out] at this; omega
  clear hlno hk
  obtain ⟨A2, c2, rfl⟩ := slice_of_own hv
  have l2 := Sl.of_own hv
  clear hv
  replace hf := hf.below hb hf.lt
  replace hB := hB.trans (hb.mono hs)
  replace hs := hB.size
  clear hb
  have c_0 : y3.cell? ⟨bf, 0, none⟩ = some (.int .i64 ln) := hf.cell 0
  have c_1 : y3.cell? ⟨bf, 1, none⟩ = some (.int .i64 cd) := hf.cell 1
  have lt_c := hf.lt
  by_cases hcd : cd = 0
  · subst hcd
    have hkk := text_ok_len rows 1 (by rw [HZ.out])
    rw [HZ.out, HLNO.out, HND.out, HK.out] at hkk
    subst hkk
    clear hf l2
    go_wp2_with fail
    go_ret
    exact ⟨rfl, hB⟩
  have hcq : (cd == 0) = false := by simpa using hcd
  have hfi := text_first rows 1 (by rw [HZ.out]; exact hcd)
  rw [HZ.out, HLNO.out, HN.out] at hfi
  have HMEM := Lib.hid hfi.1
  have HALL := Lib.hid hfi.2
  clear hfi hcd
  go_wp2_with fail
  clear lt_c c_0 c_1
  refine (lines_is s0 rows n HR.out HN.out y3 (HM.out y3 hB) (by have := HSZ.out; omega)).mono ?_
  rintro e y4 ⟨A3, c3, rfl, h3, hb⟩
  have l3 := Sl.of_own h3
  clear h3
  replace l2 := l2.up hb
  replace hf := hf.below hb hf.lt
  replace hB := hB.trans (hb.mono hs)
  replace hs := hB.size
  clear hb
  have HL2 := Lib.hid l2
  have HL3 := Lib.hid l3
  have HF := Lib.hid hf
  have hB4 := hB
  have hs4 := hs
  clear l2 l3 hf hB hs
  go_wp2
  go_loopw [7, 9] (fun hv iv wr => ∃ (i : Nat) (b : Bool), hv = .bool b ∧ iv = .int .i64 i ∧ i ≤ k ∧ Hid (b = decide (ln ∈ lno.take i)) ∧ Below y4.heap.size y4 wr) (fun _ iv _ => k - (intOf iv).toNat)
  case atStart => exact ⟨0, false, rfl, rfl, by omega, by simp [Hid], Below.refl _ _⟩
  case round =>
    obtain ⟨i, b, rfl, rfl, hi, HH, hBr⟩ := hrel
    have hsr := hBr.size
    by_cases hin : i < k
    · obtain ⟨ad, rfl, hab, e0⟩ := (HL2.out.below hBr).lst.atI5 HK.out hin
      have hil : i < lno.length := by rw [HK.out]; exact hin
      have hmem : gI5 lno i ∈ lno := by rw [gI5_eq hil]; exact List.getElem_mem _
      obtain ⟨x1, x2, x3, x4⟩ := HALL.out _ hmem
      obtain ⟨j, hj⟩ : ∃ j : Nat, gI5 lno i = (j : Int) + 1 := ⟨(gI5 lno i - 1).toNat, by omega⟩
      have hnx := take_nextI5 hil
      rw [hj] at e0 x2 x3 x4 hnx
      rw [show ((j : Int) + 1 - 1).toNat = j by omega] at x3 x4
      have hjn : j < n := by omega
      have HNX := Lib.hid hnx
      clear hj hil hmem x1 hnx
      obtain ⟨ad3, ea3, hab3, e3⟩ := (HL3.out.below hBr).lst.atS HN.out hjn
      subst ea3
      have hjl : j < rows.length := by rw [HN.out]; exact hjn
      have hxs : (gS rows j).length ≤ 50000 := HRL.out _ (by rw [gS_eq hjl]; exact List.getElem_mem _)
      obtain ⟨x, hx⟩ : ∃ x, gS rows j = x := ⟨_, rfl⟩
      rw [hx] at e3 hxs x3 x4
      obtain ⟨nw, hnw⟩ : ∃ k, (wordsL x).length = k := ⟨_, rfl⟩
      obtain ⟨z, q, hzq⟩ : ∃ z q, parseD (wordsL x) = (z, q) := ⟨_, _, rfl⟩
      rw [hzq] at x3 x4
      have HX3 := Lib.hid x3
      have HX4 := Lib.hid x4
      have hwb : nw ≤ 100000 := by rw [← hnw]; have := words_len x; omega
      have HNW := Lib.hid hnw
      have HZQ := Lib.hid hzq
      have HXS := Lib.hid hxs
      clear hnw hzq hxs x3 x4 hx hjl
      have hwr : IntKind.i64.wrap ((j : Int) + 1 - 1) = (j : Int) := by rw [IntWalk.i64_in _ (by omega)]; omega
      have g1 : ¬ ((j : Int) + 1 < 1) := by omega
      have g2 : ¬ ((n : Int) < (j : Int) + 1) := by omega
      go_upto_region 15 with fail
      go_wp2_with fail
      clear e3
      refine (words_is (bs x) (wordsL x) nw (by rw [bs_list]) HNW.out wr (HM.out wr (hB4.trans (hBr.mono hs4))) (by rw [bs_list]; have := HXS.out; omega)).mono ?_
      rintro e w5 ⟨A5, c5, rfl, h5, hb⟩
      have l5 := Sl.of_own h5
      clear h5
      replace hBr := hBr.trans (hb.mono hsr)
      replace hsr := hBr.size
      replace e0 := (hb.cell (block_lt_of_cell e0)).trans e0
      clear hb
      go_wp2_with fail
      refine (dparse_any A5 nw c5 (wordsL x) w5 HNW.out hwb (fun y hy => by have := words_mem hy; have := HXS.out; unfold maxLen; omega) l5 z q HZQ.out).mono ?_
      rintro e w6 ⟨rfl, hb⟩
      clear l5
      replace hBr := hBr.trans (hb.mono hsr)
      replace hsr := hBr.size
      replace e0 := (hb.cell (block_lt_of_cell e0)).trans e0
      clear hb
      go_upto_region 16 with fail
      have hb : Below w6.heap.size w6 (w6.alloc (.cells #[.int .i64 z.op, .int .i64 z.kd, .int .i64 z.id, .int .i64 z.fr, .int .i64 z.tn, .int .i64 z.st, .int .i64 z.en, .int .i64 z.rt, .int .i64 z.rf, .int .i64 z.rn, .int .i64 z.rs, .int .i64 z.re, .int .i64 z.ro] 32)) := by (repeat (first | exact Below.refl _ _ | refine Below.alloc ?_ (by first | omega | (simp; done) | (simp; omega)) _ | refine Below.setCell ?_ (by first | omega | (simp; done) | (simp; omega)) _ | refine Below.drew ?_))
      replace hBr := hBr.trans (hb.mono hsr)
      replace hsr := hBr.size
      replace e0 := (hb.cell (block_lt_of_cell e0)).trans e0
      clear hb
      generalize w6.alloc (.cells #[.int .i64 z.op, .int .i64 z.kd, .int .i64 z.id, .int .i64 z.fr, .int .i64 z.tn, .int .i64 z.st, .int .i64 z.en, .int .i64 z.rt, .int .i64 z.rf, .int .i64 z.rn, .int .i64 z.rs, .int .i64 z.re, .int .i64 z.ro] 32) = w7 at *
      have hf7 := HF.out.below hBr HF.out.lt
      have c_0 : w7.cell? ⟨bf, 0, none⟩ = some (.int .i64 ln) := hf7.cell 0
      have c_1 : w7.cell? ⟨bf, 1, none⟩ = some (.int .i64 cd) := hf7.cell 1
      have lt_c := hf7.lt
      by_cases hlt : (j : Int) + 1 < ln
      · have hq0 : q = 0 := HX3.out hlt
        subst hq0
        have hne : ((j : Int) + 1 == ln) = false := by simp; omega
        have HH2 : Hid (b = decide (ln ∈ lno.take (i + 1))) := by
          show _ = _
          rw [HNX.out, HH.out]
          congr 1
          simp
          omega
        clear hf7
        go_upto_region 16 with fail
        have q_e0 := fun d os => cell_regrown e0 d os
        have q_c_0 := fun d os => cell_regrown c_0 d os
        have q_c_1 := fun d os => cell_regrown c_1 d os
        try simp only [List.append]
        first | refine wp_region_text_below ?_ | refine wp_region_quiet_below (by kernel_rfl) (by kernel_rfl) ?_
        repeat (go_big_quiet_step ((fail)))
        refine wpQuiet_nil ?_
        intro _ hqw
        obtain ⟨pq, hqw⟩ := hqw
        subst hqw
        clear q_e0 q_c_0 q_c_1
        have hb := below_regrown w7 pq.d pq.os
        replace hBr := hBr.trans (hb.mono hsr)
        replace hsr := hBr.size
        replace e0 := (hb.cell (block_lt_of_cell e0)).trans e0
        replace c_0 := (hb.cell (block_lt_of_cell c_0)).trans c_0
        replace c_1 := (hb.cell (block_lt_of_cell c_1)).trans c_1
        clear hb lt_c
        generalize grow (redrawn w7 pq.d) pq.os = w8 at *
        have lt_c := block_lt_of_cell c_0
        go_upto_region 18 with fail
        have q_e0 := fun d os => cell_regrown e0 d os
        have q_c_0 := fun d os => cell_regrown c_0 d os
        have q_c_1 := fun d os => cell_regrown c_1 d os
        try simp only [List.append]
        first | refine wp_region_text_below ?_ | refine wp_region_quiet_below (by kernel_rfl) (by kernel_rfl) ?_
        repeat (go_big_quiet_step ((fail)))
        refine wpQuiet_nil ?_
        intro _ hqw
        obtain ⟨pq, hqw⟩ := hqw
        subst hqw
        clear q_e0 q_c_0 q_c_1
        have hb := below_regrown w8 pq.d pq.os
        replace hBr := hBr.trans (hb.mono hsr)
        replace hsr := hBr.size
        replace e0 := (hb.cell (block_lt_of_cell e0)).trans e0
        replace c_0 := (hb.cell (block_lt_of_cell c_0)).trans c_0
        replace c_1 := (hb.cell (block_lt_of_cell c_1)).trans c_1
        clear hb lt_c
        generalize grow (redrawn w8 pq.d) pq.os = w9 at *
        go_wp2_with fail
        go_roundw
        case rel => exact ⟨i + 1, b, rfl, by go_num, by omega, HH2, hBr⟩
        case measure => simp [intOf]; omega
      · by_cases heq : (j : Int) + 1 = ln
        · have hq0 : q = cd := HX4.out heq
          subst hq0
          have hne : ((j : Int) + 1 == ln) = true := by simp; omega
          have HH2 : Hid (true = decide (ln ∈ lno.take (i + 1))) := by
            show _ = _
            rw [HNX.out]
            symm
            simp
            omega
          clear heq
          go_upto_region 16 with fail
          have q_e0 := fun d os => cell_regrown e0 d os
          have q_c_0 := fun d os => cell_regrown c_0 d os
          have q_c_1 := fun d os => cell_regrown c_1 d os
          try simp only [List.append]
          first | refine wp_region_text_below ?_ | refine wp_region_quiet_below (by kernel_rfl) (by kernel_rfl) ?_
          repeat (go_big_quiet_step ((fail)))
          refine wpQuiet_nil ?_
          intro _ hqw
          obtain ⟨pq, hqw⟩ := hqw
          subst hqw
          clear q_e0 q_c_0 q_c_1
          have hb := below_regrown w7 pq.d pq.os
          replace hBr := hBr.trans (hb.mono hsr)
          replace hsr := hBr.size
          replace e0 := (hb.cell (block_lt_of_cell e0)).trans e0
          replace c_0 := (hb.cell (block_lt_of_cell c_0)).trans c_0
          replace c_1 := (hb.cell (block_lt_of_cell c_1)).trans c_1
          clear hb lt_c
          generalize grow (redrawn w7 pq.d) pq.os = w8 at *
          have lt_c := block_lt_of_cell c_0
          go_upto_region 18 with fail
          have q_e0 := fun d os => cell_regrown e0 d os
          have q_c_0 := fun d os => cell_regrown c_0 d os
          have q_c_1 := fun d os => cell_regrown c_1 d os
          try simp only [List.append]
          first | refine wp_region_text_below ?_ | refine wp_region_quiet_below (by kernel_rfl) (by kernel_rfl) ?_
          repeat (go_big_quiet_step ((fail)))
          refine wpQuiet_nil ?_
          intro _ hqw
          obtain ⟨pq, hqw⟩ := hqw
          subst hqw
          clear q_e0 q_c_0 q_c_1
          have hb := below_regrown w8 pq.d pq.os
          replace hBr := hBr.trans (hb.mono hsr)
          replace hsr := hBr.size
          replace e0 := (hb.cell (block_lt_of_cell e0)).trans e0
          replace c_0 := (hb.cell (block_lt_of_cell c_0)).trans c_0
          replace c_1 := (hb.cell (block_lt_of_cell c_1)).trans c_1
          clear hb lt_c
          generalize grow (redrawn w8 pq.d) pq.os = w9 at *
          have hf9 := HF.out.below hBr HF.out.lt
          have lt_c := hf9.lt
          clear hf9
          go_wp2_with fail
          go_roundw
          case rel => exact ⟨i + 1, true, rfl, by go_num, by omega, HH2, hBr⟩
          case measure => simp [intOf]; omega
        · have hne : ((j : Int) + 1 == ln) = false := by simpa using heq
          have HH2 : Hid (b = decide (ln ∈ lno.take (i + 1))) := by
            show _ = _
            rw [HNX.out, HH.out]
            congr 1
            simp
            omega
          clear hf7 heq
          go_upto_region 16 with fail
          have q_e0 := fun d os => cell_regrown e0 d os
          have q_c_0 := fun d os => cell_regrown c_0 d os
          have q_c_1 := fun d os => cell_regrown c_1 d os
          try simp only [List.append]
          first | refine wp_region_text_below ?_ | refine wp_region_quiet_below (by kernel_rfl) (by kernel_rfl) ?_
          repeat (go_big_quiet_step ((fail)))
          refine wpQuiet_nil ?_
          intro _ hqw
          obtain ⟨pq, hqw⟩ := hqw
          subst hqw
          clear q_e0 q_c_0 q_c_1
          have hb := below_regrown w7 pq.d pq.os
          replace hBr := hBr.trans (hb.mono hsr)
          replace hsr := hBr.size
          replace e0 := (hb.cell (block_lt_of_cell e0)).trans e0
          replace c_0 := (hb.cell (block_lt_of_cell c_0)).trans c_0
          replace c_1 := (hb.cell (block_lt_of_cell c_1)).trans c_1
          clear hb lt_c
          generalize grow (redrawn w7 pq.d) pq.os = w8 at *
          have lt_c := block_lt_of_cell c_0
          go_upto_region 18 with fail
          have q_e0 := fun d os => cell_regrown e0 d os
          have q_c_0 := fun d os => cell_regrown c_0 d os
          have q_c_1 := fun d os => cell_regrown c_1 d os
          try simp only [List.append]
          first | refine wp_region_text_below ?_ | refine wp_region_quiet_below (by kernel_rfl) (by kernel_rfl) ?_
          repeat (go_big_quiet_step ((fail)))
          refine wpQuiet_nil ?_
          intro _ hqw
          obtain ⟨pq, hqw⟩ := hqw
          subst hqw
          clear q_e0 q_c_0 q_c_1
          have hb := below_regrown w8 pq.d pq.os
          replace hBr := hBr.trans (hb.mono hsr)
          replace hsr := hBr.size
          replace e0 := (hb.cell (block_lt_of_cell e0)).trans e0
          replace c_0 := (hb.cell (block_lt_of_cell c_0)).trans c_0
          replace c_1 := (hb.cell (block_lt_of_cell c_1)).trans c_1
          clear hb lt_c
          generalize grow (redrawn w8 pq.d) pq.os = w9 at *
          go_wp2_with fail
          go_roundw
          case rel => exact ⟨i + 1, b, rfl, by go_num, by omega, HH2, hBr⟩
          case measure => simp [intOf]; omega
    · obtain rfl : k = i := by omega
      have hb1 : b = true := by
        rw [HH.out, List.take_of_length_le (by rw [HK.out]; omega)]
        exact decide_eq_true HMEM.out
      subst hb1
      go_wp2_with fail
      go_ret
      exact ⟨rfl, hB4.trans (hBr.mono hs4)⟩
theorem textLines_walk (s0 : ByteArray) (_ : s0.size ≤ maxLen) (w : World) (h : TenTab w ∧ MaxAt w) :
    Calls Tryd.prog 4 #[.string s0] w fun e w' => e = .returned (.bool true) ∧ Below w.heap.size w w' := tlines_law s0 w h.1 h.2
theorem textLines_own : ownKnob Tryd.prog.godebug = none := by kernel_rfl
theorem textLines_laidOut : laidOutB Tryd.prog = true := by kernel_rfl
set_option maxHeartbeats 1000000 in
set_option maxRecDepth 100000 in
theorem textLines_lifted (os : Os) (started : os.Started) (H : Type) (enc : TypeId × Value → H) :
    ReturnsInHanded {} Tryd.checked os 4 .any (fun w args => (Rows.textLinesSpec.pre enc Tryd.prog Tryd.f4 [] false w args ∧ laidMetH Tryd.prog Rows.textLinesRow.laid w) ∧ sizedMet enc Tryd.prog Tryd.f4 (OpenSpec.ofChange Rows.textLinesSpec) false w args)
      (Rows.textLinesSpec.post enc Tryd.prog Tryd.f4 false true false false) := by
  refine returnsInHanded_of_change_and_shaped (C := Tryd.checked) (X := fun w _ => laidMetH Tryd.prog Rows.textLinesRow.laid w) (fun _ _ _ hh h => h.of_heap hh) textLines_own started (by kernel_rfl) Tryd.func4
    (ChangeSpec.witness_shaped (enc := enc) (C := Tryd.checked) (os := os) (X := fun w _ => laidMetH Tryd.prog Rows.textLinesRow.laid w) false (World.laidAll Tryd.prog os Rows.textLinesRow.laid) #[.string ByteArray.empty] 8 (World.laidAll_os _ _ _) (World.shaped_of_ZipB (by kernel_rfl) (by kernel_rfl)) (by kernel_rfl) (by kernel_rfl) (by kernel_rfl) (by rw [MakeChecks.laidMetH_plain _ _ _ (by kernel_rfl)]; exact laidMet_laidAll _ (by kernel_rfl) (by kernel_rfl))) ?_
  intro W base args ds gs before hval0 hW _ _ hX hL _
  have hval : ∀ (j : Nat) t v, Tryd.f4.params[j]? = some t → args[j]? = some v → Value.okWide Tryd.prog W .any base t v := hval0
  have hW' := hW
  obtain ⟨p, q, hA0, hV, rfl, hfz, hnd⟩ := hW
  have hA : DataW.TrodAll enc Tryd.prog W 0 (fun _ => true) true Tryd.f4.params.toList args.toList ds p := hA0
  rw [Tryd.params4] at hA hval
  obtain ⟨v0, vs0, d0, ds0, p0, q0, hargs, rfl, rfl, h0, r0⟩ := trodAll_cons hA
  obtain ⟨rfl, rfl, rfl⟩ := trodAll_nil r0
  obtain rfl : args = #[v0] := by cases args; simp_all
  obtain ⟨rfl, rfl⟩ := trodVars_none hV
  obtain ⟨s0, rfl, rfl, rfl, w0⟩ := Go.ChangeMaps.open_string Tryd.underlying9 (hval 0 9 v0 rfl rfl) h0
  clear hA0 hval0
  refine (textLines_walk s0 w0 W (ten_max hX hL)).mono fun e W' ⟨he, bel⟩ => ?_
  subst he
  exact ⟨_, rfl, law_post textLines_laidOut (by kernel_rfl) rfl Tryd.underlying4 rfl rfl hW' bel⟩

theorem textLines_holds : Rows.TextLinesSaid :=
  OpenClaim.holds_of_wide 4 Tryd.f4 rfl rfl rfl rfl rfl rfl rfl ⟨rfl, rfl, rfl, rfl, rfl⟩ rfl rfl rfl rfl rfl (by kernel_rfl) Tryd.func4 (by kernel_rfl)
    (of_decide_eq_true (by kernel_rfl)) (by unfold Func.isWrapper; first | (rw [if_pos (by decide +kernel)]; kernel_rfl) | (rw [if_neg (by decide +kernel)]; exact ⟨rfl, rfl⟩))
    (fun os started H enc _ => textLines_lifted os started H enc)

theorem textLines_proved : Rows.TextLinesCardSaid :=
  Claim7.holds_tied_plain_at .later [] Rows.textLinesCard.laidKinds true Rows.textLinesCard.stood.harness false
    textLines_holds (fun _ h => by cases h) (by kernel_rfl) (fun _ h => by cases h) textLines_row_tie rfl ⟨rfl, rfl⟩ (by kernel_rfl) rfl
    (fun f fn hf hfn => by
      obtain rfl : f = 4 := Option.some.inj ((show Tryd.prog.funcNamed "felucca/feluccalaw05.TextLines" = some 4 by kernel_rfl).symm.trans hf) |>.symm
      obtain rfl : fn = Tryd.f4 := (Option.some.inj (Tryd.func4.symm.trans hfn)).symm
      exact ⟨by kernel_rfl, fun j t ht => by
        rw [Tryd.params4] at ht
        have hm : t ∈ [9] := by simpa using Array.mem_of_getElem? ht
        have hall : ([9].all fun u => !Tryd.prog.wantsStandIn u) = true := by kernel_rfl
        exact (show Tryd.prog.wantsStandIn t = false by simpa using List.all_eq_true.1 hall t hm)⟩)
    (by kernel_rfl)
#print axioms textLines_proved
end Go.Proofs.YtcclfmaockapjaaDoor
