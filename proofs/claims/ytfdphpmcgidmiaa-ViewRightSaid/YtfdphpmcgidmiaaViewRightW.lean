/- All edges are right, by rising IDs, each of a contact of the plan, and each such contact that has a range has one. No condition. -/
import Derived.Test.YtfdphpmcgidmiaaW5
import Derived.Test.YtfdphpmcgidmiaaRows
namespace Go.Proofs.Ytfdphpmcgidmiaa
open Go.ChangeShapes Go.WideShapes Go.ChangeAt Go.RowKit Go.Sort
set_option linter.unusedSimpArgs false
set_option linter.unusedVariables false
theorem small11 (w : World) : Calls Try.prog 8 #[] w fun e w' => e = .returned (.bool true) ∧ Below w.heap.size w w' := small11_of sortEd_any w
set_option maxHeartbeats 16000000 in
set_option maxRecDepth 100000 in
theorem viewRight_w (A1 : Option Addr) (n1 c1 : Nat) (cs : List Co) (A : Option Addr) (n c : Nat) (rs : List Rg) (clk ver : Int) (A2 : Option Addr) (n2 c2 : Nat) (bk : List Bk) (cl : Int) (hd1 : cs.length = n1) (hd : rs.length = n) (hd2 : bk.length = n2) (w : World) (h1 : Sl w w.heap.size 6 A1 n1 c1 (flatCo cs)) (h : Sl w w.heap.size 5 A n c (flatRg rs)) (h2 : Sl w w.heap.size 4 A2 n2 c2 (flatBk bk)) :
    Calls Try.prog 4 #[.agg #[.slice A1 n1 c1, .slice A n c, .int .i64 clk, .int .i64 ver], .slice A2 n2 c2, .int .i64 cl] w fun e w' => e = .returned (.bool true) ∧ Below w.heap.size w w' := by
  have hB : Below w.heap.size w (w.alloc (.cells #[.slice A1 n1 c1, .slice A n c, .int .i64 clk, .int .i64 ver] 25)) := by (repeat (first | exact Below.refl _ _ | refine Below.alloc ?_ (by first | omega | (simp; done) | (simp; omega)) _ | refine Below.setCell ?_ (by first | omega | (simp; done) | (simp; omega)) _ | refine Below.drew ?_))
  have hP := Blok.new w 25 #[.slice A1 n1 c1, .slice A n c, .int .i64 clk, .int .i64 ver]
  replace h1 := h1.up hB
  replace h := h.up hB
  replace h2 := h2.up hB
  have hs := hB.size
  have HD1 := Lib.hid hd1
  have HD := Lib.hid hd
  have HD2 := Lib.hid hd2
  clear hd hd1 hd2
  go_enter Try.func4, Try.ntmps4
  go_wp2_with fail
  generalize w.alloc (.cells #[.slice A1 n1 c1, .slice A n c, .int .i64 clk, .int .i64 ver] 25) = w0 at *
  refine (small11 w0).mono ?_
  rintro e w1 ⟨rfl, hb⟩
  replace h1 := h1.up hb
  replace h := h.up hb
  replace h2 := h2.up hb
  replace hP := hP.below hb hP.lt
  replace hB := hB.trans (hb.mono hs)
  replace hs := hB.size
  clear hb
  have p0 : w1.cell? ⟨w.heap.size, 0, none⟩ = some (.slice A1 n1 c1) := hP.cell 0
  have p1 : w1.cell? ⟨w.heap.size, 1, none⟩ = some (.slice A n c) := hP.cell 1
  have p2 : w1.cell? ⟨w.heap.size, 2, none⟩ = some (.int .i64 clk) := hP.cell 2
  have p3 : w1.cell? ⟨w.heap.size, 3, none⟩ = some (.int .i64 ver) := hP.cell 3
  have lt_p := hP.lt
  go_wp2_with fail
  clear p0 p1 p2 p3 lt_p
  refine (few_any A1 n1 c1 A n c clk ver w1 _ rfl).mono ?_
  rintro e w2 ⟨rfl, hb⟩
  replace h1 := h1.up hb
  replace h := h.up hb
  replace h2 := h2.up hb
  replace hP := hP.below hb hP.lt
  replace hB := hB.trans (hb.mono hs)
  replace hs := hB.size
  clear hb
  by_cases hf : ¬ (n1 ≤ 50 ∧ n ≤ 50)
  · rw [decide_eq_false hf]
    go_wp2_with fail
    go_ret
    exact ⟨rfl, hB⟩
  replace hf := Decidable.not_not.1 hf
  rw [decide_eq_true hf]
  obtain ⟨hf1, hf2⟩ := hf
  by_cases hf3 : 50 < n2
  · have g0 : decide ((n2 : Int) > 50) = true := decide_eq_true (by omega)
    go_wp2_with fail
    go_ret
    exact ⟨rfl, hB⟩
  have g9 : decide ((n2 : Int) > 50) = false := decide_eq_false (by omega)
  by_cases hc0 : cl < 0
  · have g0 : decide (cl < 0) = true := decide_eq_true hc0
    go_wp2_with fail
    go_ret
    exact ⟨rfl, hB⟩
  have g0 : decide (cl < 0) = false := decide_eq_false hc0
  by_cases hc2 : cl > 2
  · have g2 : decide (cl > 2) = true := decide_eq_true hc2
    go_wp2_with fail
    go_ret
    exact ⟨rfl, hB⟩
  have g2 : decide (cl > 2) = false := decide_eq_false hc2
  have HC0 := Lib.hid hc0
  have HC2 := Lib.hid hc2
  clear hc0 hc2
  have p0 : w2.cell? ⟨w.heap.size, 0, none⟩ = some (.slice A1 n1 c1) := hP.cell 0
  have p1 : w2.cell? ⟨w.heap.size, 1, none⟩ = some (.slice A n c) := hP.cell 1
  have p2 : w2.cell? ⟨w.heap.size, 2, none⟩ = some (.int .i64 clk) := hP.cell 2
  have p3 : w2.cell? ⟨w.heap.size, 3, none⟩ = some (.int .i64 ver) := hP.cell 3
  have lt_p := hP.lt
  go_wp2_with fail
  clear p0 p1 p2 p3 lt_p g0 g2 g9
  obtain ⟨rb, hrb⟩ : ∃ rb, rightP cs rs clk ver = rb := ⟨_, rfl⟩
  refine (pright_any A1 n1 c1 cs A n c rs clk ver w2 HD1.out (by omega) HD.out (by omega) h1 h rb hrb).mono ?_
  rintro e w3 ⟨rfl, hb⟩
  replace h1 := h1.up hb
  replace h := h.up hb
  replace h2 := h2.up hb
  replace hP := hP.below hb hP.lt
  replace hB := hB.trans (hb.mono hs)
  replace hs := hB.size
  clear hb
  cases rb
  · clear hrb
    go_wp2_with fail
    go_ret
    exact ⟨rfl, hB⟩
  have HRP := Lib.hid (rightP_spec.1 hrb)
  clear hrb
  go_wp2_with fail
  refine (Kb.right_any A2 n2 c2 bk w3 HD2.out (by omega) h2).mono ?_
  rintro e w4 ⟨rfl, hb⟩
  replace h1 := h1.up hb
  replace h := h.up hb
  replace h2 := h2.up hb
  replace hP := hP.below hb hP.lt
  replace hB := hB.trans (hb.mono hs)
  replace hs := hB.size
  clear hb
  obtain ⟨lb, hlb⟩ : ∃ lb, Kb.rightB bk = lb := ⟨_, rfl⟩
  rw [hlb]
  cases lb
  · clear hlb
    go_wp2_with fail
    go_ret
    exact ⟨rfl, hB⟩
  have HLB := Lib.hid hlb
  clear hlb
  have p0 : w4.cell? ⟨w.heap.size, 0, none⟩ = some (.slice A1 n1 c1) := hP.cell 0
  have p1 : w4.cell? ⟨w.heap.size, 1, none⟩ = some (.slice A n c) := hP.cell 1
  have p2 : w4.cell? ⟨w.heap.size, 2, none⟩ = some (.int .i64 clk) := hP.cell 2
  have p3 : w4.cell? ⟨w.heap.size, 3, none⟩ = some (.int .i64 ver) := hP.cell 3
  have lt_p := hP.lt
  go_wp2_with fail
  clear p0 p1 p2 p3 lt_p
  refine (vall_of sortEd_any A1 n1 c1 cs A n c rs clk ver A2 n2 c2 bk cl w4 HD1.out (by omega) HD.out (by omega) HD2.out (by omega) h1 h h2 HRP.out.rg HLB.out).mono ?_
  rintro e w5 ⟨va, ma, rfl, hp, hso, ha, hb⟩
  have HMA := Lib.hid (allE_of HRP.out.co hp hso)
  clear hp hso
  replace h1 := h1.up hb
  replace h := h.up hb
  replace h2 := h2.up hb
  replace hP := hP.below hb hP.lt
  replace hB := hB.trans (hb.mono hs)
  replace hs := hB.size
  clear hb
  obtain ⟨k, hka⟩ : ∃ k, ma.length = k := ⟨_, rfl⟩
  rw [hka] at ha
  obtain ⟨Aa, ca, rfl⟩ := slice_of_own ha
  have hkm : k ≤ n1 := by rw [← hka, ← HD1.out]; exact HMA.out.len
  have HV := Lib.hid (Sl.of_own ha)
  have HKA := Lib.hid hka
  have HL1 := Lib.hid h1
  have HL := Lib.hid h
  have HP := Lib.hid hP
  have HB := Lib.hid hB
  clear hka ha h1 h h2 hP hB hs
  go_wp2_with fail
  go_loopw [10] (fun iv wr => ∃ (i : Nat), iv = .int .i64 i ∧ i ≤ k ∧ Below w5.heap.size w5 wr) (fun iv _ => k - (intOf iv).toNat)
  case atStart => exact ⟨0, rfl, by omega, Below.refl _ _⟩
  case round =>
    obtain ⟨i, rfl, hi, hB⟩ := hrel
    have hs := hB.size
    have hP := HP.out.below hB HP.out.lt
    by_cases hin : i < k
    · have hV := HV.out.up hB
      have h1 := HL1.out.up hB
      obtain ⟨ad, rfl, hab, c0, _, _, _, _, _, _, _⟩ := hV.lst.atEd HKA.out hin
      obtain ⟨y, hyi, hyf, q1, q2, q3, q4, q5, q6, q7⟩ := all_ok HRP.out.co HRP.out.rg HLB.out HMA.out (i := i) (by rw [HKA.out]; exact hin)
      obtain ⟨x, hx⟩ : ∃ x, gEd ma i = x := ⟨_, rfl⟩
      rw [hx] at c0 hyi hyf q1 q2 q3 q4 q5 q6 q7
      have HX := Lib.hid hx
      have HQ1 := Lib.hid q1
      have HQ2 := Lib.hid q2
      have HQ3 := Lib.hid q3
      have HQ4 := Lib.hid q4
      have HQ5 := Lib.hid q5
      have HQ6 := Lib.hid q6
      have HQ7 := Lib.hid q7
      have HFI := Lib.hid (fun (w' : World) (hb : Below wr.heap.size wr w') => Kc.find_any A1 n1 c1 cs x.id w' HD1.out (by omega) (h1.up hb) HRP.out.co y true hyf hyi)
      have p0 : wr.cell? ⟨w.heap.size, 0, none⟩ = some (.slice A1 n1 c1) := hP.cell 0
      have lt_p := hP.lt
      clear hx hyi hyf q1 q2 q3 q4 q5 q6 q7
      go_wp2_with fail
      try simp only [List.append]
      refine wp_region_newvar (m := 11) (s := 12) (dm := 11) (dv := 67) (T := 28) (zs := #[.int .i64 0, .int .i64 0, .int .i64 0, .int .i64 0, .int .i64 0, .int .i64 0]) (cs := #[.int .i64 y.id, .int .i64 y.fr, .int .i64 y.tn, .int .i64 y.st, .int .i64 y.en, .int .i64 y.rt]) [0, 1, 2, 3, 4, 5, 6, 7, 8, 9, 10, 13] (by kernel_rfl) (NewVar.of rfl rfl rfl (by kernel_rfl)) (by kernel_rfl) rfl (fun a w => by simp [execOp, go_sem]) rfl (by kernel_rfl) (by kernel_rfl) ?_
      apply Exists.intro
      refine ⟨?_, ?_, ?_, ?_, ?_⟩
      · intro wb hwb
        have q_p0 := cell_up p0 hwb
        have q_c0 := cell_up c0 hwb
        simp only [pickL, List.flatMap_cons, List.flatMap_nil, List.drop_succ_cons, List.drop_zero, List.take_succ_cons, List.take_zero, List.append_nil, List.cons_append, List.nil_append]
        repeat (go_big_quiet_step (((go_at_call 26; with_reducible exact Calls.regrown_of (HFI.out _ (up_below hwb _ _))))))
        exact wpQuiet_nil rfl
      · rfl
      · simp
      · rfl
      intro bX wX hX
      go_simp
      obtain ⟨_, hY, hb⟩ := hX
      clear c0 p0 lt_p HFI h1 hP
      replace hV := hV.up hb
      replace hB := hB.trans (hb.mono hs)
      replace hs := hB.size
      clear hb
      have k0 : wX.cell? ⟨bX, 0, none⟩ = some (.int .i64 y.id) := hY.cell 0
      have k1 : wX.cell? ⟨bX, 1, none⟩ = some (.int .i64 y.fr) := hY.cell 1
      have k2 : wX.cell? ⟨bX, 2, none⟩ = some (.int .i64 y.tn) := hY.cell 2
      have k3 : wX.cell? ⟨bX, 3, none⟩ = some (.int .i64 y.st) := hY.cell 3
      have k4 : wX.cell? ⟨bX, 4, none⟩ = some (.int .i64 y.en) := hY.cell 4
      have k5 : wX.cell? ⟨bX, 5, none⟩ = some (.int .i64 y.rt) := hY.cell 5
      have lt_k := hY.lt
      obtain ⟨a', ha', _, c0, c1', c2', c3, c4, c5, c6, c7⟩ := hV.lst.atEd HKA.out hin
      injection ha' with ha'
      subst ha'
      rw [HX.out] at c0 c1' c2' c3 c4 c5 c6 c7
      have g1 : (y.fr != x.fr) = false := by simp [HQ2.out]
      have g2 : (y.tn != x.tn) = false := by simp [HQ3.out]
      have g3 : (y.en != x.en) = false := by simp [HQ4.out]
      have g4 : (y.rt != x.ra) = false := by simp [HQ5.out]
      have g5 : decide (x.op < y.st) = false := decide_eq_false (by have := HQ6.out; omega)
      have hcase : i = 0 ∨ ∃ p, i = p + 1 := by cases i with | zero => exact .inl rfl | succ p => exact .inr ⟨p, rfl⟩
      rcases hcase with rfl | ⟨p, rfl⟩
      · have hd0 : decide ((0 : Int) > 0) = false := by simp
        simp only [Nat.zero_mul, Addr.add_zero'] at c0 c1' c2' c3 c4 c5 c6 c7
        simp only [Int.natCast_zero]
        clear hV hY
        go_upto_region 10 with fail
        have q_c0 := fun d os => cell_regrown c0 d os
        have q_c1' := fun d os => cell_regrown c1' d os
        have q_c2' := fun d os => cell_regrown c2' d os
        have q_c3 := fun d os => cell_regrown c3 d os
        have q_c4 := fun d os => cell_regrown c4 d os
        have q_c5 := fun d os => cell_regrown c5 d os
        have q_c6 := fun d os => cell_regrown c6 d os
        have q_c7 := fun d os => cell_regrown c7 d os
        have q_k0 := fun d os => cell_regrown k0 d os
        have q_k1 := fun d os => cell_regrown k1 d os
        have q_k2 := fun d os => cell_regrown k2 d os
        have q_k3 := fun d os => cell_regrown k3 d os
        have q_k4 := fun d os => cell_regrown k4 d os
        have q_k5 := fun d os => cell_regrown k5 d os
        try simp only [List.append]
        first | refine wp_region_text_below ?_ | refine wp_region_quiet_below (by kernel_rfl) (by kernel_rfl) ?_
        repeat (go_big_quiet_step (((go_at_call 27; with_reducible exact Calls.regrown_of (hright_is true HQ1.out _)))))
        refine wpQuiet_nil ?_
        intro _ hqw
        obtain ⟨pq, hqw⟩ := hqw
        subst hqw
        clear q_c0 q_c1' q_c2' q_c3 q_c4 q_c5 q_c6 q_c7 q_k0 q_k1 q_k2 q_k3 q_k4 q_k5
        have hbq := hB.trans ((below_regrown wX pq.d pq.os).mono hB.size)
        clear c0 c1' c2' c3 c4 c5 c6 c7 k0 k1 k2 k3 k4 k5 g1 g2 g3 g4 g5 hd0 lt_k hB hs
        generalize grow (redrawn wX pq.d) pq.os = wq at *
        try simp only [Int.natCast_zero, Int.natCast_one]
        go_wp2_with fail
        go_roundw
        case rel => exact ⟨1, by first | rfl | go_num, by omega, hbq⟩
        case measure => simp [intOf]; omega
      · have hp : p < k := by omega
        obtain ⟨a', ha', _, d0, _, _, _, _, _, _, _⟩ := hV.lst.atEd HKA.out hp
        injection ha' with ha'
        subst ha'
        have hlt := HQ7.out p rfl
        obtain ⟨pi, hpi⟩ : ∃ q, (gEd ma p).id = q := ⟨_, rfl⟩
        rw [hpi] at d0 hlt
        have hd0 : decide (((p + 1 : Nat) : Int) > 0) = true := decide_eq_true (by omega)
        have t0 : IntKind.i64.wrap (((p + 1 : Nat) : Int) - 1) = (p : Int) := by
          rw [IntWalk.i64_in _ (by omega)]; omega
        have g6 : decide (x.id ≤ pi) = false := decide_eq_false (by omega)
        clear hV hY hpi hlt
        go_upto_region 10 with fail
        have q_c0 := fun d os => cell_regrown c0 d os
        have q_c1' := fun d os => cell_regrown c1' d os
        have q_c2' := fun d os => cell_regrown c2' d os
        have q_c3 := fun d os => cell_regrown c3 d os
        have q_c4 := fun d os => cell_regrown c4 d os
        have q_c5 := fun d os => cell_regrown c5 d os
        have q_c6 := fun d os => cell_regrown c6 d os
        have q_c7 := fun d os => cell_regrown c7 d os
        have q_k0 := fun d os => cell_regrown k0 d os
        have q_k1 := fun d os => cell_regrown k1 d os
        have q_k2 := fun d os => cell_regrown k2 d os
        have q_k3 := fun d os => cell_regrown k3 d os
        have q_k4 := fun d os => cell_regrown k4 d os
        have q_k5 := fun d os => cell_regrown k5 d os
        have q_d0 := fun d os => cell_regrown d0 d os
        try simp only [List.append]
        first | refine wp_region_text_below ?_ | refine wp_region_quiet_below (by kernel_rfl) (by kernel_rfl) ?_
        repeat (go_big_quiet_step (((go_at_call 27; with_reducible exact Calls.regrown_of (hright_is true HQ1.out _)))))
        refine wpQuiet_nil ?_
        intro _ hqw
        obtain ⟨pq, hqw⟩ := hqw
        subst hqw
        clear q_c0 q_c1' q_c2' q_c3 q_c4 q_c5 q_c6 q_c7 q_k0 q_k1 q_k2 q_k3 q_k4 q_k5 q_d0
        have hbq := hB.trans ((below_regrown wX pq.d pq.os).mono hB.size)
        clear c0 c1' c2' c3 c4 c5 c6 c7 k0 k1 k2 k3 k4 k5 d0 g1 g2 g3 g4 g5 g6 hd0 t0 lt_k hB hs
        generalize grow (redrawn wX pq.d) pq.os = wq at *
        go_wp2_with fail
        go_roundw
        case rel => exact ⟨p + 1 + 1, by go_num, by omega, hbq⟩
        case measure => simp [intOf]; omega
    · obtain ⟨w6, hw6⟩ : ∃ w6, w6 = wr := ⟨_, rfl⟩
      subst hw6
      have HVr := Lib.hid (HV.out.up hB)
      have HLr1 := Lib.hid (HL1.out.up hB)
      have HLr := Lib.hid (HL.out.up hB)
      have HPr := Lib.hid hP
      have HBr := Lib.hid (HB.out.trans (hB.mono HB.out.size))
      obtain rfl : i = k := by omega
      clear hB hs hP HV HL1 HL HP HB
      go_wp2_with fail
      go_loopw [13, 14] (fun nv jv wr => ∃ (m j : Nat), nv = .int .i64 m ∧ jv = .int .i64 j ∧ j ≤ n1 ∧ m ≤ j ∧ Hid (edgedN rs cs j = m) ∧ Below w6.heap.size w6 wr) (fun _ jv _ => n1 - (intOf jv).toNat)
      case atStart => exact ⟨0, 0, rfl, rfl, by omega, by omega, rfl, Below.refl _ _⟩
      case round =>
        obtain ⟨m, j, rfl, rfl, hj, hmj, HE, hB⟩ := hrel
        have hs := hB.size
        have hP := HPr.out.below hB HPr.out.lt
        have p0 : wr.cell? ⟨w.heap.size, 0, none⟩ = some (.slice A1 n1 c1) := hP.cell 0
        have p1 : wr.cell? ⟨w.heap.size, 1, none⟩ = some (.slice A n c) := hP.cell 1
        have lt_p := hP.lt
        by_cases hjn : j < n1
        · have hV := HVr.out.up hB
          have h1 := HLr1.out.up hB
          have h := HLr.out.up hB
          obtain ⟨ad, rfl, hab, c0, c1', c2', c3, c4, c5⟩ := h1.lst.atCo HD1.out hjn
          have hjl : j < cs.length := by rw [HD1.out]; exact hjn
          have hmem := gCo_mem hjl
          have hnx := edged_next (rs := rs) hjl
          obtain ⟨y, hy⟩ : ∃ y, gCo cs j = y := ⟨_, rfl⟩
          rw [hy] at c0 c1' c2' c3 c4 c5 hmem hnx
          have hfe := found_edge HRP.out.co HMA.out hmem
          have hsp := Kc.okC_span (Kc.right_ok HRP.out.co y hmem)
          obtain ⟨o, ho⟩ : ∃ o, owltF rs y.fr y.tn y.st y.en = o := ⟨_, rfl⟩
          rw [ho] at hnx hfe
          rw [HE.out] at hnx
          obtain ⟨ob, hob⟩ : ∃ ob, o.isSome = ob := ⟨_, rfl⟩
          obtain ⟨ov, hov⟩ : ∃ ov, o.getD 0 = ov := ⟨_, rfl⟩
          rw [hob] at hnx hfe
          obtain ⟨z, hz⟩ : ∃ z, (findE ma y.id).getD zeroEd = z := ⟨_, rfl⟩
          have HOW := Lib.hid (fun (w' : World) (hb : Below wr.heap.size wr w') => hov ▸ hob ▸ owlt_eq A n c rs y w' HD.out (by omega) (h.up hb) HRP.out.rg hsp o ho)
          have HFE := Lib.hid hfe
          have HZ := Lib.hid hz
          have HNX := Lib.hid hnx
          have HH1 := Lib.hid h1
          have HHV := Lib.hid hV
          have HHP := Lib.hid hP
          have HY := Lib.hid hy
          clear hy hmem hnx hfe hsp ho hob hov hz h1 hV hP h
          go_wp2_with fail
          have q_c0 := fun d os => cell_regrown c0 d os
          have q_c1' := fun d os => cell_regrown c1' d os
          have q_c2' := fun d os => cell_regrown c2' d os
          have q_c3 := fun d os => cell_regrown c3 d os
          have q_c4 := fun d os => cell_regrown c4 d os
          have q_c5 := fun d os => cell_regrown c5 d os
          have q_p0 := fun d os => cell_regrown p0 d os
          have q_p1 := fun d os => cell_regrown p1 d os
          try simp only [List.append]
          first | refine wp_region_text_below ?_ | refine wp_region_quiet_below (by kernel_rfl) (by kernel_rfl) ?_
          repeat (go_big_quiet_step (((go_at_call 28; with_reducible exact Calls.regrown_of (HOW.out _ (below_regrown wr _ _))))))
          refine wpQuiet_nil ?_
          intro _ hqw
          obtain ⟨pq, hqw⟩ := hqw
          subst hqw
          clear q_c0 q_c1' q_c2' q_c3 q_c4 q_c5 q_p0 q_p1
          have hb := below_regrown wr pq.d pq.os
          have hV := HHV.out
          have h1 := HH1.out
          have hP := HHP.out
          clear c0 c1' c2' c3 c4 c5 p0 p1 lt_p HOW HHV HH1 HHP
          replace hV := hV.up hb
          replace h1 := h1.up hb
          replace hP := hP.below hb hP.lt
          replace hB := hB.trans (hb.mono hs)
          replace hs := hB.size
          clear hb
          generalize grow (redrawn wr pq.d) pq.os = w7 at *
          obtain ⟨a', ha', _, c0, _, _, _, _, _⟩ := h1.lst.atCo HD1.out hjn
          injection ha' with ha'
          subst ha'
          rw [HY.out] at c0
          have p0 : w7.cell? ⟨w.heap.size, 0, none⟩ = some (.slice (some ad) n1 c1) := hP.cell 0
          have lt_p := hP.lt
          have HFF := Lib.hid (vfind_any Aa i ca ma y.id w7 HKA.out (by omega) hV z ob HZ.out HFE.out)
          clear hV h1 hP
          go_wp2_with fail
          refine HFF.out.mono ?_
          rintro e w8 ⟨rfl, hb⟩
          clear c0 p0 lt_p HFF
          replace hB := hB.trans (hb.mono hs)
          replace hs := hB.size
          clear hb
          go_upto_region 18 with fail
          have hb : Below w8.heap.size w8 (w8.alloc (.cells #[.int .i64 z.id, .int .i64 z.fr, .int .i64 z.tn, .int .i64 z.op, .int .i64 z.en, .int .i64 z.ra, .int .i64 z.ow, .int .i64 z.ro] 34)) := by (repeat (first | exact Below.refl _ _ | refine Below.alloc ?_ (by first | omega | (simp; done) | (simp; omega)) _ | refine Below.setCell ?_ (by first | omega | (simp; done) | (simp; omega)) _ | refine Below.drew ?_))
          replace hB := hB.trans (hb.mono hs)
          replace hs := hB.size
          clear hb
          generalize w8.alloc (.cells #[.int .i64 z.id, .int .i64 z.fr, .int .i64 z.tn, .int .i64 z.op, .int .i64 z.en, .int .i64 z.ra, .int .i64 z.ow, .int .i64 z.ro] 34) = w9 at *
          generalize w8.heap.size = b8 at *
          cases ob
          · have HE2 : Hid (edgedN rs cs (j + 1) = m) := by have := HNX.out; simpa [Hid] using this
            clear HNX
            go_wp2_with fail
            go_roundw
            case rel => exact ⟨m, j + 1, rfl, by go_num, by omega, by omega, HE2, hB⟩
            case measure => simp [intOf]; omega
          · have HE2 : Hid (edgedN rs cs (j + 1) = m + 1) := by have := HNX.out; simpa [Hid] using this
            clear HNX
            go_wp2_with fail
            go_roundw
            case rel => exact ⟨m + 1, j + 1, by go_num, by go_num, by omega, by omega, HE2, hB⟩
            case measure => simp [intOf]; omega
        · obtain rfl : j = n1 := by omega
          have hmk : m = i := by rw [← HE.out, edged_all HRP.out.co HMA.out HD1.out]; exact HKA.out
          subst hmk
          have g1 : ((m : Int) == (m : Int)) = true := by simp
          go_wp2_with fail
          go_ret
          exact ⟨rfl, HBr.out.trans (hB.mono HBr.out.size)⟩
theorem viewRight_walk (A1 : Option Addr) (n1 c1 : Nat) (ns1 : List Int) (A : Option Addr) (n c : Nat) (ns : List Int) (clk ver : Int) (A2 : Option Addr) (n2 c2 : Nat) (ns2 : List Int) (cl : Int) (hnl1 : ns1.length = n1 * 6) (_ : ∀ m ∈ ns1, (Lit.int .i64 m).wf = true) (hnl : ns.length = n * 5) (_ : ∀ m ∈ ns, (Lit.int .i64 m).wf = true) (_ : (Lit.int .i64 clk).wf = true) (_ : (Lit.int .i64 ver).wf = true) (hnl2 : ns2.length = n2 * 4) (_ : ∀ m ∈ ns2, (Lit.int .i64 m).wf = true) (_ : (Lit.int .i64 cl).wf = true) (w : World)
    (h1 : Sl w w.heap.size 6 A1 n1 c1 (ns1.map (Value.int .i64))) (h : Sl w w.heap.size 5 A n c (ns.map (Value.int .i64))) (h2 : Sl w w.heap.size 4 A2 n2 c2 (ns2.map (Value.int .i64))) :
    Calls Try.prog 4 #[.agg #[.slice A1 n1 c1, .slice A n c, .int .i64 clk, .int .i64 ver], .slice A2 n2 c2, .int .i64 cl] w fun e w' => e = .returned (.bool true) ∧ Below w.heap.size w w' := by
  obtain ⟨cs, hd1, hf1⟩ := rowsCo_of n1 ns1 hnl1
  obtain ⟨rs, hd, hf⟩ := rowsRg_of n ns hnl
  obtain ⟨bk, hd2, hf2⟩ := rowsBk_of n2 ns2 hnl2
  rw [hf1] at h1
  rw [hf] at h
  rw [hf2] at h2
  exact viewRight_w A1 n1 c1 cs A n c rs clk ver A2 n2 c2 bk cl hd1 hd hd2 w h1 h h2
theorem viewRight_own : ownKnob Try.prog.godebug = none := by kernel_rfl
theorem viewRight_laidOut : laidOutB Try.prog = true := by kernel_rfl

set_option maxHeartbeats 1000000 in
set_option maxRecDepth 100000 in
theorem viewRight_lifted (os : Os) (started : os.Started) (H : Type) (enc : TypeId × Value → H) :
    ReturnsInHanded {} Try.checked os 4 .any (Rows.viewRightSpec.pre6 enc Try.prog Try.f4 Rows.viewRightRow.domain false) (Rows.viewRightSpec.post enc Try.prog Try.f4 false true false false) := by
  refine returnsInHanded_of_change (C := Try.checked) viewRight_own started (by kernel_rfl) Try.func4
    (ChangeSpec.witness6 (enc := enc) (C := Try.checked) false ⟨#[], #[.agg #[.slice none 0 0, .slice none 0 0, .int .i64 0, .int .i64 0], .slice none 0 0, .int .i64 0], []⟩ 8 (by kernel_rfl) (by kernel_rfl) (by kernel_rfl) (by kernel_rfl)) ?_
  intro W base args ds gs before hval0 hW hcnd _
  have hval : ∀ (j : Nat) t v, Try.f4.params[j]? = some t → args[j]? = some v → Value.okWide Try.prog W .any base t v := hval0
  have hW' := hW
  obtain ⟨p, q, hA0, hV, rfl, hfz, hnd⟩ := hW
  have hA : DataW.TrodAll enc Try.prog W 0 (fun _ => true) true Try.f4.params.toList args.toList ds p := hA0
  rw [Try.params4] at hA hval
  obtain ⟨v0, vs0, d0, ds0, p0, q0, hargs, rfl, rfl, h0, r0⟩ := trodAll_cons hA
  obtain ⟨v1, vs1, d1, ds1, p1, q1, rfl, rfl, rfl, h1, r1⟩ := trodAll_cons r0
  obtain ⟨v2, vs2, d2, ds2, p2, q2, rfl, rfl, rfl, h2, r2⟩ := trodAll_cons r1
  obtain ⟨rfl, rfl, rfl⟩ := trodAll_nil r2
  obtain rfl : args = #[v0, v1, v2] := by cases args; simp_all
  obtain ⟨rfl, rfl⟩ := trodVars_none hV
  obtain ⟨A0, n0, c0, ns0, B0, m0, k0, ms0, x0, y0, rfl, hl0, nl0, w0, hm0, ml0, wm0, wx0, wy0⟩ := open_plan 4 (e0 := 28) (e1 := 59) (K0 := 6) (K1 := 5) Try.underlying25 (by kernel_rfl) (by kernel_rfl) (by kernel_rfl) (by kernel_rfl) (by kernel_rfl) (by kernel_rfl) (by kernel_rfl) (by kernel_rfl) (by omega) (by kernel_rfl) (by omega) (hval 0 25 v0 rfl rfl) h0
  obtain ⟨A1, n1, c1, ns1, rfl, hl1, nl1, w1⟩ := open_rowsS 4 (K := 4) Try.underlying26 (by kernel_rfl) (by kernel_rfl) (by omega) (hval 1 26 v1 rfl rfl) h1
  obtain ⟨a2, rfl, rfl, rfl, w2⟩ := open_int Try.underlying3 (hval 2 3 v2 rfl rfl) h2
  clear hA0 hval0
  refine (viewRight_walk A0 n0 c0 ns0 B0 m0 k0 ms0 x0 y0 A1 n1 c1 ns1 a2 nl0 w0 ml0 wm0 wx0 wy0 nl1 w1 w2 W hl0 hm0 hl1).mono fun e W' ⟨he, bel⟩ => ?_
  subst he
  exact ⟨_, rfl, law_post viewRight_laidOut (by kernel_rfl) rfl Try.underlying4 rfl rfl hW' bel⟩

theorem viewRight_proved : Rows.ViewRightSaid :=
  OpenClaim.holds_of_wide 4 Try.f4 rfl rfl rfl rfl rfl rfl rfl ⟨rfl, rfl, rfl, rfl, rfl⟩ rfl rfl rfl rfl rfl (by kernel_rfl) Try.func4 (by kernel_rfl)
    (of_decide_eq_true (by kernel_rfl)) (by unfold Func.isWrapper; first | (rw [if_pos (by decide +kernel)]; kernel_rfl) | (rw [if_neg (by decide +kernel)]; exact ⟨rfl, rfl⟩))
    (fun os started H enc _ => viewRight_lifted os started H enc)
#print axioms viewRight_proved
end Go.Proofs.Ytfdphpmcgidmiaa
