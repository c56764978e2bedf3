/- Where nothing is booked edges are open from their Start on, with all their volume, for each class. No condition. -/
import Derived.Test.YtfdphpmcgidmiaaW5
import Derived.Test.YtfdphpmcgidmiaaRows
namespace Go.Proofs.Ytfdphpmcgidmiaa
open Go.ChangeShapes Go.WideShapes Go.ChangeAt Go.RowKit Go.Sort
set_option linter.unusedSimpArgs false
set_option linter.unusedVariables false
theorem small11 (w : World) : Calls Try.prog 8 #[] w fun e w' => e = .returned (.bool true) ∧ Below w.heap.size w w' := small11_of sortEd_any w
theorem bare_at {rs : List Rg} {cs : List Co} {m : List Ed} {cl : Int} (hr : Kc.rightC cs = true) (hc0 : 0 ≤ cl) (hc2 : cl ≤ 2) (h : AllE rs [] 0 cs m) {i : Nat} {x : Ed} (hi : i < m.length) (hx : gEd m i = x) : ∃ c : Co, edgeF rs [] c cl = some x ∧ Kc.idIn cs x.id = true ∧ Kc.foundC cs x.id = c ∧ x.op = c.st ∧ volumeF c.id c.fr c.tn c.st c.en c.rt = x.ro := by
  obtain ⟨c, hc, he, hid, h1, h2⟩ := h.at_ hr hi
  rw [hx] at he hid h1 h2
  have hok := Kc.right_ok hr c hc
  have e0 := edgeF_bare (rs := rs) (cl := 0) (by decide) hok
  have e1 := edgeF_bare (rs := rs) (cl := cl) (by unfold inB; rw [decide_eq_true_eq]; omega) hok
  refine ⟨c, by rw [e1, ← e0]; exact he, h1, h2, ?_⟩
  rw [e0, Option.map_eq_some_iff] at he
  obtain ⟨o, _, rfl⟩ := he
  exact ⟨rfl, rfl⟩
theorem bare_all {rs : List Rg} {cs : List Co} {m m' : List Ed} {cl : Int} (hr : Kc.rightC cs = true) (hc0 : 0 ≤ cl) (hc2 : cl ≤ 2) (h : AllE rs [] 0 cs m) (h' : AllE rs [] cl cs m') : m' = m := by
  refine sorted_ext h'.sorted h.sorted fun x => ?_
  rw [h.mem, h'.mem]
  have key : ∀ c ∈ cs, edgeF rs [] c cl = edgeF rs [] c 0 := fun c hc => by
    have hok := Kc.right_ok hr c hc
    rw [edgeF_bare (rs := rs) (cl := 0) (by decide) hok, edgeF_bare (rs := rs) (cl := cl) (by unfold inB; rw [decide_eq_true_eq]; omega) hok]
  constructor
  · rintro ⟨c, hc, he⟩
    exact ⟨c, hc, by rw [← key c hc]; exact he⟩
  · rintro ⟨c, hc, he⟩
    exact ⟨c, hc, by rw [key c hc]; exact he⟩
set_option maxHeartbeats 16000000 in
set_option maxRecDepth 100000 in
theorem viewBare_w (A1 : Option Addr) (n1 c1 : Nat) (cs : List Co) (A : Option Addr) (n c : Nat) (rs : List Rg) (clk ver cl : Int) (hd1 : cs.length = n1) (hd : rs.length = n) (w : World) (h1 : Sl w w.heap.size 6 A1 n1 c1 (flatCo cs)) (h : Sl w w.heap.size 5 A n c (flatRg rs)) :
    Calls Try.prog 7 #[.agg #[.slice A1 n1 c1, .slice A n c, .int .i64 clk, .int .i64 ver], .int .i64 cl] w fun e w' => e = .returned (.bool true) ∧ Below w.heap.size w w' := by
  have hB : Below w.heap.size w (w.alloc (.cells #[.slice A1 n1 c1, .slice A n c, .int .i64 clk, .int .i64 ver] 25)) := by (repeat (first | exact Below.refl _ _ | refine Below.alloc ?_ (by first | omega | (simp; done) | (simp; omega)) _ | refine Below.setCell ?_ (by first | omega | (simp; done) | (simp; omega)) _ | refine Below.drew ?_))
  have hP := Blok.new w 25 #[.slice A1 n1 c1, .slice A n c, .int .i64 clk, .int .i64 ver]
  replace h1 := h1.up hB
  replace h := h.up hB
  have hs := hB.size
  have HD1 := Lib.hid hd1
  have HD := Lib.hid hd
  clear hd hd1
  go_enter Try.func7, Try.ntmps7
  go_wp2_with fail
  generalize w.alloc (.cells #[.slice A1 n1 c1, .slice A n c, .int .i64 clk, .int .i64 ver] 25) = w0 at *
  refine (small11 w0).mono ?_
  rintro e w1 ⟨rfl, hb⟩
  replace h1 := h1.up hb
  replace h := h.up hb
  replace hP := hP.below hb hP.lt
  replace hB := hB.trans (hb.mono hs)
  replace hs := hB.size
  clear hb
  have p0 : w1.cell? ⟨w.heap.size, 0, none⟩ = some (.slice A1 n1 c1) := hP.cell 0
  have p1 : w1.cell? ⟨w.heap.size, 1, none⟩ = some (.slice A n c) := hP.cell 1
  have p2 : w1.cell? ⟨w.heap.size, 2, none⟩ = some (.int .i64 clk) := hP.cell 2
  have p3 : w1.cell? ⟨w.heap.size, 3, none⟩ = some (.int .i64 ver) := hP.cell 3
  have lt_p := hP.lt
  go_wp2_with fail
  clear p0 p1 p2 p3 lt_p
  refine (few_any A1 n1 c1 A n c clk ver w1 _ rfl).mono ?_
  rintro e w2 ⟨rfl, hb⟩
  replace h1 := h1.up hb
  replace h := h.up hb
  replace hP := hP.below hb hP.lt
  replace hB := hB.trans (hb.mono hs)
  replace hs := hB.size
  clear hb
  by_cases hf : ¬ (n1 ≤ 50 ∧ n ≤ 50)
  · rw [decide_eq_false hf]
    go_wp2_with fail
    go_ret
    exact ⟨rfl, hB⟩
  replace hf := Decidable.not_not.1 hf
  rw [decide_eq_true hf]
  obtain ⟨hf1, hf2⟩ := hf
  by_cases hc0 : cl < 0
  · have g0 : decide (cl < 0) = true := decide_eq_true hc0
    go_wp2_with fail
    go_ret
    exact ⟨rfl, hB⟩
  have g0 : decide (cl < 0) = false := decide_eq_false hc0
  by_cases hc2 : cl > 2
  · have g2 : decide (cl > 2) = true := decide_eq_true hc2
    go_wp2_with fail
    go_ret
    exact ⟨rfl, hB⟩
  have g2 : decide (cl > 2) = false := decide_eq_false hc2
  have HC0 := Lib.hid hc0
  have HC2 := Lib.hid hc2
  clear hc0 hc2
  have p0 : w2.cell? ⟨w.heap.size, 0, none⟩ = some (.slice A1 n1 c1) := hP.cell 0
  have p1 : w2.cell? ⟨w.heap.size, 1, none⟩ = some (.slice A n c) := hP.cell 1
  have p2 : w2.cell? ⟨w.heap.size, 2, none⟩ = some (.int .i64 clk) := hP.cell 2
  have p3 : w2.cell? ⟨w.heap.size, 3, none⟩ = some (.int .i64 ver) := hP.cell 3
  have lt_p := hP.lt
  go_wp2_with fail
  clear p0 p1 p2 p3 lt_p g0 g2
  obtain ⟨rb, hrb⟩ : ∃ rb, rightP cs rs clk ver = rb := ⟨_, rfl⟩
  refine (pright_any A1 n1 c1 cs A n c rs clk ver w2 HD1.out (by omega) HD.out (by omega) h1 h rb hrb).mono ?_
  rintro e w3 ⟨rfl, hb⟩
  replace h1 := h1.up hb
  replace h := h.up hb
  replace hP := hP.below hb hP.lt
  replace hB := hB.trans (hb.mono hs)
  replace hs := hB.size
  clear hb
  cases rb
  · clear hrb
    go_wp2_with fail
    go_ret
    exact ⟨rfl, hB⟩
  have HRP := Lib.hid (rightP_spec.1 hrb)
  clear hrb
  have p0 : w3.cell? ⟨w.heap.size, 0, none⟩ = some (.slice A1 n1 c1) := hP.cell 0
  have p1 : w3.cell? ⟨w.heap.size, 1, none⟩ = some (.slice A n c) := hP.cell 1
  have p2 : w3.cell? ⟨w.heap.size, 2, none⟩ = some (.int .i64 clk) := hP.cell 2
  have p3 : w3.cell? ⟨w.heap.size, 3, none⟩ = some (.int .i64 ver) := hP.cell 3
  have lt_p := hP.lt
  go_wp2_with fail
  clear p0 p1 p2 p3 lt_p
  refine (vbare_of sortEd_any A1 n1 c1 cs A n c rs clk ver w3 HD1.out (by omega) HD.out (by omega) h1 h HRP.out.rg).mono ?_
  rintro e w4 ⟨v, m, rfl, hp, hso, hown, hb⟩
  have HM := Lib.hid (allE_of HRP.out.co hp hso)
  clear hp hso
  replace h1 := h1.up hb
  replace h := h.up hb
  replace hP := hP.below hb hP.lt
  replace hB := hB.trans (hb.mono hs)
  replace hs := hB.size
  clear hb
  have hkm : m.length ≤ n1 := by rw [← HD1.out]; exact HM.out.len
  obtain ⟨k, hk⟩ : ∃ k, m.length = k := ⟨_, rfl⟩
  rw [hk] at hown hkm
  obtain ⟨Am, cm, rfl⟩ := slice_of_own hown
  have HK := Lib.hid hk
  have HV := Lib.hid (Sl.of_own hown)
  have HL1 := Lib.hid h1
  have HL := Lib.hid h
  have HP := Lib.hid hP
  have HB := Lib.hid hB
  clear hk hown h1 h hP hB hs
  go_wp2_with fail
  go_loopw [8] (fun iv wr => ∃ (i : Nat), iv = .int .i64 i ∧ i ≤ k ∧ Below w4.heap.size w4 wr) (fun iv _ => k - (intOf iv).toNat)
  case atStart => exact ⟨0, rfl, by omega, Below.refl _ _⟩
  case round =>
    obtain ⟨i, rfl, hi, hB⟩ := hrel
    have hs := hB.size
    have hP := HP.out.below hB HP.out.lt
    by_cases hin : i < k
    · have hV := HV.out.up hB
      have h1 := HL1.out.up hB
      have h := HL.out.up hB
      obtain ⟨ad, rfl, hab, c0, _, _, _, _, _, _, _⟩ := hV.lst.atEd HK.out hin
      obtain ⟨x, hx⟩ : ∃ x, gEd m i = x := ⟨_, rfl⟩
      rw [hx] at c0
      obtain ⟨y, hye, hyi, hyf, hyo, hyv⟩ := bare_at (cl := cl) HRP.out.co (by have := HC0.out; omega) (by have := HC2.out; omega) HM.out (by rw [HK.out]; exact hin) hx
      have HX := Lib.hid hx
      have HYE := Lib.hid hye
      have HYO := Lib.hid hyo
      have HYV := Lib.hid hyv
      have HFI := Lib.hid (fun (w' : World) (hb : Below wr.heap.size wr w') => Kc.find_any A1 n1 c1 cs x.id w' HD1.out (by omega) (h1.up hb) HRP.out.co y true hyf hyi)
      have p0 : wr.cell? ⟨w.heap.size, 0, none⟩ = some (.slice A1 n1 c1) := hP.cell 0
      have lt_p := hP.lt
      clear hx hye hyi hyf hyo hyv
      go_wp2_with fail
      try simp only [List.append]
      refine wp_region_newvar (m := 11) (s := 12) (dm := 9) (dv := 49) (T := 28) (zs := #[.int .i64 0, .int .i64 0, .int .i64 0, .int .i64 0, .int .i64 0, .int .i64 0]) (cs := #[.int .i64 y.id, .int .i64 y.fr, .int .i64 y.tn, .int .i64 y.st, .int .i64 y.en, .int .i64 y.rt]) [0, 1, 2, 3, 4, 5, 6, 7, 8, 9, 10, 13] (by kernel_rfl) (NewVar.of rfl rfl rfl (by kernel_rfl)) (by kernel_rfl) rfl (fun a w => by simp [execOp, go_sem]) rfl (by kernel_rfl) (by kernel_rfl) ?_
      apply Exists.intro
      refine ⟨?_, ?_, ?_, ?_, ?_⟩
      · intro wb hwb
        have q_p0 := cell_up p0 hwb
        have q_c0 := cell_up c0 hwb
        simp only [pickL, List.flatMap_cons, List.flatMap_nil, List.drop_succ_cons, List.drop_zero, List.take_succ_cons, List.take_zero, List.append_nil, List.cons_append, List.nil_append]
        repeat (go_big_quiet_step (((go_at_call 26; with_reducible exact Calls.regrown_of (HFI.out _ (up_below hwb _ _))))))
        exact wpQuiet_nil rfl
      · rfl
      · simp
      · rfl
      intro bX wX hX
      obtain ⟨_, hY, hb⟩ := hX
      clear c0 p0 lt_p HFI
      replace h1 := h1.up hb
      replace h := h.up hb
      replace hV := hV.up hb
      replace hP := hP.below hb hP.lt
      replace hB := hB.trans (hb.mono hs)
      replace hs := hB.size
      clear hb
      have p0 : wX.cell? ⟨w.heap.size, 0, none⟩ = some (.slice A1 n1 c1) := hP.cell 0
      have p1 : wX.cell? ⟨w.heap.size, 1, none⟩ = some (.slice A n c) := hP.cell 1
      have p2 : wX.cell? ⟨w.heap.size, 2, none⟩ = some (.int .i64 clk) := hP.cell 2
      have p3 : wX.cell? ⟨w.heap.size, 3, none⟩ = some (.int .i64 ver) := hP.cell 3
      have lt_p := hP.lt
      have k0 : wX.cell? ⟨bX, 0, none⟩ = some (.int .i64 y.id) := hY.cell 0
      have k1 : wX.cell? ⟨bX, 1, none⟩ = some (.int .i64 y.fr) := hY.cell 1
      have k2 : wX.cell? ⟨bX, 2, none⟩ = some (.int .i64 y.tn) := hY.cell 2
      have k3 : wX.cell? ⟨bX, 3, none⟩ = some (.int .i64 y.st) := hY.cell 3
      have k4 : wX.cell? ⟨bX, 4, none⟩ = some (.int .i64 y.en) := hY.cell 4
      have k5 : wX.cell? ⟨bX, 5, none⟩ = some (.int .i64 y.rt) := hY.cell 5
      have lt_k := hY.lt
      have HY := Lib.hid hY
      have HH := Lib.hid h
      have HH1 := Lib.hid h1
      have HHV := Lib.hid hV
      have HHP := Lib.hid hP
      clear hY h h1 hV hP
      go_wp2_with fail
      refine (edge_any A1 n1 c1 A n c rs clk ver none 0 0 [] y cl wX HD.out (by omega) rfl (by omega) HH.out (Sl.nil0 _ _ _) HRP.out.rg (by decide +kernel) (some x) HYE.out x rfl).mono ?_
      rintro e w5 ⟨rfl, hb⟩
      have hY := HY.out
      have hV := HHV.out
      clear k0 k1 k2 k3 k4 k5 lt_k p0 p1 p2 p3 lt_p HY HH HH1 HHV HHP
      replace hV := hV.up hb
      replace hY := hY.below hb hY.lt
      replace hB := hB.trans (hb.mono hs)
      replace hs := hB.size
      clear hb
      go_upto_region 11 with fail
      have hE := Blok.new w5 34 #[.int .i64 x.id, .int .i64 x.fr, .int .i64 x.tn, .int .i64 x.op, .int .i64 x.en, .int .i64 x.ra, .int .i64 x.ow, .int .i64 x.ro]
      have hb : Below w5.heap.size w5 (w5.alloc (.cells #[.int .i64 x.id, .int .i64 x.fr, .int .i64 x.tn, .int .i64 x.op, .int .i64 x.en, .int .i64 x.ra, .int .i64 x.ow, .int .i64 x.ro] 34)) := by (repeat (first | exact Below.refl _ _ | refine Below.alloc ?_ (by first | omega | (simp; done) | (simp; omega)) _ | refine Below.setCell ?_ (by first | omega | (simp; done) | (simp; omega)) _ | refine Below.drew ?_))
      replace hV := hV.up hb
      replace hY := hY.below hb hY.lt
      replace hB := hB.trans (hb.mono hs)
      replace hs := hB.size
      clear hb
      generalize w5.alloc (.cells #[.int .i64 x.id, .int .i64 x.fr, .int .i64 x.tn, .int .i64 x.op, .int .i64 x.en, .int .i64 x.ra, .int .i64 x.ow, .int .i64 x.ro] 34) = w6 at *
      generalize w5.heap.size = be at *
      have e0 : w6.cell? ⟨be, 0, none⟩ = some (.int .i64 x.id) := hE.cell 0
      have e1 : w6.cell? ⟨be, 1, none⟩ = some (.int .i64 x.fr) := hE.cell 1
      have e2 : w6.cell? ⟨be, 2, none⟩ = some (.int .i64 x.tn) := hE.cell 2
      have e3 : w6.cell? ⟨be, 3, none⟩ = some (.int .i64 x.op) := hE.cell 3
      have e4 : w6.cell? ⟨be, 4, none⟩ = some (.int .i64 x.en) := hE.cell 4
      have e5 : w6.cell? ⟨be, 5, none⟩ = some (.int .i64 x.ra) := hE.cell 5
      have e6 : w6.cell? ⟨be, 6, none⟩ = some (.int .i64 x.ow) := hE.cell 6
      have e7 : w6.cell? ⟨be, 7, none⟩ = some (.int .i64 x.ro) := hE.cell 7
      have k0 : w6.cell? ⟨bX, 0, none⟩ = some (.int .i64 y.id) := hY.cell 0
      have k1 : w6.cell? ⟨bX, 1, none⟩ = some (.int .i64 y.fr) := hY.cell 1
      have k2 : w6.cell? ⟨bX, 2, none⟩ = some (.int .i64 y.tn) := hY.cell 2
      have k3 : w6.cell? ⟨bX, 3, none⟩ = some (.int .i64 y.st) := hY.cell 3
      have k4 : w6.cell? ⟨bX, 4, none⟩ = some (.int .i64 y.en) := hY.cell 4
      have k5 : w6.cell? ⟨bX, 5, none⟩ = some (.int .i64 y.rt) := hY.cell 5
      have lt_e := hE.lt
      have lt_k := hY.lt
      obtain ⟨ad', had, hab', c0, c1', c2, c3, c4, c5, c6, c7⟩ := hV.lst.atEd HK.out hin
      obtain rfl : ad = ad' := by injection had
      rw [HX.out] at c0 c1' c2 c3 c4 c5 c6 c7
      have hrun : ∀ w0, (binOp .neq 34 (.agg #[.int .i64 x.id, .int .i64 x.fr, .int .i64 x.tn, .int .i64 x.op, .int .i64 x.en, .int .i64 x.ra, .int .i64 x.ow, .int .i64 x.ro]) (.agg #[.int .i64 x.id, .int .i64 x.fr, .int .i64 x.tn, .int .i64 x.op, .int .i64 x.en, .int .i64 x.ra, .int .i64 x.ow, .int .i64 x.ro])).run Try.prog w0 = .ok (.bool false) w0 := fun w0 => by rw [neqEd]; simp
      have g1 : (x.op != y.st) = false := by simp [HYO.out]
      have g2 : (x.ro != x.ro) = false := by simp
      have HVO := Lib.hid (fun (w' : World) => HYV.out ▸ volume_any y.id y.fr y.tn y.st y.en y.rt w')
      clear had hY hE hV
      have q_c0 := fun d os => cell_regrown c0 d os
      have q_c1' := fun d os => cell_regrown c1' d os
      have q_c2 := fun d os => cell_regrown c2 d os
      have q_c3 := fun d os => cell_regrown c3 d os
      have q_c4 := fun d os => cell_regrown c4 d os
      have q_c5 := fun d os => cell_regrown c5 d os
      have q_c6 := fun d os => cell_regrown c6 d os
      have q_c7 := fun d os => cell_regrown c7 d os
      have q_e0 := fun d os => cell_regrown e0 d os
      have q_e1 := fun d os => cell_regrown e1 d os
      have q_e2 := fun d os => cell_regrown e2 d os
      have q_e3 := fun d os => cell_regrown e3 d os
      have q_e4 := fun d os => cell_regrown e4 d os
      have q_e5 := fun d os => cell_regrown e5 d os
      have q_e6 := fun d os => cell_regrown e6 d os
      have q_e7 := fun d os => cell_regrown e7 d os
      have q_k0 := fun d os => cell_regrown k0 d os
      have q_k1 := fun d os => cell_regrown k1 d os
      have q_k2 := fun d os => cell_regrown k2 d os
      have q_k3 := fun d os => cell_regrown k3 d os
      have q_k4 := fun d os => cell_regrown k4 d os
      have q_k5 := fun d os => cell_regrown k5 d os
      try simp only [List.append]
      first | refine wp_region_text_below ?_ | refine wp_region_quiet_below (by kernel_rfl) (by kernel_rfl) ?_
      repeat (go_big_quiet_step ((go_at_call 29; with_reducible exact Calls.regrown_of (HVO.out _))))
      refine wpQuiet_nil ?_
      intro _ hqw
      obtain ⟨pq, hqw⟩ := hqw
      subst hqw
      clear q_c0 q_c1' q_c2 q_c3 q_c4 q_c5 q_c6 q_c7 q_e0 q_e1 q_e2 q_e3 q_e4 q_e5 q_e6 q_e7 q_k0 q_k1 q_k2 q_k3 q_k4 q_k5
      have hbq := hB.trans ((below_regrown w6 pq.d pq.os).mono hB.size)
      clear c0 c1' c2 c3 c4 c5 c6 c7 e0 e1 e2 e3 e4 e5 e6 e7 k0 k1 k2 k3 k4 k5 g1 g2 hrun HVO lt_e lt_k hB hs
      generalize grow (redrawn w6 pq.d) pq.os = wq at *
      go_wp2_with fail
      go_roundw
      case rel => exact ⟨i + 1, by go_num, by omega, hbq⟩
      case measure => simp [intOf]; omega
    · obtain rfl : i = k := by omega
      have HVr := Lib.hid (HV.out.up hB)
      have HLr1 := Lib.hid (HL1.out.up hB)
      have HLr := Lib.hid (HL.out.up hB)
      have HBr := Lib.hid (HB.out.trans (hB.mono HB.out.size))
      have p0 : wr.cell? ⟨w.heap.size, 0, none⟩ = some (.slice A1 n1 c1) := hP.cell 0
      have p1 : wr.cell? ⟨w.heap.size, 1, none⟩ = some (.slice A n c) := hP.cell 1
      have p2 : wr.cell? ⟨w.heap.size, 2, none⟩ = some (.int .i64 clk) := hP.cell 2
      have p3 : wr.cell? ⟨w.heap.size, 3, none⟩ = some (.int .i64 ver) := hP.cell 3
      have lt_p := hP.lt
      clear HV HL1 HL hB hs hP HP HB
      go_wp2_with fail
      clear p0 p1 p2 p3 lt_p
      refine (vall_of sortEd_any A1 n1 c1 cs A n c rs clk ver none 0 0 [] cl wr HD1.out (by omega) HD.out (by omega) rfl (by omega) HLr1.out HLr.out (Sl.nil0 _ _ _) HRP.out.rg (by decide +kernel)).mono ?_
      rintro e w5 ⟨v, m', rfl, hp, hso, hown, hb⟩
      have hmm := bare_all HRP.out.co (by have := HC0.out; omega) (by have := HC2.out; omega) HM.out (allE_of HRP.out.co hp hso)
      subst hmm
      clear hp hso
      rw [HK.out] at hown
      obtain ⟨A5, c5, rfl⟩ := slice_of_own hown
      have hV := HVr.out.up hb
      have hV5 := Sl.of_own hown
      have hBf := HBr.out.trans (hb.mono HBr.out.size)
      clear hown hb HVr HLr1 HLr HBr
      go_wp2_with fail
      refine (vsame_any A5 Am i c5 i cm m' m' w5 HK.out HK.out (by omega) (by omega) hV5 hV true (by simp)).mono ?_
      rintro e w6 ⟨rfl, hb⟩
      go_wp2_with fail
      go_ret
      exact ⟨rfl, hBf.trans (hb.mono hBf.size)⟩
theorem viewBare_walk (A1 : Option Addr) (n1 c1 : Nat) (ns1 : List Int) (A : Option Addr) (n c : Nat) (ns : List Int) (clk ver cl : Int) (hnl1 : ns1.length = n1 * 6) (_ : ∀ m ∈ ns1, (Lit.int .i64 m).wf = true) (hnl : ns.length = n * 5) (_ : ∀ m ∈ ns, (Lit.int .i64 m).wf = true) (_ : (Lit.int .i64 clk).wf = true) (_ : (Lit.int .i64 ver).wf = true) (_ : (Lit.int .i64 cl).wf = true) (w : World)
    (h1 : Sl w w.heap.size 6 A1 n1 c1 (ns1.map (Value.int .i64))) (h : Sl w w.heap.size 5 A n c (ns.map (Value.int .i64))) :
    Calls Try.prog 7 #[.agg #[.slice A1 n1 c1, .slice A n c, .int .i64 clk, .int .i64 ver], .int .i64 cl] w fun e w' => e = .returned (.bool true) ∧ Below w.heap.size w w' := by
  obtain ⟨cs, hd1, hf1⟩ := rowsCo_of n1 ns1 hnl1
  obtain ⟨rs, hd, hf⟩ := rowsRg_of n ns hnl
  rw [hf1] at h1
  rw [hf] at h
  exact viewBare_w A1 n1 c1 cs A n c rs clk ver cl hd1 hd w h1 h
theorem viewBare_own : ownKnob Try.prog.godebug = none := by kernel_rfl
theorem viewBare_laidOut : laidOutB Try.prog = true := by kernel_rfl

set_option maxHeartbeats 1000000 in
set_option maxRecDepth 100000 in
theorem viewBare_lifted (os : Os) (started : os.Started) (H : Type) (enc : TypeId × Value → H) :
    ReturnsInHanded {} Try.checked os 7 .any (Rows.viewBareSpec.pre6 enc Try.prog Try.f7 Rows.viewBareRow.domain false) (Rows.viewBareSpec.post enc Try.prog Try.f7 false true false false) := by
  refine returnsInHanded_of_change (C := Try.checked) viewBare_own started (by kernel_rfl) Try.func7
    (ChangeSpec.witness6 (enc := enc) (C := Try.checked) false ⟨#[], #[.agg #[.slice none 0 0, .slice none 0 0, .int .i64 0, .int .i64 0], .int .i64 0], []⟩ 8 (by kernel_rfl) (by kernel_rfl) (by kernel_rfl) (by kernel_rfl)) ?_
  intro W base args ds gs before hval0 hW hcnd _
  have hval : ∀ (j : Nat) t v, Try.f7.params[j]? = some t → args[j]? = some v → Value.okWide Try.prog W .any base t v := hval0
  have hW' := hW
  obtain ⟨p, q, hA0, hV, rfl, hfz, hnd⟩ := hW
  have hA : DataW.TrodAll enc Try.prog W 0 (fun _ => true) true Try.f7.params.toList args.toList ds p := hA0
  rw [Try.params7] at hA hval
  obtain ⟨v0, vs0, d0, ds0, p0, q0, hargs, rfl, rfl, h0, r0⟩ := trodAll_cons hA
  obtain ⟨v1, vs1, d1, ds1, p1, q1, rfl, rfl, rfl, h1, r1⟩ := trodAll_cons r0
  obtain ⟨rfl, rfl, rfl⟩ := trodAll_nil r1
  obtain rfl : args = #[v0, v1] := by cases args; simp_all
  obtain ⟨rfl, rfl⟩ := trodVars_none hV
  obtain ⟨A0, n0, c0, ns0, B0, m0, k0, ms0, x0, y0, rfl, hl0, nl0, w0, hm0, ml0, wm0, wx0, wy0⟩ := open_plan 4 (e0 := 28) (e1 := 59) (K0 := 6) (K1 := 5) Try.underlying25 (by kernel_rfl) (by kernel_rfl) (by kernel_rfl) (by kernel_rfl) (by kernel_rfl) (by kernel_rfl) (by kernel_rfl) (by kernel_rfl) (by omega) (by kernel_rfl) (by omega) (hval 0 25 v0 rfl rfl) h0
  obtain ⟨a1, rfl, rfl, rfl, w1⟩ := open_int Try.underlying3 (hval 1 3 v1 rfl rfl) h1
  clear hA0 hval0
  refine (viewBare_walk A0 n0 c0 ns0 B0 m0 k0 ms0 x0 y0 a1 nl0 w0 ml0 wm0 wx0 wy0 w1 W hl0 hm0).mono fun e W' ⟨he, bel⟩ => ?_
  subst he
  exact ⟨_, rfl, law_post viewBare_laidOut (by kernel_rfl) rfl Try.underlying4 rfl rfl hW' bel⟩

theorem viewBare_proved : Rows.ViewBareSaid :=
  OpenClaim.holds_of_wide 7 Try.f7 rfl rfl rfl rfl rfl rfl rfl ⟨rfl, rfl, rfl, rfl, rfl⟩ rfl rfl rfl rfl rfl (by kernel_rfl) Try.func7 (by kernel_rfl)
    (of_decide_eq_true (by kernel_rfl)) (by unfold Func.isWrapper; first | (rw [if_pos (by decide +kernel)]; kernel_rfl) | (rw [if_neg (by decide +kernel)]; exact ⟨rfl, rfl⟩))
    (fun os started H enc _ => viewBare_lifted os started H enc)
#print axioms viewBare_proved
end Go.Proofs.Ytfdphpmcgidmiaa
