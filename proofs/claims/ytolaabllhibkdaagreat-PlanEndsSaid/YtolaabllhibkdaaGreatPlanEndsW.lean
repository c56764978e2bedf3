/- Behind a step of time nothing is left that is over, and nothing went that is not: PlanEnds returns true. No condition. -/
import Derived.Test.YtolaabllhibkdaaGreatW9
import Derived.Test.YtolaabllhibkdaaGreatRows
namespace Go.Proofs.YtolaabllhibkdaaGreat
open Go.ChangeShapes Go.WideShapes Go.ChangeAt Go.RowKit Go.Sort
set_option linter.unusedSimpArgs false
set_option linter.unusedVariables false
set_option maxHeartbeats 16000000 in
set_option maxRecDepth 100000 in
theorem planEnds_w (A1 : Option Addr) (n1 c1 : Nat) (A : Option Addr) (n c : Nat) (p : Pl) (now : Int) (hd1 : p.cs.length = n1) (hd : p.rs.length = n) (w : World) (h1 : Sl w w.heap.size 6 A1 n1 c1 (flatCo p.cs)) (h : Sl w w.heap.size 5 A n c (flatRg p.rs)) :
    Calls Tryz.prog 9 #[.agg #[.slice A1 n1 c1, .slice A n c, .int .i64 p.clk, .int .i64 p.ver], .int .i64 now] w fun e w' => e = .returned (.bool true) ∧ Below w.heap.size w w' := by
  have hB : Below w.heap.size w (w.alloc (.cells #[.slice A1 n1 c1, .slice A n c, .int .i64 p.clk, .int .i64 p.ver] 25)) := by (repeat (first | exact Below.refl _ _ | refine Below.alloc ?_ (by first | omega | (simp; done) | (simp; omega)) _ | refine Below.setCell ?_ (by first | omega | (simp; done) | (simp; omega)) _ | refine Below.drew ?_))
  have hP := Blok.new w 25 #[.slice A1 n1 c1, .slice A n c, .int .i64 p.clk, .int .i64 p.ver]
  replace h1 := h1.up hB
  replace h := h.up hB
  have hs := hB.size
  have HD1 := Lib.hid hd1
  have HD := Lib.hid hd
  clear hd hd1
  go_enter Tryz.func9, Tryz.ntmps9
  go_wp2_with fail
  generalize w.alloc (.cells #[.slice A1 n1 c1, .slice A n c, .int .i64 p.clk, .int .i64 p.ver] 25) = w0 at *
  refine (small08_any w0).mono ?_
  rintro e w1 ⟨rfl, hb⟩
  replace h1 := h1.up hb
  replace h := h.up hb
  replace hP := hP.below hb hP.lt
  replace hB := hB.trans (hb.mono hs)
  replace hs := hB.size
  clear hb
  have p0 : w1.cell? ⟨w.heap.size, 0, none⟩ = some (.slice A1 n1 c1) := hP.cell 0
  have p1 : w1.cell? ⟨w.heap.size, 1, none⟩ = some (.slice A n c) := hP.cell 1
  have p2 : w1.cell? ⟨w.heap.size, 2, none⟩ = some (.int .i64 p.clk) := hP.cell 2
  have p3 : w1.cell? ⟨w.heap.size, 3, none⟩ = some (.int .i64 p.ver) := hP.cell 3
  have lt_p := hP.lt
  go_wp2_with fail
  clear p0 p1 p2 p3 lt_p
  refine (few_any A1 n1 c1 A n c p.clk p.ver w1 _ rfl).mono ?_
  rintro e w2 ⟨rfl, hb⟩
  replace h1 := h1.up hb
  replace h := h.up hb
  replace hP := hP.below hb hP.lt
  replace hB := hB.trans (hb.mono hs)
  replace hs := hB.size
  clear hb
  by_cases hf : ¬ (n1 ≤ 50 ∧ n ≤ 50)
  · rw [decide_eq_false hf]
    go_wp2_with fail
    go_ret
    exact ⟨rfl, hB⟩
  replace hf := Decidable.not_not.1 hf
  rw [decide_eq_true hf]
  obtain ⟨hf1, hf2⟩ := hf
  have p0 : w2.cell? ⟨w.heap.size, 0, none⟩ = some (.slice A1 n1 c1) := hP.cell 0
  have p1 : w2.cell? ⟨w.heap.size, 1, none⟩ = some (.slice A n c) := hP.cell 1
  have p2 : w2.cell? ⟨w.heap.size, 2, none⟩ = some (.int .i64 p.clk) := hP.cell 2
  have p3 : w2.cell? ⟨w.heap.size, 3, none⟩ = some (.int .i64 p.ver) := hP.cell 3
  have lt_p := hP.lt
  go_wp2_with fail
  clear p0 p1 p2 p3 lt_p
  obtain ⟨rb, hrb⟩ : ∃ rb, rightP p.cs p.rs p.clk p.ver = rb := ⟨_, rfl⟩
  refine (pright_any A1 n1 c1 p.cs A n c p.rs p.clk p.ver w2 HD1.out (by omega) HD.out (by omega) h1 h rb hrb).mono ?_
  rintro e w3 ⟨rfl, hb⟩
  replace h1 := h1.up hb
  replace h := h.up hb
  replace hP := hP.below hb hP.lt
  replace hB := hB.trans (hb.mono hs)
  replace hs := hB.size
  clear hb
  cases rb
  · clear hrb
    go_wp2_with fail
    go_ret
    exact ⟨rfl, hB⟩
  have HRP := Lib.hid (rightP_spec.1 hrb)
  clear hrb
  have hp : PlAt w3 A1 n1 c1 A n c p := ⟨HD1.out, HD.out, by omega, by omega, h1, h⟩
  clear h1 h
  have p0 : w3.cell? ⟨w.heap.size, 0, none⟩ = some (.slice A1 n1 c1) := hP.cell 0
  have p1 : w3.cell? ⟨w.heap.size, 1, none⟩ = some (.slice A n c) := hP.cell 1
  have p2 : w3.cell? ⟨w.heap.size, 2, none⟩ = some (.int .i64 p.clk) := hP.cell 2
  have p3 : w3.cell? ⟨w.heap.size, 3, none⟩ = some (.int .i64 p.ver) := hP.cell 3
  have lt_p := hP.lt
  go_wp2_with fail
  clear p0 p1 p2 p3 lt_p
  by_cases hin : inB now p.clk 2147483647 = true
  · have hA := adv_at (p := p) (now := now) (by have h := hin; unfold inB at h; rw [decide_eq_true_eq] at h; exact h.1) (by have h := hin; unfold inB at h; rw [decide_eq_true_eq] at h; exact h.2) HRP.out.v0 HRP.out.v1
    clear hin
    obtain ⟨a, ha⟩ : ∃ a, advP p now = a := ⟨_, rfl⟩
    rw [ha] at hA
    have HA := Lib.hid hA
    have HAE := Lib.hid ha
    clear ha hA
    refine (padv_to A1 n1 c1 A n c p now w3 hp HRP.out.v0 HRP.out.v1 p.clk p.ver rfl rfl a 0 _ HAE.out HA.out.q0 rfl).mono ?_
    rintro e w4 ⟨A2, n2, c2, A3, n3, c3, A4, n4, c4, rfl, ho, hl4, hs4, hb⟩
    have hq := ho.at_
    clear ho hs4 hl4 HAE
    replace hp := hp.up hb
    replace hP := hP.below hb hP.lt
    replace hB := hB.trans (hb.mono hs)
    replace hs := hB.size
    clear hb
    rw [HA.out.clk]
    go_upto_region 6 with fail
    have ba := Blok.new w4 25 #[.slice A2 n2 c2, .slice A3 n3 c3, .int .i64 now, .int .i64 a.ver]
    have hb : Below w4.heap.size w4 (w4.alloc (.cells #[.slice A2 n2 c2, .slice A3 n3 c3, .int .i64 now, .int .i64 a.ver] 25)) := by (repeat (first | exact Below.refl _ _ | refine Below.alloc ?_ (by first | omega | (simp; done) | (simp; omega)) _ | refine Below.setCell ?_ (by first | omega | (simp; done) | (simp; omega)) _ | refine Below.drew ?_))
    replace hp := hp.up hb
    replace hq := hq.up hb
    replace hP := hP.below hb hP.lt
    replace hB := hB.trans (hb.mono hs)
    replace hs := hB.size
    clear hb
    generalize w4.alloc (.cells #[.slice A2 n2 c2, .slice A3 n3 c3, .int .i64 now, .int .i64 a.ver] 25) = w5 at *
    generalize hzz : w4.heap.size = Ba at *
    clear hzz
    go_wp2_with fail
    have HB0 := Lib.hid hB
    have hBx := Below.refl w5.heap.size w5
    have HPX := Lib.hid (fun w' (hb : Below w5.heap.size w5 w') => hP.below hb hP.lt)
    have HAX := Lib.hid (fun w' (hb : Below w5.heap.size w5 w') => ba.below hb ba.lt)
    have HPL := Lib.hid (fun w' (hb : Below w5.heap.size w5 w') => hp.up hb)
    have HQL := Lib.hid (fun w' (hb : Below w5.heap.size w5 w') => hq.up hb)
    clear hp hq hP ba hB
    go_loopw [10] (fun iv wr => ∃ i : Nat, i ≤ n1 ∧ iv = .int .i64 i ∧ Below w5.heap.size w5 wr) (fun iv _ => n1 - (intOf iv).toNat)
    case atStart => exact ⟨0, by omega, rfl, hBx⟩
    case round =>
      obtain ⟨i, hi, rfl, hB⟩ := hrel
      clear hBx
      have hs2 := hB.size
      have hsB := HB0.out.size
      have p0 : wr.cell? ⟨w.heap.size, 0, none⟩ = some (.slice A1 n1 c1) := (HPX.out _ hB).cell 0
      have lt_p := (HPX.out _ hB).lt
      by_cases hin : i < n1
      · obtain ⟨ad, hA1, hab, c0, c1', c2', c3', c4', c5'⟩ := (HPL.out _ hB).s1.lst.atCo HD1.out hin
        subst hA1
        obtain ⟨x, hx⟩ : ∃ x, gCo p.cs i = x := ⟨_, rfl⟩
        rw [hx] at c0 c1' c2' c3' c4' c5'
        have hfd := left_found HRP.out.co (now := now) (c := x) (by rw [← hx]; exact gCo_mem (by rw [HD1.out]; exact hin))
        have HX := Lib.hid hx
        rw [← HA.out.cs] at hfd
        obtain ⟨hf1', hf2'⟩ := hfd
        have HF1 := Lib.hid hf1'
        have HF2 := Lib.hid hf2'
        clear hx hf1' hf2'
        have hin2 : (i : Int) < (n1 : Int) := by omega
        go_upto_region 12 with fail
        clear c0 c1' c2' c3' c4' c5' p0 lt_p
        have hX := Blok.new wr 33 #[.int .i64 x.id, .int .i64 x.fr, .int .i64 x.tn, .int .i64 x.st, .int .i64 x.en, .int .i64 x.rt]
        have hb : Below wr.heap.size wr (wr.alloc (.cells #[.int .i64 x.id, .int .i64 x.fr, .int .i64 x.tn, .int .i64 x.st, .int .i64 x.en, .int .i64 x.rt] 33)) := by (repeat (first | exact Below.refl _ _ | refine Below.alloc ?_ (by first | omega | (simp; done) | (simp; omega)) _ | refine Below.setCell ?_ (by first | omega | (simp; done) | (simp; omega)) _ | refine Below.drew ?_))
        replace hB := hB.trans (hb.mono hs2)
        replace hs2 := hB.size
        clear hb
        generalize wr.alloc (.cells #[.int .i64 x.id, .int .i64 x.fr, .int .i64 x.tn, .int .i64 x.st, .int .i64 x.en, .int .i64 x.rt] 33) = wc at *
        generalize hbx : wr.heap.size = bx at *
        clear hbx
        have x0 : wc.cell? ⟨bx, 0, none⟩ = some (.int .i64 x.id) := hX.cell 0
        have a0 : wc.cell? ⟨Ba, 0, none⟩ = some (.slice A2 n2 c2) := (HAX.out _ hB).cell 0
        have lt_x := hX.lt
        have lt_a := (HAX.out _ hB).lt
        go_wp2_with fail
        clear x0 a0 lt_x lt_a
        obtain ⟨y, hy⟩ : ∃ y, Kc.foundC a.cs x.id = y := ⟨_, rfl⟩
        refine (Kc.find_any A2 n2 c2 a.cs x.id wc (HQL.out _ hB).l1 (by have := (HQL.out _ hB).b1; omega) (HQL.out _ hB).s1 (by rw [HA.out.cs]; exact leftC_right HRP.out.co) y (decide (now < x.en)) hy HF1.out).mono ?_
        rintro e wd ⟨rfl, hb⟩
        replace hX := hX.below hb hX.lt
        replace hB := hB.trans (hb.mono hs2)
        replace hs2 := hB.size
        have HY := Lib.hid hy
        clear hb hy
        go_upto_region 13 with fail
        have hY := Blok.new wd 33 #[.int .i64 y.id, .int .i64 y.fr, .int .i64 y.tn, .int .i64 y.st, .int .i64 y.en, .int .i64 y.rt]
        have hb : Below wd.heap.size wd (wd.alloc (.cells #[.int .i64 y.id, .int .i64 y.fr, .int .i64 y.tn, .int .i64 y.st, .int .i64 y.en, .int .i64 y.rt] 33)) := by (repeat (first | exact Below.refl _ _ | refine Below.alloc ?_ (by first | omega | (simp; done) | (simp; omega)) _ | refine Below.setCell ?_ (by first | omega | (simp; done) | (simp; omega)) _ | refine Below.drew ?_))
        replace hX := hX.below hb hX.lt
        replace hB := hB.trans (hb.mono hs2)
        replace hs2 := hB.size
        clear hb
        generalize wd.alloc (.cells #[.int .i64 y.id, .int .i64 y.fr, .int .i64 y.tn, .int .i64 y.st, .int .i64 y.en, .int .i64 y.rt] 33) = we at *
        generalize hby : wd.heap.size = by_ at *
        clear hby
        by_cases hlt : now < x.en
        · have hyx : y = x := by rw [← HY.out]; exact HF2.out hlt
          subst hyx
          have hg : decide (now < y.en) = true := decide_eq_true hlt
          rw [hg]
          have hrun : ∀ w0, (binOp .neq 33 (.agg #[.int .i64 y.id, .int .i64 y.fr, .int .i64 y.tn, .int .i64 y.st, .int .i64 y.en, .int .i64 y.rt]) (.agg #[.int .i64 y.id, .int .i64 y.fr, .int .i64 y.tn, .int .i64 y.st, .int .i64 y.en, .int .i64 y.rt])).run Tryz.prog w0 = .ok (.bool false) w0 := fun w0 => by rw [neqCo y y]; simp
          have hgd : Tryz.prog.eqGuardType Tryz.prog.depth 33 = false := by kernel_rfl
          have x_0 : we.cell? ⟨bx, 0, none⟩ = some (.int .i64 y.id) := hX.cell 0
          have x_1 : we.cell? ⟨bx, 1, none⟩ = some (.int .i64 y.fr) := hX.cell 1
          have x_2 : we.cell? ⟨bx, 2, none⟩ = some (.int .i64 y.tn) := hX.cell 2
          have x_3 : we.cell? ⟨bx, 3, none⟩ = some (.int .i64 y.st) := hX.cell 3
          have x_4 : we.cell? ⟨bx, 4, none⟩ = some (.int .i64 y.en) := hX.cell 4
          have x_5 : we.cell? ⟨bx, 5, none⟩ = some (.int .i64 y.rt) := hX.cell 5
          have y_0 : we.cell? ⟨by_, 0, none⟩ = some (.int .i64 y.id) := hY.cell 0
          have y_1 : we.cell? ⟨by_, 1, none⟩ = some (.int .i64 y.fr) := hY.cell 1
          have y_2 : we.cell? ⟨by_, 2, none⟩ = some (.int .i64 y.tn) := hY.cell 2
          have y_3 : we.cell? ⟨by_, 3, none⟩ = some (.int .i64 y.st) := hY.cell 3
          have y_4 : we.cell? ⟨by_, 4, none⟩ = some (.int .i64 y.en) := hY.cell 4
          have y_5 : we.cell? ⟨by_, 5, none⟩ = some (.int .i64 y.rt) := hY.cell 5
          have lt_x := hX.lt
          have lt_y := hY.lt
          clear hX hY HY HX HF1 HF2
          go_wp2
          clear x_0 x_1 x_2 x_3 x_4 x_5 y_0 y_1 y_2 y_3 y_4 y_5 lt_x lt_y hrun hgd
          go_roundw
          case rel => exact ⟨i + 1, by omega, by go_num, by assumption⟩
          case measure => simp [intOf]; omega
        · have hg : decide (now < x.en) = false := decide_eq_false hlt
          rw [hg]
          have x_0 : we.cell? ⟨bx, 0, none⟩ = some (.int .i64 x.id) := hX.cell 0
          have x_1 : we.cell? ⟨bx, 1, none⟩ = some (.int .i64 x.fr) := hX.cell 1
          have x_2 : we.cell? ⟨bx, 2, none⟩ = some (.int .i64 x.tn) := hX.cell 2
          have x_3 : we.cell? ⟨bx, 3, none⟩ = some (.int .i64 x.st) := hX.cell 3
          have x_4 : we.cell? ⟨bx, 4, none⟩ = some (.int .i64 x.en) := hX.cell 4
          have x_5 : we.cell? ⟨bx, 5, none⟩ = some (.int .i64 x.rt) := hX.cell 5
          have y_0 : we.cell? ⟨by_, 0, none⟩ = some (.int .i64 y.id) := hY.cell 0
          have y_1 : we.cell? ⟨by_, 1, none⟩ = some (.int .i64 y.fr) := hY.cell 1
          have y_2 : we.cell? ⟨by_, 2, none⟩ = some (.int .i64 y.tn) := hY.cell 2
          have y_3 : we.cell? ⟨by_, 3, none⟩ = some (.int .i64 y.st) := hY.cell 3
          have y_4 : we.cell? ⟨by_, 4, none⟩ = some (.int .i64 y.en) := hY.cell 4
          have y_5 : we.cell? ⟨by_, 5, none⟩ = some (.int .i64 y.rt) := hY.cell 5
          have lt_x := hX.lt
          have lt_y := hY.lt
          clear hX hY HY HX HF1 HF2
          go_wp2
          clear x_0 x_1 x_2 x_3 x_4 x_5 y_0 y_1 y_2 y_3 y_4 y_5 lt_x lt_y
          go_roundw
          case rel => exact ⟨i + 1, by omega, by go_num, by assumption⟩
          case measure => simp [intOf]; omega
      · obtain rfl : i = n1 := by omega
        go_wp2_with fail
        clear p0 lt_p
        have HB1 := Lib.hid hB
        have hBx := Below.refl wr.heap.size wr
        clear hB
        go_loopw [14, 15] (fun kv jv wq => ∃ j k : Nat, j ≤ n ∧ k ≤ j ∧ kv = .int .i64 k ∧ jv = .int .i64 j ∧ Hid (((p.rs.take j).filter (fun x => !decide (x.en ≤ now))).length = k) ∧ Below wr.heap.size wr wq) (fun _ jv _ => n - (intOf jv).toNat)
        case atStart => exact ⟨0, 0, by omega, by omega, rfl, rfl, rfl, hBx⟩
        case round =>
          obtain ⟨j, k, hj, hkj, rfl, rfl, HK, hB⟩ := hrel
          clear hBx
          have hBB := HB1.out.trans (hB.mono HB1.out.size)
          have p1 : wr.cell? ⟨w.heap.size, 1, none⟩ = some (.slice A n c) := (HPX.out _ hBB).cell 1
          have lt_p := (HPX.out _ hBB).lt
          by_cases hjn : j < n
          · obtain ⟨ad, hA1, hab, c0, c1', c2', c3', c4'⟩ := (HPL.out _ hBB).s.lst.atRg HD.out hjn
            subst hA1
            obtain ⟨x, hx⟩ : ∃ x, gRg p.rs j = x := ⟨_, rfl⟩
            rw [hx] at c0 c1' c2' c3' c4'
            have hnx := leftR_next p.rs now (k := j) (by rw [HD.out]; exact hjn)
            rw [hx, HK.out] at hnx
            have HN := Lib.hid hnx
            have hjn2 : (j : Int) < (n : Int) := by omega
            clear hx hnx c0 c1' c2' c4'
            by_cases hlt : now < x.en
            · have hg : decide (now < x.en) = true := decide_eq_true hlt
              go_wp2
              go_roundw
              case rel => exact ⟨j + 1, k + 1, by omega, by omega, by go_num, by go_num, by have h := HN.out; rw [if_pos hlt] at h; exact h, hB⟩
              case measure => simp [intOf]; omega
            · have hg : decide (now < x.en) = false := decide_eq_false hlt
              go_wp2
              go_roundw
              case rel => exact ⟨j + 1, k, by omega, by omega, rfl, by go_num, by have h := HN.out; rw [if_neg hlt] at h; exact h, hB⟩
              case measure => simp [intOf]; omega
          · obtain rfl : j = n := by omega
            have hkn : k = n3 := by
              have h := HK.out
              rw [List.take_of_length_le (by rw [HD.out]; exact Nat.le_refl _), ← HA.out.rs, (HQL.out _ hBB).l] at h
              exact h.symm
            subst hkn
            have a1 : wr.cell? ⟨Ba, 1, none⟩ = some (.slice A3 k c3) := (HAX.out _ hBB).cell 1
            have a2 : wr.cell? ⟨Ba, 2, none⟩ = some (.int .i64 now) := (HAX.out _ hBB).cell 2
            have lt_a := (HAX.out _ hBB).lt
            have hfin := HB0.out.trans (hBB.mono HB0.out.size)
            go_wp2
            go_ret
            exact ⟨rfl, hfin⟩
  · have hno := advQ_no (p := p) (now := now) (by simpa using hin)
    have e1 : advP p now = p := by unfold advP; rw [if_neg hin]
    have e2 : advQ p now = 7 := by unfold advQ; rw [if_neg hin]
    have e3 : advG p now = [] := by unfold advG; rw [if_neg hin]
    have E1 := Lib.hid e1
    have E2 := Lib.hid e2
    have E3 := Lib.hid e3
    clear hin e1 e2 e3
    refine (padv_to A1 n1 c1 A n c p now w3 hp HRP.out.v0 HRP.out.v1 p.clk p.ver rfl rfl p 7 [] E1.out E2.out E3.out).mono ?_
    rintro e w4 ⟨A2, n2, c2, A3, n3, c3, A4, n4, c4, rfl, ho, hl4, hs4, hb⟩
    have hq := ho.at_
    have hn4 : n4 = 0 := hl4.symm
    subst hn4
    clear ho hs4 hl4 E1 E2 E3
    replace hp := hp.up hb
    replace hP := hP.below hb hP.lt
    replace hB := hB.trans (hb.mono hs)
    replace hs := hB.size
    clear hb
    go_upto_region 6 with fail
    have ba := Blok.new w4 25 #[.slice A2 n2 c2, .slice A3 n3 c3, .int .i64 p.clk, .int .i64 p.ver]
    have hb : Below w4.heap.size w4 (w4.alloc (.cells #[.slice A2 n2 c2, .slice A3 n3 c3, .int .i64 p.clk, .int .i64 p.ver] 25)) := by (repeat (first | exact Below.refl _ _ | refine Below.alloc ?_ (by first | omega | (simp; done) | (simp; omega)) _ | refine Below.setCell ?_ (by first | omega | (simp; done) | (simp; omega)) _ | refine Below.drew ?_))
    replace hp := hp.up hb
    replace hq := hq.up hb
    replace hP := hP.below hb hP.lt
    replace hB := hB.trans (hb.mono hs)
    replace hs := hB.size
    clear hb
    generalize w4.alloc (.cells #[.slice A2 n2 c2, .slice A3 n3 c3, .int .i64 p.clk, .int .i64 p.ver] 25) = w5 at *
    generalize hzz : w4.heap.size = Ba at *
    clear hzz
    have p0 : w5.cell? ⟨w.heap.size, 0, none⟩ = some (.slice A1 n1 c1) := hP.cell 0
    have p1 : w5.cell? ⟨w.heap.size, 1, none⟩ = some (.slice A n c) := hP.cell 1
    have p2 : w5.cell? ⟨w.heap.size, 2, none⟩ = some (.int .i64 p.clk) := hP.cell 2
    have p3 : w5.cell? ⟨w.heap.size, 3, none⟩ = some (.int .i64 p.ver) := hP.cell 3
    have lt_p := hP.lt
    have a0 : w5.cell? ⟨Ba, 0, none⟩ = some (.slice A2 n2 c2) := ba.cell 0
    have a1 : w5.cell? ⟨Ba, 1, none⟩ = some (.slice A3 n3 c3) := ba.cell 1
    have a2 : w5.cell? ⟨Ba, 2, none⟩ = some (.int .i64 p.clk) := ba.cell 2
    have a3 : w5.cell? ⟨Ba, 3, none⟩ = some (.int .i64 p.ver) := ba.cell 3
    have lt_a := ba.lt
    have HR := Lib.hid (fun d os => hq.up (below_regrown w5 d os))
    have HPP := Lib.hid (fun d os => hp.up (below_regrown w5 d os))
    clear hq hp ba hP
    by_cases hlow : now < p.clk
    all_goals
      first
        | have g0 : decide (now < p.clk) = true := decide_eq_true hlow
        | (have g0 : decide (now < p.clk) = false := decide_eq_false hlow
           have g1 : decide (now > 2147483647) = true := decide_eq_true (by omega))
      clear hno hlow
      go_upto_region 7 with fail
      have q_p0 := fun d os => cell_regrown p0 d os
      have q_p1 := fun d os => cell_regrown p1 d os
      have q_p2 := fun d os => cell_regrown p2 d os
      have q_p3 := fun d os => cell_regrown p3 d os
      have q_a0 := fun d os => cell_regrown a0 d os
      have q_a1 := fun d os => cell_regrown a1 d os
      have q_a2 := fun d os => cell_regrown a2 d os
      have q_a3 := fun d os => cell_regrown a3 d os
      try simp only [List.append]
      first | refine wp_region_text_below ?_ | refine wp_region_quiet_below (by kernel_rfl) (by kernel_rfl) ?_
      repeat (go_big_quiet_step (((go_at_call 14; with_reducible exact Calls.regrown_of (psame_any A2 n2 c2 A3 n3 c3 p A1 n1 c1 A n c p _ (HR.out _ _) (HPP.out _ _) true (samePB_refl p))))))
      refine wpQuiet_nil ?_
      intro _ hqw
      obtain ⟨pq, hqw⟩ := hqw
      subst hqw
      have hfin := hB.trans ((below_regrown w5 pq.d pq.os).mono hs)
      clear q_p0 q_p1 q_p2 q_p3 q_a0 q_a1 q_a2 q_a3 p0 p1 p2 p3 a0 a1 a2 a3
      generalize grow (redrawn w5 pq.d) pq.os = wq at *
      go_wp2
      go_ret
      exact ⟨rfl, hfin⟩
theorem planEnds_walk (A1 : Option Addr) (n1 c1 : Nat) (ns1 : List Int) (A : Option Addr) (n c : Nat) (ns : List Int) (clk ver : Int) (now : Int) (hnl1 : ns1.length = n1 * 6) (_ : ∀ m ∈ ns1, (Lit.int .i64 m).wf = true) (hnl : ns.length = n * 5) (_ : ∀ m ∈ ns, (Lit.int .i64 m).wf = true) (_ : (Lit.int .i64 clk).wf = true) (_ : (Lit.int .i64 ver).wf = true) (_ : (Lit.int .i64 now).wf = true) (w : World)
    (h1 : Sl w w.heap.size 6 A1 n1 c1 (ns1.map (Value.int .i64))) (h : Sl w w.heap.size 5 A n c (ns.map (Value.int .i64))) :
    Calls Tryz.prog 9 #[.agg #[.slice A1 n1 c1, .slice A n c, .int .i64 clk, .int .i64 ver], .int .i64 now] w fun e w' => e = .returned (.bool true) ∧ Below w.heap.size w w' := by
  obtain ⟨cs, hd1, hf1⟩ := rowsCo_of n1 ns1 hnl1
  obtain ⟨rs, hd, hf⟩ := rowsRg_of n ns hnl
  rw [hf1] at h1
  rw [hf] at h
  exact planEnds_w A1 n1 c1 A n c ⟨cs, rs, clk, ver⟩ now hd1 hd w h1 h
theorem planEnds_own : ownKnob Tryz.prog.godebug = none := by kernel_rfl
theorem planEnds_laidOut : laidOutB Tryz.prog = true := by kernel_rfl

set_option maxHeartbeats 1000000 in
set_option maxRecDepth 100000 in
theorem planEnds_lifted (os : Os) (started : os.Started) (H : Type) (enc : TypeId × Value → H) :
    ReturnsInHanded {} Tryz.checked os 9 .any (Rows.planEndsSpec.pre6 enc Tryz.prog Tryz.f9 Rows.planEndsRow.domain false) (Rows.planEndsSpec.post enc Tryz.prog Tryz.f9 false true false false) := by
  refine returnsInHanded_of_change (C := Tryz.checked) planEnds_own started (by kernel_rfl) Tryz.func9
    (ChangeSpec.witness6 (enc := enc) (C := Tryz.checked) false ⟨#[], #[.agg #[.slice none 0 0, .slice none 0 0, .int .i64 0, .int .i64 0], .int .i64 0], []⟩ 8 (by kernel_rfl) (by kernel_rfl) (by kernel_rfl) (by kernel_rfl)) ?_
  intro W base args ds gs before hval0 hW hcnd _
  have hval : ∀ (j : Nat) t v, Tryz.f9.params[j]? = some t → args[j]? = some v → Value.okWide Tryz.prog W .any base t v := hval0
  have hW' := hW
  obtain ⟨p, q, hA0, hV, rfl, hfz, hnd⟩ := hW
  have hA : DataW.TrodAll enc Tryz.prog W 0 (fun _ => true) true Tryz.f9.params.toList args.toList ds p := hA0
  rw [Tryz.params9] at hA hval
  obtain ⟨v0, vs0, d0, ds0, p0, q0, hargs, rfl, rfl, h0, r0⟩ := trodAll_cons hA
  obtain ⟨v1, vs1, d1, ds1, p1, q1, rfl, rfl, rfl, h1, r1⟩ := trodAll_cons r0
  obtain ⟨rfl, rfl, rfl⟩ := trodAll_nil r1
  obtain rfl : args = #[v0, v1] := by cases args; simp_all
  obtain ⟨rfl, rfl⟩ := trodVars_none hV
  obtain ⟨A0, n0, c0, ns0, B0, m0, k0, ms0, x0, y0, rfl, hl0, nl0, w0, hm0, ml0, wm0, wx0, wy0⟩ := open_plan 4 (e0 := 33) (e1 := 35) (K0 := 6) (K1 := 5) Tryz.underlying25 (by kernel_rfl) (by kernel_rfl) (by kernel_rfl) (by kernel_rfl) (by kernel_rfl) (by kernel_rfl) (by kernel_rfl) (by kernel_rfl) (by omega) (by kernel_rfl) (by omega) (hval 0 25 v0 rfl rfl) h0
  obtain ⟨a1, rfl, rfl, rfl, w1⟩ := open_int Tryz.underlying3 (hval 1 3 v1 rfl rfl) h1
  clear hA0 hval0
  refine (planEnds_walk A0 n0 c0 ns0 B0 m0 k0 ms0 x0 y0 a1 nl0 w0 ml0 wm0 wx0 wy0 w1 W hl0 hm0).mono fun e W' ⟨he, bel⟩ => ?_
  subst he
  exact ⟨_, rfl, law_post planEnds_laidOut (by kernel_rfl) rfl Tryz.underlying4 rfl rfl hW' bel⟩

theorem planEnds_proved : Rows.PlanEndsSaid :=
  OpenClaim.holds_of_wide 9 Tryz.f9 rfl rfl rfl rfl rfl rfl rfl ⟨rfl, rfl, rfl, rfl, rfl⟩ rfl rfl rfl rfl rfl (by kernel_rfl) Tryz.func9 (by kernel_rfl)
    (of_decide_eq_true (by kernel_rfl)) (by unfold Func.isWrapper; first | (rw [if_pos (by decide +kernel)]; kernel_rfl) | (rw [if_neg (by decide +kernel)]; exact ⟨rfl, rfl⟩))
    (fun os started H enc _ => planEnds_lifted os started H enc)
#print axioms planEnds_proved
end Go.Proofs.YtolaabllhibkdaaGreat
