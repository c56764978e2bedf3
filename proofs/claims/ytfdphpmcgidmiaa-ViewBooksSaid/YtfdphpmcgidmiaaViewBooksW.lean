/- What is booked closes, and opens nothing: by greater classes more is open, and most if nothing is booked. No condition. -/
import Derived.Test.YtfdphpmcgidmiaaW5
import Derived.Test.YtfdphpmcgidmiaaRows
namespace Go.Proofs.Ytfdphpmcgidmiaa
open Go.ChangeShapes Go.WideShapes Go.ChangeAt Go.RowKit Go.Sort
set_option linter.unusedSimpArgs false
set_option linter.unusedVariables false
theorem small11 (w : World) : Calls Try.prog 8 #[] w fun e w' => e = .returned (.bool true) ∧ Below w.heap.size w w' := small11_of sortEd_any w
set_option maxHeartbeats 16000000 in
set_option maxRecDepth 100000 in
theorem viewBooks_w (A1 : Option Addr) (n1 c1 : Nat) (cs : List Co) (A : Option Addr) (n c : Nat) (rs : List Rg) (clk ver : Int) (A2 : Option Addr) (n2 c2 : Nat) (bk : List Bk) (cl : Int) (hd1 : cs.length = n1) (hd : rs.length = n) (hd2 : bk.length = n2) (w : World) (h1 : Sl w w.heap.size 6 A1 n1 c1 (flatCo cs)) (h : Sl w w.heap.size 5 A n c (flatRg rs)) (h2 : Sl w w.heap.size 4 A2 n2 c2 (flatBk bk)) :
    Calls Try.prog 5 #[.agg #[.slice A1 n1 c1, .slice A n c, .int .i64 clk, .int .i64 ver], .slice A2 n2 c2, .int .i64 cl] w fun e w' => e = .returned (.bool true) ∧ Below w.heap.size w w' := by
  have hB : Below w.heap.size w (w.alloc (.cells #[.slice A1 n1 c1, .slice A n c, .int .i64 clk, .int .i64 ver] 25)) := by (repeat (first | exact Below.refl _ _ | refine Below.alloc ?_ (by first | omega | (simp; done) | (simp; omega)) _ | refine Below.setCell ?_ (by first | omega | (simp; done) | (simp; omega)) _ | refine Below.drew ?_))
  have hP := Blok.new w 25 #[.slice A1 n1 c1, .slice A n c, .int .i64 clk, .int .i64 ver]
  replace h1 := h1.up hB
  replace h := h.up hB
  replace h2 := h2.up hB
  have hs := hB.size
  have HD1 := Lib.hid hd1
  have HD := Lib.hid hd
  have HD2 := Lib.hid hd2
  clear hd hd1 hd2
  go_enter Try.func5, Try.ntmps5
  go_wp2_with fail
  generalize w.alloc (.cells #[.slice A1 n1 c1, .slice A n c, .int .i64 clk, .int .i64 ver] 25) = w0 at *
  refine (small11 w0).mono ?_
  rintro e w1 ⟨rfl, hb⟩
  replace h1 := h1.up hb
  replace h := h.up hb
  replace h2 := h2.up hb
  replace hP := hP.below hb hP.lt
  replace hB := hB.trans (hb.mono hs)
  replace hs := hB.size
  clear hb
  have p0 : w1.cell? ⟨w.heap.size, 0, none⟩ = some (.slice A1 n1 c1) := hP.cell 0
  have p1 : w1.cell? ⟨w.heap.size, 1, none⟩ = some (.slice A n c) := hP.cell 1
  have p2 : w1.cell? ⟨w.heap.size, 2, none⟩ = some (.int .i64 clk) := hP.cell 2
  have p3 : w1.cell? ⟨w.heap.size, 3, none⟩ = some (.int .i64 ver) := hP.cell 3
  have lt_p := hP.lt
  go_wp2_with fail
  clear p0 p1 p2 p3 lt_p
  refine (few_any A1 n1 c1 A n c clk ver w1 _ rfl).mono ?_
  rintro e w2 ⟨rfl, hb⟩
  replace h1 := h1.up hb
  replace h := h.up hb
  replace h2 := h2.up hb
  replace hP := hP.below hb hP.lt
  replace hB := hB.trans (hb.mono hs)
  replace hs := hB.size
  clear hb
  by_cases hf : ¬ (n1 ≤ 50 ∧ n ≤ 50)
  · rw [decide_eq_false hf]
    go_wp2_with fail
    go_ret
    exact ⟨rfl, hB⟩
  replace hf := Decidable.not_not.1 hf
  rw [decide_eq_true hf]
  obtain ⟨hf1, hf2⟩ := hf
  by_cases hf3 : 50 < n2
  · have g0 : decide ((n2 : Int) > 50) = true := decide_eq_true (by omega)
    go_wp2_with fail
    go_ret
    exact ⟨rfl, hB⟩
  have g9 : decide ((n2 : Int) > 50) = false := decide_eq_false (by omega)
  by_cases hc0 : cl < 0
  · have g0 : decide (cl < 0) = true := decide_eq_true hc0
    go_wp2_with fail
    go_ret
    exact ⟨rfl, hB⟩
  have g0 : decide (cl < 0) = false := decide_eq_false hc0
  by_cases hc2 : cl > 1
  · have g2 : decide (cl > 1) = true := decide_eq_true hc2
    go_wp2_with fail
    go_ret
    exact ⟨rfl, hB⟩
  have g2 : decide (cl > 1) = false := decide_eq_false hc2
  have HC0 := Lib.hid hc0
  have HC2 := Lib.hid hc2
  clear hc0 hc2
  have p0 : w2.cell? ⟨w.heap.size, 0, none⟩ = some (.slice A1 n1 c1) := hP.cell 0
  have p1 : w2.cell? ⟨w.heap.size, 1, none⟩ = some (.slice A n c) := hP.cell 1
  have p2 : w2.cell? ⟨w.heap.size, 2, none⟩ = some (.int .i64 clk) := hP.cell 2
  have p3 : w2.cell? ⟨w.heap.size, 3, none⟩ = some (.int .i64 ver) := hP.cell 3
  have lt_p := hP.lt
  go_wp2_with fail
  clear p0 p1 p2 p3 lt_p g0 g2 g9
  obtain ⟨rb, hrb⟩ : ∃ rb, rightP cs rs clk ver = rb := ⟨_, rfl⟩
  refine (pright_any A1 n1 c1 cs A n c rs clk ver w2 HD1.out (by omega) HD.out (by omega) h1 h rb hrb).mono ?_
  rintro e w3 ⟨rfl, hb⟩
  replace h1 := h1.up hb
  replace h := h.up hb
  replace h2 := h2.up hb
  replace hP := hP.below hb hP.lt
  replace hB := hB.trans (hb.mono hs)
  replace hs := hB.size
  clear hb
  cases rb
  · clear hrb
    go_wp2_with fail
    go_ret
    exact ⟨rfl, hB⟩
  have HRP := Lib.hid (rightP_spec.1 hrb)
  clear hrb
  go_wp2_with fail
  refine (Kb.right_any A2 n2 c2 bk w3 HD2.out (by omega) h2).mono ?_
  rintro e w4 ⟨rfl, hb⟩
  replace h1 := h1.up hb
  replace h := h.up hb
  replace h2 := h2.up hb
  replace hP := hP.below hb hP.lt
  replace hB := hB.trans (hb.mono hs)
  replace hs := hB.size
  clear hb
  obtain ⟨lb, hlb⟩ : ∃ lb, Kb.rightB bk = lb := ⟨_, rfl⟩
  rw [hlb]
  cases lb
  · clear hlb
    go_wp2_with fail
    go_ret
    exact ⟨rfl, hB⟩
  have HLB := Lib.hid hlb
  clear hlb
  have p0 : w4.cell? ⟨w.heap.size, 0, none⟩ = some (.slice A1 n1 c1) := hP.cell 0
  have p1 : w4.cell? ⟨w.heap.size, 1, none⟩ = some (.slice A n c) := hP.cell 1
  have p2 : w4.cell? ⟨w.heap.size, 2, none⟩ = some (.int .i64 clk) := hP.cell 2
  have p3 : w4.cell? ⟨w.heap.size, 3, none⟩ = some (.int .i64 ver) := hP.cell 3
  have lt_p := hP.lt
  go_wp2_with fail
  clear p0 p1 p2 p3 lt_p
  refine (vall_of sortEd_any A1 n1 c1 cs A n c rs clk ver A2 n2 c2 bk cl w4 HD1.out (by omega) HD.out (by omega) HD2.out (by omega) h1 h h2 HRP.out.rg HLB.out).mono ?_
  rintro e w5 ⟨va, ma, rfl, hp, hso, ha, hb⟩
  have HMA := Lib.hid (allE_of HRP.out.co hp hso)
  clear hp hso
  replace h1 := h1.up hb
  replace h := h.up hb
  replace h2 := h2.up hb
  replace hP := hP.below hb hP.lt
  replace hB := hB.trans (hb.mono hs)
  replace hs := hB.size
  clear hb
  obtain ⟨k, hka⟩ : ∃ k, ma.length = k := ⟨_, rfl⟩
  rw [hka] at ha
  obtain ⟨Aa, ca, rfl⟩ := slice_of_own ha
  have g0 : IntKind.i64.wrap (cl + 1) = cl + 1 := by
    have := HC0.out
    have := HC2.out
    rw [IntWalk.i64_in _ (by omega)]
  have p0 : w5.cell? ⟨w.heap.size, 0, none⟩ = some (.slice A1 n1 c1) := hP.cell 0
  have p1 : w5.cell? ⟨w.heap.size, 1, none⟩ = some (.slice A n c) := hP.cell 1
  have p2 : w5.cell? ⟨w.heap.size, 2, none⟩ = some (.int .i64 clk) := hP.cell 2
  have p3 : w5.cell? ⟨w.heap.size, 3, none⟩ = some (.int .i64 ver) := hP.cell 3
  have lt_p := hP.lt
  go_wp2_with fail
  clear p0 p1 p2 p3 lt_p g0
  refine (vall_of sortEd_any A1 n1 c1 cs A n c rs clk ver A2 n2 c2 bk (cl + 1) w5 HD1.out (by omega) HD.out (by omega) HD2.out (by omega) h1 h h2 HRP.out.rg HLB.out).mono ?_
  rintro e w6 ⟨vb, mb, rfl, hp, hso, hvb, hb⟩
  have HMB := Lib.hid (allE_of HRP.out.co hp hso)
  clear hp hso
  replace h1 := h1.up hb
  replace h := h.up hb
  replace h2 := h2.up hb
  replace hP := hP.below hb hP.lt
  replace ha := own_below ha hb
  replace hB := hB.trans (hb.mono hs)
  replace hs := hB.size
  clear hb
  obtain ⟨kb, hkb⟩ : ∃ q, mb.length = q := ⟨_, rfl⟩
  rw [hkb] at hvb
  obtain ⟨Ab, cb, rfl⟩ := slice_of_own hvb
  have p0 : w6.cell? ⟨w.heap.size, 0, none⟩ = some (.slice A1 n1 c1) := hP.cell 0
  have p1 : w6.cell? ⟨w.heap.size, 1, none⟩ = some (.slice A n c) := hP.cell 1
  have p2 : w6.cell? ⟨w.heap.size, 2, none⟩ = some (.int .i64 clk) := hP.cell 2
  have p3 : w6.cell? ⟨w.heap.size, 3, none⟩ = some (.int .i64 ver) := hP.cell 3
  have lt_p := hP.lt
  go_wp2_with fail
  clear p0 p1 p2 p3 lt_p
  refine (vbare_of sortEd_any A1 n1 c1 cs A n c rs clk ver w6 HD1.out (by omega) HD.out (by omega) h1 h HRP.out.rg).mono ?_
  rintro e w7 ⟨vd, md, rfl, hp, hso, hvd, hb⟩
  have HMD := Lib.hid (allE_of HRP.out.co hp hso)
  clear hp hso
  replace ha := own_below ha hb
  replace hvb := own_below hvb hb
  replace hB := hB.trans (hb.mono hs)
  replace hs := hB.size
  clear hb
  obtain ⟨hlb, hld, hall⟩ := books_at HRP.out.co HLB.out (by have := HC0.out; omega) (by have := HC2.out; omega) HMA.out HMB.out HMD.out
  have hkm : ma.length ≤ n1 := by rw [← HD1.out]; exact HMA.out.len
  rw [hka] at hlb hld hall hkm
  obtain rfl : k = kb := by rw [← hkb]; exact hlb.symm
  rw [hld] at hvd
  clear hkb
  obtain ⟨Ad, cd, rfl⟩ := slice_of_own hvd
  have HVA := Lib.hid (Sl.of_own ha)
  have HVB := Lib.hid (Sl.of_own hvb)
  have HVD := Lib.hid (Sl.of_own hvd)
  have HKA := Lib.hid hka
  have HKB := Lib.hid hlb
  have HKD := Lib.hid hld
  have HALL := Lib.hid hall
  have HB := Lib.hid hB
  clear hka hlb hld hall hB hs ha hvb hvd hP h1 h h2 HMA HMB HMD
  have z1 : ((k : Int) != (k : Int)) = false := by simp
  go_wp2_with fail
  clear z1
  go_loopw [12] (fun iv wr => ∃ (i : Nat), iv = .int .i64 i ∧ i ≤ k ∧ Below w7.heap.size w7 wr) (fun iv _ => k - (intOf iv).toNat)
  case atStart => exact ⟨0, rfl, by omega, Below.refl _ _⟩
  case round =>
    obtain ⟨i, rfl, hi, hB⟩ := hrel
    have hs := hB.size
    by_cases hin : i < k
    · have hA := HVA.out.up hB
      have hBb := HVB.out.up hB
      have hD := HVD.out.up hB
      obtain ⟨ad, rfl, hab, c0, c1', c2', c3, c4, c5, c6, c7⟩ := hA.lst.atEd HKA.out hin
      obtain ⟨ae, rfl, hae, d0, d1, d2, d3, d4, d5, d6, d7⟩ := hBb.lst.atEd HKB.out hin
      obtain ⟨af, rfl, haf, e0, e1, e2, e3, e4, e5, e6, e7⟩ := hD.lst.atEd HKD.out hin
      have hbk := HALL.out i hin
      obtain ⟨x, hx⟩ : ∃ x, gEd ma i = x := ⟨_, rfl⟩
      obtain ⟨y, hy⟩ : ∃ y, gEd mb i = y := ⟨_, rfl⟩
      obtain ⟨z, hz⟩ : ∃ z, gEd md i = z := ⟨_, rfl⟩
      rw [hx] at c0 c1' c2' c3 c4 c5 c6 c7 hbk
      rw [hy] at d0 d1 d2 d3 d4 d5 d6 d7 hbk
      rw [hz] at e0 e1 e2 e3 e4 e5 e6 e7 hbk
      have HBK := Lib.hid hbk
      have hx' := hx
      have hy' := hy
      have hz' := hz
      clear hx hy hz hbk
      go_upto_region 14 with fail
      have hX := Blok.new wr 34 #[.int .i64 x.id, .int .i64 x.fr, .int .i64 x.tn, .int .i64 x.op, .int .i64 x.en, .int .i64 x.ra, .int .i64 x.ow, .int .i64 x.ro]
      have hb : Below wr.heap.size wr (wr.alloc (.cells #[.int .i64 x.id, .int .i64 x.fr, .int .i64 x.tn, .int .i64 x.op, .int .i64 x.en, .int .i64 x.ra, .int .i64 x.ow, .int .i64 x.ro] 34)) := by (repeat (first | exact Below.refl _ _ | refine Below.alloc ?_ (by first | omega | (simp; done) | (simp; omega)) _ | refine Below.setCell ?_ (by first | omega | (simp; done) | (simp; omega)) _ | refine Below.drew ?_))
      clear c0 c1' c2' c3 c4 c5 c6 c7 d0 d1 d2 d3 d4 d5 d6 d7 e0 e1 e2 e3 e4 e5 e6 e7
      have e3 := (hD.up hb).lst.atEd HKD.out hin
      obtain ⟨af', haf', _, _, _, _, e3, _, _, _, _⟩ := e3
      injection haf' with haf'
      subst haf'
      generalize wr.alloc (.cells #[.int .i64 x.id, .int .i64 x.fr, .int .i64 x.tn, .int .i64 x.op, .int .i64 x.en, .int .i64 x.ra, .int .i64 x.ow, .int .i64 x.ro] 34) = w8 at *
      obtain ⟨bx, hbx⟩ : ∃ q, wr.heap.size = q := ⟨_, rfl⟩
      have hbe : wr.heap.size ≤ bx := by omega
      rw [hbx] at hX
      rw [hbx]
      have HBX := Lib.hid hbx
      clear hbx
      have r3 : w8.cell? ⟨bx, 3, none⟩ = some (.int .i64 x.op) := hX.cell 3
      have f3 := hX.free 3
      have lt_x := hX.lt
      rw [hz'] at e3
      go_upto_region 15 with fail
      replace hX := hX.set_ 3 (.int .i64 z.op)
      replace hb := hb.setCell (p := ⟨bx, 3, none⟩) hbe (.int .i64 z.op)
      clear r3 f3 lt_x e3
      generalize w8.setCell ⟨bx, 3, none⟩ (.int .i64 z.op) = w9 at *
      have e7 := (hD.up hb).lst.atEd HKD.out hin
      obtain ⟨af', haf', _, _, _, _, _, _, _, _, e7⟩ := e7
      injection haf' with haf'
      subst haf'
      rw [hz'] at e7
      have r7 : w9.cell? ⟨bx, 7, none⟩ = some (.int .i64 x.ro) := hX.cell 7
      have f7 := hX.free 7
      have lt_x := hX.lt
      go_upto_region 16 with fail
      replace hX := hX.set_ 7 (.int .i64 z.ro)
      replace hb := hb.setCell (p := ⟨bx, 7, none⟩) hbe (.int .i64 z.ro)
      clear r7 f7 lt_x e7
      generalize w9.setCell ⟨bx, 7, none⟩ (.int .i64 z.ro) = w10 at *
      have hA2 := hA.up hb
      have hB2 := hBb.up hb
      have hD2 := hD.up hb
      have hBB := hB.trans (hb.mono hs)
      obtain ⟨a', ha', _, c0, c1', c2', c3, c4, c5, c6, c7⟩ := hA2.lst.atEd HKA.out hin
      injection ha' with ha'
      subst ha'
      obtain ⟨a', ha', _, d0, d1, d2, d3, d4, d5, d6, d7⟩ := hB2.lst.atEd HKB.out hin
      injection ha' with ha'
      subst ha'
      obtain ⟨a', ha', _, e0, e1, e2, e3, e4, e5, e6, e7⟩ := hD2.lst.atEd HKD.out hin
      injection ha' with ha'
      subst ha'
      rw [hx'] at c0 c1' c2' c3 c4 c5 c6 c7
      rw [hy'] at d0 d1 d2 d3 d4 d5 d6 d7
      rw [hz'] at e0 e1 e2 e3 e4 e5 e6 e7
      have r0 : w10.cell? ⟨bx, 0, none⟩ = some (.int .i64 x.id) := hX.cell 0
      have r1 : w10.cell? ⟨bx, 1, none⟩ = some (.int .i64 x.fr) := hX.cell 1
      have r2 : w10.cell? ⟨bx, 2, none⟩ = some (.int .i64 x.tn) := hX.cell 2
      have r3 : w10.cell? ⟨bx, 3, none⟩ = some (.int .i64 z.op) := hX.cell 3
      have r4 : w10.cell? ⟨bx, 4, none⟩ = some (.int .i64 x.en) := hX.cell 4
      have r5 : w10.cell? ⟨bx, 5, none⟩ = some (.int .i64 x.ra) := hX.cell 5
      have r6 : w10.cell? ⟨bx, 6, none⟩ = some (.int .i64 x.ow) := hX.cell 6
      have r7 : w10.cell? ⟨bx, 7, none⟩ = some (.int .i64 z.ro) := hX.cell 7
      have lt_x := hX.lt
      have hrun : ∀ w0, (binOp .neq 34 (.agg #[.int .i64 x.id, .int .i64 x.fr, .int .i64 x.tn, .int .i64 z.op, .int .i64 x.en, .int .i64 x.ra, .int .i64 x.ow, .int .i64 z.ro]) (.agg #[.int .i64 z.id, .int .i64 z.fr, .int .i64 z.tn, .int .i64 z.op, .int .i64 z.en, .int .i64 z.ra, .int .i64 z.ow, .int .i64 z.ro])).run Try.prog w0 = .ok (.bool false) w0 := fun w0 => by
        have := neqEd ⟨x.id, x.fr, x.tn, z.op, x.en, x.ra, x.ow, z.ro⟩ z w0
        rw [decide_eq_true HBK.out.same] at this
        exact this
      have g1 : (x.id != y.id) = false := by simp [HBK.out.ids]
      have g2 : decide (x.op < y.op) = false := decide_eq_false (by have := HBK.out.o1; omega)
      have g3 : decide (y.op < z.op) = false := decide_eq_false (by have := HBK.out.o2; omega)
      have g4 : decide (x.ro > y.ro) = false := decide_eq_false (by have := HBK.out.r1; omega)
      have g5 : decide (y.ro > z.ro) = false := decide_eq_false (by have := HBK.out.r2; omega)
      clear hX hA hBb hD hA2 hB2 hD2 hb hB hbe hx' hy' hz' HBX
      have q_c0 := fun d os => cell_regrown c0 d os
      have q_c1' := fun d os => cell_regrown c1' d os
      have q_c2' := fun d os => cell_regrown c2' d os
      have q_c3 := fun d os => cell_regrown c3 d os
      have q_c4 := fun d os => cell_regrown c4 d os
      have q_c5 := fun d os => cell_regrown c5 d os
      have q_c6 := fun d os => cell_regrown c6 d os
      have q_c7 := fun d os => cell_regrown c7 d os
      have q_d0 := fun d os => cell_regrown d0 d os
      have q_d1 := fun d os => cell_regrown d1 d os
      have q_d2 := fun d os => cell_regrown d2 d os
      have q_d3 := fun d os => cell_regrown d3 d os
      have q_d4 := fun d os => cell_regrown d4 d os
      have q_d5 := fun d os => cell_regrown d5 d os
      have q_d6 := fun d os => cell_regrown d6 d os
      have q_d7 := fun d os => cell_regrown d7 d os
      have q_e0 := fun d os => cell_regrown e0 d os
      have q_e1 := fun d os => cell_regrown e1 d os
      have q_e2 := fun d os => cell_regrown e2 d os
      have q_e3 := fun d os => cell_regrown e3 d os
      have q_e4 := fun d os => cell_regrown e4 d os
      have q_e5 := fun d os => cell_regrown e5 d os
      have q_e6 := fun d os => cell_regrown e6 d os
      have q_e7 := fun d os => cell_regrown e7 d os
      have q_r0 := fun d os => cell_regrown r0 d os
      have q_r1 := fun d os => cell_regrown r1 d os
      have q_r2 := fun d os => cell_regrown r2 d os
      have q_r3 := fun d os => cell_regrown r3 d os
      have q_r4 := fun d os => cell_regrown r4 d os
      have q_r5 := fun d os => cell_regrown r5 d os
      have q_r6 := fun d os => cell_regrown r6 d os
      have q_r7 := fun d os => cell_regrown r7 d os
      try simp only [List.append]
      first | refine wp_region_text_below ?_ | refine wp_region_quiet_below (by kernel_rfl) (by kernel_rfl) ?_
      repeat (go_big_quiet_step ((fail)))
      refine wpQuiet_nil ?_
      intro _ hqw
      obtain ⟨pq, hqw⟩ := hqw
      subst hqw
      clear q_c0 q_c1' q_c2' q_c3 q_c4 q_c5 q_c6 q_c7 q_d0 q_d1 q_d2 q_d3 q_d4 q_d5 q_d6 q_d7 q_e0 q_e1 q_e2 q_e3 q_e4 q_e5 q_e6 q_e7 q_r0 q_r1 q_r2 q_r3 q_r4 q_r5 q_r6 q_r7
      have hbq := hBB.trans ((below_regrown w10 pq.d pq.os).mono hBB.size)
      clear c0 c1' c2' c3 c4 c5 c6 c7 d0 d1 d2 d3 d4 d5 d6 d7 e0 e1 e2 e3 e4 e5 e6 e7 r0 r1 r2 r3 r4 r5 r6 r7 g1 g2 g3 g4 g5 hrun lt_x hBB hs
      generalize grow (redrawn w10 pq.d) pq.os = wq at *
      go_wp2_with fail
      go_roundw
      case rel => exact ⟨i + 1, by go_num, by omega, hbq⟩
      case measure => simp [intOf]; omega
    · go_wp2_with fail
      go_ret
      exact ⟨rfl, HB.out.trans (hB.mono HB.out.size)⟩
theorem viewBooks_walk (A1 : Option Addr) (n1 c1 : Nat) (ns1 : List Int) (A : Option Addr) (n c : Nat) (ns : List Int) (clk ver : Int) (A2 : Option Addr) (n2 c2 : Nat) (ns2 : List Int) (cl : Int) (hnl1 : ns1.length = n1 * 6) (_ : ∀ m ∈ ns1, (Lit.int .i64 m).wf = true) (hnl : ns.length = n * 5) (_ : ∀ m ∈ ns, (Lit.int .i64 m).wf = true) (_ : (Lit.int .i64 clk).wf = true) (_ : (Lit.int .i64 ver).wf = true) (hnl2 : ns2.length = n2 * 4) (_ : ∀ m ∈ ns2, (Lit.int .i64 m).wf = true) (_ : (Lit.int .i64 cl).wf = true) (w : World)
    (h1 : Sl w w.heap.size 6 A1 n1 c1 (ns1.map (Value.int .i64))) (h : Sl w w.heap.size 5 A n c (ns.map (Value.int .i64))) (h2 : Sl w w.heap.size 4 A2 n2 c2 (ns2.map (Value.int .i64))) :
    Calls Try.prog 5 #[.agg #[.slice A1 n1 c1, .slice A n c, .int .i64 clk, .int .i64 ver], .slice A2 n2 c2, .int .i64 cl] w fun e w' => e = .returned (.bool true) ∧ Below w.heap.size w w' := by
  obtain ⟨cs, hd1, hf1⟩ := rowsCo_of n1 ns1 hnl1
  obtain ⟨rs, hd, hf⟩ := rowsRg_of n ns hnl
  obtain ⟨bk, hd2, hf2⟩ := rowsBk_of n2 ns2 hnl2
  rw [hf1] at h1
  rw [hf] at h
  rw [hf2] at h2
  exact viewBooks_w A1 n1 c1 cs A n c rs clk ver A2 n2 c2 bk cl hd1 hd hd2 w h1 h h2
theorem viewBooks_own : ownKnob Try.prog.godebug = none := by kernel_rfl
theorem viewBooks_laidOut : laidOutB Try.prog = true := by kernel_rfl

set_option maxHeartbeats 1000000 in
set_option maxRecDepth 100000 in
theorem viewBooks_lifted (os : Os) (started : os.Started) (H : Type) (enc : TypeId × Value → H) :
    ReturnsInHanded {} Try.checked os 5 .any (Rows.viewBooksSpec.pre6 enc Try.prog Try.f5 Rows.viewBooksRow.domain false) (Rows.viewBooksSpec.post enc Try.prog Try.f5 false true false false) := by
  refine returnsInHanded_of_change (C := Try.checked) viewBooks_own started (by kernel_rfl) Try.func5
    (ChangeSpec.witness6 (enc := enc) (C := Try.checked) false ⟨#[], #[.agg #[.slice none 0 0, .slice none 0 0, .int .i64 0, .int .i64 0], .slice none 0 0, .int .i64 0], []⟩ 8 (by kernel_rfl) (by kernel_rfl) (by kernel_rfl) (by kernel_rfl)) ?_
  intro W base args ds gs before hval0 hW hcnd _
  have hval : ∀ (j : Nat) t v, Try.f5.params[j]? = some t → args[j]? = some v → Value.okWide Try.prog W .any base t v := hval0
  have hW' := hW
  obtain ⟨p, q, hA0, hV, rfl, hfz, hnd⟩ := hW
  have hA : DataW.TrodAll enc Try.prog W 0 (fun _ => true) true Try.f5.params.toList args.toList ds p := hA0
  rw [Try.params5] at hA hval
  obtain ⟨v0, vs0, d0, ds0, p0, q0, hargs, rfl, rfl, h0, r0⟩ := trodAll_cons hA
  obtain ⟨v1, vs1, d1, ds1, p1, q1, rfl, rfl, rfl, h1, r1⟩ := trodAll_cons r0
  obtain ⟨v2, vs2, d2, ds2, p2, q2, rfl, rfl, rfl, h2, r2⟩ := trodAll_cons r1
  obtain ⟨rfl, rfl, rfl⟩ := trodAll_nil r2
  obtain rfl : args = #[v0, v1, v2] := by cases args; simp_all
  obtain ⟨rfl, rfl⟩ := trodVars_none hV
  obtain ⟨A0, n0, c0, ns0, B0, m0, k0, ms0, x0, y0, rfl, hl0, nl0, w0, hm0, ml0, wm0, wx0, wy0⟩ := open_plan 4 (e0 := 28) (e1 := 59) (K0 := 6) (K1 := 5) Try.underlying25 (by kernel_rfl) (by kernel_rfl) (by kernel_rfl) (by kernel_rfl) (by kernel_rfl) (by kernel_rfl) (by kernel_rfl) (by kernel_rfl) (by omega) (by kernel_rfl) (by omega) (hval 0 25 v0 rfl rfl) h0
  obtain ⟨A1, n1, c1, ns1, rfl, hl1, nl1, w1⟩ := open_rowsS 4 (K := 4) Try.underlying26 (by kernel_rfl) (by kernel_rfl) (by omega) (hval 1 26 v1 rfl rfl) h1
  obtain ⟨a2, rfl, rfl, rfl, w2⟩ := open_int Try.underlying3 (hval 2 3 v2 rfl rfl) h2
  clear hA0 hval0
  refine (viewBooks_walk A0 n0 c0 ns0 B0 m0 k0 ms0 x0 y0 A1 n1 c1 ns1 a2 nl0 w0 ml0 wm0 wx0 wy0 nl1 w1 w2 W hl0 hm0 hl1).mono fun e W' ⟨he, bel⟩ => ?_
  subst he
  exact ⟨_, rfl, law_post viewBooks_laidOut (by kernel_rfl) rfl Try.underlying4 rfl rfl hW' bel⟩

theorem viewBooks_proved : Rows.ViewBooksSaid :=
  OpenClaim.holds_of_wide 5 Try.f5 rfl rfl rfl rfl rfl rfl rfl ⟨rfl, rfl, rfl, rfl, rfl⟩ rfl rfl rfl rfl rfl (by kernel_rfl) Try.func5 (by kernel_rfl)
    (of_decide_eq_true (by kernel_rfl)) (by unfold Func.isWrapper; first | (rw [if_pos (by decide +kernel)]; kernel_rfl) | (rw [if_neg (by decide +kernel)]; exact ⟨rfl, rfl⟩))
    (fun os started H enc _ => viewBooks_lifted os started H enc)
#print axioms viewBooks_proved
end Go.Proofs.Ytfdphpmcgidmiaa
