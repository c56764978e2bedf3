/- Contracts and plain facts, several texts of mine in one: Plan5, Plan6, Plan7, Plan8, Facts, Facts2, Facts3, Small08a. No condition. -/
import Derived.Test.YtolaabllhibkdaaGreatW6

/- Contract of plan.Apply. It makes new memory alone. -/
namespace Go.Proofs.YtolaabllhibkdaaGreat
open Go.ChangeShapes Go.WideShapes Go.ChangeAt Go.RowKit Go.Sort
set_option linter.unusedSimpArgs false
set_option linter.unusedVariables false
def ApplyRet (p : Pl) (d : Dr) (w : World) (e : Ending) (w' : World) : Prop :=
  ∃ A2 n2 c2 A3 n3 c3, e = .returned (.tuple #[.agg #[.slice A2 n2 c2, .slice A3 n3 c3, .int .i64 (stepP p d).clk, .int .i64 (stepP p d).ver], .int .i64 (stepQ p d)]) ∧ PlOwn w' w.heap.size A2 n2 c2 A3 n3 c3 (stepP p d) ∧ Below w.heap.size w w'
theorem stepP_C {p : Pl} {d : Dr} (hq : stepQ p d = 0) (hk : d.kd = 1) : (stepP p d).rs = p.rs ∧ (stepP p d).clk = p.clk := by unfold stepP; rw [if_pos hq, if_pos hk]; exact ⟨rfl, rfl⟩
theorem stepP_R {p : Pl} {d : Dr} (hq : stepQ p d = 0) (hk : d.kd ≠ 1) : (stepP p d).cs = p.cs ∧ (stepP p d).clk = p.clk := by unfold stepP; rw [if_pos hq, if_neg hk]; exact ⟨rfl, rfl⟩
theorem own_other {w w' : World} {base b : Nat} {e : TypeId} {size n : Nat} {v : Value} {xs : List Value} (h : w.ownsRow base e size v n xs) (hg : w.grownBy w' (some b)) (hne : ∀ g, v.ownBlock = some g → g ≠ b) : w'.ownsRow base e size v n xs :=
  h.kept hg (by
    cases hq : v.ownBlock with
    | none => exact .inl rfl
    | some q => exact .inr (fun e => hne q hq (by injection e)))
set_option maxHeartbeats 16000000 in
set_option maxRecDepth 100000 in
theorem papply_any (A1 : Option Addr) (n1 c1 : Nat) (A : Option Addr) (n c : Nat) (p : Pl) (d : Dr) (w : World) (hw0 : (Lit.int .i64 d.op).wf = true) (hw1 : (Lit.int .i64 d.kd).wf = true) (h : PlAt w A1 n1 c1 A n c p) (hr : p.right = true) :
    Calls Tryz.prog 23 #[.agg #[.slice A1 n1 c1, .slice A n c, .int .i64 p.clk, .int .i64 p.ver], .agg #[.int .i64 d.op, .int .i64 d.kd, .int .i64 d.id, .int .i64 d.fr, .int .i64 d.tn, .int .i64 d.st, .int .i64 d.en, .int .i64 d.rt, .int .i64 d.rf, .int .i64 d.rn, .int .i64 d.rs, .int .i64 d.re, .int .i64 d.ro]] w (ApplyRet p d w) := by
  have hB : Below w.heap.size w (((w.alloc (.cells #[.slice A1 n1 c1, .slice A n c, .int .i64 p.clk, .int .i64 p.ver] 25)).alloc (.cells #[.int .i64 d.op, .int .i64 d.kd, .int .i64 d.id, .int .i64 d.fr, .int .i64 d.tn, .int .i64 d.st, .int .i64 d.en, .int .i64 d.rt, .int .i64 d.rf, .int .i64 d.rn, .int .i64 d.rs, .int .i64 d.re, .int .i64 d.ro] 37)).alloc (.cells #[.slice none 0 0, .slice none 0 0, .int .i64 0, .int .i64 0] 25)) := by (repeat (first | exact Below.refl _ _ | refine Below.alloc ?_ (by first | omega | (simp; done) | (simp; omega)) _ | refine Below.setCell ?_ (by first | omega | (simp; done) | (simp; omega)) _ | refine Below.drew ?_))
  have hP := ((Blok.new w 25 #[.slice A1 n1 c1, .slice A n c, .int .i64 p.clk, .int .i64 p.ver]).alloc (.cells #[.int .i64 d.op, .int .i64 d.kd, .int .i64 d.id, .int .i64 d.fr, .int .i64 d.tn, .int .i64 d.st, .int .i64 d.en, .int .i64 d.rt, .int .i64 d.rf, .int .i64 d.rn, .int .i64 d.rs, .int .i64 d.re, .int .i64 d.ro] 37)).alloc (.cells #[.slice none 0 0, .slice none 0 0, .int .i64 0, .int .i64 0] 25)
  have hD := (Blok.new (w.alloc (.cells #[.slice A1 n1 c1, .slice A n c, .int .i64 p.clk, .int .i64 p.ver] 25)) 37 #[.int .i64 d.op, .int .i64 d.kd, .int .i64 d.id, .int .i64 d.fr, .int .i64 d.tn, .int .i64 d.st, .int .i64 d.en, .int .i64 d.rt, .int .i64 d.rf, .int .i64 d.rn, .int .i64 d.rs, .int .i64 d.re, .int .i64 d.ro]).alloc (.cells #[.slice none 0 0, .slice none 0 0, .int .i64 0, .int .i64 0] 25)
  have hR := Blok.new ((w.alloc (.cells #[.slice A1 n1 c1, .slice A n c, .int .i64 p.clk, .int .i64 p.ver] 25)).alloc (.cells #[.int .i64 d.op, .int .i64 d.kd, .int .i64 d.id, .int .i64 d.fr, .int .i64 d.tn, .int .i64 d.st, .int .i64 d.en, .int .i64 d.rt, .int .i64 d.rf, .int .i64 d.rn, .int .i64 d.rs, .int .i64 d.re, .int .i64 d.ro] 37)) 25 #[.slice none 0 0, .slice none 0 0, .int .i64 0, .int .i64 0]
  simp only [World.size_alloc] at hD hR
  replace h := h.up hB
  have hs := hB.size
  have hBW : w.heap.size + 1 + 1 < (((w.alloc (.cells #[.slice A1 n1 c1, .slice A n c, .int .i64 p.clk, .int .i64 p.ver] 25)).alloc (.cells #[.int .i64 d.op, .int .i64 d.kd, .int .i64 d.id, .int .i64 d.fr, .int .i64 d.tn, .int .i64 d.st, .int .i64 d.en, .int .i64 d.rt, .int .i64 d.rf, .int .i64 d.rn, .int .i64 d.rs, .int .i64 d.re, .int .i64 d.ro] 37)).alloc (.cells #[.slice none 0 0, .slice none 0 0, .int .i64 0, .int .i64 0] 25)).heap.size := hR.lt
  go_enter Tryz.func23, Tryz.ntmps23
  go_upto_region 1 with fail
  generalize ((w.alloc (.cells #[.slice A1 n1 c1, .slice A n c, .int .i64 p.clk, .int .i64 p.ver] 25)).alloc (.cells #[.int .i64 d.op, .int .i64 d.kd, .int .i64 d.id, .int .i64 d.fr, .int .i64 d.tn, .int .i64 d.st, .int .i64 d.en, .int .i64 d.rt, .int .i64 d.rf, .int .i64 d.rn, .int .i64 d.rs, .int .i64 d.re, .int .i64 d.ro] 37)).alloc (.cells #[.slice none 0 0, .slice none 0 0, .int .i64 0, .int .i64 0] 25) = w0 at *
  have p0 : w0.cell? ⟨w.heap.size, 0, none⟩ = some (.slice A1 n1 c1) := hP.cell 0
  have p1 : w0.cell? ⟨w.heap.size, 1, none⟩ = some (.slice A n c) := hP.cell 1
  have p2 : w0.cell? ⟨w.heap.size, 2, none⟩ = some (.int .i64 p.clk) := hP.cell 2
  have p3 : w0.cell? ⟨w.heap.size, 3, none⟩ = some (.int .i64 p.ver) := hP.cell 3
  have lt_p := hP.lt
  have y0 : w0.cell? ⟨w.heap.size + 1, 0, none⟩ = some (.int .i64 d.op) := hD.cell 0
  have y1 : w0.cell? ⟨w.heap.size + 1, 1, none⟩ = some (.int .i64 d.kd) := hD.cell 1
  have y2 : w0.cell? ⟨w.heap.size + 1, 2, none⟩ = some (.int .i64 d.id) := hD.cell 2
  have y3 : w0.cell? ⟨w.heap.size + 1, 3, none⟩ = some (.int .i64 d.fr) := hD.cell 3
  have y4 : w0.cell? ⟨w.heap.size + 1, 4, none⟩ = some (.int .i64 d.tn) := hD.cell 4
  have y5 : w0.cell? ⟨w.heap.size + 1, 5, none⟩ = some (.int .i64 d.st) := hD.cell 5
  have y6 : w0.cell? ⟨w.heap.size + 1, 6, none⟩ = some (.int .i64 d.en) := hD.cell 6
  have y7 : w0.cell? ⟨w.heap.size + 1, 7, none⟩ = some (.int .i64 d.rt) := hD.cell 7
  have y8 : w0.cell? ⟨w.heap.size + 1, 8, none⟩ = some (.int .i64 d.rf) := hD.cell 8
  have y9 : w0.cell? ⟨w.heap.size + 1, 9, none⟩ = some (.int .i64 d.rn) := hD.cell 9
  have y10 : w0.cell? ⟨w.heap.size + 1, 10, none⟩ = some (.int .i64 d.rs) := hD.cell 10
  have y11 : w0.cell? ⟨w.heap.size + 1, 11, none⟩ = some (.int .i64 d.re) := hD.cell 11
  have y12 : w0.cell? ⟨w.heap.size + 1, 12, none⟩ = some (.int .i64 d.ro) := hD.cell 12
  have lt_y := hD.lt
  go_wp2_with fail
  clear p0 p1 p2 p3 lt_p
  clear y0 y1 y2 y3 y4 y5 y6 y7 y8 y9 y10 y11 y12 lt_y
  refine (pstep_any A1 n1 c1 A n c p d w0 hw0 hw1 h hr).mono ?_
  rintro e w1 ⟨A2, n2, c2, A3, n3, c3, rfl, h2, hb, _, hown⟩
  replace h := h.up hb
  replace hP := hP.below hb hP.lt
  replace hD := hD.below hb hD.lt
  replace hR := hR.below hb hR.lt
  replace hB := hB.trans (hb.mono hs)
  replace hs := hB.size
  clear hb
  obtain ⟨q, hq⟩ : ∃ x, stepQ p d = x := ⟨_, rfl⟩
  obtain ⟨pp, hpp⟩ : ∃ x, stepP p d = x := ⟨_, rfl⟩
  rw [hq] at hown
  rw [hpp] at hown h2
  rw [hq, hpp]
  have HQ := Lib.hid hq
  have HPP := Lib.hid hpp
  have HOW := Lib.hid hown
  clear hq hpp hown
  go_upto_region 3 with fail
  have hN := Blok.new w1 25 #[.slice A2 n2 c2, .slice A3 n3 c3, .int .i64 pp.clk, .int .i64 pp.ver]
  have hb : Below w1.heap.size w1 (w1.alloc (.cells #[.slice A2 n2 c2, .slice A3 n3 c3, .int .i64 pp.clk, .int .i64 pp.ver] 25)) := by (repeat (first | exact Below.refl _ _ | refine Below.alloc ?_ (by first | omega | (simp; done) | (simp; omega)) _ | refine Below.setCell ?_ (by first | omega | (simp; done) | (simp; omega)) _ | refine Below.drew ?_))
  have hnl : w.heap.size + 1 + 1 < w1.heap.size := hR.lt
  have hb2 := hb
  replace h := h.up hb
  replace hP := hP.below hb hP.lt
  replace hD := hD.below hb hD.lt
  replace hR := hR.below hb hR.lt
  replace hB := hB.trans (hb.mono hs)
  replace hs := hB.size
  clear hb
  generalize w1.alloc (.cells #[.slice A2 n2 c2, .slice A3 n3 c3, .int .i64 pp.clk, .int .i64 pp.ver] 25) = w2 at *
  obtain ⟨bN, hbN⟩ : ∃ x, w1.heap.size = x := ⟨_, rfl⟩
  rw [hbN] at hN hnl
  rw [hbN]
  by_cases hq0 : q = 0
  · subst hq0
    have g1 : ((0 : Int) != 0) = false := by simp
    by_cases hk : d.kd = 1
    · have g3 : (d.kd == 1) = true := by simp [hk]
      obtain ⟨hps, hpc⟩ := stepP_C (by rw [HQ.out]) hk
      rw [HPP.out] at hps
      have HPS := Lib.hid hps
      clear hpc hps
      have hoc := (HOW.out rfl).1 hk
      have hgb : ∀ g, (Value.slice A2 n2 c2).ownBlock = some g → g < bN := fun g hg => by rw [← hbN]; exact (hoc.lt g hg).2
      replace hoc := own_below hoc hb2
      clear hb2 HOW hbN hk
      have hx1 := h2.l1
      have hx2 := h2.b1
      have hbNl : bN < w2.heap.size := hN.lt
      have y0 : w2.cell? ⟨w.heap.size + 1, 0, none⟩ = some (.int .i64 d.op) := hD.cell 0
      have y1 : w2.cell? ⟨w.heap.size + 1, 1, none⟩ = some (.int .i64 d.kd) := hD.cell 1
      have y2 : w2.cell? ⟨w.heap.size + 1, 2, none⟩ = some (.int .i64 d.id) := hD.cell 2
      have y3 : w2.cell? ⟨w.heap.size + 1, 3, none⟩ = some (.int .i64 d.fr) := hD.cell 3
      have y4 : w2.cell? ⟨w.heap.size + 1, 4, none⟩ = some (.int .i64 d.tn) := hD.cell 4
      have y5 : w2.cell? ⟨w.heap.size + 1, 5, none⟩ = some (.int .i64 d.st) := hD.cell 5
      have y6 : w2.cell? ⟨w.heap.size + 1, 6, none⟩ = some (.int .i64 d.en) := hD.cell 6
      have y7 : w2.cell? ⟨w.heap.size + 1, 7, none⟩ = some (.int .i64 d.rt) := hD.cell 7
      have y8 : w2.cell? ⟨w.heap.size + 1, 8, none⟩ = some (.int .i64 d.rf) := hD.cell 8
      have y9 : w2.cell? ⟨w.heap.size + 1, 9, none⟩ = some (.int .i64 d.rn) := hD.cell 9
      have y10 : w2.cell? ⟨w.heap.size + 1, 10, none⟩ = some (.int .i64 d.rs) := hD.cell 10
      have y11 : w2.cell? ⟨w.heap.size + 1, 11, none⟩ = some (.int .i64 d.re) := hD.cell 11
      have y12 : w2.cell? ⟨w.heap.size + 1, 12, none⟩ = some (.int .i64 d.ro) := hD.cell 12
      have lt_y := hD.lt
      have p0 : w2.cell? ⟨w.heap.size, 1, none⟩ = some (.slice A n c) := hP.cell 1
      have lt_p := hP.lt
      have n_0 : w2.cell? ⟨bN, 0, none⟩ = some (.slice A2 n2 c2) := hN.cell 0
      have nf_0 := hN.free 0
      have n_1 : w2.cell? ⟨bN, 1, none⟩ = some (.slice A3 n3 c3) := hN.cell 1
      have nf_1 := hN.free 1
      have n_2 : w2.cell? ⟨bN, 2, none⟩ = some (.int .i64 pp.clk) := hN.cell 2
      have nf_2 := hN.free 2
      have n_3 : w2.cell? ⟨bN, 3, none⟩ = some (.int .i64 pp.ver) := hN.cell 3
      have nf_3 := hN.free 3
      have lt_n_ := hN.lt
      go_wp2_with fail
      clear y0 y1 y2 y3 y4 y5 y6 y7 y8 y9 y10 y11 y12 lt_y
      clear n_0 n_1 n_2 n_3 nf_0 nf_1 nf_2 nf_3 lt_n_
      clear p0 lt_p h2
      refine (cloneRg A n c p.rs w2 h.l (by have := h.b; omega) h.s).mono ?_
      rintro e w3 ⟨v, rfl, ho, hb⟩
      replace h := h.up hb
      replace hP := hP.below hb hP.lt
      replace hD := hD.below hb hD.lt
      replace hR := hR.below hb hR.lt
      replace hN := hN.below hb hN.lt
      replace hoc := own_below hoc hb
      replace hB := hB.trans (hb.mono hs)
      replace hs := hB.size
      clear hb
      obtain ⟨A5, c5, rfl⟩ := slice_of_own ho
      have n_0 : w3.cell? ⟨bN, 0, none⟩ = some (.slice A2 n2 c2) := hN.cell 0
      have nf_0 := hN.free 0
      have n_1 : w3.cell? ⟨bN, 1, none⟩ = some (.slice A3 n3 c3) := hN.cell 1
      have nf_1 := hN.free 1
      have n_2 : w3.cell? ⟨bN, 2, none⟩ = some (.int .i64 pp.clk) := hN.cell 2
      have nf_2 := hN.free 2
      have n_3 : w3.cell? ⟨bN, 3, none⟩ = some (.int .i64 pp.ver) := hN.cell 3
      have nf_3 := hN.free 3
      have lt_n_ := hN.lt
      go_upto_region 7 with fail
      clear n_0 n_1 n_2 n_3 nf_0 nf_1 nf_2 nf_3 lt_n_
      replace hN := hN.set_ 1 (.slice A5 n c5)
      replace hR := hR.far (p := ⟨bN, 1, none⟩) (by show w.heap.size + 1 + 1 ≠ bN; omega) (.slice A5 n c5)
      replace ho := own_far ho (grown_set (g := bN) (w3) 1 (.slice A5 n c5)) (fun g hg => by injection hg with hg; omega)
      replace hoc := own_other hoc (grown_set (g := bN) (w3) 1 (.slice A5 n c5)) (fun g hg => Nat.ne_of_lt (hgb g hg))
      replace hB := hB.setCell (p := ⟨bN, 1, none⟩) (by show w.heap.size ≤ bN; omega) (.slice A5 n c5)
      replace hs := hB.size
      generalize (w3).setCell ⟨bN, 1, none⟩ (.slice A5 n c5) = w4 at *
      have n_0 : w4.cell? ⟨bN, 0, none⟩ = some (.slice A2 n2 c2) := hN.cell 0
      have nf_0 := hN.free 0
      have n_1 : w4.cell? ⟨bN, 1, none⟩ = some (.slice A5 n c5) := hN.cell 1
      have nf_1 := hN.free 1
      have n_2 : w4.cell? ⟨bN, 2, none⟩ = some (.int .i64 pp.clk) := hN.cell 2
      have nf_2 := hN.free 2
      have n_3 : w4.cell? ⟨bN, 3, none⟩ = some (.int .i64 pp.ver) := hN.cell 3
      have nf_3 := hN.free 3
      have lt_n_ := hN.lt
      have r0 : w4.cell? ⟨w.heap.size + 1 + 1, 0, none⟩ = some (.slice none 0 0) := hR.cell 0
      have f_0 := hR.free 0
      have r1 : w4.cell? ⟨w.heap.size + 1 + 1, 1, none⟩ = some (.slice none 0 0) := hR.cell 1
      have f_1 := hR.free 1
      have r2 : w4.cell? ⟨w.heap.size + 1 + 1, 2, none⟩ = some (.int .i64 0) := hR.cell 2
      have f_2 := hR.free 2
      have r3 : w4.cell? ⟨w.heap.size + 1 + 1, 3, none⟩ = some (.int .i64 0) := hR.cell 3
      have f_3 := hR.free 3
      have lt_x := hR.lt
      have HX := Lib.hid hR
      clear hR
      have hh := h.l
      have hhb := h.b
      clear h
      go_wp2_with fail
      have hX := HX.out
      clear n_0 n_1 n_2 n_3 nf_0 nf_1 nf_2 nf_3 lt_n_
      clear r0 r1 r2 r3
      have hF : Blok ((((w4.setCell ⟨(w.heap.size + 1 + 1), 0, none⟩ (.slice A2 n2 c2)).setCell ⟨(w.heap.size + 1 + 1), 1, none⟩ (.slice A5 n c5)).setCell ⟨(w.heap.size + 1 + 1), 2, none⟩ (.int .i64 pp.clk)).setCell ⟨(w.heap.size + 1 + 1), 3, none⟩ (.int .i64 pp.ver)) (w.heap.size + 1 + 1) 25 #[.slice A2 n2 c2, .slice A5 n c5, .int .i64 pp.clk, .int .i64 pp.ver] := by have h := ((((hX.set_ 0 (.slice A2 n2 c2)).set_ 1 (.slice A5 n c5)).set_ 2 (.int .i64 pp.clk)).set_ 3 (.int .i64 pp.ver)); simpa using h
      have hle0 : w.heap.size ≤ (w.heap.size + 1 + 1) := by first | exact Nat.le_refl _ | omega
      have hWf : Below w.heap.size w ((((w4.setCell ⟨(w.heap.size + 1 + 1), 0, none⟩ (.slice A2 n2 c2)).setCell ⟨(w.heap.size + 1 + 1), 1, none⟩ (.slice A5 n c5)).setCell ⟨(w.heap.size + 1 + 1), 2, none⟩ (.int .i64 pp.clk)).setCell ⟨(w.heap.size + 1 + 1), 3, none⟩ (.int .i64 pp.ver)) := ((((hB.setCell (p := ⟨(w.heap.size + 1 + 1), 0, none⟩) hle0 (.slice A2 n2 c2)).setCell (p := ⟨(w.heap.size + 1 + 1), 1, none⟩) hle0 (.slice A5 n c5)).setCell (p := ⟨(w.heap.size + 1 + 1), 2, none⟩) hle0 (.int .i64 pp.clk)).setCell (p := ⟨(w.heap.size + 1 + 1), 3, none⟩) hle0 (.int .i64 pp.ver))
      have hlF := hF.lt
      have hgw : w4.grownBy ((((w4.setCell ⟨(w.heap.size + 1 + 1), 0, none⟩ (.slice A2 n2 c2)).setCell ⟨(w.heap.size + 1 + 1), 1, none⟩ (.slice A5 n c5)).setCell ⟨(w.heap.size + 1 + 1), 2, none⟩ (.int .i64 pp.clk)).setCell ⟨(w.heap.size + 1 + 1), 3, none⟩ (.int .i64 pp.ver)) (some (w.heap.size + 1 + 1)) := grown_trans (grown_trans (grown_trans (grown_set _ _ _) (grown_set _ _ _)) (grown_set _ _ _)) (grown_set _ _ _)
      generalize ((((w4.setCell ⟨(w.heap.size + 1 + 1), 0, none⟩ (.slice A2 n2 c2)).setCell ⟨(w.heap.size + 1 + 1), 1, none⟩ (.slice A5 n c5)).setCell ⟨(w.heap.size + 1 + 1), 2, none⟩ (.int .i64 pp.clk)).setCell ⟨(w.heap.size + 1 + 1), 3, none⟩ (.int .i64 pp.ver)) = wf at *
      have r0 : wf.cell? ⟨(w.heap.size + 1 + 1), 0, none⟩ = some (.slice A2 n2 c2) := hF.cell 0
      have r1 : wf.cell? ⟨(w.heap.size + 1 + 1), 1, none⟩ = some (.slice A5 n c5) := hF.cell 1
      have r2 : wf.cell? ⟨(w.heap.size + 1 + 1), 2, none⟩ = some (.int .i64 pp.clk) := hF.cell 2
      have r3 : wf.cell? ⟨(w.heap.size + 1 + 1), 3, none⟩ = some (.int .i64 pp.ver) := hF.cell 3
      refine bodyPost_ret (v := .tuple #[.agg #[.slice A2 n2 c2, .slice A5 n c5, .int .i64 pp.clk, .int .i64 pp.ver], .int .i64 0]) (by simp [results, Tryz.results23, go_sem, r0, r1, r2, r3, hlF]) rfl ?_
      have hof := own_far ho hgw (fun g hg => by injection hg with hg; omega)
      have hocf := own_far hoc hgw (fun g hg => by injection hg with hg; omega)
      refine ⟨A2, n2, c2, A5, n, c5, by rw [HPP.out, HQ.out], by rw [HPP.out]; exact ⟨hx1, by rw [HPS.out]; exact hh, hx2, hhb, own_down hocf (by omega), by rw [HPS.out]; exact own_down hof (by omega)⟩, hWf⟩
    · have g3 : (d.kd == 1) = false := by simp [hk]
      obtain ⟨hps, hpc⟩ := stepP_R (by rw [HQ.out]) hk
      rw [HPP.out] at hps
      have HPS := Lib.hid hps
      clear hpc hps
      have hoc := (HOW.out rfl).2 hk
      have hgb : ∀ g, (Value.slice A3 n3 c3).ownBlock = some g → g < bN := fun g hg => by rw [← hbN]; exact (hoc.lt g hg).2
      replace hoc := own_below hoc hb2
      clear hb2 HOW hbN hk
      have hx1 := h2.l
      have hx2 := h2.b
      have hbNl : bN < w2.heap.size := hN.lt
      have y0 : w2.cell? ⟨w.heap.size + 1, 0, none⟩ = some (.int .i64 d.op) := hD.cell 0
      have y1 : w2.cell? ⟨w.heap.size + 1, 1, none⟩ = some (.int .i64 d.kd) := hD.cell 1
      have y2 : w2.cell? ⟨w.heap.size + 1, 2, none⟩ = some (.int .i64 d.id) := hD.cell 2
      have y3 : w2.cell? ⟨w.heap.size + 1, 3, none⟩ = some (.int .i64 d.fr) := hD.cell 3
      have y4 : w2.cell? ⟨w.heap.size + 1, 4, none⟩ = some (.int .i64 d.tn) := hD.cell 4
      have y5 : w2.cell? ⟨w.heap.size + 1, 5, none⟩ = some (.int .i64 d.st) := hD.cell 5
      have y6 : w2.cell? ⟨w.heap.size + 1, 6, none⟩ = some (.int .i64 d.en) := hD.cell 6
      have y7 : w2.cell? ⟨w.heap.size + 1, 7, none⟩ = some (.int .i64 d.rt) := hD.cell 7
      have y8 : w2.cell? ⟨w.heap.size + 1, 8, none⟩ = some (.int .i64 d.rf) := hD.cell 8
      have y9 : w2.cell? ⟨w.heap.size + 1, 9, none⟩ = some (.int .i64 d.rn) := hD.cell 9
      have y10 : w2.cell? ⟨w.heap.size + 1, 10, none⟩ = some (.int .i64 d.rs) := hD.cell 10
      have y11 : w2.cell? ⟨w.heap.size + 1, 11, none⟩ = some (.int .i64 d.re) := hD.cell 11
      have y12 : w2.cell? ⟨w.heap.size + 1, 12, none⟩ = some (.int .i64 d.ro) := hD.cell 12
      have lt_y := hD.lt
      have p0 : w2.cell? ⟨w.heap.size, 0, none⟩ = some (.slice A1 n1 c1) := hP.cell 0
      have lt_p := hP.lt
      have n_0 : w2.cell? ⟨bN, 0, none⟩ = some (.slice A2 n2 c2) := hN.cell 0
      have nf_0 := hN.free 0
      have n_1 : w2.cell? ⟨bN, 1, none⟩ = some (.slice A3 n3 c3) := hN.cell 1
      have nf_1 := hN.free 1
      have n_2 : w2.cell? ⟨bN, 2, none⟩ = some (.int .i64 pp.clk) := hN.cell 2
      have nf_2 := hN.free 2
      have n_3 : w2.cell? ⟨bN, 3, none⟩ = some (.int .i64 pp.ver) := hN.cell 3
      have nf_3 := hN.free 3
      have lt_n_ := hN.lt
      go_wp2_with fail
      clear y0 y1 y2 y3 y4 y5 y6 y7 y8 y9 y10 y11 y12 lt_y
      clear n_0 n_1 n_2 n_3 nf_0 nf_1 nf_2 nf_3 lt_n_
      clear p0 lt_p h2
      refine (cloneCo A1 n1 c1 p.cs w2 h.l1 (by have := h.b1; omega) h.s1).mono ?_
      rintro e w3 ⟨v, rfl, ho, hb⟩
      replace h := h.up hb
      replace hP := hP.below hb hP.lt
      replace hD := hD.below hb hD.lt
      replace hR := hR.below hb hR.lt
      replace hN := hN.below hb hN.lt
      replace hoc := own_below hoc hb
      replace hB := hB.trans (hb.mono hs)
      replace hs := hB.size
      clear hb
      obtain ⟨A5, c5, rfl⟩ := slice_of_own ho
      have n_0 : w3.cell? ⟨bN, 0, none⟩ = some (.slice A2 n2 c2) := hN.cell 0
      have nf_0 := hN.free 0
      have n_1 : w3.cell? ⟨bN, 1, none⟩ = some (.slice A3 n3 c3) := hN.cell 1
      have nf_1 := hN.free 1
      have n_2 : w3.cell? ⟨bN, 2, none⟩ = some (.int .i64 pp.clk) := hN.cell 2
      have nf_2 := hN.free 2
      have n_3 : w3.cell? ⟨bN, 3, none⟩ = some (.int .i64 pp.ver) := hN.cell 3
      have nf_3 := hN.free 3
      have lt_n_ := hN.lt
      go_upto_region 7 with fail
      clear n_0 n_1 n_2 n_3 nf_0 nf_1 nf_2 nf_3 lt_n_
      replace hN := hN.set_ 0 (.slice A5 n1 c5)
      replace hR := hR.far (p := ⟨bN, 0, none⟩) (by show w.heap.size + 1 + 1 ≠ bN; omega) (.slice A5 n1 c5)
      replace ho := own_far ho (grown_set (g := bN) (w3) 0 (.slice A5 n1 c5)) (fun g hg => by injection hg with hg; omega)
      replace hoc := own_other hoc (grown_set (g := bN) (w3) 0 (.slice A5 n1 c5)) (fun g hg => Nat.ne_of_lt (hgb g hg))
      replace hB := hB.setCell (p := ⟨bN, 0, none⟩) (by show w.heap.size ≤ bN; omega) (.slice A5 n1 c5)
      replace hs := hB.size
      generalize (w3).setCell ⟨bN, 0, none⟩ (.slice A5 n1 c5) = w4 at *
      have n_0 : w4.cell? ⟨bN, 0, none⟩ = some (.slice A5 n1 c5) := hN.cell 0
      have nf_0 := hN.free 0
      have n_1 : w4.cell? ⟨bN, 1, none⟩ = some (.slice A3 n3 c3) := hN.cell 1
      have nf_1 := hN.free 1
      have n_2 : w4.cell? ⟨bN, 2, none⟩ = some (.int .i64 pp.clk) := hN.cell 2
      have nf_2 := hN.free 2
      have n_3 : w4.cell? ⟨bN, 3, none⟩ = some (.int .i64 pp.ver) := hN.cell 3
      have nf_3 := hN.free 3
      have lt_n_ := hN.lt
      have r0 : w4.cell? ⟨w.heap.size + 1 + 1, 0, none⟩ = some (.slice none 0 0) := hR.cell 0
      have f_0 := hR.free 0
      have r1 : w4.cell? ⟨w.heap.size + 1 + 1, 1, none⟩ = some (.slice none 0 0) := hR.cell 1
      have f_1 := hR.free 1
      have r2 : w4.cell? ⟨w.heap.size + 1 + 1, 2, none⟩ = some (.int .i64 0) := hR.cell 2
      have f_2 := hR.free 2
      have r3 : w4.cell? ⟨w.heap.size + 1 + 1, 3, none⟩ = some (.int .i64 0) := hR.cell 3
      have f_3 := hR.free 3
      have lt_x := hR.lt
      have HX := Lib.hid hR
      clear hR
      have hh := h.l1
      have hhb := h.b1
      clear h
      go_wp2_with fail
      have hX := HX.out
      clear n_0 n_1 n_2 n_3 nf_0 nf_1 nf_2 nf_3 lt_n_
      clear r0 r1 r2 r3
      have hF : Blok ((((w4.setCell ⟨(w.heap.size + 1 + 1), 0, none⟩ (.slice A5 n1 c5)).setCell ⟨(w.heap.size + 1 + 1), 1, none⟩ (.slice A3 n3 c3)).setCell ⟨(w.heap.size + 1 + 1), 2, none⟩ (.int .i64 pp.clk)).setCell ⟨(w.heap.size + 1 + 1), 3, none⟩ (.int .i64 pp.ver)) (w.heap.size + 1 + 1) 25 #[.slice A5 n1 c5, .slice A3 n3 c3, .int .i64 pp.clk, .int .i64 pp.ver] := by have h := ((((hX.set_ 0 (.slice A5 n1 c5)).set_ 1 (.slice A3 n3 c3)).set_ 2 (.int .i64 pp.clk)).set_ 3 (.int .i64 pp.ver)); simpa using h
      have hle0 : w.heap.size ≤ (w.heap.size + 1 + 1) := by first | exact Nat.le_refl _ | omega
      have hWf : Below w.heap.size w ((((w4.setCell ⟨(w.heap.size + 1 + 1), 0, none⟩ (.slice A5 n1 c5)).setCell ⟨(w.heap.size + 1 + 1), 1, none⟩ (.slice A3 n3 c3)).setCell ⟨(w.heap.size + 1 + 1), 2, none⟩ (.int .i64 pp.clk)).setCell ⟨(w.heap.size + 1 + 1), 3, none⟩ (.int .i64 pp.ver)) := ((((hB.setCell (p := ⟨(w.heap.size + 1 + 1), 0, none⟩) hle0 (.slice A5 n1 c5)).setCell (p := ⟨(w.heap.size + 1 + 1), 1, none⟩) hle0 (.slice A3 n3 c3)).setCell (p := ⟨(w.heap.size + 1 + 1), 2, none⟩) hle0 (.int .i64 pp.clk)).setCell (p := ⟨(w.heap.size + 1 + 1), 3, none⟩) hle0 (.int .i64 pp.ver))
      have hlF := hF.lt
      have hgw : w4.grownBy ((((w4.setCell ⟨(w.heap.size + 1 + 1), 0, none⟩ (.slice A5 n1 c5)).setCell ⟨(w.heap.size + 1 + 1), 1, none⟩ (.slice A3 n3 c3)).setCell ⟨(w.heap.size + 1 + 1), 2, none⟩ (.int .i64 pp.clk)).setCell ⟨(w.heap.size + 1 + 1), 3, none⟩ (.int .i64 pp.ver)) (some (w.heap.size + 1 + 1)) := grown_trans (grown_trans (grown_trans (grown_set _ _ _) (grown_set _ _ _)) (grown_set _ _ _)) (grown_set _ _ _)
      generalize ((((w4.setCell ⟨(w.heap.size + 1 + 1), 0, none⟩ (.slice A5 n1 c5)).setCell ⟨(w.heap.size + 1 + 1), 1, none⟩ (.slice A3 n3 c3)).setCell ⟨(w.heap.size + 1 + 1), 2, none⟩ (.int .i64 pp.clk)).setCell ⟨(w.heap.size + 1 + 1), 3, none⟩ (.int .i64 pp.ver)) = wf at *
      have r0 : wf.cell? ⟨(w.heap.size + 1 + 1), 0, none⟩ = some (.slice A5 n1 c5) := hF.cell 0
      have r1 : wf.cell? ⟨(w.heap.size + 1 + 1), 1, none⟩ = some (.slice A3 n3 c3) := hF.cell 1
      have r2 : wf.cell? ⟨(w.heap.size + 1 + 1), 2, none⟩ = some (.int .i64 pp.clk) := hF.cell 2
      have r3 : wf.cell? ⟨(w.heap.size + 1 + 1), 3, none⟩ = some (.int .i64 pp.ver) := hF.cell 3
      refine bodyPost_ret (v := .tuple #[.agg #[.slice A5 n1 c5, .slice A3 n3 c3, .int .i64 pp.clk, .int .i64 pp.ver], .int .i64 0]) (by simp [results, Tryz.results23, go_sem, r0, r1, r2, r3, hlF]) rfl ?_
      have hof := own_far ho hgw (fun g hg => by injection hg with hg; omega)
      have hocf := own_far hoc hgw (fun g hg => by injection hg with hg; omega)
      refine ⟨A5, n1, c5, A3, n3, c3, by rw [HPP.out, HQ.out], by rw [HPP.out]; exact ⟨by rw [HPS.out]; exact hh, hx1, hhb, hx2, by rw [HPS.out]; exact own_down hof (by omega), own_down hocf (by omega)⟩, hWf⟩
  · have g1 : (q != 0) = true := by simp [hq0]
    have hpe : pp = p := by rw [← HPP.out]; exact stepP_no HQ.out hq0
    subst hpe
    clear hb2 h2 HOW hbN hq0
    have hbNl : bN < w2.heap.size := hN.lt
    have p0 : w2.cell? ⟨w.heap.size, 0, none⟩ = some (.slice A1 n1 c1) := hP.cell 0
    have p1 : w2.cell? ⟨w.heap.size, 1, none⟩ = some (.slice A n c) := hP.cell 1
    have p2 : w2.cell? ⟨w.heap.size, 2, none⟩ = some (.int .i64 pp.clk) := hP.cell 2
    have p3 : w2.cell? ⟨w.heap.size, 3, none⟩ = some (.int .i64 pp.ver) := hP.cell 3
    have lt_p := hP.lt
    go_wp2_with fail
    clear p0 p1 p2 p3 lt_p
    refine (pcopy_any A1 n1 c1 A n c pp w2 h).mono ?_
    rintro e w3 ⟨A4, c4, A5, c5, rfl, ho, hb⟩
    replace h := h.up hb
    replace hP := hP.below hb hP.lt
    replace hD := hD.below hb hD.lt
    replace hR := hR.below hb hR.lt
    replace hN := hN.below hb hN.lt
    replace hB := hB.trans (hb.mono hs)
    replace hs := hB.size
    clear hb
    obtain ⟨_, _, hb1, hb2, ho1, ho2⟩ := ho
    have n_0 : w3.cell? ⟨bN, 0, none⟩ = some (.slice A2 n2 c2) := hN.cell 0
    have nf_0 := hN.free 0
    have n_1 : w3.cell? ⟨bN, 1, none⟩ = some (.slice A3 n3 c3) := hN.cell 1
    have nf_1 := hN.free 1
    have n_2 : w3.cell? ⟨bN, 2, none⟩ = some (.int .i64 pp.clk) := hN.cell 2
    have nf_2 := hN.free 2
    have n_3 : w3.cell? ⟨bN, 3, none⟩ = some (.int .i64 pp.ver) := hN.cell 3
    have nf_3 := hN.free 3
    have lt_n_ := hN.lt
    have hl1 := h.l1
    have hl2 := h.l
    clear h
    go_upto_region 7 with fail
    clear n_0 n_1 n_2 n_3 nf_0 nf_1 nf_2 nf_3 lt_n_
    replace hN := hN.set_ 0 (.slice A4 n1 c4)
    replace hR := hR.far (p := ⟨bN, 0, none⟩) (by show w.heap.size + 1 + 1 ≠ bN; omega) (.slice A4 n1 c4)
    replace ho1 := own_far ho1 (grown_set (g := bN) (w3) 0 (.slice A4 n1 c4)) (fun g hg => by injection hg with hg; omega)
    replace ho2 := own_far ho2 (grown_set (g := bN) (w3) 0 (.slice A4 n1 c4)) (fun g hg => by injection hg with hg; omega)
    replace hB := hB.setCell (p := ⟨bN, 0, none⟩) (by show w.heap.size ≤ bN; omega) (.slice A4 n1 c4)
    replace hN := hN.set_ 1 (.slice A5 n c5)
    replace hR := hR.far (p := ⟨bN, 1, none⟩) (by show w.heap.size + 1 + 1 ≠ bN; omega) (.slice A5 n c5)
    replace ho1 := own_far ho1 (grown_set (g := bN) ((w3).setCell ⟨bN, 0, none⟩ (.slice A4 n1 c4)) 1 (.slice A5 n c5)) (fun g hg => by injection hg with hg; omega)
    replace ho2 := own_far ho2 (grown_set (g := bN) ((w3).setCell ⟨bN, 0, none⟩ (.slice A4 n1 c4)) 1 (.slice A5 n c5)) (fun g hg => by injection hg with hg; omega)
    replace hB := hB.setCell (p := ⟨bN, 1, none⟩) (by show w.heap.size ≤ bN; omega) (.slice A5 n c5)
    replace hN := hN.set_ 2 (.int .i64 pp.clk)
    replace hR := hR.far (p := ⟨bN, 2, none⟩) (by show w.heap.size + 1 + 1 ≠ bN; omega) (.int .i64 pp.clk)
    replace ho1 := own_far ho1 (grown_set (g := bN) (((w3).setCell ⟨bN, 0, none⟩ (.slice A4 n1 c4)).setCell ⟨bN, 1, none⟩ (.slice A5 n c5)) 2 (.int .i64 pp.clk)) (fun g hg => by injection hg with hg; omega)
    replace ho2 := own_far ho2 (grown_set (g := bN) (((w3).setCell ⟨bN, 0, none⟩ (.slice A4 n1 c4)).setCell ⟨bN, 1, none⟩ (.slice A5 n c5)) 2 (.int .i64 pp.clk)) (fun g hg => by injection hg with hg; omega)
    replace hB := hB.setCell (p := ⟨bN, 2, none⟩) (by show w.heap.size ≤ bN; omega) (.int .i64 pp.clk)
    replace hN := hN.set_ 3 (.int .i64 pp.ver)
    replace hR := hR.far (p := ⟨bN, 3, none⟩) (by show w.heap.size + 1 + 1 ≠ bN; omega) (.int .i64 pp.ver)
    replace ho1 := own_far ho1 (grown_set (g := bN) ((((w3).setCell ⟨bN, 0, none⟩ (.slice A4 n1 c4)).setCell ⟨bN, 1, none⟩ (.slice A5 n c5)).setCell ⟨bN, 2, none⟩ (.int .i64 pp.clk)) 3 (.int .i64 pp.ver)) (fun g hg => by injection hg with hg; omega)
    replace ho2 := own_far ho2 (grown_set (g := bN) ((((w3).setCell ⟨bN, 0, none⟩ (.slice A4 n1 c4)).setCell ⟨bN, 1, none⟩ (.slice A5 n c5)).setCell ⟨bN, 2, none⟩ (.int .i64 pp.clk)) 3 (.int .i64 pp.ver)) (fun g hg => by injection hg with hg; omega)
    replace hB := hB.setCell (p := ⟨bN, 3, none⟩) (by show w.heap.size ≤ bN; omega) (.int .i64 pp.ver)
    replace hs := hB.size
    generalize ((((w3).setCell ⟨bN, 0, none⟩ (.slice A4 n1 c4)).setCell ⟨bN, 1, none⟩ (.slice A5 n c5)).setCell ⟨bN, 2, none⟩ (.int .i64 pp.clk)).setCell ⟨bN, 3, none⟩ (.int .i64 pp.ver) = w4 at *
    have n_0 : w4.cell? ⟨bN, 0, none⟩ = some (.slice A4 n1 c4) := hN.cell 0
    have nf_0 := hN.free 0
    have n_1 : w4.cell? ⟨bN, 1, none⟩ = some (.slice A5 n c5) := hN.cell 1
    have nf_1 := hN.free 1
    have n_2 : w4.cell? ⟨bN, 2, none⟩ = some (.int .i64 pp.clk) := hN.cell 2
    have nf_2 := hN.free 2
    have n_3 : w4.cell? ⟨bN, 3, none⟩ = some (.int .i64 pp.ver) := hN.cell 3
    have nf_3 := hN.free 3
    have lt_n_ := hN.lt
    have r0 : w4.cell? ⟨w.heap.size + 1 + 1, 0, none⟩ = some (.slice none 0 0) := hR.cell 0
    have f_0 := hR.free 0
    have r1 : w4.cell? ⟨w.heap.size + 1 + 1, 1, none⟩ = some (.slice none 0 0) := hR.cell 1
    have f_1 := hR.free 1
    have r2 : w4.cell? ⟨w.heap.size + 1 + 1, 2, none⟩ = some (.int .i64 0) := hR.cell 2
    have f_2 := hR.free 2
    have r3 : w4.cell? ⟨w.heap.size + 1 + 1, 3, none⟩ = some (.int .i64 0) := hR.cell 3
    have f_3 := hR.free 3
    have lt_x := hR.lt
    have HX := Lib.hid hR
    clear hR
    go_wp2_with fail
    have hX := HX.out
    clear n_0 n_1 n_2 n_3 nf_0 nf_1 nf_2 nf_3 lt_n_
    clear r0 r1 r2 r3
    have hF : Blok ((((w4.setCell ⟨(w.heap.size + 1 + 1), 0, none⟩ (.slice A4 n1 c4)).setCell ⟨(w.heap.size + 1 + 1), 1, none⟩ (.slice A5 n c5)).setCell ⟨(w.heap.size + 1 + 1), 2, none⟩ (.int .i64 pp.clk)).setCell ⟨(w.heap.size + 1 + 1), 3, none⟩ (.int .i64 pp.ver)) (w.heap.size + 1 + 1) 25 #[.slice A4 n1 c4, .slice A5 n c5, .int .i64 pp.clk, .int .i64 pp.ver] := by have h := ((((hX.set_ 0 (.slice A4 n1 c4)).set_ 1 (.slice A5 n c5)).set_ 2 (.int .i64 pp.clk)).set_ 3 (.int .i64 pp.ver)); simpa using h
    have hle0 : w.heap.size ≤ (w.heap.size + 1 + 1) := by first | exact Nat.le_refl _ | omega
    have hWf : Below w.heap.size w ((((w4.setCell ⟨(w.heap.size + 1 + 1), 0, none⟩ (.slice A4 n1 c4)).setCell ⟨(w.heap.size + 1 + 1), 1, none⟩ (.slice A5 n c5)).setCell ⟨(w.heap.size + 1 + 1), 2, none⟩ (.int .i64 pp.clk)).setCell ⟨(w.heap.size + 1 + 1), 3, none⟩ (.int .i64 pp.ver)) := ((((hB.setCell (p := ⟨(w.heap.size + 1 + 1), 0, none⟩) hle0 (.slice A4 n1 c4)).setCell (p := ⟨(w.heap.size + 1 + 1), 1, none⟩) hle0 (.slice A5 n c5)).setCell (p := ⟨(w.heap.size + 1 + 1), 2, none⟩) hle0 (.int .i64 pp.clk)).setCell (p := ⟨(w.heap.size + 1 + 1), 3, none⟩) hle0 (.int .i64 pp.ver))
    have hlF := hF.lt
    have hgw : w4.grownBy ((((w4.setCell ⟨(w.heap.size + 1 + 1), 0, none⟩ (.slice A4 n1 c4)).setCell ⟨(w.heap.size + 1 + 1), 1, none⟩ (.slice A5 n c5)).setCell ⟨(w.heap.size + 1 + 1), 2, none⟩ (.int .i64 pp.clk)).setCell ⟨(w.heap.size + 1 + 1), 3, none⟩ (.int .i64 pp.ver)) (some (w.heap.size + 1 + 1)) := grown_trans (grown_trans (grown_trans (grown_set _ _ _) (grown_set _ _ _)) (grown_set _ _ _)) (grown_set _ _ _)
    generalize ((((w4.setCell ⟨(w.heap.size + 1 + 1), 0, none⟩ (.slice A4 n1 c4)).setCell ⟨(w.heap.size + 1 + 1), 1, none⟩ (.slice A5 n c5)).setCell ⟨(w.heap.size + 1 + 1), 2, none⟩ (.int .i64 pp.clk)).setCell ⟨(w.heap.size + 1 + 1), 3, none⟩ (.int .i64 pp.ver)) = wf at *
    have r0 : wf.cell? ⟨(w.heap.size + 1 + 1), 0, none⟩ = some (.slice A4 n1 c4) := hF.cell 0
    have r1 : wf.cell? ⟨(w.heap.size + 1 + 1), 1, none⟩ = some (.slice A5 n c5) := hF.cell 1
    have r2 : wf.cell? ⟨(w.heap.size + 1 + 1), 2, none⟩ = some (.int .i64 pp.clk) := hF.cell 2
    have r3 : wf.cell? ⟨(w.heap.size + 1 + 1), 3, none⟩ = some (.int .i64 pp.ver) := hF.cell 3
    refine bodyPost_ret (v := .tuple #[.agg #[.slice A4 n1 c4, .slice A5 n c5, .int .i64 pp.clk, .int .i64 pp.ver], .int .i64 q]) (by simp [results, Tryz.results23, go_sem, r0, r1, r2, r3, hlF]) rfl ?_
    have hof := own_far ho1 hgw (fun g hg => by injection hg with hg; omega)
    have hocf := own_far ho2 hgw (fun g hg => by injection hg with hg; omega)
    refine ⟨A4, n1, c4, A5, n, c5, by rw [HPP.out, HQ.out], by rw [HPP.out]; exact ⟨hl1, hl2, hb1, hb2, own_down hof (by omega), own_down hocf (by omega)⟩, hWf⟩
end Go.Proofs.YtolaabllhibkdaaGreat

/- Contract of plan.Advance. It makes new memory alone. -/
namespace Go.Proofs.YtolaabllhibkdaaGreat
open Go.ChangeShapes Go.WideShapes Go.ChangeAt Go.RowKit Go.Sort
set_option linter.unusedSimpArgs false
set_option linter.unusedVariables false
def AdvRet (p : Pl) (now : Int) (w : World) (e : Ending) (w' : World) : Prop :=
  ∃ A2 n2 c2 A3 n3 c3 A4 n4 c4, e = .returned (.tuple #[.agg #[.slice A2 n2 c2, .slice A3 n3 c3, .int .i64 (advP p now).clk, .int .i64 (advP p now).ver], .slice A4 n4 c4, .int .i64 (advQ p now)]) ∧ PlOwn w' w.heap.size A2 n2 c2 A3 n3 c3 (advP p now) ∧
    (advG p now).length = n4 ∧ Sl w' w'.heap.size 1 A4 n4 c4 ((advG p now).map (Value.int .i64)) ∧ Below w.heap.size w w'
set_option maxHeartbeats 16000000 in
set_option maxRecDepth 100000 in
theorem padv_any (A1 : Option Addr) (n1 c1 : Nat) (A : Option Addr) (n c : Nat) (p : Pl) (now : Int) (w : World) (h : PlAt w A1 n1 c1 A n c p) (hv0 : 0 ≤ p.ver) (hv1 : p.ver ≤ 1099511627776) :
    Calls Tryz.prog 25 #[.agg #[.slice A1 n1 c1, .slice A n c, .int .i64 p.clk, .int .i64 p.ver], .int .i64 now] w (AdvRet p now w) := by
  have hB : Below w.heap.size w ((w.alloc (.cells #[.slice A1 n1 c1, .slice A n c, .int .i64 p.clk, .int .i64 p.ver] 25)).alloc (.cells #[.slice none 0 0, .slice none 0 0, .int .i64 0, .int .i64 0] 25)) := by (repeat (first | exact Below.refl _ _ | refine Below.alloc ?_ (by first | omega | (simp; done) | (simp; omega)) _ | refine Below.setCell ?_ (by first | omega | (simp; done) | (simp; omega)) _ | refine Below.drew ?_))
  have hP := (Blok.new w 25 #[.slice A1 n1 c1, .slice A n c, .int .i64 p.clk, .int .i64 p.ver]).alloc (.cells #[.slice none 0 0, .slice none 0 0, .int .i64 0, .int .i64 0] 25)
  have hR := Blok.new (w.alloc (.cells #[.slice A1 n1 c1, .slice A n c, .int .i64 p.clk, .int .i64 p.ver] 25)) 25 #[.slice none 0 0, .slice none 0 0, .int .i64 0, .int .i64 0]
  simp only [World.size_alloc] at hR
  replace h := h.up hB
  have hs := hB.size
  obtain ⟨ib, hib⟩ : ∃ x, inB now p.clk 2147483647 = x := ⟨_, rfl⟩
  have HIB := Lib.hid hib
  clear hib
  go_enter Tryz.func25, Tryz.ntmps25
  go_upto_region 1 with fail
  generalize (w.alloc (.cells #[.slice A1 n1 c1, .slice A n c, .int .i64 p.clk, .int .i64 p.ver] 25)).alloc (.cells #[.slice none 0 0, .slice none 0 0, .int .i64 0, .int .i64 0] 25) = w0 at *
  have p0 : w0.cell? ⟨w.heap.size, 0, none⟩ = some (.slice A1 n1 c1) := hP.cell 0
  have p1 : w0.cell? ⟨w.heap.size, 1, none⟩ = some (.slice A n c) := hP.cell 1
  have p2 : w0.cell? ⟨w.heap.size, 2, none⟩ = some (.int .i64 p.clk) := hP.cell 2
  have p3 : w0.cell? ⟨w.heap.size, 3, none⟩ = some (.int .i64 p.ver) := hP.cell 3
  have lt_p := hP.lt
  go_wp2_with fail
  clear p0 p1 p2 p3 lt_p
  refine (pcopy_any A1 n1 c1 A n c p w0 h).mono ?_
  rintro e w1 ⟨A2, c2, A3, c3, rfl, ho, hb⟩
  have hw0 : w.heap.size + 1 < w0.heap.size := hR.lt
  replace hP := hP.below hb hP.lt
  replace hR := hR.below hb hR.lt
  replace hB := hB.trans (hb.mono hs)
  replace hs := hB.size
  clear hb
  clear h
  obtain ⟨hl1, hl2, hb1, hb2, ho1, ho2⟩ := ho
  have HL1 := Lib.hid hl1
  have HL2 := Lib.hid hl2
  clear hl1 hl2
  go_upto_region 2 with fail
  have hN := Blok.new w1 25 #[.slice A2 n1 c2, .slice A3 n c3, .int .i64 p.clk, .int .i64 p.ver]
  have hb : Below w1.heap.size w1 (w1.alloc (.cells #[.slice A2 n1 c2, .slice A3 n c3, .int .i64 p.clk, .int .i64 p.ver] 25)) := by (repeat (first | exact Below.refl _ _ | refine Below.alloc ?_ (by first | omega | (simp; done) | (simp; omega)) _ | refine Below.setCell ?_ (by first | omega | (simp; done) | (simp; omega)) _ | refine Below.drew ?_))
  have hnl : w.heap.size + 1 < w1.heap.size := hR.lt
  have hgb1 : ∀ g, (Value.slice A2 n1 c2).ownBlock = some g → g < w1.heap.size := fun g hg => (ho1.lt g hg).2
  have hgb2 : ∀ g, (Value.slice A3 n c3).ownBlock = some g → g < w1.heap.size := fun g hg => (ho2.lt g hg).2
  replace hP := hP.below hb hP.lt
  replace hR := hR.below hb hR.lt
  replace ho1 := own_below ho1 hb
  replace ho2 := own_below ho2 hb
  replace hB := hB.trans (hb.mono hs)
  replace hs := hB.size
  clear hb
  generalize w1.alloc (.cells #[.slice A2 n1 c2, .slice A3 n c3, .int .i64 p.clk, .int .i64 p.ver] 25) = w2 at *
  generalize w1.heap.size = bN at *
  have hbl : bN < w2.heap.size := hN.lt
  have p2 : w2.cell? ⟨w.heap.size, 2, none⟩ = some (.int .i64 p.clk) := hP.cell 2
  have lt_p := hP.lt
  go_wp2_with fail
  refine (in_any now p.clk 2147483647 w2).mono ?_
  rintro e w3 ⟨rfl, rfl⟩
  rw [HIB.out]
  cases ib
  · clear p2 lt_p
    have n_0 : w2.cell? ⟨bN, 0, none⟩ = some (.slice A2 n1 c2) := hN.cell 0
    have nf_0 := hN.free 0
    have n_1 : w2.cell? ⟨bN, 1, none⟩ = some (.slice A3 n c3) := hN.cell 1
    have nf_1 := hN.free 1
    have n_2 : w2.cell? ⟨bN, 2, none⟩ = some (.int .i64 p.clk) := hN.cell 2
    have nf_2 := hN.free 2
    have n_3 : w2.cell? ⟨bN, 3, none⟩ = some (.int .i64 p.ver) := hN.cell 3
    have nf_3 := hN.free 3
    have lt_n_ := hN.lt
    have r0 : w2.cell? ⟨w.heap.size + 1, 0, none⟩ = some (.slice none 0 0) := hR.cell 0
    have f_0 := hR.free 0
    have r1 : w2.cell? ⟨w.heap.size + 1, 1, none⟩ = some (.slice none 0 0) := hR.cell 1
    have f_1 := hR.free 1
    have r2 : w2.cell? ⟨w.heap.size + 1, 2, none⟩ = some (.int .i64 0) := hR.cell 2
    have f_2 := hR.free 2
    have r3 : w2.cell? ⟨w.heap.size + 1, 3, none⟩ = some (.int .i64 0) := hR.cell 3
    have f_3 := hR.free 3
    have lt_x := hR.lt
    have HX := Lib.hid hR
    clear hR
    go_wp2_with fail
    have hX := HX.out
    clear n_0 n_1 n_2 n_3 nf_0 nf_1 nf_2 nf_3 lt_n_
    clear r0 r1 r2 r3
    have hF : Blok ((((w2.setCell ⟨(w.heap.size + 1), 0, none⟩ (.slice A2 n1 c2)).setCell ⟨(w.heap.size + 1), 1, none⟩ (.slice A3 n c3)).setCell ⟨(w.heap.size + 1), 2, none⟩ (.int .i64 p.clk)).setCell ⟨(w.heap.size + 1), 3, none⟩ (.int .i64 p.ver)) (w.heap.size + 1) 25 #[.slice A2 n1 c2, .slice A3 n c3, .int .i64 p.clk, .int .i64 p.ver] := by have h := ((((hX.set_ 0 (.slice A2 n1 c2)).set_ 1 (.slice A3 n c3)).set_ 2 (.int .i64 p.clk)).set_ 3 (.int .i64 p.ver)); simpa using h
    have hle0 : w.heap.size ≤ (w.heap.size + 1) := by first | exact Nat.le_refl _ | omega
    have hWf : Below w.heap.size w ((((w2.setCell ⟨(w.heap.size + 1), 0, none⟩ (.slice A2 n1 c2)).setCell ⟨(w.heap.size + 1), 1, none⟩ (.slice A3 n c3)).setCell ⟨(w.heap.size + 1), 2, none⟩ (.int .i64 p.clk)).setCell ⟨(w.heap.size + 1), 3, none⟩ (.int .i64 p.ver)) := ((((hB.setCell (p := ⟨(w.heap.size + 1), 0, none⟩) hle0 (.slice A2 n1 c2)).setCell (p := ⟨(w.heap.size + 1), 1, none⟩) hle0 (.slice A3 n c3)).setCell (p := ⟨(w.heap.size + 1), 2, none⟩) hle0 (.int .i64 p.clk)).setCell (p := ⟨(w.heap.size + 1), 3, none⟩) hle0 (.int .i64 p.ver))
    have hlF := hF.lt
    have hgw : w2.grownBy ((((w2.setCell ⟨(w.heap.size + 1), 0, none⟩ (.slice A2 n1 c2)).setCell ⟨(w.heap.size + 1), 1, none⟩ (.slice A3 n c3)).setCell ⟨(w.heap.size + 1), 2, none⟩ (.int .i64 p.clk)).setCell ⟨(w.heap.size + 1), 3, none⟩ (.int .i64 p.ver)) (some (w.heap.size + 1)) := grown_trans (grown_trans (grown_trans (grown_set _ _ _) (grown_set _ _ _)) (grown_set _ _ _)) (grown_set _ _ _)
    generalize ((((w2.setCell ⟨(w.heap.size + 1), 0, none⟩ (.slice A2 n1 c2)).setCell ⟨(w.heap.size + 1), 1, none⟩ (.slice A3 n c3)).setCell ⟨(w.heap.size + 1), 2, none⟩ (.int .i64 p.clk)).setCell ⟨(w.heap.size + 1), 3, none⟩ (.int .i64 p.ver)) = wf at *
    have r0 : wf.cell? ⟨(w.heap.size + 1), 0, none⟩ = some (.slice A2 n1 c2) := hF.cell 0
    have r1 : wf.cell? ⟨(w.heap.size + 1), 1, none⟩ = some (.slice A3 n c3) := hF.cell 1
    have r2 : wf.cell? ⟨(w.heap.size + 1), 2, none⟩ = some (.int .i64 p.clk) := hF.cell 2
    have r3 : wf.cell? ⟨(w.heap.size + 1), 3, none⟩ = some (.int .i64 p.ver) := hF.cell 3
    refine bodyPost_ret (v := .tuple #[.agg #[.slice A2 n1 c2, .slice A3 n c3, .int .i64 p.clk, .int .i64 p.ver], .slice none 0 0, .int .i64 7]) (by simp [results, Tryz.results25, go_sem, r0, r1, r2, r3, hlF]) rfl ?_
    have hof := own_far ho1 hgw (fun g hg => by injection hg with hg; omega)
    have hocf := own_far ho2 hgw (fun g hg => by injection hg with hg; omega)
    have e1 : advP p now = p := by unfold advP; rw [if_neg (by rw [HIB.out]; simp)]
    have e2 : advQ p now = 7 := by unfold advQ; rw [if_neg (by rw [HIB.out]; simp)]
    have e3 : advG p now = [] := by unfold advG; rw [if_neg (by rw [HIB.out]; simp)]
    refine ⟨A2, n1, c2, A3, n, c3, none, 0, 0, by rw [e1, e2], by rw [e1]; exact ⟨HL1.out, HL2.out, hb1, hb2, own_down hof (by omega), own_down hocf (by omega)⟩, by rw [e3]; rfl, by rw [e3]; exact Sl.nil0 _ _ _, hWf⟩
  have e2 : advQ p now = 0 := by unfold advQ; rw [if_pos HIB.out]
  have e3 : advG p now = sortI (Kc.goneL p.cs now) := by unfold advG; rw [if_pos HIB.out]
  obtain ⟨nv, hnv⟩ : ∃ x, (if now = p.clk then p.ver else min (p.ver + 1) 1099511627776) = x := ⟨_, rfl⟩
  have e1 : advP p now = ⟨Kc.leftC p.cs now, p.rs.filter (fun x => !decide (x.en ≤ now)), now, nv⟩ := by unfold advP; rw [if_pos HIB.out, hnv]
  have E1 := Lib.hid e1
  have E2 := Lib.hid e2
  have E3 := Lib.hid e3
  have HGE := Lib.hid (show p.clk ≤ now by have := HIB.out; unfold inB at this; rw [decide_eq_true_eq] at this; exact this.1)
  clear e1 e2 e3
  by_cases hgt : now > p.clk

  · have g2 : decide (now > p.clk) = true := decide_eq_true hgt
    have hnv2 : min (p.ver + 1) 1099511627776 = nv := by rw [← hnv, if_neg (by omega)]
    have HNV := Lib.hid hnv2
    clear hnv hnv2 hgt
    have n_0 : w2.cell? ⟨bN, 0, none⟩ = some (.slice A2 n1 c2) := hN.cell 0
    have nf_0 := hN.free 0
    have n_1 : w2.cell? ⟨bN, 1, none⟩ = some (.slice A3 n c3) := hN.cell 1
    have nf_1 := hN.free 1
    have n_2 : w2.cell? ⟨bN, 2, none⟩ = some (.int .i64 p.clk) := hN.cell 2
    have nf_2 := hN.free 2
    have n_3 : w2.cell? ⟨bN, 3, none⟩ = some (.int .i64 p.ver) := hN.cell 3
    have nf_3 := hN.free 3
    have lt_n_ := hN.lt
    go_wp2_with fail
    clear n_0 n_1 n_2 n_3 nf_0 nf_1 nf_2 nf_3 lt_n_
    clear p2 lt_p g2
    refine (pchanged_any A2 n1 c2 A3 n c3 p.clk p.ver hv0 hv1 nv HNV.out w2).mono ?_
    rintro e w3 ⟨rfl, hb⟩
    replace hP := hP.below hb hP.lt
    replace hR := hR.below hb hR.lt
    replace hN := hN.below hb hN.lt
    replace ho1 := own_below ho1 hb
    replace ho2 := own_below ho2 hb
    replace hB := hB.trans (hb.mono hs)
    replace hs := hB.size
    clear hb
    have n_0 : w3.cell? ⟨bN, 0, none⟩ = some (.slice A2 n1 c2) := hN.cell 0
    have nf_0 := hN.free 0
    have n_1 : w3.cell? ⟨bN, 1, none⟩ = some (.slice A3 n c3) := hN.cell 1
    have nf_1 := hN.free 1
    have n_2 : w3.cell? ⟨bN, 2, none⟩ = some (.int .i64 p.clk) := hN.cell 2
    have nf_2 := hN.free 2
    have n_3 : w3.cell? ⟨bN, 3, none⟩ = some (.int .i64 p.ver) := hN.cell 3
    have nf_3 := hN.free 3
    have lt_n_ := hN.lt
    go_upto_region 6 with fail
    clear n_0 n_1 n_2 n_3 nf_0 nf_1 nf_2 nf_3 lt_n_
    replace hN := hN.set_ 0 (.slice A2 n1 c2)
    replace hP := hP.far (p := ⟨bN, 0, none⟩) (by show w.heap.size ≠ bN; omega) (.slice A2 n1 c2)
    replace hR := hR.far (p := ⟨bN, 0, none⟩) (by show w.heap.size + 1 ≠ bN; omega) (.slice A2 n1 c2)
    replace ho1 := own_other ho1 (grown_set (g := bN) (w3) 0 (.slice A2 n1 c2)) (fun g hg => Nat.ne_of_lt (hgb1 g hg))
    replace ho2 := own_other ho2 (grown_set (g := bN) (w3) 0 (.slice A2 n1 c2)) (fun g hg => Nat.ne_of_lt (hgb2 g hg))
    replace hB := hB.setCell (p := ⟨bN, 0, none⟩) (by show w.heap.size ≤ bN; omega) (.slice A2 n1 c2)
    replace hN := hN.set_ 1 (.slice A3 n c3)
    replace hP := hP.far (p := ⟨bN, 1, none⟩) (by show w.heap.size ≠ bN; omega) (.slice A3 n c3)
    replace hR := hR.far (p := ⟨bN, 1, none⟩) (by show w.heap.size + 1 ≠ bN; omega) (.slice A3 n c3)
    replace ho1 := own_other ho1 (grown_set (g := bN) ((w3).setCell ⟨bN, 0, none⟩ (.slice A2 n1 c2)) 1 (.slice A3 n c3)) (fun g hg => Nat.ne_of_lt (hgb1 g hg))
    replace ho2 := own_other ho2 (grown_set (g := bN) ((w3).setCell ⟨bN, 0, none⟩ (.slice A2 n1 c2)) 1 (.slice A3 n c3)) (fun g hg => Nat.ne_of_lt (hgb2 g hg))
    replace hB := hB.setCell (p := ⟨bN, 1, none⟩) (by show w.heap.size ≤ bN; omega) (.slice A3 n c3)
    replace hN := hN.set_ 2 (.int .i64 p.clk)
    replace hP := hP.far (p := ⟨bN, 2, none⟩) (by show w.heap.size ≠ bN; omega) (.int .i64 p.clk)
    replace hR := hR.far (p := ⟨bN, 2, none⟩) (by show w.heap.size + 1 ≠ bN; omega) (.int .i64 p.clk)
    replace ho1 := own_other ho1 (grown_set (g := bN) (((w3).setCell ⟨bN, 0, none⟩ (.slice A2 n1 c2)).setCell ⟨bN, 1, none⟩ (.slice A3 n c3)) 2 (.int .i64 p.clk)) (fun g hg => Nat.ne_of_lt (hgb1 g hg))
    replace ho2 := own_other ho2 (grown_set (g := bN) (((w3).setCell ⟨bN, 0, none⟩ (.slice A2 n1 c2)).setCell ⟨bN, 1, none⟩ (.slice A3 n c3)) 2 (.int .i64 p.clk)) (fun g hg => Nat.ne_of_lt (hgb2 g hg))
    replace hB := hB.setCell (p := ⟨bN, 2, none⟩) (by show w.heap.size ≤ bN; omega) (.int .i64 p.clk)
    replace hN := hN.set_ 3 (.int .i64 nv)
    replace hP := hP.far (p := ⟨bN, 3, none⟩) (by show w.heap.size ≠ bN; omega) (.int .i64 nv)
    replace hR := hR.far (p := ⟨bN, 3, none⟩) (by show w.heap.size + 1 ≠ bN; omega) (.int .i64 nv)
    replace ho1 := own_other ho1 (grown_set (g := bN) ((((w3).setCell ⟨bN, 0, none⟩ (.slice A2 n1 c2)).setCell ⟨bN, 1, none⟩ (.slice A3 n c3)).setCell ⟨bN, 2, none⟩ (.int .i64 p.clk)) 3 (.int .i64 nv)) (fun g hg => Nat.ne_of_lt (hgb1 g hg))
    replace ho2 := own_other ho2 (grown_set (g := bN) ((((w3).setCell ⟨bN, 0, none⟩ (.slice A2 n1 c2)).setCell ⟨bN, 1, none⟩ (.slice A3 n c3)).setCell ⟨bN, 2, none⟩ (.int .i64 p.clk)) 3 (.int .i64 nv)) (fun g hg => Nat.ne_of_lt (hgb2 g hg))
    replace hB := hB.setCell (p := ⟨bN, 3, none⟩) (by show w.heap.size ≤ bN; omega) (.int .i64 nv)
    replace hs := hB.size
    generalize ((((w3).setCell ⟨bN, 0, none⟩ (.slice A2 n1 c2)).setCell ⟨bN, 1, none⟩ (.slice A3 n c3)).setCell ⟨bN, 2, none⟩ (.int .i64 p.clk)).setCell ⟨bN, 3, none⟩ (.int .i64 nv) = w4 at *
    have n_0 : w4.cell? ⟨bN, 0, none⟩ = some (.slice A2 n1 c2) := hN.cell 0
    have nf_0 := hN.free 0
    have n_1 : w4.cell? ⟨bN, 1, none⟩ = some (.slice A3 n c3) := hN.cell 1
    have nf_1 := hN.free 1
    have n_2 : w4.cell? ⟨bN, 2, none⟩ = some (.int .i64 p.clk) := hN.cell 2
    have nf_2 := hN.free 2
    have n_3 : w4.cell? ⟨bN, 3, none⟩ = some (.int .i64 nv) := hN.cell 3
    have nf_3 := hN.free 3
    have lt_n_ := hN.lt
    go_wp2_with fail
    clear n_0 n_1 n_2 n_3 nf_0 nf_1 nf_2 nf_3 lt_n_
    refine (Kc.expire_any A2 n1 c2 p.cs now w4 HL1.out (by omega) (Sl.of_own ho1)).mono ?_
    rintro e w5 ⟨v, u, rfl, hv, hu, hb⟩
    have hbl2 : bN < w4.heap.size := hN.lt
    have hW0 : w.heap.size + 1 < w4.heap.size := hR.lt
    replace hP := hP.below hb hP.lt
    replace hR := hR.below hb hR.lt
    replace hN := hN.below hb hN.lt
    replace ho2 := own_below ho2 hb
    replace hB := hB.trans (hb.mono hs)
    replace hs := hB.size
    clear hb
    obtain ⟨nl, hnl1⟩ : ∃ x, (Kc.leftC p.cs now).length = x := ⟨_, rfl⟩
    rw [hnl1] at hv
    have hnle : nl ≤ n1 := by rw [← hnl1, ← HL1.out]; unfold Kc.leftC; exact List.length_filter_le _ _
    have HNL := Lib.hid hnl1
    obtain ⟨A5, c5, rfl⟩ := slice_of_own hv
    obtain ⟨ng, hng⟩ : ∃ x, (Kc.goneL p.cs now).length = x := ⟨_, rfl⟩
    rw [hng] at hu
    have HNG := Lib.hid hng
    obtain ⟨A6, c6, rfl⟩ := slice_of_own hu
    clear hnl1 hng ho1
    have n_0 : w5.cell? ⟨bN, 0, none⟩ = some (.slice A2 n1 c2) := hN.cell 0
    have nf_0 := hN.free 0
    have n_1 : w5.cell? ⟨bN, 1, none⟩ = some (.slice A3 n c3) := hN.cell 1
    have nf_1 := hN.free 1
    have n_2 : w5.cell? ⟨bN, 2, none⟩ = some (.int .i64 p.clk) := hN.cell 2
    have nf_2 := hN.free 2
    have n_3 : w5.cell? ⟨bN, 3, none⟩ = some (.int .i64 nv) := hN.cell 3
    have nf_3 := hN.free 3
    have lt_n_ := hN.lt
    go_upto_region 8 with fail
    clear n_0 n_1 n_2 n_3 nf_0 nf_1 nf_2 nf_3 lt_n_
    replace hN := hN.set_ 0 (.slice A5 nl c5)
    replace hP := hP.far (p := ⟨bN, 0, none⟩) (by show w.heap.size ≠ bN; omega) (.slice A5 nl c5)
    replace hR := hR.far (p := ⟨bN, 0, none⟩) (by show w.heap.size + 1 ≠ bN; omega) (.slice A5 nl c5)
    replace hv := own_far hv (grown_set (g := bN) (w5) 0 (.slice A5 nl c5)) (fun g hg => by injection hg with hg; omega)
    replace hu := own_far hu (grown_set (g := bN) (w5) 0 (.slice A5 nl c5)) (fun g hg => by injection hg with hg; omega)
    replace ho2 := own_other ho2 (grown_set (g := bN) (w5) 0 (.slice A5 nl c5)) (fun g hg => Nat.ne_of_lt (hgb2 g hg))
    replace hB := hB.setCell (p := ⟨bN, 0, none⟩) (by show w.heap.size ≤ bN; omega) (.slice A5 nl c5)
    replace hs := hB.size
    generalize (w5).setCell ⟨bN, 0, none⟩ (.slice A5 nl c5) = w6 at *
    have n_0 : w6.cell? ⟨bN, 0, none⟩ = some (.slice A5 nl c5) := hN.cell 0
    have nf_0 := hN.free 0
    have n_1 : w6.cell? ⟨bN, 1, none⟩ = some (.slice A3 n c3) := hN.cell 1
    have nf_1 := hN.free 1
    have n_2 : w6.cell? ⟨bN, 2, none⟩ = some (.int .i64 p.clk) := hN.cell 2
    have nf_2 := hN.free 2
    have n_3 : w6.cell? ⟨bN, 3, none⟩ = some (.int .i64 nv) := hN.cell 3
    have nf_3 := hN.free 3
    have lt_n_ := hN.lt
    go_wp2_with fail
    clear n_0 n_1 n_2 n_3 nf_0 nf_1 nf_2 nf_3 lt_n_
    refine (Kr.expire_any A3 n c3 p.rs now w6 HL2.out (by omega) (Sl.of_own ho2)).mono ?_
    rintro e w7 ⟨v7, rfl, hv7, hb⟩
    have hbl3 : bN < w6.heap.size := hN.lt
    have hW6 : w.heap.size + 1 < w6.heap.size := hR.lt
    replace hP := hP.below hb hP.lt
    replace hR := hR.below hb hR.lt
    replace hN := hN.below hb hN.lt
    replace hv := own_below hv hb
    replace hu := own_below hu hb
    replace hB := hB.trans (hb.mono hs)
    replace hs := hB.size
    clear hb
    obtain ⟨nr, hnr1⟩ : ∃ x, (p.rs.filter (fun x => !decide (x.en ≤ now))).length = x := ⟨_, rfl⟩
    rw [hnr1] at hv7
    have hnre : nr ≤ n := by rw [← hnr1, ← HL2.out]; exact List.length_filter_le _ _
    have HNR := Lib.hid hnr1
    obtain ⟨A7, c7, rfl⟩ := slice_of_own hv7
    clear hnr1 ho2
    have n_0 : w7.cell? ⟨bN, 0, none⟩ = some (.slice A5 nl c5) := hN.cell 0
    have nf_0 := hN.free 0
    have n_1 : w7.cell? ⟨bN, 1, none⟩ = some (.slice A3 n c3) := hN.cell 1
    have nf_1 := hN.free 1
    have n_2 : w7.cell? ⟨bN, 2, none⟩ = some (.int .i64 p.clk) := hN.cell 2
    have nf_2 := hN.free 2
    have n_3 : w7.cell? ⟨bN, 3, none⟩ = some (.int .i64 nv) := hN.cell 3
    have nf_3 := hN.free 3
    have lt_n_ := hN.lt
    go_upto_region 9 with fail
    clear n_0 n_1 n_2 n_3 nf_0 nf_1 nf_2 nf_3 lt_n_
    replace hN := hN.set_ 1 (.slice A7 nr c7)
    replace hP := hP.far (p := ⟨bN, 1, none⟩) (by show w.heap.size ≠ bN; omega) (.slice A7 nr c7)
    replace hR := hR.far (p := ⟨bN, 1, none⟩) (by show w.heap.size + 1 ≠ bN; omega) (.slice A7 nr c7)
    replace hv := own_far hv (grown_set (g := bN) (w7) 1 (.slice A7 nr c7)) (fun g hg => by injection hg with hg; omega)
    replace hu := own_far hu (grown_set (g := bN) (w7) 1 (.slice A7 nr c7)) (fun g hg => by injection hg with hg; omega)
    replace hv7 := own_far hv7 (grown_set (g := bN) (w7) 1 (.slice A7 nr c7)) (fun g hg => by injection hg with hg; omega)
    replace hB := hB.setCell (p := ⟨bN, 1, none⟩) (by show w.heap.size ≤ bN; omega) (.slice A7 nr c7)
    replace hs := hB.size
    generalize (w7).setCell ⟨bN, 1, none⟩ (.slice A7 nr c7) = w8 at *
    have n_0 : w8.cell? ⟨bN, 0, none⟩ = some (.slice A5 nl c5) := hN.cell 0
    have nf_0 := hN.free 0
    have n_1 : w8.cell? ⟨bN, 1, none⟩ = some (.slice A7 nr c7) := hN.cell 1
    have nf_1 := hN.free 1
    have n_2 : w8.cell? ⟨bN, 2, none⟩ = some (.int .i64 p.clk) := hN.cell 2
    have nf_2 := hN.free 2
    have n_3 : w8.cell? ⟨bN, 3, none⟩ = some (.int .i64 nv) := hN.cell 3
    have nf_3 := hN.free 3
    have lt_n_ := hN.lt
    go_upto_region 10 with fail
    clear n_0 n_1 n_2 n_3 nf_0 nf_1 nf_2 nf_3 lt_n_
    replace hN := hN.set_ 2 (.int .i64 now)
    replace hP := hP.far (p := ⟨bN, 2, none⟩) (by show w.heap.size ≠ bN; omega) (.int .i64 now)
    replace hR := hR.far (p := ⟨bN, 2, none⟩) (by show w.heap.size + 1 ≠ bN; omega) (.int .i64 now)
    replace hv := own_far hv (grown_set (g := bN) (w8) 2 (.int .i64 now)) (fun g hg => by injection hg with hg; omega)
    replace hu := own_far hu (grown_set (g := bN) (w8) 2 (.int .i64 now)) (fun g hg => by injection hg with hg; omega)
    replace hv7 := own_far hv7 (grown_set (g := bN) (w8) 2 (.int .i64 now)) (fun g hg => by injection hg with hg; omega)
    replace hB := hB.setCell (p := ⟨bN, 2, none⟩) (by show w.heap.size ≤ bN; omega) (.int .i64 now)
    replace hs := hB.size
    generalize (w8).setCell ⟨bN, 2, none⟩ (.int .i64 now) = w9 at *
    have n_0 : w9.cell? ⟨bN, 0, none⟩ = some (.slice A5 nl c5) := hN.cell 0
    have nf_0 := hN.free 0
    have n_1 : w9.cell? ⟨bN, 1, none⟩ = some (.slice A7 nr c7) := hN.cell 1
    have nf_1 := hN.free 1
    have n_2 : w9.cell? ⟨bN, 2, none⟩ = some (.int .i64 now) := hN.cell 2
    have nf_2 := hN.free 2
    have n_3 : w9.cell? ⟨bN, 3, none⟩ = some (.int .i64 nv) := hN.cell 3
    have nf_3 := hN.free 3
    have lt_n_ := hN.lt
    have r0 : w9.cell? ⟨w.heap.size + 1, 0, none⟩ = some (.slice none 0 0) := hR.cell 0
    have f_0 := hR.free 0
    have r1 : w9.cell? ⟨w.heap.size + 1, 1, none⟩ = some (.slice none 0 0) := hR.cell 1
    have f_1 := hR.free 1
    have r2 : w9.cell? ⟨w.heap.size + 1, 2, none⟩ = some (.int .i64 0) := hR.cell 2
    have f_2 := hR.free 2
    have r3 : w9.cell? ⟨w.heap.size + 1, 3, none⟩ = some (.int .i64 0) := hR.cell 3
    have f_3 := hR.free 3
    have lt_x := hR.lt
    have HX := Lib.hid hR
    clear hR
    go_wp2_with fail
    have hX := HX.out
    clear n_0 n_1 n_2 n_3 nf_0 nf_1 nf_2 nf_3 lt_n_
    clear r0 r1 r2 r3
    have hF : Blok ((((w9.setCell ⟨(w.heap.size + 1), 0, none⟩ (.slice A5 nl c5)).setCell ⟨(w.heap.size + 1), 1, none⟩ (.slice A7 nr c7)).setCell ⟨(w.heap.size + 1), 2, none⟩ (.int .i64 now)).setCell ⟨(w.heap.size + 1), 3, none⟩ (.int .i64 nv)) (w.heap.size + 1) 25 #[.slice A5 nl c5, .slice A7 nr c7, .int .i64 now, .int .i64 nv] := by have h := ((((hX.set_ 0 (.slice A5 nl c5)).set_ 1 (.slice A7 nr c7)).set_ 2 (.int .i64 now)).set_ 3 (.int .i64 nv)); simpa using h
    have hle0 : w.heap.size ≤ (w.heap.size + 1) := by first | exact Nat.le_refl _ | omega
    have hWf : Below w.heap.size w ((((w9.setCell ⟨(w.heap.size + 1), 0, none⟩ (.slice A5 nl c5)).setCell ⟨(w.heap.size + 1), 1, none⟩ (.slice A7 nr c7)).setCell ⟨(w.heap.size + 1), 2, none⟩ (.int .i64 now)).setCell ⟨(w.heap.size + 1), 3, none⟩ (.int .i64 nv)) := ((((hB.setCell (p := ⟨(w.heap.size + 1), 0, none⟩) hle0 (.slice A5 nl c5)).setCell (p := ⟨(w.heap.size + 1), 1, none⟩) hle0 (.slice A7 nr c7)).setCell (p := ⟨(w.heap.size + 1), 2, none⟩) hle0 (.int .i64 now)).setCell (p := ⟨(w.heap.size + 1), 3, none⟩) hle0 (.int .i64 nv))
    have hlF := hF.lt
    have hgw : w9.grownBy ((((w9.setCell ⟨(w.heap.size + 1), 0, none⟩ (.slice A5 nl c5)).setCell ⟨(w.heap.size + 1), 1, none⟩ (.slice A7 nr c7)).setCell ⟨(w.heap.size + 1), 2, none⟩ (.int .i64 now)).setCell ⟨(w.heap.size + 1), 3, none⟩ (.int .i64 nv)) (some (w.heap.size + 1)) := grown_trans (grown_trans (grown_trans (grown_set _ _ _) (grown_set _ _ _)) (grown_set _ _ _)) (grown_set _ _ _)
    generalize ((((w9.setCell ⟨(w.heap.size + 1), 0, none⟩ (.slice A5 nl c5)).setCell ⟨(w.heap.size + 1), 1, none⟩ (.slice A7 nr c7)).setCell ⟨(w.heap.size + 1), 2, none⟩ (.int .i64 now)).setCell ⟨(w.heap.size + 1), 3, none⟩ (.int .i64 nv)) = wf at *
    have r0 : wf.cell? ⟨(w.heap.size + 1), 0, none⟩ = some (.slice A5 nl c5) := hF.cell 0
    have r1 : wf.cell? ⟨(w.heap.size + 1), 1, none⟩ = some (.slice A7 nr c7) := hF.cell 1
    have r2 : wf.cell? ⟨(w.heap.size + 1), 2, none⟩ = some (.int .i64 now) := hF.cell 2
    have r3 : wf.cell? ⟨(w.heap.size + 1), 3, none⟩ = some (.int .i64 nv) := hF.cell 3
    refine bodyPost_ret (v := .tuple #[.agg #[.slice A5 nl c5, .slice A7 nr c7, .int .i64 now, .int .i64 nv], .slice A6 ng c6, .int .i64 0]) (by simp [results, Tryz.results25, go_sem, r0, r1, r2, r3, hlF]) rfl ?_
    have h1f := own_far hv hgw (fun g hg => by injection hg with hg; omega)
    have h2f := own_far hu hgw (fun g hg => by injection hg with hg; omega)
    have h3f := own_far hv7 hgw (fun g hg => by injection hg with hg; omega)
    have hle1 := HNL.out
    have hle2 := HNR.out
    exact ⟨A5, nl, c5, A7, nr, c7, A6, ng, c6, by rw [E1.out, E2.out], by rw [E1.out]; exact ⟨hle1, hle2, by omega, by omega, own_down h1f (by omega), own_down h3f (by omega)⟩, by rw [E3.out, sortI_length]; exact HNG.out, by rw [E3.out]; exact Sl.of_own h2f, hWf⟩
  · have g2 : decide (now > p.clk) = false := decide_eq_false hgt
    obtain rfl : p.ver = nv := by rw [← hnv, if_pos (by have := HGE.out; omega)]
    clear hnv hgt
    have n_0 : w2.cell? ⟨bN, 0, none⟩ = some (.slice A2 n1 c2) := hN.cell 0
    have nf_0 := hN.free 0
    have n_1 : w2.cell? ⟨bN, 1, none⟩ = some (.slice A3 n c3) := hN.cell 1
    have nf_1 := hN.free 1
    have n_2 : w2.cell? ⟨bN, 2, none⟩ = some (.int .i64 p.clk) := hN.cell 2
    have nf_2 := hN.free 2
    have n_3 : w2.cell? ⟨bN, 3, none⟩ = some (.int .i64 p.ver) := hN.cell 3
    have nf_3 := hN.free 3
    have lt_n_ := hN.lt
    go_wp2_with fail
    clear n_0 n_1 n_2 n_3 nf_0 nf_1 nf_2 nf_3 lt_n_
    refine (Kc.expire_any A2 n1 c2 p.cs now w2 HL1.out (by omega) (Sl.of_own ho1)).mono ?_
    rintro e w5 ⟨v, u, rfl, hv, hu, hb⟩
    have hbl2 : bN < w2.heap.size := hN.lt
    have hW0 : w.heap.size + 1 < w2.heap.size := hR.lt
    replace hP := hP.below hb hP.lt
    replace hR := hR.below hb hR.lt
    replace hN := hN.below hb hN.lt
    replace ho2 := own_below ho2 hb
    replace hB := hB.trans (hb.mono hs)
    replace hs := hB.size
    clear hb
    obtain ⟨nl, hnl1⟩ : ∃ x, (Kc.leftC p.cs now).length = x := ⟨_, rfl⟩
    rw [hnl1] at hv
    have hnle : nl ≤ n1 := by rw [← hnl1, ← HL1.out]; unfold Kc.leftC; exact List.length_filter_le _ _
    have HNL := Lib.hid hnl1
    obtain ⟨A5, c5, rfl⟩ := slice_of_own hv
    obtain ⟨ng, hng⟩ : ∃ x, (Kc.goneL p.cs now).length = x := ⟨_, rfl⟩
    rw [hng] at hu
    have HNG := Lib.hid hng
    obtain ⟨A6, c6, rfl⟩ := slice_of_own hu
    clear hnl1 hng ho1
    have n_0 : w5.cell? ⟨bN, 0, none⟩ = some (.slice A2 n1 c2) := hN.cell 0
    have nf_0 := hN.free 0
    have n_1 : w5.cell? ⟨bN, 1, none⟩ = some (.slice A3 n c3) := hN.cell 1
    have nf_1 := hN.free 1
    have n_2 : w5.cell? ⟨bN, 2, none⟩ = some (.int .i64 p.clk) := hN.cell 2
    have nf_2 := hN.free 2
    have n_3 : w5.cell? ⟨bN, 3, none⟩ = some (.int .i64 p.ver) := hN.cell 3
    have nf_3 := hN.free 3
    have lt_n_ := hN.lt
    go_upto_region 8 with fail
    clear n_0 n_1 n_2 n_3 nf_0 nf_1 nf_2 nf_3 lt_n_
    replace hN := hN.set_ 0 (.slice A5 nl c5)
    replace hP := hP.far (p := ⟨bN, 0, none⟩) (by show w.heap.size ≠ bN; omega) (.slice A5 nl c5)
    replace hR := hR.far (p := ⟨bN, 0, none⟩) (by show w.heap.size + 1 ≠ bN; omega) (.slice A5 nl c5)
    replace hv := own_far hv (grown_set (g := bN) (w5) 0 (.slice A5 nl c5)) (fun g hg => by injection hg with hg; omega)
    replace hu := own_far hu (grown_set (g := bN) (w5) 0 (.slice A5 nl c5)) (fun g hg => by injection hg with hg; omega)
    replace ho2 := own_other ho2 (grown_set (g := bN) (w5) 0 (.slice A5 nl c5)) (fun g hg => Nat.ne_of_lt (hgb2 g hg))
    replace hB := hB.setCell (p := ⟨bN, 0, none⟩) (by show w.heap.size ≤ bN; omega) (.slice A5 nl c5)
    replace hs := hB.size
    generalize (w5).setCell ⟨bN, 0, none⟩ (.slice A5 nl c5) = w6 at *
    have n_0 : w6.cell? ⟨bN, 0, none⟩ = some (.slice A5 nl c5) := hN.cell 0
    have nf_0 := hN.free 0
    have n_1 : w6.cell? ⟨bN, 1, none⟩ = some (.slice A3 n c3) := hN.cell 1
    have nf_1 := hN.free 1
    have n_2 : w6.cell? ⟨bN, 2, none⟩ = some (.int .i64 p.clk) := hN.cell 2
    have nf_2 := hN.free 2
    have n_3 : w6.cell? ⟨bN, 3, none⟩ = some (.int .i64 p.ver) := hN.cell 3
    have nf_3 := hN.free 3
    have lt_n_ := hN.lt
    go_wp2_with fail
    clear n_0 n_1 n_2 n_3 nf_0 nf_1 nf_2 nf_3 lt_n_
    refine (Kr.expire_any A3 n c3 p.rs now w6 HL2.out (by omega) (Sl.of_own ho2)).mono ?_
    rintro e w7 ⟨v7, rfl, hv7, hb⟩
    have hbl3 : bN < w6.heap.size := hN.lt
    have hW6 : w.heap.size + 1 < w6.heap.size := hR.lt
    replace hP := hP.below hb hP.lt
    replace hR := hR.below hb hR.lt
    replace hN := hN.below hb hN.lt
    replace hv := own_below hv hb
    replace hu := own_below hu hb
    replace hB := hB.trans (hb.mono hs)
    replace hs := hB.size
    clear hb
    obtain ⟨nr, hnr1⟩ : ∃ x, (p.rs.filter (fun x => !decide (x.en ≤ now))).length = x := ⟨_, rfl⟩
    rw [hnr1] at hv7
    have hnre : nr ≤ n := by rw [← hnr1, ← HL2.out]; exact List.length_filter_le _ _
    have HNR := Lib.hid hnr1
    obtain ⟨A7, c7, rfl⟩ := slice_of_own hv7
    clear hnr1 ho2
    have n_0 : w7.cell? ⟨bN, 0, none⟩ = some (.slice A5 nl c5) := hN.cell 0
    have nf_0 := hN.free 0
    have n_1 : w7.cell? ⟨bN, 1, none⟩ = some (.slice A3 n c3) := hN.cell 1
    have nf_1 := hN.free 1
    have n_2 : w7.cell? ⟨bN, 2, none⟩ = some (.int .i64 p.clk) := hN.cell 2
    have nf_2 := hN.free 2
    have n_3 : w7.cell? ⟨bN, 3, none⟩ = some (.int .i64 p.ver) := hN.cell 3
    have nf_3 := hN.free 3
    have lt_n_ := hN.lt
    go_upto_region 9 with fail
    clear n_0 n_1 n_2 n_3 nf_0 nf_1 nf_2 nf_3 lt_n_
    replace hN := hN.set_ 1 (.slice A7 nr c7)
    replace hP := hP.far (p := ⟨bN, 1, none⟩) (by show w.heap.size ≠ bN; omega) (.slice A7 nr c7)
    replace hR := hR.far (p := ⟨bN, 1, none⟩) (by show w.heap.size + 1 ≠ bN; omega) (.slice A7 nr c7)
    replace hv := own_far hv (grown_set (g := bN) (w7) 1 (.slice A7 nr c7)) (fun g hg => by injection hg with hg; omega)
    replace hu := own_far hu (grown_set (g := bN) (w7) 1 (.slice A7 nr c7)) (fun g hg => by injection hg with hg; omega)
    replace hv7 := own_far hv7 (grown_set (g := bN) (w7) 1 (.slice A7 nr c7)) (fun g hg => by injection hg with hg; omega)
    replace hB := hB.setCell (p := ⟨bN, 1, none⟩) (by show w.heap.size ≤ bN; omega) (.slice A7 nr c7)
    replace hs := hB.size
    generalize (w7).setCell ⟨bN, 1, none⟩ (.slice A7 nr c7) = w8 at *
    have n_0 : w8.cell? ⟨bN, 0, none⟩ = some (.slice A5 nl c5) := hN.cell 0
    have nf_0 := hN.free 0
    have n_1 : w8.cell? ⟨bN, 1, none⟩ = some (.slice A7 nr c7) := hN.cell 1
    have nf_1 := hN.free 1
    have n_2 : w8.cell? ⟨bN, 2, none⟩ = some (.int .i64 p.clk) := hN.cell 2
    have nf_2 := hN.free 2
    have n_3 : w8.cell? ⟨bN, 3, none⟩ = some (.int .i64 p.ver) := hN.cell 3
    have nf_3 := hN.free 3
    have lt_n_ := hN.lt
    go_upto_region 10 with fail
    clear n_0 n_1 n_2 n_3 nf_0 nf_1 nf_2 nf_3 lt_n_
    replace hN := hN.set_ 2 (.int .i64 now)
    replace hP := hP.far (p := ⟨bN, 2, none⟩) (by show w.heap.size ≠ bN; omega) (.int .i64 now)
    replace hR := hR.far (p := ⟨bN, 2, none⟩) (by show w.heap.size + 1 ≠ bN; omega) (.int .i64 now)
    replace hv := own_far hv (grown_set (g := bN) (w8) 2 (.int .i64 now)) (fun g hg => by injection hg with hg; omega)
    replace hu := own_far hu (grown_set (g := bN) (w8) 2 (.int .i64 now)) (fun g hg => by injection hg with hg; omega)
    replace hv7 := own_far hv7 (grown_set (g := bN) (w8) 2 (.int .i64 now)) (fun g hg => by injection hg with hg; omega)
    replace hB := hB.setCell (p := ⟨bN, 2, none⟩) (by show w.heap.size ≤ bN; omega) (.int .i64 now)
    replace hs := hB.size
    generalize (w8).setCell ⟨bN, 2, none⟩ (.int .i64 now) = w9 at *
    have n_0 : w9.cell? ⟨bN, 0, none⟩ = some (.slice A5 nl c5) := hN.cell 0
    have nf_0 := hN.free 0
    have n_1 : w9.cell? ⟨bN, 1, none⟩ = some (.slice A7 nr c7) := hN.cell 1
    have nf_1 := hN.free 1
    have n_2 : w9.cell? ⟨bN, 2, none⟩ = some (.int .i64 now) := hN.cell 2
    have nf_2 := hN.free 2
    have n_3 : w9.cell? ⟨bN, 3, none⟩ = some (.int .i64 p.ver) := hN.cell 3
    have nf_3 := hN.free 3
    have lt_n_ := hN.lt
    have r0 : w9.cell? ⟨w.heap.size + 1, 0, none⟩ = some (.slice none 0 0) := hR.cell 0
    have f_0 := hR.free 0
    have r1 : w9.cell? ⟨w.heap.size + 1, 1, none⟩ = some (.slice none 0 0) := hR.cell 1
    have f_1 := hR.free 1
    have r2 : w9.cell? ⟨w.heap.size + 1, 2, none⟩ = some (.int .i64 0) := hR.cell 2
    have f_2 := hR.free 2
    have r3 : w9.cell? ⟨w.heap.size + 1, 3, none⟩ = some (.int .i64 0) := hR.cell 3
    have f_3 := hR.free 3
    have lt_x := hR.lt
    have HX := Lib.hid hR
    clear hR
    go_wp2_with fail
    have hX := HX.out
    clear n_0 n_1 n_2 n_3 nf_0 nf_1 nf_2 nf_3 lt_n_
    clear r0 r1 r2 r3
    have hF : Blok ((((w9.setCell ⟨(w.heap.size + 1), 0, none⟩ (.slice A5 nl c5)).setCell ⟨(w.heap.size + 1), 1, none⟩ (.slice A7 nr c7)).setCell ⟨(w.heap.size + 1), 2, none⟩ (.int .i64 now)).setCell ⟨(w.heap.size + 1), 3, none⟩ (.int .i64 p.ver)) (w.heap.size + 1) 25 #[.slice A5 nl c5, .slice A7 nr c7, .int .i64 now, .int .i64 p.ver] := by have h := ((((hX.set_ 0 (.slice A5 nl c5)).set_ 1 (.slice A7 nr c7)).set_ 2 (.int .i64 now)).set_ 3 (.int .i64 p.ver)); simpa using h
    have hle0 : w.heap.size ≤ (w.heap.size + 1) := by first | exact Nat.le_refl _ | omega
    have hWf : Below w.heap.size w ((((w9.setCell ⟨(w.heap.size + 1), 0, none⟩ (.slice A5 nl c5)).setCell ⟨(w.heap.size + 1), 1, none⟩ (.slice A7 nr c7)).setCell ⟨(w.heap.size + 1), 2, none⟩ (.int .i64 now)).setCell ⟨(w.heap.size + 1), 3, none⟩ (.int .i64 p.ver)) := ((((hB.setCell (p := ⟨(w.heap.size + 1), 0, none⟩) hle0 (.slice A5 nl c5)).setCell (p := ⟨(w.heap.size + 1), 1, none⟩) hle0 (.slice A7 nr c7)).setCell (p := ⟨(w.heap.size + 1), 2, none⟩) hle0 (.int .i64 now)).setCell (p := ⟨(w.heap.size + 1), 3, none⟩) hle0 (.int .i64 p.ver))
    have hlF := hF.lt
    have hgw : w9.grownBy ((((w9.setCell ⟨(w.heap.size + 1), 0, none⟩ (.slice A5 nl c5)).setCell ⟨(w.heap.size + 1), 1, none⟩ (.slice A7 nr c7)).setCell ⟨(w.heap.size + 1), 2, none⟩ (.int .i64 now)).setCell ⟨(w.heap.size + 1), 3, none⟩ (.int .i64 p.ver)) (some (w.heap.size + 1)) := grown_trans (grown_trans (grown_trans (grown_set _ _ _) (grown_set _ _ _)) (grown_set _ _ _)) (grown_set _ _ _)
    generalize ((((w9.setCell ⟨(w.heap.size + 1), 0, none⟩ (.slice A5 nl c5)).setCell ⟨(w.heap.size + 1), 1, none⟩ (.slice A7 nr c7)).setCell ⟨(w.heap.size + 1), 2, none⟩ (.int .i64 now)).setCell ⟨(w.heap.size + 1), 3, none⟩ (.int .i64 p.ver)) = wf at *
    have r0 : wf.cell? ⟨(w.heap.size + 1), 0, none⟩ = some (.slice A5 nl c5) := hF.cell 0
    have r1 : wf.cell? ⟨(w.heap.size + 1), 1, none⟩ = some (.slice A7 nr c7) := hF.cell 1
    have r2 : wf.cell? ⟨(w.heap.size + 1), 2, none⟩ = some (.int .i64 now) := hF.cell 2
    have r3 : wf.cell? ⟨(w.heap.size + 1), 3, none⟩ = some (.int .i64 p.ver) := hF.cell 3
    refine bodyPost_ret (v := .tuple #[.agg #[.slice A5 nl c5, .slice A7 nr c7, .int .i64 now, .int .i64 p.ver], .slice A6 ng c6, .int .i64 0]) (by simp [results, Tryz.results25, go_sem, r0, r1, r2, r3, hlF]) rfl ?_
    have h1f := own_far hv hgw (fun g hg => by injection hg with hg; omega)
    have h2f := own_far hu hgw (fun g hg => by injection hg with hg; omega)
    have h3f := own_far hv7 hgw (fun g hg => by injection hg with hg; omega)
    have hle1 := HNL.out
    have hle2 := HNR.out
    exact ⟨A5, nl, c5, A7, nr, c7, A6, ng, c6, by rw [E1.out, E2.out], by rw [E1.out]; exact ⟨hle1, hle2, by omega, by omega, own_down h1f (by omega), own_down h3f (by omega)⟩, by rw [E3.out, sortI_length]; exact HNG.out, by rw [E3.out]; exact Sl.of_own h2f, hWf⟩
end Go.Proofs.YtolaabllhibkdaaGreat

/- Contract of plan.All. It makes new memory alone. -/
namespace Go.Proofs.YtolaabllhibkdaaGreat
open Go.ChangeShapes Go.WideShapes Go.ChangeAt Go.RowKit Go.Sort
set_option linter.unusedSimpArgs false
set_option linter.unusedVariables false
def runP (p : Pl) (ds : List Dr) : Pl := ds.foldl stepP p
/-- The code, and how many are done ahead of it. -/
def allQ : Pl → List Dr → Int × Nat
  | _, [] => (0, 0)
  | p, d :: ds => if stepQ p d = 0 then ((allQ (stepP p d) ds).1, (allQ (stepP p d) ds).2 + 1) else (stepQ p d, 0)
def allP (p : Pl) (ds : List Dr) : Pl := if (allQ p ds).1 = 0 then runP p ds else p
theorem take_snocDr {l : List Dr} {i : Nat} (h : i < l.length) : l.take (i + 1) = l.take i ++ [gDr l i] := by
  rw [List.take_succ_eq_append_getElem h, gDr_eq h]
theorem runP_next {p : Pl} {ds : List Dr} {k : Nat} (h : k < ds.length) : runP p (ds.take (k + 1)) = stepP (runP p (ds.take k)) (gDr ds k) := by
  unfold runP
  rw [take_snocDr h, List.foldl_append]
  rfl
theorem allQ_all : ∀ {ds : List Dr} {p : Pl}, (∀ j, j < ds.length → stepQ (runP p (ds.take j)) (gDr ds j) = 0) → allQ p ds = (0, ds.length)
  | [], _, _ => rfl
  | d :: ds, p, h => by
    have h0 : stepQ p d = 0 := h 0 (by simp)
    have h1 := allQ_all (ds := ds) (p := stepP p d) (fun j hj => h (j + 1) (by simp; omega))
    unfold allQ
    rw [if_pos h0, h1]
    rfl
theorem allQ_stop : ∀ {k : Nat} {ds : List Dr} {p : Pl} {q : Int}, k < ds.length → (∀ j, j < k → stepQ (runP p (ds.take j)) (gDr ds j) = 0) → stepQ (runP p (ds.take k)) (gDr ds k) = q → q ≠ 0 → allQ p ds = (q, k)
  | _, [], _, _, hk, _, _, _ => by simp at hk
  | 0, d :: ds, p, q, _, _, hq, hn => by
    have h0 : stepQ p d = q := hq
    unfold allQ
    rw [if_neg (by rw [h0]; exact hn), h0]
  | k + 1, d :: ds, p, q, hk, h, hq, hn => by
    have h0 : stepQ p d = 0 := h 0 (by omega)
    have h1 := allQ_stop (k := k) (ds := ds) (p := stepP p d) (q := q) (by simpa using hk) (fun j hj => h (j + 1) (by omega)) hq hn
    unfold allQ
    rw [if_pos h0, h1]
theorem runP_right {p : Pl} (hr : p.right = true) : ∀ ds : List Dr, (runP p ds).right = true := by
  intro ds
  unfold runP
  induction ds generalizing p with
  | nil => exact hr
  | cons d ds ih => exact ih (stepP_right hr)
theorem Sl.kept1 {w w' : World} {K : Nat} {A : Option Addr} {n c g : Nat} {xs : List Value} (h : Sl w w.heap.size K A n c xs) (hg : w.grownBy w' (some g)) (hb : ∀ ad, A = some ad → 0 < n → ad.block ≠ g) : Sl w' w'.heap.size K A n c xs := by
  refine ⟨?_, h.cap, h.max, h.nil⟩
  refine ⟨h.lst.1, fun hn => ?_⟩
  obtain ⟨ad, e, hlt, hc⟩ := h.lst.2 hn
  refine ⟨ad, e, Nat.lt_of_lt_of_le hlt hg.size, fun j u hj => ?_⟩
  rw [World.cell?_of_block (w := w) (hg.block _ (by rw [add_block]; exact hlt) (by rw [add_block]; exact fun e2 => hb ad e hn (by injection e2)))]
  exact hc j u hj
theorem PlAt.kept1 {w w' : World} {g : Nat} {A1 : Option Addr} {n1 c1 : Nat} {A : Option Addr} {n c : Nat} {p : Pl} (h : PlAt w A1 n1 c1 A n c p) (hg : w.grownBy w' (some g)) (ha : Apart g A1 n1 A n) : PlAt w' A1 n1 c1 A n c p := ⟨h.l1, h.l, h.b1, h.b, h.s1.kept1 hg ha.1, h.s.kept1 hg ha.2⟩
theorem PlAt.apart {w : World} {b : Nat} {A1 : Option Addr} {n1 c1 : Nat} {A : Option Addr} {n c : Nat} {p : Pl} (h : PlAt w A1 n1 c1 A n c p) (hb : w.heap.size ≤ b) : Apart b A1 n1 A n := by
  refine ⟨fun ad e hn e2 => ?_, fun ad e hn e2 => ?_⟩
  · obtain ⟨ad', e', hlt, _⟩ := h.s1.lst.2 hn
    rw [e] at e'; injection e' with e'; subst e'; omega
  · obtain ⟨ad', e', hlt, _⟩ := h.s.lst.2 hn
    rw [e] at e'; injection e' with e'; subst e'; omega
def AllRet (p : Pl) (ds : List Dr) (w : World) (e : Ending) (w' : World) : Prop :=
  ∃ A2 n2 c2 A3 n3 c3, e = .returned (.tuple #[.agg #[.slice A2 n2 c2, .slice A3 n3 c3, .int .i64 (allP p ds).clk, .int .i64 (allP p ds).ver], .int .i64 ((allQ p ds).2 : Nat), .int .i64 (allQ p ds).1]) ∧ PlOwn w' w.heap.size A2 n2 c2 A3 n3 c3 (allP p ds) ∧ Below w.heap.size w w'
set_option maxHeartbeats 16000000 in
set_option maxRecDepth 100000 in
theorem pall_any (A1 : Option Addr) (n1 c1 : Nat) (A : Option Addr) (n c : Nat) (p : Pl) (Ad : Option Addr) (nd cd : Nat) (ds : List Dr) (w : World) (hd : ds.length = nd) (hnd : nd ≤ 1000000) (hwf : ∀ j, j < nd → (Lit.int .i64 (gDr ds j).op).wf = true ∧ (Lit.int .i64 (gDr ds j).kd).wf = true) (h : PlAt w A1 n1 c1 A n c p) (hl : Sl w w.heap.size 13 Ad nd cd (flatDr ds)) (hr : p.right = true) :
    Calls Tryz.prog 17 #[.agg #[.slice A1 n1 c1, .slice A n c, .int .i64 p.clk, .int .i64 p.ver], .slice Ad nd cd] w (AllRet p ds w) := by
  have hB : Below w.heap.size w ((w.alloc (.cells #[.slice A1 n1 c1, .slice A n c, .int .i64 p.clk, .int .i64 p.ver] 25)).alloc (.cells #[.slice none 0 0, .slice none 0 0, .int .i64 0, .int .i64 0] 25)) := by (repeat (first | exact Below.refl _ _ | refine Below.alloc ?_ (by first | omega | (simp; done) | (simp; omega)) _ | refine Below.setCell ?_ (by first | omega | (simp; done) | (simp; omega)) _ | refine Below.drew ?_))
  have hP := (Blok.new w 25 #[.slice A1 n1 c1, .slice A n c, .int .i64 p.clk, .int .i64 p.ver]).alloc (.cells #[.slice none 0 0, .slice none 0 0, .int .i64 0, .int .i64 0] 25)
  have hR := Blok.new (w.alloc (.cells #[.slice A1 n1 c1, .slice A n c, .int .i64 p.clk, .int .i64 p.ver] 25)) 25 #[.slice none 0 0, .slice none 0 0, .int .i64 0, .int .i64 0]
  simp only [World.size_alloc] at hR
  have H0 := Lib.hid h
  have HL0 := Lib.hid hl
  have HD := Lib.hid hd
  have HWF := Lib.hid hwf
  have HRT := Lib.hid hr
  have hs := hB.size
  clear hd hwf hl h hr
  go_enter Tryz.func17, Tryz.ntmps17
  go_upto_region 1 with fail
  generalize (w.alloc (.cells #[.slice A1 n1 c1, .slice A n c, .int .i64 p.clk, .int .i64 p.ver] 25)).alloc (.cells #[.slice none 0 0, .slice none 0 0, .int .i64 0, .int .i64 0] 25) = w0 at *
  have p0 : w0.cell? ⟨w.heap.size, 0, none⟩ = some (.slice A1 n1 c1) := hP.cell 0
  have p1 : w0.cell? ⟨w.heap.size, 1, none⟩ = some (.slice A n c) := hP.cell 1
  have p2 : w0.cell? ⟨w.heap.size, 2, none⟩ = some (.int .i64 p.clk) := hP.cell 2
  have p3 : w0.cell? ⟨w.heap.size, 3, none⟩ = some (.int .i64 p.ver) := hP.cell 3
  have lt_p := hP.lt
  go_upto_region 2 with fail
  clear p0 p1 p2 p3 lt_p
  have hN := Blok.new w0 25 #[.slice A1 n1 c1, .slice A n c, .int .i64 p.clk, .int .i64 p.ver]
  have hb : Below w0.heap.size w0 (w0.alloc (.cells #[.slice A1 n1 c1, .slice A n c, .int .i64 p.clk, .int .i64 p.ver] 25)) := by (repeat (first | exact Below.refl _ _ | refine Below.alloc ?_ (by first | omega | (simp; done) | (simp; omega)) _ | refine Below.setCell ?_ (by first | omega | (simp; done) | (simp; omega)) _ | refine Below.drew ?_))
  have hnl : w.heap.size + 1 < w0.heap.size := hR.lt
  replace hP := hP.below hb hP.lt
  replace hR := hR.below hb hR.lt
  replace hB := hB.trans (hb.mono hs)
  replace hs := hB.size
  clear hb
  generalize w0.alloc (.cells #[.slice A1 n1 c1, .slice A n c, .int .i64 p.clk, .int .i64 p.ver] 25) = w1 at *
  generalize w0.heap.size = bN at *
  have hbNw : w.heap.size ≤ bN := by omega
  have HP := Lib.hid hP
  have HR := Lib.hid hR
  have HN := Lib.hid hN
  have HB := Lib.hid hB
  clear hP hR hN hB hs
  go_wp2_with fail
  go_loopw [14] (fun iv wr => ∃ (k : Nat) (A2 : Option Addr) (n2 c2 : Nat) (A3 : Option Addr) (n3 c3 : Nat), iv = .int .i64 k ∧ k ≤ nd ∧ Hid (∀ j, j < k → stepQ (runP p (ds.take j)) (gDr ds j) = 0) ∧ Hid (PlAt wr A2 n2 c2 A3 n3 c3 (runP p (ds.take k))) ∧ Hid (Apart bN A2 n2 A3 n3) ∧ Below w.heap.size w wr ∧ Hid (Blok wr w.heap.size 25 #[.slice A1 n1 c1, .slice A n c, .int .i64 p.clk, .int .i64 p.ver]) ∧ Hid (Blok wr (w.heap.size + 1) 25 #[.slice none 0 0, .slice none 0 0, .int .i64 0, .int .i64 0]) ∧ Hid (Blok wr bN 25 #[.slice A2 n2 c2, .slice A3 n3 c3, .int .i64 (runP p (ds.take k)).clk, .int .i64 (runP p (ds.take k)).ver])) (fun iv _ => nd - (intOf iv).toNat)
  case atStart => exact ⟨0, A1, n1, c1, A, n, c, rfl, by omega, (fun j hj => by omega), H0.out.up HB.out, H0.out.apart hbNw, HB.out, HP.out, HR.out, HN.out⟩
  case round =>
    clear HP HR HN HB
    obtain ⟨k, A2, n2, c2, A3, n3, c3, rfl, hk, HQ, HPA, HAP, hB, HP, HR, HN⟩ := hrel
    have hs := hB.size
    have hP := HP.out
    have hR := HR.out
    have hN := HN.out
    have hPA := HPA.out
    clear HP HR HN HPA
    by_cases hkn : k < nd
    · have hl := HL0.out.up hB
      obtain ⟨ad, rfl, hab, c0, c1', c2', c3', c4, c5, c6, c7, c8, c9, c10, c11, c12⟩ := hl.lst.atDr HD.out hkn
      obtain ⟨d, hdd⟩ : ∃ d, gDr ds k = d := ⟨_, rfl⟩
      rw [hdd] at c0 c1' c2' c3' c4 c5 c6 c7 c8 c9 c10 c11 c12
      have HDD := Lib.hid hdd
      have hwd := HWF.out k hkn
      rw [hdd] at hwd
      have hnx := runP_next (p := p) (ds := ds) (k := k) (by rw [HD.out]; exact hkn)
      rw [hdd] at hnx
      have HNX := Lib.hid hnx
      have hrr := runP_right HRT.out (ds.take k)
      obtain ⟨pk, hpk⟩ : ∃ x, runP p (ds.take k) = x := ⟨_, rfl⟩
      rw [hpk] at hN hPA hrr
      have HPK := Lib.hid hpk
      clear hdd hnx hpk
      go_upto_region 5 with fail
      have hD := Blok.new wr 37 #[.int .i64 d.op, .int .i64 d.kd, .int .i64 d.id, .int .i64 d.fr, .int .i64 d.tn, .int .i64 d.st, .int .i64 d.en, .int .i64 d.rt, .int .i64 d.rf, .int .i64 d.rn, .int .i64 d.rs, .int .i64 d.re, .int .i64 d.ro]
      have hb : Below wr.heap.size wr (wr.alloc (.cells #[.int .i64 d.op, .int .i64 d.kd, .int .i64 d.id, .int .i64 d.fr, .int .i64 d.tn, .int .i64 d.st, .int .i64 d.en, .int .i64 d.rt, .int .i64 d.rf, .int .i64 d.rn, .int .i64 d.rs, .int .i64 d.re, .int .i64 d.ro] 37)) := by (repeat (first | exact Below.refl _ _ | refine Below.alloc ?_ (by first | omega | (simp; done) | (simp; omega)) _ | refine Below.setCell ?_ (by first | omega | (simp; done) | (simp; omega)) _ | refine Below.drew ?_))
      clear c0 c1' c2' c3' c4 c5 c6 c7 c8 c9 c10 c11 c12 hl
      replace hPA := hPA.up hb
      replace hP := hP.below hb hP.lt
      replace hR := hR.below hb hR.lt
      replace hN := hN.below hb hN.lt
      replace hB := hB.trans (hb.mono hs)
      replace hs := hB.size
      clear hb
      generalize wr.alloc (.cells #[.int .i64 d.op, .int .i64 d.kd, .int .i64 d.id, .int .i64 d.fr, .int .i64 d.tn, .int .i64 d.st, .int .i64 d.en, .int .i64 d.rt, .int .i64 d.rf, .int .i64 d.rn, .int .i64 d.rs, .int .i64 d.re, .int .i64 d.ro] 37) = w2 at *
      generalize wr.heap.size = bD at *
      have y0 : w2.cell? ⟨bD, 0, none⟩ = some (.int .i64 d.op) := hD.cell 0
      have y1 : w2.cell? ⟨bD, 1, none⟩ = some (.int .i64 d.kd) := hD.cell 1
      have y2 : w2.cell? ⟨bD, 2, none⟩ = some (.int .i64 d.id) := hD.cell 2
      have y3 : w2.cell? ⟨bD, 3, none⟩ = some (.int .i64 d.fr) := hD.cell 3
      have y4 : w2.cell? ⟨bD, 4, none⟩ = some (.int .i64 d.tn) := hD.cell 4
      have y5 : w2.cell? ⟨bD, 5, none⟩ = some (.int .i64 d.st) := hD.cell 5
      have y6 : w2.cell? ⟨bD, 6, none⟩ = some (.int .i64 d.en) := hD.cell 6
      have y7 : w2.cell? ⟨bD, 7, none⟩ = some (.int .i64 d.rt) := hD.cell 7
      have y8 : w2.cell? ⟨bD, 8, none⟩ = some (.int .i64 d.rf) := hD.cell 8
      have y9 : w2.cell? ⟨bD, 9, none⟩ = some (.int .i64 d.rn) := hD.cell 9
      have y10 : w2.cell? ⟨bD, 10, none⟩ = some (.int .i64 d.rs) := hD.cell 10
      have y11 : w2.cell? ⟨bD, 11, none⟩ = some (.int .i64 d.re) := hD.cell 11
      have y12 : w2.cell? ⟨bD, 12, none⟩ = some (.int .i64 d.ro) := hD.cell 12
      have lt_y := hD.lt
      have n_0 : w2.cell? ⟨bN, 0, none⟩ = some (.slice A2 n2 c2) := hN.cell 0
      have nf_0 := hN.free 0
      have n_1 : w2.cell? ⟨bN, 1, none⟩ = some (.slice A3 n3 c3) := hN.cell 1
      have nf_1 := hN.free 1
      have n_2 : w2.cell? ⟨bN, 2, none⟩ = some (.int .i64 pk.clk) := hN.cell 2
      have nf_2 := hN.free 2
      have n_3 : w2.cell? ⟨bN, 3, none⟩ = some (.int .i64 pk.ver) := hN.cell 3
      have nf_3 := hN.free 3
      have lt_n_ := hN.lt
      have HPA := Lib.hid hPA
      clear hPA
      go_wp2_with fail
      clear y0 y1 y2 y3 y4 y5 y6 y7 y8 y9 y10 y11 y12 lt_y
      clear n_0 n_1 n_2 n_3 nf_0 nf_1 nf_2 nf_3 lt_n_
      refine (pstep_any A2 n2 c2 A3 n3 c3 pk d w2 hwd.1 hwd.2 HPA.out hrr).mono ?_
      rintro e w3 ⟨A4, n4, c4, A5, n5, c5, rfl, h4, hb, hapf, _⟩
      have hbn2 : bN < w2.heap.size := hN.lt
      clear HPA hD
      replace hP := hP.below hb hP.lt
      replace hR := hR.below hb hR.lt
      replace hN := hN.below hb hN.lt
      replace hB := hB.trans (hb.mono hs)
      replace hs := hB.size
      clear hb
      obtain ⟨q, hq⟩ : ∃ x, stepQ pk d = x := ⟨_, rfl⟩
      obtain ⟨pp, hpp⟩ : ∃ x, stepP pk d = x := ⟨_, rfl⟩
      rw [hpp] at h4
      rw [hq, hpp]
      have HSQ := Lib.hid hq
      have HSP := Lib.hid hpp
      have H4 := Lib.hid h4
      clear hq hpp h4
      have n_0 : w3.cell? ⟨bN, 0, none⟩ = some (.slice A2 n2 c2) := hN.cell 0
      have nf_0 := hN.free 0
      have n_1 : w3.cell? ⟨bN, 1, none⟩ = some (.slice A3 n3 c3) := hN.cell 1
      have nf_1 := hN.free 1
      have n_2 : w3.cell? ⟨bN, 2, none⟩ = some (.int .i64 pk.clk) := hN.cell 2
      have nf_2 := hN.free 2
      have n_3 : w3.cell? ⟨bN, 3, none⟩ = some (.int .i64 pk.ver) := hN.cell 3
      have nf_3 := hN.free 3
      have lt_n_ := hN.lt
      go_upto_region 7 with fail
      clear n_0 n_1 n_2 n_3 nf_0 nf_1 nf_2 nf_3 lt_n_
      have hgf : w3.grownBy ((((w3.setCell ⟨bN, 0, none⟩ (.slice A4 n4 c4)).setCell ⟨bN, 1, none⟩ (.slice A5 n5 c5)).setCell ⟨bN, 2, none⟩ (.int .i64 pp.clk)).setCell ⟨bN, 3, none⟩ (.int .i64 pp.ver)) (some bN) := grown_trans (grown_trans (grown_trans (grown_set _ _ _) (grown_set _ _ _)) (grown_set _ _ _)) (grown_set _ _ _)
      have hap := Lib.hid (hapf bN hbn2 HAP.out)
      have h5 := Lib.hid (H4.out.kept1 hgf hap.out)
      clear hgf H4 hapf
      replace hN := hN.set_ 0 (.slice A4 n4 c4)
      replace hP := hP.far (p := ⟨bN, 0, none⟩) (by show w.heap.size ≠ bN; omega) (.slice A4 n4 c4)
      replace hR := hR.far (p := ⟨bN, 0, none⟩) (by show w.heap.size + 1 ≠ bN; omega) (.slice A4 n4 c4)
      replace hB := hB.setCell (p := ⟨bN, 0, none⟩) (by show w.heap.size ≤ bN; omega) (.slice A4 n4 c4)
      replace hN := hN.set_ 1 (.slice A5 n5 c5)
      replace hP := hP.far (p := ⟨bN, 1, none⟩) (by show w.heap.size ≠ bN; omega) (.slice A5 n5 c5)
      replace hR := hR.far (p := ⟨bN, 1, none⟩) (by show w.heap.size + 1 ≠ bN; omega) (.slice A5 n5 c5)
      replace hB := hB.setCell (p := ⟨bN, 1, none⟩) (by show w.heap.size ≤ bN; omega) (.slice A5 n5 c5)
      replace hN := hN.set_ 2 (.int .i64 pp.clk)
      replace hP := hP.far (p := ⟨bN, 2, none⟩) (by show w.heap.size ≠ bN; omega) (.int .i64 pp.clk)
      replace hR := hR.far (p := ⟨bN, 2, none⟩) (by show w.heap.size + 1 ≠ bN; omega) (.int .i64 pp.clk)
      replace hB := hB.setCell (p := ⟨bN, 2, none⟩) (by show w.heap.size ≤ bN; omega) (.int .i64 pp.clk)
      replace hN := hN.set_ 3 (.int .i64 pp.ver)
      replace hP := hP.far (p := ⟨bN, 3, none⟩) (by show w.heap.size ≠ bN; omega) (.int .i64 pp.ver)
      replace hR := hR.far (p := ⟨bN, 3, none⟩) (by show w.heap.size + 1 ≠ bN; omega) (.int .i64 pp.ver)
      replace hB := hB.setCell (p := ⟨bN, 3, none⟩) (by show w.heap.size ≤ bN; omega) (.int .i64 pp.ver)
      replace hs := hB.size
      generalize ((((w3).setCell ⟨bN, 0, none⟩ (.slice A4 n4 c4)).setCell ⟨bN, 1, none⟩ (.slice A5 n5 c5)).setCell ⟨bN, 2, none⟩ (.int .i64 pp.clk)).setCell ⟨bN, 3, none⟩ (.int .i64 pp.ver) = w4 at *
      have hN2 : Blok w4 bN 25 #[.slice A4 n4 c4, .slice A5 n5 c5, .int .i64 pp.clk, .int .i64 pp.ver] := by have h := hN; simpa using h
      clear hN
      by_cases hq0 : q = 0
      · subst hq0
        have g1 : ((0 : Int) != 0) = false := by simp
        have HST : Hid (∀ j, j < k + 1 → stepQ (runP p (ds.take j)) (gDr ds j) = 0) := by
          intro j hj
          by_cases hjk : j = k
          · subst hjk; rw [HPK.out, HDD.out]; exact HSQ.out
          · exact HQ.out j (by omega)
        have HRK : Hid (runP p (ds.take (k + 1)) = pp) := by
          show runP p (ds.take (k + 1)) = pp
          rw [HNX.out, HPK.out, HSP.out]
        have HN := Lib.hid hN2
        have HP := Lib.hid hP
        have HR := Lib.hid hR
        clear hN2 hP hR
        go_wp2_with fail
        go_roundw
        case rel => exact ⟨k + 1, A4, n4, c4, A5, n5, c5, by go_num, by omega, HST, by rw [HRK.out]; exact h5, hap, hB, HP, HR, by rw [HRK.out]; exact HN⟩
        case measure => simp [intOf]; omega
      · have g1 : (q != 0) = true := by simp [hq0]
        have haq : allQ p ds = (q, k) := allQ_stop (by rw [HD.out]; exact hkn) HQ.out (by rw [HPK.out, HDD.out]; exact HSQ.out) hq0
        have hap2 : allP p ds = p := by unfold allP; rw [haq]; exact if_neg hq0
        have HAQ := Lib.hid haq
        have HA2 := Lib.hid hap2
        have h0 := H0.out.up hB
        have hrl4 : w.heap.size + 1 < w4.heap.size := hR.lt
        clear haq hap2 h5 hN2 hq0
        have p0 : w4.cell? ⟨w.heap.size, 0, none⟩ = some (.slice A1 n1 c1) := hP.cell 0
        have p1 : w4.cell? ⟨w.heap.size, 1, none⟩ = some (.slice A n c) := hP.cell 1
        have p2 : w4.cell? ⟨w.heap.size, 2, none⟩ = some (.int .i64 p.clk) := hP.cell 2
        have p3 : w4.cell? ⟨w.heap.size, 3, none⟩ = some (.int .i64 p.ver) := hP.cell 3
        have lt_p := hP.lt
        go_wp2_with fail
        clear p0 p1 p2 p3 lt_p
        refine (pcopy_any A1 n1 c1 A n c p w4 h0).mono ?_
        rintro e w5 ⟨A6, c6, A7, c7, rfl, ho, hb⟩
        clear h0
        replace hP := hP.below hb hP.lt
        replace hR := hR.below hb hR.lt
        replace hB := hB.trans (hb.mono hs)
        replace hs := hB.size
        clear hb
        obtain ⟨hl1, hl2, hb1, hb2, ho1, ho2⟩ := ho
        have HL1 := Lib.hid hl1
        have HL2 := Lib.hid hl2
        clear hl1 hl2
        have r0 : w5.cell? ⟨w.heap.size + 1, 0, none⟩ = some (.slice none 0 0) := hR.cell 0
        have f_0 := hR.free 0
        have r1 : w5.cell? ⟨w.heap.size + 1, 1, none⟩ = some (.slice none 0 0) := hR.cell 1
        have f_1 := hR.free 1
        have r2 : w5.cell? ⟨w.heap.size + 1, 2, none⟩ = some (.int .i64 0) := hR.cell 2
        have f_2 := hR.free 2
        have r3 : w5.cell? ⟨w.heap.size + 1, 3, none⟩ = some (.int .i64 0) := hR.cell 3
        have f_3 := hR.free 3
        have lt_x := hR.lt
        have HX := Lib.hid hR
        clear hR
        go_wp2_with fail
        have hX := HX.out
        clear r0 r1 r2 r3
        have hF : Blok ((((w5.setCell ⟨(w.heap.size + 1), 0, none⟩ (.slice A6 n1 c6)).setCell ⟨(w.heap.size + 1), 1, none⟩ (.slice A7 n c7)).setCell ⟨(w.heap.size + 1), 2, none⟩ (.int .i64 p.clk)).setCell ⟨(w.heap.size + 1), 3, none⟩ (.int .i64 p.ver)) (w.heap.size + 1) 25 #[.slice A6 n1 c6, .slice A7 n c7, .int .i64 p.clk, .int .i64 p.ver] := by have h := ((((hX.set_ 0 (.slice A6 n1 c6)).set_ 1 (.slice A7 n c7)).set_ 2 (.int .i64 p.clk)).set_ 3 (.int .i64 p.ver)); simpa using h
        have hle0 : w.heap.size ≤ (w.heap.size + 1) := by first | exact Nat.le_refl _ | omega
        have hWf : Below w.heap.size w ((((w5.setCell ⟨(w.heap.size + 1), 0, none⟩ (.slice A6 n1 c6)).setCell ⟨(w.heap.size + 1), 1, none⟩ (.slice A7 n c7)).setCell ⟨(w.heap.size + 1), 2, none⟩ (.int .i64 p.clk)).setCell ⟨(w.heap.size + 1), 3, none⟩ (.int .i64 p.ver)) := ((((hB.setCell (p := ⟨(w.heap.size + 1), 0, none⟩) hle0 (.slice A6 n1 c6)).setCell (p := ⟨(w.heap.size + 1), 1, none⟩) hle0 (.slice A7 n c7)).setCell (p := ⟨(w.heap.size + 1), 2, none⟩) hle0 (.int .i64 p.clk)).setCell (p := ⟨(w.heap.size + 1), 3, none⟩) hle0 (.int .i64 p.ver))
        have hlF := hF.lt
        have hgw : w5.grownBy ((((w5.setCell ⟨(w.heap.size + 1), 0, none⟩ (.slice A6 n1 c6)).setCell ⟨(w.heap.size + 1), 1, none⟩ (.slice A7 n c7)).setCell ⟨(w.heap.size + 1), 2, none⟩ (.int .i64 p.clk)).setCell ⟨(w.heap.size + 1), 3, none⟩ (.int .i64 p.ver)) (some (w.heap.size + 1)) := grown_trans (grown_trans (grown_trans (grown_set _ _ _) (grown_set _ _ _)) (grown_set _ _ _)) (grown_set _ _ _)
        generalize ((((w5.setCell ⟨(w.heap.size + 1), 0, none⟩ (.slice A6 n1 c6)).setCell ⟨(w.heap.size + 1), 1, none⟩ (.slice A7 n c7)).setCell ⟨(w.heap.size + 1), 2, none⟩ (.int .i64 p.clk)).setCell ⟨(w.heap.size + 1), 3, none⟩ (.int .i64 p.ver)) = wf at *
        have r0 : wf.cell? ⟨(w.heap.size + 1), 0, none⟩ = some (.slice A6 n1 c6) := hF.cell 0
        have r1 : wf.cell? ⟨(w.heap.size + 1), 1, none⟩ = some (.slice A7 n c7) := hF.cell 1
        have r2 : wf.cell? ⟨(w.heap.size + 1), 2, none⟩ = some (.int .i64 p.clk) := hF.cell 2
        have r3 : wf.cell? ⟨(w.heap.size + 1), 3, none⟩ = some (.int .i64 p.ver) := hF.cell 3
        refine bodyPost_ret (v := .tuple #[.agg #[.slice A6 n1 c6, .slice A7 n c7, .int .i64 p.clk, .int .i64 p.ver], .int .i64 k, .int .i64 q]) (by simp [results, Tryz.results17, go_sem, r0, r1, r2, r3, hlF]) rfl ?_
        have hof := own_far ho1 hgw (fun g hg => by injection hg with hg; omega)
        have hocf := own_far ho2 hgw (fun g hg => by injection hg with hg; omega)
        refine ⟨A6, n1, c6, A7, n, c7, by rw [HA2.out, HAQ.out], by rw [HA2.out]; exact ⟨HL1.out, HL2.out, hb1, hb2, own_down hof (by omega), own_down hocf (by omega)⟩, hWf⟩
    · obtain rfl : k = nd := by omega
      have hrl4 : w.heap.size + 1 < wr.heap.size := hR.lt
      have htk : ds.take k = ds := List.take_of_length_le (by rw [HD.out]; omega)
      have haq : allQ p ds = (0, k) := by
        rw [← HD.out]
        exact allQ_all (fun j hj => HQ.out j (by rw [← HD.out]; exact hj))
      have hap2 : allP p ds = runP p (ds.take k) := by unfold allP; rw [haq, htk]; exact if_pos rfl
      obtain ⟨pk, hpk⟩ : ∃ x, runP p (ds.take k) = x := ⟨_, rfl⟩
      rw [hpk] at hN hPA hap2
      have HAQ := Lib.hid haq
      have HA2 := Lib.hid hap2
      clear htk haq hap2 hpk
      have n_0 : wr.cell? ⟨bN, 0, none⟩ = some (.slice A2 n2 c2) := hN.cell 0
      have nf_0 := hN.free 0
      have n_1 : wr.cell? ⟨bN, 1, none⟩ = some (.slice A3 n3 c3) := hN.cell 1
      have nf_1 := hN.free 1
      have n_2 : wr.cell? ⟨bN, 2, none⟩ = some (.int .i64 pk.clk) := hN.cell 2
      have nf_2 := hN.free 2
      have n_3 : wr.cell? ⟨bN, 3, none⟩ = some (.int .i64 pk.ver) := hN.cell 3
      have nf_3 := hN.free 3
      have lt_n_ := hN.lt
      have HPA := Lib.hid hPA
      clear hPA
      go_wp2_with fail
      clear n_0 n_1 n_2 n_3 nf_0 nf_1 nf_2 nf_3 lt_n_
      refine (pcopy_any A2 n2 c2 A3 n3 c3 pk wr HPA.out).mono ?_
      rintro e w5 ⟨A6, c6, A7, c7, rfl, ho, hb⟩
      clear HPA
      replace hP := hP.below hb hP.lt
      replace hR := hR.below hb hR.lt
      replace hB := hB.trans (hb.mono hs)
      replace hs := hB.size
      clear hb
      obtain ⟨hl1, hl2, hb1, hb2, ho1, ho2⟩ := ho
      have HL1 := Lib.hid hl1
      have HL2 := Lib.hid hl2
      clear hl1 hl2
      have r0 : w5.cell? ⟨w.heap.size + 1, 0, none⟩ = some (.slice none 0 0) := hR.cell 0
      have f_0 := hR.free 0
      have r1 : w5.cell? ⟨w.heap.size + 1, 1, none⟩ = some (.slice none 0 0) := hR.cell 1
      have f_1 := hR.free 1
      have r2 : w5.cell? ⟨w.heap.size + 1, 2, none⟩ = some (.int .i64 0) := hR.cell 2
      have f_2 := hR.free 2
      have r3 : w5.cell? ⟨w.heap.size + 1, 3, none⟩ = some (.int .i64 0) := hR.cell 3
      have f_3 := hR.free 3
      have lt_x := hR.lt
      have HX := Lib.hid hR
      clear hR
      go_wp2_with fail
      have hX := HX.out
      clear r0 r1 r2 r3
      have hF : Blok ((((w5.setCell ⟨(w.heap.size + 1), 0, none⟩ (.slice A6 n2 c6)).setCell ⟨(w.heap.size + 1), 1, none⟩ (.slice A7 n3 c7)).setCell ⟨(w.heap.size + 1), 2, none⟩ (.int .i64 pk.clk)).setCell ⟨(w.heap.size + 1), 3, none⟩ (.int .i64 pk.ver)) (w.heap.size + 1) 25 #[.slice A6 n2 c6, .slice A7 n3 c7, .int .i64 pk.clk, .int .i64 pk.ver] := by have h := ((((hX.set_ 0 (.slice A6 n2 c6)).set_ 1 (.slice A7 n3 c7)).set_ 2 (.int .i64 pk.clk)).set_ 3 (.int .i64 pk.ver)); simpa using h
      have hle0 : w.heap.size ≤ (w.heap.size + 1) := by first | exact Nat.le_refl _ | omega
      have hWf : Below w.heap.size w ((((w5.setCell ⟨(w.heap.size + 1), 0, none⟩ (.slice A6 n2 c6)).setCell ⟨(w.heap.size + 1), 1, none⟩ (.slice A7 n3 c7)).setCell ⟨(w.heap.size + 1), 2, none⟩ (.int .i64 pk.clk)).setCell ⟨(w.heap.size + 1), 3, none⟩ (.int .i64 pk.ver)) := ((((hB.setCell (p := ⟨(w.heap.size + 1), 0, none⟩) hle0 (.slice A6 n2 c6)).setCell (p := ⟨(w.heap.size + 1), 1, none⟩) hle0 (.slice A7 n3 c7)).setCell (p := ⟨(w.heap.size + 1), 2, none⟩) hle0 (.int .i64 pk.clk)).setCell (p := ⟨(w.heap.size + 1), 3, none⟩) hle0 (.int .i64 pk.ver))
      have hlF := hF.lt
      have hgw : w5.grownBy ((((w5.setCell ⟨(w.heap.size + 1), 0, none⟩ (.slice A6 n2 c6)).setCell ⟨(w.heap.size + 1), 1, none⟩ (.slice A7 n3 c7)).setCell ⟨(w.heap.size + 1), 2, none⟩ (.int .i64 pk.clk)).setCell ⟨(w.heap.size + 1), 3, none⟩ (.int .i64 pk.ver)) (some (w.heap.size + 1)) := grown_trans (grown_trans (grown_trans (grown_set _ _ _) (grown_set _ _ _)) (grown_set _ _ _)) (grown_set _ _ _)
      generalize ((((w5.setCell ⟨(w.heap.size + 1), 0, none⟩ (.slice A6 n2 c6)).setCell ⟨(w.heap.size + 1), 1, none⟩ (.slice A7 n3 c7)).setCell ⟨(w.heap.size + 1), 2, none⟩ (.int .i64 pk.clk)).setCell ⟨(w.heap.size + 1), 3, none⟩ (.int .i64 pk.ver)) = wf at *
      have r0 : wf.cell? ⟨(w.heap.size + 1), 0, none⟩ = some (.slice A6 n2 c6) := hF.cell 0
      have r1 : wf.cell? ⟨(w.heap.size + 1), 1, none⟩ = some (.slice A7 n3 c7) := hF.cell 1
      have r2 : wf.cell? ⟨(w.heap.size + 1), 2, none⟩ = some (.int .i64 pk.clk) := hF.cell 2
      have r3 : wf.cell? ⟨(w.heap.size + 1), 3, none⟩ = some (.int .i64 pk.ver) := hF.cell 3
      refine bodyPost_ret (v := .tuple #[.agg #[.slice A6 n2 c6, .slice A7 n3 c7, .int .i64 pk.clk, .int .i64 pk.ver], .int .i64 k, .int .i64 0]) (by simp [results, Tryz.results17, go_sem, r0, r1, r2, r3, hlF]) rfl ?_
      have hof := own_far ho1 hgw (fun g hg => by injection hg with hg; omega)
      have hocf := own_far ho2 hgw (fun g hg => by injection hg with hg; omega)
      refine ⟨A6, n2, c6, A7, n3, c7, by rw [HA2.out, HAQ.out], by rw [HA2.out]; exact ⟨HL1.out, HL2.out, hb1, hb2, own_down hof (by omega), own_down hocf (by omega)⟩, hWf⟩
end Go.Proofs.YtolaabllhibkdaaGreat

/- Contract of plan.List. It makes new memory alone. -/

namespace Go.Proofs.YtolaabllhibkdaaGreat
open Go.ChangeShapes Go.WideShapes Go.ChangeAt Go.RowKit Go.Sort
set_option linter.unusedSimpArgs false
set_option linter.unusedVariables false
theorem take_snocRg {l : List Rg} {i : Nat} (h : i < l.length) : l.take (i + 1) = l.take i ++ [gRg l i] := by
  rw [List.take_succ_eq_append_getElem h, gRg_eq h]
theorem take_snocCo {l : List Co} {i : Nat} (h : i < l.length) : l.take (i + 1) = l.take i ++ [gCo l i] := by
  rw [List.take_succ_eq_append_getElem h, gCo_eq h]
def mkR (x : Rg) : Dr := ⟨1, 2, 0, 0, 0, 0, 0, 0, x.fr, x.tn, x.st, x.en, x.ow⟩
def mkC (x : Co) : Dr := ⟨1, 1, x.id, x.fr, x.tn, x.st, x.en, x.rt, 0, 0, 0, 0, 0⟩
def listP (p : Pl) : List Dr := p.rs.map mkR ++ p.cs.map mkC
theorem flatDr_one_ (y : Dr) : flatDr [y] = [.int .i64 y.op, .int .i64 y.kd, .int .i64 y.id, .int .i64 y.fr, .int .i64 y.tn, .int .i64 y.st, .int .i64 y.en, .int .i64 y.rt, .int .i64 y.rf, .int .i64 y.rn, .int .i64 y.rs, .int .i64 y.re, .int .i64 y.ro] := rfl
set_option maxHeartbeats 8000000 in
set_option maxRecDepth 100000 in
theorem plist_any (A1 : Option Addr) (n1 c1 : Nat) (A : Option Addr) (n c : Nat) (p : Pl) (w : World) (h : PlAt w A1 n1 c1 A n c p) :
    Calls Tryz.prog 20 #[.agg #[.slice A1 n1 c1, .slice A n c, .int .i64 p.clk, .int .i64 p.ver]] w fun e w' => ∃ v, e = .returned v ∧ w'.ownsRow w.heap.size 37 13 v (n + n1) (flatDr (listP p)) ∧ Below w.heap.size w w' := by
  obtain ⟨i0, hi0, hz0, hz1, hz2⟩ := info_parts infoDr
  have hB : Below w.heap.size w (w.alloc (.cells #[.slice A1 n1 c1, .slice A n c, .int .i64 p.clk, .int .i64 p.ver] 25)) := by (repeat (first | exact Below.refl _ _ | refine Below.alloc ?_ (by first | omega | (simp; done) | (simp; omega)) _ | refine Below.setCell ?_ (by first | omega | (simp; done) | (simp; omega)) _ | refine Below.drew ?_))
  have hP := Blok.new w 25 #[.slice A1 n1 c1, .slice A n c, .int .i64 p.clk, .int .i64 p.ver]
  have HL1 := Lib.hid h.l
  have HL2 := Lib.hid h.l1
  have hb1 := h.b1
  have hb := h.b
  have H0 := Lib.hid h
  have p1 : (w.alloc (.cells #[.slice A1 n1 c1, .slice A n c, .int .i64 p.clk, .int .i64 p.ver] 25)).cell? ⟨w.heap.size, 1, none⟩ = some (.slice A n c) := hP.cell 1
  have lt_p := hP.lt
  have HP := Lib.hid hP
  have HB := Lib.hid hB
  have hs0 := hB.size
  clear h hB hP
  go_enter Tryz.func20, Tryz.ntmps20
  go_upto_region 2 with fail
  generalize w.alloc (.cells #[.slice A1 n1 c1, .slice A n c, .int .i64 p.clk, .int .i64 p.ver] 25) = w0 at *
  go_wp2_with fail
  clear p1 lt_p
  go_loopw [3, 11] (fun ev iv wr => ∃ (es : List Dr) (m i : Nat), iv = .int .i64 i ∧ i ≤ n ∧ m ≤ i ∧ Hid (es.length = m) ∧ Hid (es = (p.rs.take i).map mkR) ∧ wr.ownsRow (w.heap.size + 1) 37 13 ev m (flatDr es) ∧ Below w.heap.size w wr ∧ Hid (Blok wr w.heap.size 25 #[.slice A1 n1 c1, .slice A n c, .int .i64 p.clk, .int .i64 p.ver])) (fun ev iv _ => n - (intOf iv).toNat)
  case atStart => exact ⟨[], 0, 0, rfl, by omega, by omega, rfl, rfl, World.ownsRow_nil _ _ _ _, HB.out, HP.out⟩
  case round =>
    clear HP HB hs0
    obtain ⟨es, m, i, rfl, hi, hm, HE, HF, hown, hB, HP⟩ := hrel
    have hs := hB.size
    obtain ⟨Ae, ce, rfl⟩ := slice_of_own hown
    have hltp := HP.out.lt
    by_cases hin : i < n
    · have hl := H0.out.s.up hB
      obtain ⟨ad, rfl, hab, c0', c1', c2', c3', c4'⟩ := hl.lst.atRg HL1.out hin
      have hin' : i < p.rs.length := by rw [HL1.out]; exact hin
      have hst := take_snocRg hin'
      obtain ⟨x, hx⟩ : ∃ x, gRg p.rs i = x := ⟨_, rfl⟩
      rw [hx] at c0' c1' c2' c3' c4' hst
      have HST := Lib.hid hst
      have hX := Blok.new wr 35 #[.int .i64 x.fr, .int .i64 x.tn, .int .i64 x.st, .int .i64 x.en, .int .i64 x.ow]
      have hBa : Below wr.heap.size wr (wr.alloc (.cells #[.int .i64 x.fr, .int .i64 x.tn, .int .i64 x.st, .int .i64 x.en, .int .i64 x.ow] 35)) := by (repeat (first | exact Below.refl _ _ | refine Below.alloc ?_ (by first | omega | (simp; done) | (simp; omega)) _ | refine Below.setCell ?_ (by first | omega | (simp; done) | (simp; omega)) _ | refine Below.drew ?_))
      have hB2 := hB.trans (hBa.mono hs)
      have hP2 := HP.out.below hBa HP.out.lt
      have hown2 := own_below hown hBa
      clear hx hst
      go_upto_region 5 with fail
      clear c0' c1' c2' c3' c4' hBa hB hown HP hl
      generalize wr.alloc (.cells #[.int .i64 x.fr, .int .i64 x.tn, .int .i64 x.st, .int .i64 x.en, .int .i64 x.ow] 35) = wx at *
      generalize wr.heap.size = bb at *
      have x0 : wx.cell? ⟨bb, 0, none⟩ = some (.int .i64 x.fr) := hX.cell 0
      have x1 : wx.cell? ⟨bb, 1, none⟩ = some (.int .i64 x.tn) := hX.cell 1
      have x2 : wx.cell? ⟨bb, 2, none⟩ = some (.int .i64 x.st) := hX.cell 2
      have x3 : wx.cell? ⟨bb, 3, none⟩ = some (.int .i64 x.en) := hX.cell 3
      have x4 : wx.cell? ⟨bb, 4, none⟩ = some (.int .i64 x.ow) := hX.cell 4
      have lt_x := hX.lt
      have hsx := hB2.size
      have HP2 := Lib.hid hP2
      clear hP2
      go_wp2_with (first | (at_builtin; refine wpList_append_own _ rfl _ _ 31 rfl (w.heap.size + 1) 37 i0 _ 13 104 Tryz.underlying31 hi0 hz0 hz1 hz2 rfl (by decide) _ _ _ rfl (hown2.alloc _) ⟨wx.heap.size, 0, none⟩ 1 1 [.int .i64 1, .int .i64 2, .int .i64 0, .int .i64 0, .int .i64 0, .int .i64 0, .int .i64 0, .int .i64 0, .int .i64 x.fr, .int .i64 x.tn, .int .i64 x.st, .int .i64 x.en, .int .i64 x.ow] rfl rfl (by exact lit_cells wx #[.int .i64 1, .int .i64 2, .int .i64 0, .int .i64 0, .int .i64 0, .int .i64 0, .int .i64 0, .int .i64 0, .int .i64 x.fr, .int .i64 x.tn, .int .i64 x.st, .int .i64 x.en, .int .i64 x.ow] _ _ rfl) (by simp [Value.oneCell']) (by unfold maxLen; omega) (by omega) (by simp; omega) ?_; intro v' w3 hown' hgrow3 hnil3; clear hnil3))
      have hbN : Below w.heap.size w w3 := (hB2.alloc hsx _).grown hgrow3 (by simp; omega) (fun q hq => by have := (hown2.lt q hq).1; omega)
      have hPN := Lib.hid ((HP2.out.alloc (.cells #[.int .i64 1, .int .i64 2, .int .i64 0, .int .i64 0, .int .i64 0, .int .i64 0, .int .i64 0, .int .i64 0, .int .i64 x.fr, .int .i64 x.tn, .int .i64 x.st, .int .i64 x.en, .int .i64 x.ow] 37)).grown hgrow3 (fun e => by have := (hown2.lt w.heap.size e.symm).1; omega))
      have HNX : Hid (es ++ [mkR x] = (p.rs.take (i + 1)).map mkR) := by
        show es ++ [mkR x] = (p.rs.take (i + 1)).map mkR
        rw [HST.out, HF.out]; simp
      clear hgrow3 x0 x1 x2 x3 x4 lt_x hX
      go_roundw
      case rel => exact ⟨es ++ [mkR x], m + 1, i + 1, by go_num, by omega, by omega, by simp [Hid, HE.out], HNX, (by rw [flatDr_append, flatDr_one_]; exact hown'), hbN, hPN⟩
      case measure => simp [intOf]; omega
    · obtain rfl : n = i := by omega
      have hF2 : es = p.rs.map mkR := by rw [HF.out, List.take_of_length_le (by rw [HL1.out]; omega)]
      have HFX : Hid (es = p.rs.map mkR ++ (p.cs.take 0).map mkC) := by show es = _; rw [hF2]; simp
      have HB := Lib.hid hB
      have hs0 := hB.size
      have p0 : wr.cell? ⟨w.heap.size, 0, none⟩ = some (.slice A1 n1 c1) := HP.out.cell 0
      have lt_p := HP.out.lt
      clear hB hF2 hs
      go_wp2_with fail
      clear p0 lt_p
      go_loopw [3, 24] (fun ev iv wr => ∃ (es : List Dr) (m i : Nat), iv = .int .i64 i ∧ i ≤ n1 ∧ m ≤ n + i ∧ Hid (es.length = m) ∧ Hid (es = p.rs.map mkR ++ (p.cs.take i).map mkC) ∧ wr.ownsRow (w.heap.size + 1) 37 13 ev m (flatDr es) ∧ Below w.heap.size w wr ∧ Hid (Blok wr w.heap.size 25 #[.slice A1 n1 c1, .slice A n c, .int .i64 p.clk, .int .i64 p.ver])) (fun ev iv _ => n1 - (intOf iv).toNat)
      case atStart => exact ⟨es, m, 0, rfl, by omega, by omega, HE, HFX, hown, HB.out, HP⟩
      case round =>
        clear hown HP HB HE HF HFX hs0
        obtain ⟨es, m, i, rfl, hi, hm, HE, HF, hown, hB, HP⟩ := hrel
        have hs := hB.size
        obtain ⟨Ae, ce, rfl⟩ := slice_of_own hown
        have hltp := HP.out.lt
        by_cases hin : i < n1
        · have hl := H0.out.s1.up hB
          obtain ⟨ad, rfl, hab, c0', c1', c2', c3', c4', c5'⟩ := hl.lst.atCo HL2.out hin
          have hin' : i < p.cs.length := by rw [HL2.out]; exact hin
          have hst := take_snocCo hin'
          obtain ⟨x, hx⟩ : ∃ x, gCo p.cs i = x := ⟨_, rfl⟩
          rw [hx] at c0' c1' c2' c3' c4' c5' hst
          have HST := Lib.hid hst
          have hX := Blok.new wr 33 #[.int .i64 x.id, .int .i64 x.fr, .int .i64 x.tn, .int .i64 x.st, .int .i64 x.en, .int .i64 x.rt]
          have hBa : Below wr.heap.size wr (wr.alloc (.cells #[.int .i64 x.id, .int .i64 x.fr, .int .i64 x.tn, .int .i64 x.st, .int .i64 x.en, .int .i64 x.rt] 33)) := by (repeat (first | exact Below.refl _ _ | refine Below.alloc ?_ (by first | omega | (simp; done) | (simp; omega)) _ | refine Below.setCell ?_ (by first | omega | (simp; done) | (simp; omega)) _ | refine Below.drew ?_))
          have hB2 := hB.trans (hBa.mono hs)
          have hP2 := HP.out.below hBa HP.out.lt
          have hown2 := own_below hown hBa
          clear hx hst
          go_upto_region 10 with fail
          clear c0' c1' c2' c3' c4' c5' hBa hB hown HP hl
          generalize wr.alloc (.cells #[.int .i64 x.id, .int .i64 x.fr, .int .i64 x.tn, .int .i64 x.st, .int .i64 x.en, .int .i64 x.rt] 33) = wx at *
          generalize wr.heap.size = bb at *
          have x0 : wx.cell? ⟨bb, 0, none⟩ = some (.int .i64 x.id) := hX.cell 0
          have x1 : wx.cell? ⟨bb, 1, none⟩ = some (.int .i64 x.fr) := hX.cell 1
          have x2 : wx.cell? ⟨bb, 2, none⟩ = some (.int .i64 x.tn) := hX.cell 2
          have x3 : wx.cell? ⟨bb, 3, none⟩ = some (.int .i64 x.st) := hX.cell 3
          have x4 : wx.cell? ⟨bb, 4, none⟩ = some (.int .i64 x.en) := hX.cell 4
          have x5 : wx.cell? ⟨bb, 5, none⟩ = some (.int .i64 x.rt) := hX.cell 5
          have lt_x := hX.lt
          have hsx := hB2.size
          have HP2 := Lib.hid hP2
          clear hP2
          go_wp2_with (first | (at_builtin; refine wpList_append_own _ rfl _ _ 31 rfl (w.heap.size + 1) 37 i0 _ 13 104 Tryz.underlying31 hi0 hz0 hz1 hz2 rfl (by decide) _ _ _ rfl (hown2.alloc _) ⟨wx.heap.size, 0, none⟩ 1 1 [.int .i64 1, .int .i64 1, .int .i64 x.id, .int .i64 x.fr, .int .i64 x.tn, .int .i64 x.st, .int .i64 x.en, .int .i64 x.rt, .int .i64 0, .int .i64 0, .int .i64 0, .int .i64 0, .int .i64 0] rfl rfl (by exact lit_cells wx #[.int .i64 1, .int .i64 1, .int .i64 x.id, .int .i64 x.fr, .int .i64 x.tn, .int .i64 x.st, .int .i64 x.en, .int .i64 x.rt, .int .i64 0, .int .i64 0, .int .i64 0, .int .i64 0, .int .i64 0] _ _ rfl) (by simp [Value.oneCell']) (by unfold maxLen; omega) (by omega) (by simp; omega) ?_; intro v' w3 hown' hgrow3 hnil3; clear hnil3))
          have hbN : Below w.heap.size w w3 := (hB2.alloc hsx _).grown hgrow3 (by simp; omega) (fun q hq => by have := (hown2.lt q hq).1; omega)
          have hPN := Lib.hid ((HP2.out.alloc (.cells #[.int .i64 1, .int .i64 1, .int .i64 x.id, .int .i64 x.fr, .int .i64 x.tn, .int .i64 x.st, .int .i64 x.en, .int .i64 x.rt, .int .i64 0, .int .i64 0, .int .i64 0, .int .i64 0, .int .i64 0] 37)).grown hgrow3 (fun e => by have := (hown2.lt w.heap.size e.symm).1; omega))
          have HNX : Hid (es ++ [mkC x] = p.rs.map mkR ++ (p.cs.take (i + 1)).map mkC) := by
            show es ++ [mkC x] = p.rs.map mkR ++ (p.cs.take (i + 1)).map mkC
            rw [HST.out, HF.out]; simp
          clear hgrow3 x0 x1 x2 x3 x4 x5 lt_x hX
          go_roundw
          case rel => exact ⟨es ++ [mkC x], m + 1, i + 1, by go_num, by omega, by omega, by simp [Hid, HE.out], HNX, (by rw [flatDr_append, flatDr_one_]; exact hown'), hbN, hPN⟩
          case measure => simp [intOf]; omega
        · obtain rfl : n1 = i := by omega
          have hke : es.length = m := HE.out
          have hcat : es = listP p := by rw [HF.out, List.take_of_length_le (by rw [HL2.out]; omega)]; rfl
          have hml : m = n + n1 := by rw [← hke, hcat]; unfold listP; simp [HL1.out, HL2.out]
          have HC := Lib.hid hcat
          have HM := Lib.hid hml
          clear hcat hml hke
          go_wp2_with fail
          go_ret
          exact ⟨_, rfl, by rw [← HC.out, ← HM.out]; exact own_down hown (by omega), hB⟩
end Go.Proofs.YtolaabllhibkdaaGreat

/- A region that draws its order, by what each operation leaves: an invariant over the set of those that have come up; a case for each operation, whatever the order. No condition. -/
namespace Go.Proofs.YtolaabllhibkdaaGreat
open Go.Sort Go.RowKit
set_option linter.unusedSimpArgs false
set_option linter.unusedVariables false
section
variable {P : Program} {ops : Array Oper} {md : Region.Mode}
theorem count_all {V : Array Bool} (h : V.toList.count false = 0) (i : Nat) : V.getD i true = true := by
  cases hv : V.getD i true with
  | true => rfl
  | false =>
    have hlt : i < V.size := by
      rcases Nat.lt_or_ge i V.size with h1 | h1
      · exact h1
      · simp [Array.getD, Nat.not_lt.2 h1] at hv
    have e : V[i] = false := by simpa [Array.getD, hlt] using hv
    have hm : false ∈ V.toList := by rw [← e]; simp
    have := List.count_pos_iff.2 hm
    omega
theorem count_step {V : Array Bool} {i f : Nat} (h : V.toList.count false = f + 1) (hv : V.getD i true = false) : (V.setIfInBounds i true).toList.count false = f := by
  have hlt : i < V.size := by
    rcases Nat.lt_or_ge i V.size with h1 | h1
    · exact h1
    · simp [Array.getD, Nat.not_lt.2 h1] at hv
  have e : V[i] = false := by simpa [Array.getD, hlt] using hv
  have hl : i < V.toList.length := by simpa using hlt
  have e2 : V.toList[i] = false := by simpa using e
  rw [Array.toList_setIfInBounds, List.count_set hl, e2, h]
  simp
/-- Those that operation i waits for have come up. -/
def Afters (md : Region.Mode) (ops : Array Oper) (i : Nat) (V : Array Bool) : Prop := ∀ o, ops[i]? = some o → ∀ e ∈ o.after, Region.binds md e = true → V.getD e.on false = true
/-- Whatever has come up, those that it waits for have. -/
def Closed (md : Region.Mode) (ops : Array Oper) (V : Array Bool) : Prop := ∀ j o, ops[j]? = some o → V.getD j true = true → ∀ e ∈ o.after, Region.binds md e = true → V.getD e.on false = true
theorem getD_monof {V : Array Bool} {i j : Nat} (h : V.getD j false = true) : (V.setIfInBounds i true).getD j false = true := by
  by_cases e : i = j
  · subst e
    have hs : i < V.size := by
      rcases Nat.lt_or_ge i V.size with h1 | h1
      · exact h1
      · simp [Array.getD, Nat.not_lt.2 h1] at h
    simp [hs]
  · rw [getD_set_ne false e]; exact h
theorem Closed.step {V : Array Bool} {i : Nat} (h : Closed md ops V) (ha : Afters md ops i V) : Closed md ops (V.setIfInBounds i true) := by
  intro j o ho hj e he hb
  by_cases hij : i = j
  · subst hij
    exact getD_monof (ha o ho e he hb)
  · rw [getD_set_ne true hij] at hj
    exact getD_monof (h j o ho hj e he hb)
theorem Closed.none {n : Nat} (hn : n = ops.size) : Closed md ops (Array.replicate n false) := by
  intro j o ho hj
  have hlt : j < ops.size := (Array.getElem?_eq_some_iff.1 ho).1
  subst hn
  simp [hlt] at hj
theorem wpAny_facts {Q' : Exit → Act → World → Prop} (hlex : lexOrd md ops = true) (I : Array Bool → Act → World → Prop)
    (hs : ∀ i, i < ops.size → ∀ V a w, V.size = ops.size → V.getD i true = false → Afters md ops i V → Closed md ops V → I V a w → wpOp P ops Q' i (fun a' w' => I (V.setIfInBounds i true) a' w') a w)
    (he : ∀ V a w, (∀ i, i < ops.size → V.getD i true = true) → I V a w → Q' .normal a w) :
    ∀ (f : Nat) (V : Array Bool) (a : Act) (w : World), V.size = ops.size → V.toList.count false = f → Closed md ops V → I V a w → wpAny P md ops Q' f V a w
  | 0, V, a, w, hsz, hc, _, hI => by
    refine ⟨List.eq_nil_iff_forall_not_mem.2 fun i hi => ?_, he V a w (fun i _ => count_all hc i) hI⟩
    have := (mem_ready.1 hi).1
    rw [count_all hc i] at this
    cases this
  | f + 1, V, a, w, hsz, hc, hcl, hI => by
    refine ⟨fun h0 => he V a w (all_listed hlex h0 hsz) hI, fun i hi => ?_⟩
    obtain ⟨hun, o, ho, hall⟩ := mem_ready.1 hi
    have hlt : i < ops.size := (Array.getElem?_eq_some_iff.1 ho).1
    have haf : Afters md ops i V := fun o' ho' => by
      have : o' = o := Option.some.inj (ho'.symm.trans ho)
      subst this
      exact hall
    exact wpOp_mono (fun a' w' h' => wpAny_facts hlex I hs he f _ a' w' (by simp [hsz]) (count_step hc hun) (hcl.step haf) h') (hs i hlt V a w hsz hun haf hcl hI)
theorem wp_region_facts {id : Nat} {Q' : Exit → Act → World → Prop} {a : Act} {w : World} {l : List Oper} (hmo : P.follows .mixedOrders = true) (hlex : lexOrd .any l.toArray = true) (I : Array Bool → Act → World → Prop)
    (h0 : I (Array.replicate l.length false) a w.drew)
    (hs : ∀ i, i < l.length → ∀ V a w, V.size = l.length → V.getD i true = false → Afters .any l.toArray i V → Closed .any l.toArray V → I V a w → wpOp P l.toArray Q' i (fun a' w' => I (V.setIfInBounds i true) a' w') a w)
    (he : ∀ V a w, (∀ i, i < l.length → V.getD i true = true) → I V a w → Q' .normal a w) : (Code.region id l.toArray true).wp P Q' a w := by
  refine wp_region_any hmo ?_
  have := wpAny_facts (P := P) (md := .any) (ops := l.toArray) (Q' := Q') hlex I (fun i hi V a w hsz => hs i (by simpa using hi) V a w (by simpa using hsz)) (fun V a w hall => he V a w (fun i hi => hall i (by simpa using hi))) l.length (Array.replicate l.length false) a w.drew (by simp) (by simp) (Closed.none (by simp)) h0
  exact this
end
end Go.Proofs.YtolaabllhibkdaaGreat

/- XFacts, with the frame written as the frame ahead and a value for each operation. No condition. -/
namespace Go.Proofs.YtolaabllhibkdaaGreat
open Go.Sort Go.RowKit
set_option linter.unusedSimpArgs false
set_option linter.unusedVariables false
section
variable {P : Program} {ops : Array Oper} {md : Region.Mode}
def putAll : Act → List (Option Tmp) → (Nat → Value) → Nat → Act
  | a, [], _, _ => a
  | a, d :: ds, x, k => putAll (a.put d (x k)) ds x (k + 1)
def upd (x : Nat → Value) (i : Nat) (v : Value) : Nat → Value := fun j => if j = i then v else x j
theorem upd_same (x : Nat → Value) (i : Nat) (v : Value) : upd x i v i = v := by simp [upd]
theorem upd_ne (x : Nat → Value) {i j : Nat} (v : Value) (h : j ≠ i) : upd x i v j = x j := by simp [upd, h]
def nodupB : List (Option Tmp) → Bool
  | [] => true
  | d :: ds => (d.isNone || !ds.contains d) && nodupB ds
theorem putAll_congr {x y : Nat → Value} : ∀ (ds : List (Option Tmp)) (a : Act) (k : Nat), (∀ j, k ≤ j → x j = y j) → putAll a ds x k = putAll a ds y k
  | [], _, _, _ => rfl
  | d :: ds, a, k, h => by
    rw [putAll, putAll, h k (Nat.le_refl _)]
    exact putAll_congr ds _ (k + 1) (fun j hj => h j (by omega))
theorem putAll_last {x : Nat → Value} {d : Option Tmp} {v : Value} : ∀ (ds : List (Option Tmp)) (a : Act) (k : Nat), (∀ e, d = some e → some e ∉ ds) → (putAll a ds x k).put d v = putAll (a.put d v) ds x k
  | [], _, _, _ => rfl
  | d' :: ds, a, k, h => by
    rw [putAll, putAll, putAll_last ds _ (k + 1) (fun e he hm => h e he (List.mem_cons_of_mem _ hm)), Act.put_comm a (x k) v (fun e he hd => h e hd (by rw [he]; simp))]
theorem put_put (a : Act) (d : Option Tmp) (v u : Value) : (a.put d v).put d u = a.put d u := by
  cases d with
  | none => rfl
  | some d => simp [Act.put]
theorem putAll_put {x : Nat → Value} {v : Value} : ∀ (ds : List (Option Tmp)) (a : Act) (k i : Nat) (d : Option Tmp), nodupB ds = true → ds[i]? = some d → (putAll a ds x k).put d v = putAll a ds (upd x (k + i) v) k
  | [], _, _, _, _, _, h => by simp at h
  | d' :: ds, a, k, 0, d, hn, h => by
    have hd : d' = d := by simpa using h
    subst hd
    rw [putAll, putAll, putAll_last ds _ (k + 1) (fun e he => by
      simp only [nodupB, Bool.and_eq_true, Bool.or_eq_true] at hn
      rcases hn.1 with h1 | h1
      · rw [he] at h1; cases h1
      · simpa [he] using h1), put_put, show upd x (k + 0) v k = v from upd_same x k v]
    exact putAll_congr ds _ (k + 1) (fun j hj => (upd_ne x v (by omega)).symm)
  | d' :: ds, a, k, i + 1, d, hn, h => by
    simp only [nodupB, Bool.and_eq_true] at hn
    rw [putAll, putAll, putAll_put ds _ (k + 1) i d hn.2 (by simpa using h), show k + 1 + i = k + (i + 1) by omega, upd_ne x v (by omega)]
theorem putAll_self (a : Act) : ∀ (ds : List (Option Tmp)) (x : Nat → Value) (k : Nat), (∀ j e, ds[j]? = some (some e) → x (k + j) = a.tmps.getD e undef) → a = putAll a ds x k
  | [], _, _, _ => rfl
  | d :: ds, x, k, h => by
    have e : a.put d (x k) = a := by
      cases d with
      | none => rfl
      | some e =>
        have := h 0 e rfl
        rw [Nat.add_zero] at this
        rw [this]
        have h2 : a.tmps.setIfInBounds e (a.tmps.getD e undef) = a.tmps := by
          apply Array.ext_getElem?
          intro j
          by_cases hj : j = e
          · subst hj
            by_cases hs : j < a.tmps.size
            · simp [hs]
            · simp [hs]
          · rw [Array.getElem?_setIfInBounds_ne (Ne.symm hj)]
        show ({ a with tmps := a.tmps.setIfInBounds e (a.tmps.getD e undef) } : Act) = a
        rw [h2]
    rw [putAll, e]
    exact putAll_self a ds x (k + 1) (fun j e' hj => by rw [show k + 1 + j = k + (j + 1) by omega]; exact h (j + 1) e' (by simpa using hj))
/-- F: of those that have come up, what each left; the frame is the frame ahead, with a value for each. -/
theorem wp_region_frames {id : Nat} {Q' : Exit → Act → World → Prop} {a : Act} {w : World} {l : List Oper} (hmo : P.follows .mixedOrders = true) (hlex : lexOrd .any l.toArray = true) (hnd : nodupB (l.map (·.dst)) = true) (F : Array Bool → (Nat → Value) → World → Prop)
    (h0 : ∀ x, F (Array.replicate l.length false) x w.drew)
    (hs : ∀ V x b w', b = putAll a (l.map (·.dst)) x 0 → V.size = l.length → F V x w' → ∀ i, i < l.length → V.getD i true = false → Afters .any l.toArray i V → Closed .any l.toArray V →
      wpOp P l.toArray Q' i (fun b' w'' => ∃ o v, l[i]? = some o ∧ b' = b.put o.dst v ∧ F (V.setIfInBounds i true) (upd x i v) w'') b w')
    (he : ∀ V x w', (∀ i, i < l.length → V.getD i true = true) → F V x w' → Q' .normal (putAll a (l.map (·.dst)) x 0) w') : (Code.region id l.toArray true).wp P Q' a w := by
  refine wp_region_facts hmo hlex (fun V b w' => ∃ x, b = putAll a (l.map (·.dst)) x 0 ∧ F V x w') ?_ ?_ ?_
  · refine ⟨fun k => match (l.map (·.dst))[k]? with | some (some e) => a.tmps.getD e undef | _ => undef, ?_, h0 _⟩
    exact putAll_self a _ _ 0 (fun j e hj => by simp only [Nat.zero_add, hj])
  · rintro i hi V b w' hsz hun haf hcl ⟨x, hb, hF⟩
    refine wpOp_mono ?_ (hs V x b w' hb hsz hF i hi hun haf hcl)
    rintro b' w'' ⟨o, v, ho, rfl, hF'⟩
    refine ⟨upd x i v, ?_, hF'⟩
    rw [hb, putAll_put _ a 0 i o.dst hnd (by simp [ho]), Nat.zero_add]
  · rintro V b w' hall ⟨x, rfl, hF⟩
    exact he V x w' hall hF
end
end Go.Proofs.YtolaabllhibkdaaGreat

/- XFacts2: what a slot holds. No condition. -/
namespace Go.Proofs.YtolaabllhibkdaaGreat
open Go.Sort Go.RowKit
set_option linter.unusedSimpArgs false
set_option linter.unusedVariables false
theorem getD_ft {V : Array Bool} {i : Nat} (h : V.getD i false = true) : V.getD i true = true := by
  unfold Array.getD at *
  split <;> simp_all
theorem getD_mono {V : Array Bool} {i j : Nat} (h : V.getD j true = true) : (V.setIfInBounds i true).getD j true = true := by
  by_cases e : i = j
  · subst e
    by_cases hs : i < V.size
    · simp [hs]
    · simp [Array.getD, hs]
  · rw [getD_set_ne true e]; exact h
theorem grown_sets {b : Nat} : ∀ (vs : List Value) (o : Nat) (w : World), w.grownBy (w.setCells b o vs) (some b)
  | [], _, _ => ⟨rfl, rfl, rfl, Nat.le_refl _, fun _ _ _ => rfl⟩
  | v :: r, o, w => by
    rw [World.setCells]
    exact grown_trans (grown_set _ _ _) (grown_sets r (o + 1) _)
def tpl (v : Value) (i : Nat) : Value := match v with
  | .tuple vs => vs.getD i undef
  | _ => undef
theorem gen_frame {P : Program} {c : Code} {Q : Exit → Act → World → Prop} {a : Act} {w : World} (h : ∀ a0, a0 = a → Code.wp P c Q a0 w) : Code.wp P c Q a w := h a rfl
theorem size_putAll {x : Nat → Value} : ∀ (ds : List (Option Tmp)) (a : Act) (k : Nat), (putAll a ds x k).tmps.size = a.tmps.size
  | [], _, _ => rfl
  | d :: ds, a, k => by rw [putAll, size_putAll ds, put_size]
theorem eval_out {x : Nat → Value} {e : Tmp} : ∀ (ds : List (Option Tmp)) (a : Act) (k : Nat), ds.contains (some e) = false → (putAll a ds x k).eval (.tmp e) = a.eval (.tmp e)
  | [], _, _, _ => rfl
  | d :: ds, a, k, h => by
    simp only [List.contains_cons, Bool.or_eq_false_iff] at h
    rw [putAll, eval_out ds _ (k + 1) h.2]
    have hne : d ≠ some e := fun he => by rw [he] at h; simp at h
    have := put_tmps a d (x k) e hne
    simp only [Act.eval, Array.getD_eq_getD_getElem?, this]
theorem eval_in {x : Nat → Value} {e : Tmp} : ∀ (ds : List (Option Tmp)) (a : Act) (k i : Nat), nodupB ds = true → ds[i]? = some (some e) → e < a.tmps.size → (putAll a ds x k).eval (.tmp e) = x (k + i)
  | [], _, _, _, _, h, _ => by simp at h
  | d :: ds, a, k, 0, hn, h, hs => by
    have hd : d = some e := by simpa using h
    subst hd
    simp only [nodupB, Bool.and_eq_true, Bool.or_eq_true] at hn
    have hc : ds.contains (some e) = false := by
      rcases hn.1 with h1 | h1
      · cases h1
      · simpa using h1
    rw [putAll, eval_out ds _ (k + 1) hc]
    simp [Act.eval, Act.put, Array.getD_eq_getD_getElem?, hs]
  | d :: ds, a, k, i + 1, hn, h, hs => by
    simp only [nodupB, Bool.and_eq_true] at hn
    rw [putAll, eval_in ds _ (k + 1) i hn.2 (by simpa using h) (by rw [put_size]; exact hs), show k + 1 + i = k + (i + 1) by omega]
end Go.Proofs.YtolaabllhibkdaaGreat

/- Layer 8's small case comes out right: its parts. No condition. -/
namespace Go.Proofs.YtolaabllhibkdaaGreat
open Go.ChangeShapes Go.WideShapes Go.ChangeAt Go.RowKit Go.Sort
set_option linter.unusedSimpArgs false
set_option linter.unusedVariables false
theorem lcontact_any (id en st : Int) (w : World) (hw : IntKind.i64.wrap (en - 5) = st) : Calls Tryz.prog 33 #[.int .i64 id, .int .i64 en] w fun e w' => e = .returned (.agg #[.int .i64 1, .int .i64 1, .int .i64 id, .int .i64 1, .int .i64 2, .int .i64 st, .int .i64 en, .int .i64 3, .int .i64 0, .int .i64 0, .int .i64 0, .int .i64 0, .int .i64 0]) ∧ Below w.heap.size w w' := by
  have hX := Blok.new w 37 #[.int .i64 1, .int .i64 1, .int .i64 id, .int .i64 1, .int .i64 2, .int .i64 st, .int .i64 en, .int .i64 3, .int .i64 0, .int .i64 0, .int .i64 0, .int .i64 0, .int .i64 0]
  have hB : Below w.heap.size w (w.alloc (.cells #[.int .i64 1, .int .i64 1, .int .i64 id, .int .i64 1, .int .i64 2, .int .i64 st, .int .i64 en, .int .i64 3, .int .i64 0, .int .i64 0, .int .i64 0, .int .i64 0, .int .i64 0] 37)) := by (repeat (first | exact Below.refl _ _ | refine Below.alloc ?_ (by first | omega | (simp; done) | (simp; omega)) _ | refine Below.setCell ?_ (by first | omega | (simp; done) | (simp; omega)) _ | refine Below.drew ?_))
  go_enter Tryz.func33, Tryz.ntmps33
  go_wp2_with fail
  generalize w.alloc (.cells #[.int .i64 1, .int .i64 1, .int .i64 id, .int .i64 1, .int .i64 2, .int .i64 st, .int .i64 en, .int .i64 3, .int .i64 0, .int .i64 0, .int .i64 0, .int .i64 0, .int .i64 0] 37) = w1 at *
  have r0 : w1.cell? ⟨w.heap.size, 0, none⟩ = some (.int .i64 1) := hX.cell 0
  have r1 : w1.cell? ⟨w.heap.size, 1, none⟩ = some (.int .i64 1) := hX.cell 1
  have r2 : w1.cell? ⟨w.heap.size, 2, none⟩ = some (.int .i64 id) := hX.cell 2
  have r3 : w1.cell? ⟨w.heap.size, 3, none⟩ = some (.int .i64 1) := hX.cell 3
  have r4 : w1.cell? ⟨w.heap.size, 4, none⟩ = some (.int .i64 2) := hX.cell 4
  have r5 : w1.cell? ⟨w.heap.size, 5, none⟩ = some (.int .i64 st) := hX.cell 5
  have r6 : w1.cell? ⟨w.heap.size, 6, none⟩ = some (.int .i64 en) := hX.cell 6
  have r7 : w1.cell? ⟨w.heap.size, 7, none⟩ = some (.int .i64 3) := hX.cell 7
  have r8 : w1.cell? ⟨w.heap.size, 8, none⟩ = some (.int .i64 0) := hX.cell 8
  have r9 : w1.cell? ⟨w.heap.size, 9, none⟩ = some (.int .i64 0) := hX.cell 9
  have r10 : w1.cell? ⟨w.heap.size, 10, none⟩ = some (.int .i64 0) := hX.cell 10
  have r11 : w1.cell? ⟨w.heap.size, 11, none⟩ = some (.int .i64 0) := hX.cell 11
  have r12 : w1.cell? ⟨w.heap.size, 12, none⟩ = some (.int .i64 0) := hX.cell 12
  have lt_x := hX.lt
  refine bodyPost_ret (v := .agg #[.int .i64 1, .int .i64 1, .int .i64 id, .int .i64 1, .int .i64 2, .int .i64 st, .int .i64 en, .int .i64 3, .int .i64 0, .int .i64 0, .int .i64 0, .int .i64 0, .int .i64 0]) (by simp [results, Tryz.results33, go_sem, r0, r1, r2, r3, r4, r5, r6, r7, r8, r9, r10, r11, r12, lt_x]) rfl ?_
  exact ⟨rfl, hB⟩
theorem lspan_any (en : Int) (w : World) : Calls Tryz.prog 32 #[.int .i64 en] w fun e w' => e = .returned (.agg #[.int .i64 1, .int .i64 2, .int .i64 0, .int .i64 0, .int .i64 0, .int .i64 0, .int .i64 0, .int .i64 0, .int .i64 1, .int .i64 2, .int .i64 0, .int .i64 en, .int .i64 4]) ∧ Below w.heap.size w w' := by
  have hX := Blok.new w 37 #[.int .i64 1, .int .i64 2, .int .i64 0, .int .i64 0, .int .i64 0, .int .i64 0, .int .i64 0, .int .i64 0, .int .i64 1, .int .i64 2, .int .i64 0, .int .i64 en, .int .i64 4]
  have hB : Below w.heap.size w (w.alloc (.cells #[.int .i64 1, .int .i64 2, .int .i64 0, .int .i64 0, .int .i64 0, .int .i64 0, .int .i64 0, .int .i64 0, .int .i64 1, .int .i64 2, .int .i64 0, .int .i64 en, .int .i64 4] 37)) := by (repeat (first | exact Below.refl _ _ | refine Below.alloc ?_ (by first | omega | (simp; done) | (simp; omega)) _ | refine Below.setCell ?_ (by first | omega | (simp; done) | (simp; omega)) _ | refine Below.drew ?_))
  go_enter Tryz.func32, Tryz.ntmps32
  go_wp2_with fail
  generalize w.alloc (.cells #[.int .i64 1, .int .i64 2, .int .i64 0, .int .i64 0, .int .i64 0, .int .i64 0, .int .i64 0, .int .i64 0, .int .i64 1, .int .i64 2, .int .i64 0, .int .i64 en, .int .i64 4] 37) = w1 at *
  have r0 : w1.cell? ⟨w.heap.size, 0, none⟩ = some (.int .i64 1) := hX.cell 0
  have r1 : w1.cell? ⟨w.heap.size, 1, none⟩ = some (.int .i64 2) := hX.cell 1
  have r2 : w1.cell? ⟨w.heap.size, 2, none⟩ = some (.int .i64 0) := hX.cell 2
  have r3 : w1.cell? ⟨w.heap.size, 3, none⟩ = some (.int .i64 0) := hX.cell 3
  have r4 : w1.cell? ⟨w.heap.size, 4, none⟩ = some (.int .i64 0) := hX.cell 4
  have r5 : w1.cell? ⟨w.heap.size, 5, none⟩ = some (.int .i64 0) := hX.cell 5
  have r6 : w1.cell? ⟨w.heap.size, 6, none⟩ = some (.int .i64 0) := hX.cell 6
  have r7 : w1.cell? ⟨w.heap.size, 7, none⟩ = some (.int .i64 0) := hX.cell 7
  have r8 : w1.cell? ⟨w.heap.size, 8, none⟩ = some (.int .i64 1) := hX.cell 8
  have r9 : w1.cell? ⟨w.heap.size, 9, none⟩ = some (.int .i64 2) := hX.cell 9
  have r10 : w1.cell? ⟨w.heap.size, 10, none⟩ = some (.int .i64 0) := hX.cell 10
  have r11 : w1.cell? ⟨w.heap.size, 11, none⟩ = some (.int .i64 en) := hX.cell 11
  have r12 : w1.cell? ⟨w.heap.size, 12, none⟩ = some (.int .i64 4) := hX.cell 12
  have lt_x := hX.lt
  refine bodyPost_ret (v := .agg #[.int .i64 1, .int .i64 2, .int .i64 0, .int .i64 0, .int .i64 0, .int .i64 0, .int .i64 0, .int .i64 0, .int .i64 1, .int .i64 2, .int .i64 0, .int .i64 en, .int .i64 4]) (by simp [results, Tryz.results32, go_sem, r0, r1, r2, r3, r4, r5, r6, r7, r8, r9, r10, r11, r12, lt_x]) rfl ?_
  exact ⟨rfl, hB⟩
def s08_0 : Pl := ⟨[], [], 0, 0⟩
def s08_d : List Dr := [⟨1, 2, 0, 0, 0, 0, 0, 0, 1, 2, 0, 90, 4⟩, ⟨1, 1, 7, 1, 2, 15, 20, 3, 0, 0, 0, 0, 0⟩, ⟨1, 1, 8, 1, 2, 25, 30, 3, 0, 0, 0, 0, 0⟩]
def s08_p : Pl := ⟨[⟨7, 1, 2, 15, 20, 3⟩, ⟨8, 1, 2, 25, 30, 3⟩], [⟨1, 2, 0, 90, 4⟩], 0, 3⟩
def s08_q : Pl := ⟨[⟨8, 1, 2, 25, 30, 3⟩], [⟨1, 2, 0, 90, 4⟩], 20, 4⟩
def s08_r : Pl := ⟨[⟨8, 1, 2, 25, 30, 9⟩], [⟨1, 2, 0, 90, 4⟩], 20, 5⟩
def s08_e : List Dr := [⟨1, 1, 9, 1, 2, 35, 40, 3, 0, 0, 0, 0, 0⟩, ⟨1, 1, 8, 1, 2, 45, 50, 3, 0, 0, 0, 0, 0⟩]
def s08_h : Dr := ⟨3, 1, 8, 0, 0, 0, 0, 9, 0, 0, 0, 0, 0⟩
def s08_z : Dr := ⟨0, 0, 0, 0, 0, 0, 0, 0, 0, 0, 0, 0, 0⟩
theorem Pl.ext_ {a b : Pl} (h0 : a.cs = b.cs) (h1 : a.rs = b.rs) (h2 : a.clk = b.clk) (h3 : a.ver = b.ver) : a = b := by cases a; cases b; simp_all
theorem s08_q1 : allQ s08_0 s08_d = (0, 3) := by decide +kernel
theorem s08_p1 : allP s08_0 s08_d = s08_p := Pl.ext_ (by decide +kernel) (by decide +kernel) (by decide +kernel) (by decide +kernel)
theorem s08_q2 : advQ s08_p 20 = 0 := by decide +kernel
theorem s08_p2 : advP s08_p 20 = s08_q := Pl.ext_ (by decide +kernel) (by decide +kernel) (by decide +kernel) (by decide +kernel)
theorem s08_g2 : advG s08_p 20 = [7] := by decide +kernel
theorem s08_q3 : stepQ s08_q ⟨1, 1, 9, 1, 2, 15, 20, 3, 0, 0, 0, 0, 0⟩ = 7 := by decide +kernel
theorem s08_q4 : advQ s08_q 19 = 7 := by decide +kernel
theorem s08_q5 : stepQ s08_q s08_h = 0 := by decide +kernel
theorem s08_p5 : stepP s08_q s08_h = s08_r := Pl.ext_ (by decide +kernel) (by decide +kernel) (by decide +kernel) (by decide +kernel)
theorem s08_q6 : allQ s08_q s08_e = (4, 1) := by decide +kernel
theorem s08_p6 : allP s08_q s08_e = s08_q := Pl.ext_ (by decide +kernel) (by decide +kernel) (by decide +kernel) (by decide +kernel)
theorem s08_q7 : stepQ s08_q s08_z = 1 := by decide +kernel
theorem s08_r0 : s08_0.right = true := by decide +kernel
theorem s08_rp : s08_p.right = true := by decide +kernel
theorem s08_rq : s08_q.right = true := by decide +kernel
theorem s08_l : (listP s08_p).length = 3 := by decide +kernel
theorem s08_s : samePB s08_q s08_q = true := by decide +kernel
theorem s08_w : ∀ d ∈ s08_d ++ s08_e, (Lit.int .i64 d.op).wf = true ∧ (Lit.int .i64 d.kd).wf = true := by decide +kernel
theorem allRet_is {p : Pl} {ds : List Dr} {w w' : World} {e : Ending} (P : Pl) (q : Int) (k : Nat) (kk clk ver : Int) (n1 n : Nat) (h : AllRet p ds w e w') (hq : allQ p ds = (q, k)) (hk : (k : Int) = kk) (hp : allP p ds = P) (hn1 : P.cs.length = n1) (hn : P.rs.length = n) (hc : P.clk = clk) (hv : P.ver = ver) :
    ∃ A2 c2 A3 c3, e = .returned (.tuple #[.agg #[.slice A2 n1 c2, .slice A3 n c3, .int .i64 clk, .int .i64 ver], .int .i64 kk, .int .i64 q]) ∧ PlAt w' A2 n1 c2 A3 n c3 P ∧ Below w.heap.size w w' := by
  obtain ⟨A2, n2, c2, A3, n3, c3, rfl, ho, hb⟩ := h
  rw [hp] at ho
  have e1 : n2 = n1 := ho.l1.symm.trans hn1
  have e2 : n3 = n := ho.l.symm.trans hn
  subst e1 e2
  exact ⟨A2, c2, A3, c3, by rw [hp, hq, hc, hv, ← hk], ho.at_, hb⟩
theorem applyRet_is {p : Pl} {d : Dr} {w w' : World} {e : Ending} (P : Pl) (q clk ver : Int) (n1 n : Nat) (h : ApplyRet p d w e w') (hq : stepQ p d = q) (hp : stepP p d = P) (hn1 : P.cs.length = n1) (hn : P.rs.length = n) (hc : P.clk = clk) (hv : P.ver = ver) :
    ∃ A2 c2 A3 c3, e = .returned (.tuple #[.agg #[.slice A2 n1 c2, .slice A3 n c3, .int .i64 clk, .int .i64 ver], .int .i64 q]) ∧ PlAt w' A2 n1 c2 A3 n c3 P ∧ Below w.heap.size w w' := by
  obtain ⟨A2, n2, c2, A3, n3, c3, rfl, ho, hb⟩ := h
  rw [hp] at ho
  have e1 : n2 = n1 := ho.l1.symm.trans hn1
  have e2 : n3 = n := ho.l.symm.trans hn
  subst e1 e2
  exact ⟨A2, c2, A3, c3, by rw [hp, hq, hc, hv], ho.at_, hb⟩
theorem advRet_is {p : Pl} {now : Int} {w w' : World} {e : Ending} (P : Pl) (G : List Int) (q clk ver : Int) (n1 n g : Nat) (h : AdvRet p now w e w') (hq : advQ p now = q) (hp : advP p now = P) (hg : advG p now = G) (hgl : G.length = g) (hn1 : P.cs.length = n1) (hn : P.rs.length = n) (hc : P.clk = clk) (hv : P.ver = ver) :
    ∃ A2 c2 A3 c3 A4 c4, e = .returned (.tuple #[.agg #[.slice A2 n1 c2, .slice A3 n c3, .int .i64 clk, .int .i64 ver], .slice A4 g c4, .int .i64 q]) ∧ PlAt w' A2 n1 c2 A3 n c3 P ∧ Sl w' w'.heap.size 1 A4 g c4 (G.map (Value.int .i64)) ∧ Below w.heap.size w w' := by
  obtain ⟨A2, n2, c2, A3, n3, c3, A4, n4, c4, rfl, ho, hl4, hs4, hb⟩ := h
  rw [hp] at ho
  rw [hg] at hl4 hs4
  have e1 : n2 = n1 := ho.l1.symm.trans hn1
  have e2 : n3 = n := ho.l.symm.trans hn
  have e3 : n4 = g := hl4.symm.trans hgl
  subst e1 e2 e3
  exact ⟨A2, c2, A3, c3, A4, c4, by rw [hp, hq, hc, hv], ho.at_, hs4, hb⟩
theorem ints_refl (A A' : Option Addr) (n c c' : Nat) (d : List Int) (w : World) (hd : d.length = n) (hn : n ≤ 1000000) (h : Sl w w.heap.size 1 A n c (d.map (Value.int .i64))) (h' : Sl w w.heap.size 1 A' n c' (d.map (Value.int .i64))) :
    Calls Tryz.prog 27 #[.slice A n c, .slice A' n c'] w fun e w' => e = .returned (.bool true) ∧ Below w.heap.size w w' := by
  have := ints_any A A' n c n c' d d w hd hd hn hn h h'
  simpa using this
theorem i7_len : ([7] : List Int).length = 1 := rfl
theorem i7_lit (w0 : World) : Sl (w0.alloc (.cells #[.int .i64 7] 3)) (w0.alloc (.cells #[.int .i64 7] 3)).heap.size 1 (some ⟨w0.heap.size, 0, none⟩) 1 1 ([7].map (Value.int .i64)) := Sl.of_own (own_lit w0 0 3 1 1 #[.int .i64 7] (Nat.zero_le _) rfl (by simp [maxLen]))
theorem plist_3 (A1 : Option Addr) (c1 : Nat) (A : Option Addr) (c : Nat) (w : World) (h : PlAt w A1 2 c1 A 1 c s08_p) : Calls Tryz.prog 20 #[.agg #[.slice A1 2 c1, .slice A 1 c, .int .i64 0, .int .i64 3]] w fun e w' => ∃ A2 c2, e = .returned (.slice A2 3 c2) ∧ Below w.heap.size w w' := by
  refine (plist_any A1 2 c1 A 1 c s08_p w h).mono ?_
  rintro e w' ⟨v, rfl, hv, hb⟩
  obtain ⟨A2, c2, rfl⟩ := slice_of_own hv
  exact ⟨A2, c2, rfl, hb⟩
theorem psame_q (A1 : Option Addr) (c1 : Nat) (A : Option Addr) (c : Nat) (B1 : Option Addr) (k1 : Nat) (B : Option Addr) (k : Nat) (w : World) (h : PlAt w A1 1 c1 A 1 c s08_q) (h' : PlAt w B1 1 k1 B 1 k s08_q) : Calls Tryz.prog 14 #[.agg #[.slice A1 1 c1, .slice A 1 c, .int .i64 20, .int .i64 4], .agg #[.slice B1 1 k1, .slice B 1 k, .int .i64 20, .int .i64 4]] w fun e w' => e = .returned (.bool true) ∧ Below w.heap.size w w' :=
  psame_any A1 1 c1 A 1 c s08_q B1 1 k1 B 1 k s08_q w h h' true s08_s
theorem pright_q (A1 : Option Addr) (c1 : Nat) (A : Option Addr) (c : Nat) (w : World) (h : PlAt w A1 1 c1 A 1 c s08_q) : Calls Tryz.prog 12 #[.agg #[.slice A1 1 c1, .slice A 1 c, .int .i64 20, .int .i64 4]] w fun e w' => e = .returned (.bool true) ∧ Below w.heap.size w w' :=
  pright_any A1 1 c1 s08_q.cs A 1 c s08_q.rs 20 4 w h.l1 (by omega) h.l (by omega) h.s1 h.s true (by decide +kernel)
theorem pcopy_q (A1 : Option Addr) (c1 : Nat) (A : Option Addr) (c : Nat) (w : World) (h : PlAt w A1 1 c1 A 1 c s08_q) : Calls Tryz.prog 16 #[.agg #[.slice A1 1 c1, .slice A 1 c, .int .i64 20, .int .i64 4]] w fun e w' => ∃ A2 c2 A3 c3, e = .returned (.agg #[.slice A2 1 c2, .slice A3 1 c3, .int .i64 20, .int .i64 4]) ∧ PlAt w' A2 1 c2 A3 1 c3 s08_q ∧ Below w.heap.size w w' := by
  refine (pcopy_any A1 1 c1 A 1 c s08_q w h).mono ?_
  rintro e w' ⟨A2, c2, A3, c3, rfl, ho, hb⟩
  exact ⟨A2, c2, A3, c3, rfl, ho.at_, hb⟩
section
variable {P : Program} {ops : Array Oper}
theorem wpOp_run {Q : Exit → Act → World → Prop} {i : Nat} {o : Oper} {K : Act → World → Prop} {a : Act} {w w' : World} {v : Value} (ho : ops[i]? = some o) (hg : o.guard = none) (hr : (execOp a.eval o).run P w = .ok (.value v) w') (hK : K (a.put o.dst v) w') : wpOp P ops Q i K a w := by
  refine wpOp_of ho ?_
  rw [if_pos (by simp [Region.wanted, hg])]
  unfold Oper.wp
  rw [hr]
  exact hK
end
end Go.Proofs.YtolaabllhibkdaaGreat
