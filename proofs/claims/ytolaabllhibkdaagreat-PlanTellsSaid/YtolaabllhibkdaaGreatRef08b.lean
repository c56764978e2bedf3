/- The document's own plans: Copy, Same. -/
import Derived.Test.YtolaabllhibkdaaGreatPlan3
import Derived.Test.YtolaabllhibkdaaGreatGN
import Derived.Test.YtolaabllhibkdaaGreatRef07b
namespace Go.Proofs.YtolaabllhibkdaaGreat
open Go.ChangeShapes Go.WideShapes Go.ChangeAt Go.RowKit Go.Sort
set_option linter.unusedSimpArgs false
set_option linter.unusedVariables false
set_option maxHeartbeats 8000000 in
set_option maxRecDepth 100000 in
theorem rpcopy_any (A1 : Option Addr) (n1 c1 : Nat) (A : Option Addr) (n c : Nat) (p : Pl) (w : World) (h : PlAt w A1 n1 c1 A n c p) :
    Calls Tryz.prog 22 #[.agg #[.slice A1 n1 c1, .slice A n c, .int .i64 p.clk, .int .i64 p.ver]] w fun e w' => ∃ A2 c2 A3 c3, e = .returned (.agg #[.slice A2 n1 c2, .slice A3 n c3, .int .i64 p.clk, .int .i64 p.ver]) ∧ PlOwn w' w.heap.size A2 n1 c2 A3 n c3 p ∧ Below w.heap.size w w' := by
  obtain ⟨i0, hi0, hz0, hz1, hz2⟩ := info_parts infoCo
  obtain ⟨i1, hj0, hj1, hj2, hj3⟩ := info_parts infoRg
  have hB : Below w.heap.size w ((w.alloc (.cells #[.slice A1 n1 c1, .slice A n c, .int .i64 p.clk, .int .i64 p.ver] 25)).alloc (.cells #[.slice none 0 0, .slice none 0 0, .int .i64 0, .int .i64 0] 25)) := by (repeat (first | exact Below.refl _ _ | refine Below.alloc ?_ (by first | omega | (simp; done) | (simp; omega)) _ | refine Below.setCell ?_ (by first | omega | (simp; done) | (simp; omega)) _ | refine Below.drew ?_))
  have hP := (Blok.new w 25 #[.slice A1 n1 c1, .slice A n c, .int .i64 p.clk, .int .i64 p.ver]).alloc (.cells #[.slice none 0 0, .slice none 0 0, .int .i64 0, .int .i64 0] 25)
  have hX := Blok.new (w.alloc (.cells #[.slice A1 n1 c1, .slice A n c, .int .i64 p.clk, .int .i64 p.ver] 25)) 25 #[.slice none 0 0, .slice none 0 0, .int .i64 0, .int .i64 0]
  simp only [World.size_alloc] at hX
  obtain ⟨HD1, HD, hb1, hb2, h1, h2⟩ := h
  have D1 := Lib.hid HD1
  have D2 := Lib.hid HD
  have H1 := Lib.hid h1
  have H2 := Lib.hid h2
  clear HD1 HD h1 h2
  go_enter Tryz.func22, Tryz.ntmps22
  go_upto_region 1 with fail
  generalize (w.alloc (.cells #[.slice A1 n1 c1, .slice A n c, .int .i64 p.clk, .int .i64 p.ver] 25)).alloc (.cells #[.slice none 0 0, .slice none 0 0, .int .i64 0, .int .i64 0] 25) = w0 at *
  have h1 := H1.out.up hB
  have p0 : w0.cell? ⟨w.heap.size, 0, none⟩ = some (.slice A1 n1 c1) := hP.cell 0
  have lt_p := hP.lt
  have lt_x := hX.lt
  go_upto_region 2 with (first
    | (at_builtin
       refine wpList_append_lst _ rfl (.tmp 3) (.tmp 5) 22 rfl w0.heap.size 33 i0 _ 6 48 Tryz.underlying22 hi0 hz0 hz1 hz2 rfl (by decide) (.slice (some ⟨w0.heap.size, 0, none⟩) 0 0) 0 [] rfl (World.ownsRow_made w0 #[] 0 (Nat.le_refl _) (by simp) (by simp)) w0.heap.size A1 n1 c1 (flatCo p.cs) rfl (h1.lst.below ((Below.refl _ _).alloc (Nat.le_refl _) _)) (flatCo_one _) (by unfold maxLen; omega) (by omega) (by simp) ?_
       intro v1 w1 hown1 hg1 hat1
       have hb1 : Below w0.heap.size w0 w1 := Below.grown ((Below.refl _ _).alloc (Nat.le_refl _) _) hg1 (by simp) (fun k hk => by simp [Value.ownBlock] at hk; omega)
       obtain ⟨A2, c2, rfl⟩ := slice_of_own hown1
       have q0 : w1.cell? ⟨w.heap.size, 0, none⟩ = some (.slice A1 n1 c1) := (hP.below hb1 hP.lt).cell 0
       have qf0 := (hP.below hb1 hP.lt).free 0
       have qlt := (hP.below hb1 hP.lt).lt))
  clear p0 lt_p q0 qf0 qlt hg1 hat1 h1
  have hO1 := own_far (own_down (base' := w.heap.size + 2) hown1 (by omega)) (grown_set (g := w.heap.size) w1 0 (.slice A2 n1 c2)) (fun q hq => by injection hq with hq; omega)
  rw [show 0 + n1 = n1 by omega, List.nil_append] at hO1
  have hP1 := hP.below hb1 hP.lt
  have hX1 := hX.below hb1 hX.lt
  have hB1 := hB.trans (hb1.mono (by omega))
  have hP2 := hP1.set_ 0 (.slice A2 n1 c2)
  have hX2 := hX1.far (p := ⟨w.heap.size, 0, none⟩) (by show w.heap.size + 1 ≠ w.heap.size; omega) (.slice A2 n1 c2)
  have hB2 := hB1.setCell (p := ⟨w.heap.size, 0, none⟩) (Nat.le_refl _) (.slice A2 n1 c2)
  clear hP hX hB hP1 hX1 hB1 hown1 hb1 lt_x
  try simp only [Nat.zero_add]
  generalize w1.setCell ⟨w.heap.size, 0, none⟩ (.slice A2 n1 c2) = w2 at *
  have h2 := H2.out.up hB2
  have p1 : w2.cell? ⟨w.heap.size, 1, none⟩ = some (.slice A n c) := hP2.cell 1
  have lt_p := hP2.lt
  have lt_x := hX2.lt
  go_upto_region 3 with (first
    | (at_builtin
       refine wpList_append_lst _ rfl (.tmp 8) (.tmp 10) 23 rfl w2.heap.size 35 i1 _ 5 40 Tryz.underlying23 hj0 hj1 hj2 hj3 rfl (by decide) (.slice (some ⟨w2.heap.size, 0, none⟩) 0 0) 0 [] rfl (World.ownsRow_made w2 #[] 0 (Nat.le_refl _) (by simp) (by simp)) w2.heap.size A n c (flatRg p.rs) rfl (h2.lst.below ((Below.refl _ _).alloc (Nat.le_refl _) _)) (flatRg_one _) (by unfold maxLen; omega) (by omega) (by simp) ?_
       intro v3 w3 hown3 hg3 hat3
       have hb3 : Below w2.heap.size w2 w3 := Below.grown ((Below.refl _ _).alloc (Nat.le_refl _) _) hg3 (by simp) (fun k hk => by simp [Value.ownBlock] at hk; omega)
       obtain ⟨A3, c3, rfl⟩ := slice_of_own hown3
       have q1 : w3.cell? ⟨w.heap.size, 1, none⟩ = some (.slice A n c) := (hP2.below hb3 hP2.lt).cell 1
       have qf1 := (hP2.below hb3 hP2.lt).free 1
       have qlt := (hP2.below hb3 hP2.lt).lt))
  clear p1 lt_p q1 qf1 qlt hg3 hat3 h2
  have hO3 := own_far (own_down (base' := w.heap.size + 2) hown3 (by omega)) (grown_set (g := w.heap.size) w3 1 (.slice A3 n c3)) (fun q hq => by injection hq with hq; omega)
  rw [show 0 + n = n by omega, List.nil_append] at hO3
  replace hO1 := own_far (own_below hO1 hb3) (grown_set (g := w.heap.size) w3 1 (.slice A3 n c3)) (fun q hq => by injection hq with hq; omega)
  have hP3 := hP2.below hb3 hP2.lt
  have hX3 := hX2.below hb3 hX2.lt
  have hB3 := hB2.trans (hb3.mono (by omega))
  have hP4 := hP3.set_ 1 (.slice A3 n c3)
  have hX4 := hX3.far (p := ⟨w.heap.size, 1, none⟩) (by show w.heap.size + 1 ≠ w.heap.size; omega) (.slice A3 n c3)
  have hB4 := hB3.setCell (p := ⟨w.heap.size, 1, none⟩) (Nat.le_refl _) (.slice A3 n c3)
  clear hP2 hX2 hB2 hP3 hX3 hB3 hown3 hb3 lt_x
  try simp only [Nat.zero_add]
  generalize w3.setCell ⟨w.heap.size, 1, none⟩ (.slice A3 n c3) = w9 at *
  have y0 : w9.cell? ⟨w.heap.size, 0, none⟩ = some (.slice A2 n1 c2) := hP4.cell 0
  have y1 : w9.cell? ⟨w.heap.size, 1, none⟩ = some (.slice A3 n c3) := hP4.cell 1
  have y2 : w9.cell? ⟨w.heap.size, 2, none⟩ = some (.int .i64 p.clk) := hP4.cell 2
  have y3 : w9.cell? ⟨w.heap.size, 3, none⟩ = some (.int .i64 p.ver) := hP4.cell 3
  have lt_p := hP4.lt
  obtain ⟨r0, r1, r2, r3, lt_x⟩ := blok4 hX4
  obtain ⟨f_0, f_1, f_2, f_3⟩ := free4 hX4
  have HX := Lib.hid hX4
  clear hX4
  go_wp2_with fail
  have hX := HX.out
  have hB := hB4
  clear r0 r1 r2 r3 y0 y1 y2 y3
  obtain ⟨hF, hWf, hgw⟩ := ret4 (show Blok _ _ _ #[_, _, _, _] from hX) hB (show w.heap.size ≤ (w.heap.size + 1) by first | exact Nat.le_refl _ | omega) (.slice A2 n1 c2) (.slice A3 n c3) (.int .i64 p.clk) (.int .i64 p.ver)
  have hlF := hF.lt
  generalize (((w9.setCell ⟨(w.heap.size + 1), 0, none⟩ (.slice A2 n1 c2)).setCell ⟨(w.heap.size + 1), 1, none⟩ (.slice A3 n c3)).setCell ⟨(w.heap.size + 1), 2, none⟩ (.int .i64 p.clk)).setCell ⟨(w.heap.size + 1), 3, none⟩ (.int .i64 p.ver) = wf at *
  obtain ⟨r0, r1, r2, r3, _⟩ := blok4 hF
  refine bodyPost_ret (v := .agg #[.slice A2 n1 c2, .slice A3 n c3, .int .i64 p.clk, .int .i64 p.ver]) (by simp [results, Tryz.results22, go_sem, r0, r1, r2, r3, hlF]) rfl ?_
  exact ⟨A2, c2, A3, c3, rfl, ⟨D1.out, D2.out, hb1, hb2, own_down (own_far hO1 hgw (fun q hq => by injection hq with hq; omega)) (by omega), own_down (own_far hO3 hgw (fun q hq => by injection hq with hq; omega)) (by omega)⟩, hWf⟩
set_option maxHeartbeats 4000000 in
set_option maxRecDepth 100000 in
theorem rpsame_any (A1 : Option Addr) (n1 c1 : Nat) (A : Option Addr) (n c : Nat) (p : Pl) (B1 : Option Addr) (m1 k1 : Nat) (B : Option Addr) (m k : Nat) (q : Pl) (w : World) (h : PlAt w A1 n1 c1 A n c p) (h' : PlAt w B1 m1 k1 B m k q) (b : Bool) (hb : samePB p q = b) :
    Calls Tryz.prog 15 #[.agg #[.slice A1 n1 c1, .slice A n c, .int .i64 p.clk, .int .i64 p.ver], .agg #[.slice B1 m1 k1, .slice B m k, .int .i64 q.clk, .int .i64 q.ver]] w fun e w' => e = .returned (.bool b) ∧ Below w.heap.size w w' := by
  have hB : Below w.heap.size w ((w.alloc (.cells #[.slice A1 n1 c1, .slice A n c, .int .i64 p.clk, .int .i64 p.ver] 25)).alloc (.cells #[.slice B1 m1 k1, .slice B m k, .int .i64 q.clk, .int .i64 q.ver] 25)) := by (repeat (first | exact Below.refl _ _ | refine Below.alloc ?_ (by first | omega | (simp; done) | (simp; omega)) _ | refine Below.setCell ?_ (by first | omega | (simp; done) | (simp; omega)) _ | refine Below.drew ?_))
  have hP := (Blok.new w 25 #[.slice A1 n1 c1, .slice A n c, .int .i64 p.clk, .int .i64 p.ver]).alloc (.cells #[.slice B1 m1 k1, .slice B m k, .int .i64 q.clk, .int .i64 q.ver] 25)
  have hQ := Blok.new (w.alloc (.cells #[.slice A1 n1 c1, .slice A n c, .int .i64 p.clk, .int .i64 p.ver] 25)) 25 #[.slice B1 m1 k1, .slice B m k, .int .i64 q.clk, .int .i64 q.ver]
  simp only [World.size_alloc] at hQ
  replace h := h.up hB
  replace h' := h'.up hB
  have hs := hB.size
  obtain ⟨x1, q1⟩ : ∃ x, decide (p.cs = q.cs) = x := ⟨_, rfl⟩
  obtain ⟨x2, q2⟩ : ∃ x, decide (p.rs = q.rs) = x := ⟨_, rfl⟩
  obtain ⟨x3, g3⟩ : ∃ x, (p.clk == q.clk) = x := ⟨_, rfl⟩
  obtain ⟨x4, g4⟩ : ∃ x, (p.ver == q.ver) = x := ⟨_, rfl⟩
  have hbb : b = (x1 && (x2 && (x3 && x4))) := by rw [← hb]; unfold samePB; rw [q1, q2, g3, g4]
  have Q1 := Lib.hid q1
  have Q2 := Lib.hid q2
  have HBB := Lib.hid hbb
  clear q1 q2 hbb hb
  go_enter Tryz.func15, Tryz.ntmps15
  go_upto_region 1 with fail
  generalize (w.alloc (.cells #[.slice A1 n1 c1, .slice A n c, .int .i64 p.clk, .int .i64 p.ver] 25)).alloc (.cells #[.slice B1 m1 k1, .slice B m k, .int .i64 q.clk, .int .i64 q.ver] 25) = w0 at *
  have p0 : w0.cell? ⟨w.heap.size, 0, none⟩ = some (.slice A1 n1 c1) := hP.cell 0
  have u0 : w0.cell? ⟨w.heap.size + 1, 0, none⟩ = some (.slice B1 m1 k1) := hQ.cell 0
  have lt_p := hP.lt
  have lt_q := hQ.lt
  go_wp2_with fail
  clear p0 u0 lt_p lt_q
  refine (Kc.rsame6_any A1 B1 n1 c1 m1 k1 p.cs q.cs w0 h.l1 h'.l1 (by have := h.b1; omega) h.s1 h'.s1).mono ?_
  rintro e w1 ⟨rfl, hb⟩
  rw [Q1.out]
  replace h := h.up hb
  replace h' := h'.up hb
  replace hP := hP.below hb hP.lt
  replace hQ := hQ.below hb hQ.lt
  replace hB := hB.trans (hb.mono hs)
  replace hs := hB.size
  clear hb
  have p1 : w1.cell? ⟨w.heap.size, 1, none⟩ = some (.slice A n c) := hP.cell 1
  have u1 : w1.cell? ⟨w.heap.size + 1, 1, none⟩ = some (.slice B m k) := hQ.cell 1
  have lt_p := hP.lt
  have lt_q := hQ.lt
  go_wp2_with fail
  clear p1 u1 lt_p lt_q
  refine (Kr.rsame7_any A B n c m k p.rs q.rs w1 h.l h'.l (by have := h.b; omega) h.s h'.s).mono ?_
  rintro e w2 ⟨rfl, hb⟩
  rw [Q2.out]
  replace h := h.up hb
  replace h' := h'.up hb
  replace hP := hP.below hb hP.lt
  replace hQ := hQ.below hb hQ.lt
  replace hB := hB.trans (hb.mono hs)
  replace hs := hB.size
  clear hb
  have p2 : w2.cell? ⟨w.heap.size, 2, none⟩ = some (.int .i64 p.clk) := hP.cell 2
  have u2 : w2.cell? ⟨w.heap.size + 1, 2, none⟩ = some (.int .i64 q.clk) := hQ.cell 2
  have p3 : w2.cell? ⟨w.heap.size, 3, none⟩ = some (.int .i64 p.ver) := hP.cell 3
  have u3 : w2.cell? ⟨w.heap.size + 1, 3, none⟩ = some (.int .i64 q.ver) := hQ.cell 3
  have lt_p := hP.lt
  have lt_q := hQ.lt
  cases x1 <;> cases x2 <;> cases x3 <;> cases x4
  all_goals
    go_wp2_with fail
    go_ret
    exact ⟨by rw [HBB.out]; rfl, hB⟩
end Go.Proofs.YtolaabllhibkdaaGreat
