
/- The document's own answer for layer 4: the directive of numbers. No condition. -/
import Derived.Test.YtcclfmaockapjaaGreatDoorRef04b
namespace Go.Proofs.YtcclfmaockapjaaGreatDoor
open Go.ChangeShapes Go.WideShapes Go.ChangeAt Go.RowKit Go.Sort
set_option linter.unusedSimpArgs false
set_option linter.unusedVariables false
set_option maxHeartbeats 8000000 in
set_option maxRecDepth 100000 in
theorem rmade_11 (A : Option Addr) (c : Nat) (a0 a1 a2 a3 a4 a5 : Int) (w : World) (h : Sl w w.heap.size 1 A 6 c ([a0, a1, a2, a3, a4, a5].map (Value.int .i64))) : Calls Tryz.prog 39 #[.int .i64 1, .int .i64 1, .slice A 6 c] w fun e w' => e = .returned (.agg #[.int .i64 (madeD 1 1 [a0, a1, a2, a3, a4, a5]).op, .int .i64 (madeD 1 1 [a0, a1, a2, a3, a4, a5]).kd, .int .i64 (madeD 1 1 [a0, a1, a2, a3, a4, a5]).id, .int .i64 (madeD 1 1 [a0, a1, a2, a3, a4, a5]).fr, .int .i64 (madeD 1 1 [a0, a1, a2, a3, a4, a5]).tn, .int .i64 (madeD 1 1 [a0, a1, a2, a3, a4, a5]).st, .int .i64 (madeD 1 1 [a0, a1, a2, a3, a4, a5]).en, .int .i64 (madeD 1 1 [a0, a1, a2, a3, a4, a5]).rt, .int .i64 (madeD 1 1 [a0, a1, a2, a3, a4, a5]).rf, .int .i64 (madeD 1 1 [a0, a1, a2, a3, a4, a5]).rn, .int .i64 (madeD 1 1 [a0, a1, a2, a3, a4, a5]).rs, .int .i64 (madeD 1 1 [a0, a1, a2, a3, a4, a5]).re, .int .i64 (madeD 1 1 [a0, a1, a2, a3, a4, a5]).ro]) ∧ Below w.heap.size w w' := by
  obtain ⟨ad, rfl, hab, _⟩ := h.lst.atI4 (k := 0) rfl (by omega)
  obtain ⟨_, e0, _, k0⟩ := h.lst.atI4 (k := 0) rfl (by omega)
  injection e0 with e0
  subst e0
  have g0 : w.cell? ad = some (.int .i64 a0) := by rw [add_zero_] at k0; exact k0
  obtain ⟨_, e1, _, k1⟩ := h.lst.atI4 (k := 1) rfl (by omega)
  injection e1 with e1
  subst e1
  have g1 : w.cell? ⟨ad.block, ad.off + 1, none⟩ = some (.int .i64 a1) := by rw [addr_at ad 1 (by omega)]; exact k1
  obtain ⟨_, e2, _, k2⟩ := h.lst.atI4 (k := 2) rfl (by omega)
  injection e2 with e2
  subst e2
  have g2 : w.cell? ⟨ad.block, ad.off + 2, none⟩ = some (.int .i64 a2) := by rw [addr_at ad 2 (by omega)]; exact k2
  obtain ⟨_, e3, _, k3⟩ := h.lst.atI4 (k := 3) rfl (by omega)
  injection e3 with e3
  subst e3
  have g3 : w.cell? ⟨ad.block, ad.off + 3, none⟩ = some (.int .i64 a3) := by rw [addr_at ad 3 (by omega)]; exact k3
  obtain ⟨_, e4, _, k4⟩ := h.lst.atI4 (k := 4) rfl (by omega)
  injection e4 with e4
  subst e4
  have g4 : w.cell? ⟨ad.block, ad.off + 4, none⟩ = some (.int .i64 a4) := by rw [addr_at ad 4 (by omega)]; exact k4
  obtain ⟨_, e5, _, k5⟩ := h.lst.atI4 (k := 5) rfl (by omega)
  injection e5 with e5
  subst e5
  have g5 : w.cell? ⟨ad.block, ad.off + 5, none⟩ = some (.int .i64 a5) := by rw [addr_at ad 5 (by omega)]; exact k5
  have HFOOT := Lib.hid (fun (w' : World) (hb : Below w.heap.size w w') => (show w'.cell? ad = some (.int .i64 a0) ∧ w'.cell? ⟨ad.block, ad.off + 1, none⟩ = some (.int .i64 a1) ∧ w'.cell? ⟨ad.block, ad.off + 2, none⟩ = some (.int .i64 a2) ∧ w'.cell? ⟨ad.block, ad.off + 3, none⟩ = some (.int .i64 a3) ∧ w'.cell? ⟨ad.block, ad.off + 4, none⟩ = some (.int .i64 a4) ∧ w'.cell? ⟨ad.block, ad.off + 5, none⟩ = some (.int .i64 a5) from ⟨(hb.cell (block_lt_of_cell g0)).trans g0, (hb.cell (block_lt_of_cell g1)).trans g1, (hb.cell (block_lt_of_cell g2)).trans g2, (hb.cell (block_lt_of_cell g3)).trans g3, (hb.cell (block_lt_of_cell g4)).trans g4, (hb.cell (block_lt_of_cell g5)).trans g5⟩))
  clear h k0 g0 k1 g1 k2 g2 k3 g3 k4 g4 k5 g5
  have hX := Blok.new w 41 #[.int .i64 0, .int .i64 0, .int .i64 0, .int .i64 0, .int .i64 0, .int .i64 0, .int .i64 0, .int .i64 0, .int .i64 0, .int .i64 0, .int .i64 0, .int .i64 0, .int .i64 0]
  have hB : Below w.heap.size w (w.alloc (.cells #[.int .i64 0, .int .i64 0, .int .i64 0, .int .i64 0, .int .i64 0, .int .i64 0, .int .i64 0, .int .i64 0, .int .i64 0, .int .i64 0, .int .i64 0, .int .i64 0, .int .i64 0] 41)) := by (repeat (first | exact Below.refl _ _ | refine Below.alloc ?_ (by first | omega | (simp; done) | (simp; omega)) _ | refine Below.setCell ?_ (by first | omega | (simp; done) | (simp; omega)) _ | refine Below.drew ?_))
  have hs := hB.size
  go_enter Tryz.func39, Tryz.ntmps39
  go_upto_region 1 with fail
  generalize w.alloc (.cells #[.int .i64 0, .int .i64 0, .int .i64 0, .int .i64 0, .int .i64 0, .int .i64 0, .int .i64 0, .int .i64 0, .int .i64 0, .int .i64 0, .int .i64 0, .int .i64 0, .int .i64 0] 41) = w0 at *
  go_upto_region 2 with fail
  have hD := Blok.new w0 41 #[.int .i64 1, .int .i64 1, .int .i64 0, .int .i64 0, .int .i64 0, .int .i64 0, .int .i64 0, .int .i64 0, .int .i64 0, .int .i64 0, .int .i64 0, .int .i64 0, .int .i64 0]
  have hb : Below w0.heap.size w0 (w0.alloc (.cells #[.int .i64 1, .int .i64 1, .int .i64 0, .int .i64 0, .int .i64 0, .int .i64 0, .int .i64 0, .int .i64 0, .int .i64 0, .int .i64 0, .int .i64 0, .int .i64 0, .int .i64 0] 41)) := by (repeat (first | exact Below.refl _ _ | refine Below.alloc ?_ (by first | omega | (simp; done) | (simp; omega)) _ | refine Below.setCell ?_ (by first | omega | (simp; done) | (simp; omega)) _ | refine Below.drew ?_))
  have hne0 := hX.lt
  replace hX := hX.below hb hX.lt
  replace hB := hB.trans (hb.mono hs)
  replace hs := hB.size
  clear hb
  generalize w0.alloc (.cells #[.int .i64 1, .int .i64 1, .int .i64 0, .int .i64 0, .int .i64 0, .int .i64 0, .int .i64 0, .int .i64 0, .int .i64 0, .int .i64 0, .int .i64 0, .int .i64 0, .int .i64 0] 41) = w1 at *
  generalize hzz : w0.heap.size = b1 at *
  clear hzz
  have hne1 : w.heap.size ≠ b1 := by omega
  obtain ⟨c0, c1, c2, c3, c4, c5⟩ := HFOOT.out w1 hB
  have d0 : w1.cell? ⟨b1, 0, none⟩ = some (.int .i64 1) := hD.cell 0
  have df0 := hD.free 0
  have d1 : w1.cell? ⟨b1, 1, none⟩ = some (.int .i64 1) := hD.cell 1
  have df1 := hD.free 1
  have d2 : w1.cell? ⟨b1, 2, none⟩ = some (.int .i64 0) := hD.cell 2
  have df2 := hD.free 2
  have d3 : w1.cell? ⟨b1, 3, none⟩ = some (.int .i64 0) := hD.cell 3
  have df3 := hD.free 3
  have d4 : w1.cell? ⟨b1, 4, none⟩ = some (.int .i64 0) := hD.cell 4
  have df4 := hD.free 4
  have d5 : w1.cell? ⟨b1, 5, none⟩ = some (.int .i64 0) := hD.cell 5
  have df5 := hD.free 5
  have d6 : w1.cell? ⟨b1, 6, none⟩ = some (.int .i64 0) := hD.cell 6
  have df6 := hD.free 6
  have d7 : w1.cell? ⟨b1, 7, none⟩ = some (.int .i64 0) := hD.cell 7
  have df7 := hD.free 7
  have d8 : w1.cell? ⟨b1, 8, none⟩ = some (.int .i64 0) := hD.cell 8
  have df8 := hD.free 8
  have d9 : w1.cell? ⟨b1, 9, none⟩ = some (.int .i64 0) := hD.cell 9
  have df9 := hD.free 9
  have d10 : w1.cell? ⟨b1, 10, none⟩ = some (.int .i64 0) := hD.cell 10
  have df10 := hD.free 10
  have d11 : w1.cell? ⟨b1, 11, none⟩ = some (.int .i64 0) := hD.cell 11
  have df11 := hD.free 11
  have d12 : w1.cell? ⟨b1, 12, none⟩ = some (.int .i64 0) := hD.cell 12
  have df12 := hD.free 12
  have lt_d := hD.lt
  go_upto_region 4 with fail
  clear c0 c1 c2 c3 c4 c5
  clear d0 df0 d1 df1 d2 df2 d3 df3 d4 df4 d5 df5 d6 df6 d7 df7 d8 df8 d9 df9 d10 df10 d11 df11 d12 df12 lt_d
  replace hD := hD.set_ 2 (.int .i64 a0)
  replace hX := hX.far (p := ⟨b1, 2, none⟩) (by show w.heap.size ≠ b1; omega) (.int .i64 a0)
  replace hB := hB.setCell (p := ⟨b1, 2, none⟩) (by show w.heap.size ≤ b1; omega) (.int .i64 a0)
  replace hs := hB.size
  generalize (w1).setCell ⟨b1, 2, none⟩ (.int .i64 a0) = w2 at *
  replace hD : Blok w2 b1 41 #[.int .i64 1, .int .i64 1, .int .i64 a0, .int .i64 0, .int .i64 0, .int .i64 0, .int .i64 0, .int .i64 0, .int .i64 0, .int .i64 0, .int .i64 0, .int .i64 0, .int .i64 0] := by simpa using hD
  obtain ⟨c0, c1, c2, c3, c4, c5⟩ := HFOOT.out w2 hB
  have d0 : w2.cell? ⟨b1, 0, none⟩ = some (.int .i64 1) := hD.cell 0
  have df0 := hD.free 0
  have d1 : w2.cell? ⟨b1, 1, none⟩ = some (.int .i64 1) := hD.cell 1
  have df1 := hD.free 1
  have d2 : w2.cell? ⟨b1, 2, none⟩ = some (.int .i64 a0) := hD.cell 2
  have df2 := hD.free 2
  have d3 : w2.cell? ⟨b1, 3, none⟩ = some (.int .i64 0) := hD.cell 3
  have df3 := hD.free 3
  have d4 : w2.cell? ⟨b1, 4, none⟩ = some (.int .i64 0) := hD.cell 4
  have df4 := hD.free 4
  have d5 : w2.cell? ⟨b1, 5, none⟩ = some (.int .i64 0) := hD.cell 5
  have df5 := hD.free 5
  have d6 : w2.cell? ⟨b1, 6, none⟩ = some (.int .i64 0) := hD.cell 6
  have df6 := hD.free 6
  have d7 : w2.cell? ⟨b1, 7, none⟩ = some (.int .i64 0) := hD.cell 7
  have df7 := hD.free 7
  have d8 : w2.cell? ⟨b1, 8, none⟩ = some (.int .i64 0) := hD.cell 8
  have df8 := hD.free 8
  have d9 : w2.cell? ⟨b1, 9, none⟩ = some (.int .i64 0) := hD.cell 9
  have df9 := hD.free 9
  have d10 : w2.cell? ⟨b1, 10, none⟩ = some (.int .i64 0) := hD.cell 10
  have df10 := hD.free 10
  have d11 : w2.cell? ⟨b1, 11, none⟩ = some (.int .i64 0) := hD.cell 11
  have df11 := hD.free 11
  have d12 : w2.cell? ⟨b1, 12, none⟩ = some (.int .i64 0) := hD.cell 12
  have df12 := hD.free 12
  have lt_d := hD.lt
  go_upto_region 5 with fail
  have q_c0 := fun d os => cell_regrown c0 d os
  have q_c1 := fun d os => cell_regrown c1 d os
  have q_c2 := fun d os => cell_regrown c2 d os
  have q_c3 := fun d os => cell_regrown c3 d os
  have q_c4 := fun d os => cell_regrown c4 d os
  have q_c5 := fun d os => cell_regrown c5 d os
  try simp only [List.append]
  refine wp_region_grown_tail 20 (by kernel_rfl) (by kernel_rfl) ?_
  simp only [Nat.reduceAdd, List.take_succ_cons, List.take_zero]
  repeat (go_big_quiet_step ((fail)))
  refine wpQuiet_nil ?_
  intro _ hqw
  obtain ⟨pq, hqw⟩ := hqw
  subst hqw
  clear q_c0 q_c1 q_c2 q_c3 q_c4 q_c5
  clear c0 c1 c2 c3 c4 c5
  clear d0 df0 d1 df1 d2 df2 d3 df3 d4 df4 d5 df5 d6 df6 d7 df7 d8 df8 d9 df9 d10 df10 d11 df11 d12 df12 lt_d
  have hb := below_regrown w2 pq.d pq.os
  replace hX := hX.below hb hX.lt
  replace hD := hD.below hb hD.lt
  replace hB := hB.trans (hb.mono hs)
  replace hs := hB.size
  clear hb
  generalize grow (redrawn w2 pq.d) pq.os = w3 at *
  have d0 : w3.cell? ⟨b1, 0, none⟩ = some (.int .i64 1) := hD.cell 0
  have df0 := hD.free 0
  have d1 : w3.cell? ⟨b1, 1, none⟩ = some (.int .i64 1) := hD.cell 1
  have df1 := hD.free 1
  have d2 : w3.cell? ⟨b1, 2, none⟩ = some (.int .i64 a0) := hD.cell 2
  have df2 := hD.free 2
  have d3 : w3.cell? ⟨b1, 3, none⟩ = some (.int .i64 0) := hD.cell 3
  have df3 := hD.free 3
  have d4 : w3.cell? ⟨b1, 4, none⟩ = some (.int .i64 0) := hD.cell 4
  have df4 := hD.free 4
  have d5 : w3.cell? ⟨b1, 5, none⟩ = some (.int .i64 0) := hD.cell 5
  have df5 := hD.free 5
  have d6 : w3.cell? ⟨b1, 6, none⟩ = some (.int .i64 0) := hD.cell 6
  have df6 := hD.free 6
  have d7 : w3.cell? ⟨b1, 7, none⟩ = some (.int .i64 0) := hD.cell 7
  have df7 := hD.free 7
  have d8 : w3.cell? ⟨b1, 8, none⟩ = some (.int .i64 0) := hD.cell 8
  have df8 := hD.free 8
  have d9 : w3.cell? ⟨b1, 9, none⟩ = some (.int .i64 0) := hD.cell 9
  have df9 := hD.free 9
  have d10 : w3.cell? ⟨b1, 10, none⟩ = some (.int .i64 0) := hD.cell 10
  have df10 := hD.free 10
  have d11 : w3.cell? ⟨b1, 11, none⟩ = some (.int .i64 0) := hD.cell 11
  have df11 := hD.free 11
  have d12 : w3.cell? ⟨b1, 12, none⟩ = some (.int .i64 0) := hD.cell 12
  have df12 := hD.free 12
  have lt_d := hD.lt
  go_upto_region 6 with fail
  clear d0 df0 d1 df1 d2 df2 d3 df3 d4 df4 d5 df5 d6 df6 d7 df7 d8 df8 d9 df9 d10 df10 d11 df11 d12 df12 lt_d
  replace hD := hD.set_ 2 (.int .i64 a0)
  replace hX := hX.far (p := ⟨b1, 2, none⟩) (by show w.heap.size ≠ b1; omega) (.int .i64 a0)
  replace hB := hB.setCell (p := ⟨b1, 2, none⟩) (by show w.heap.size ≤ b1; omega) (.int .i64 a0)
  replace hD := hD.set_ 3 (.int .i64 a1)
  replace hX := hX.far (p := ⟨b1, 3, none⟩) (by show w.heap.size ≠ b1; omega) (.int .i64 a1)
  replace hB := hB.setCell (p := ⟨b1, 3, none⟩) (by show w.heap.size ≤ b1; omega) (.int .i64 a1)
  replace hD := hD.set_ 4 (.int .i64 a2)
  replace hX := hX.far (p := ⟨b1, 4, none⟩) (by show w.heap.size ≠ b1; omega) (.int .i64 a2)
  replace hB := hB.setCell (p := ⟨b1, 4, none⟩) (by show w.heap.size ≤ b1; omega) (.int .i64 a2)
  replace hD := hD.set_ 5 (.int .i64 a3)
  replace hX := hX.far (p := ⟨b1, 5, none⟩) (by show w.heap.size ≠ b1; omega) (.int .i64 a3)
  replace hB := hB.setCell (p := ⟨b1, 5, none⟩) (by show w.heap.size ≤ b1; omega) (.int .i64 a3)
  replace hD := hD.set_ 6 (.int .i64 a4)
  replace hX := hX.far (p := ⟨b1, 6, none⟩) (by show w.heap.size ≠ b1; omega) (.int .i64 a4)
  replace hB := hB.setCell (p := ⟨b1, 6, none⟩) (by show w.heap.size ≤ b1; omega) (.int .i64 a4)
  replace hD := hD.set_ 7 (.int .i64 a5)
  replace hX := hX.far (p := ⟨b1, 7, none⟩) (by show w.heap.size ≠ b1; omega) (.int .i64 a5)
  replace hB := hB.setCell (p := ⟨b1, 7, none⟩) (by show w.heap.size ≤ b1; omega) (.int .i64 a5)
  replace hs := hB.size
  generalize ((((((w3).setCell ⟨b1, 2, none⟩ (.int .i64 a0)).setCell ⟨b1, 3, none⟩ (.int .i64 a1)).setCell ⟨b1, 4, none⟩ (.int .i64 a2)).setCell ⟨b1, 5, none⟩ (.int .i64 a3)).setCell ⟨b1, 6, none⟩ (.int .i64 a4)).setCell ⟨b1, 7, none⟩ (.int .i64 a5) = w4 at *
  replace hD : Blok w4 b1 41 #[.int .i64 1, .int .i64 1, .int .i64 a0, .int .i64 a1, .int .i64 a2, .int .i64 a3, .int .i64 a4, .int .i64 a5, .int .i64 0, .int .i64 0, .int .i64 0, .int .i64 0, .int .i64 0] := by simpa using hD
  have d0 : w4.cell? ⟨b1, 0, none⟩ = some (.int .i64 1) := hD.cell 0
  have df0 := hD.free 0
  have d1 : w4.cell? ⟨b1, 1, none⟩ = some (.int .i64 1) := hD.cell 1
  have df1 := hD.free 1
  have d2 : w4.cell? ⟨b1, 2, none⟩ = some (.int .i64 a0) := hD.cell 2
  have df2 := hD.free 2
  have d3 : w4.cell? ⟨b1, 3, none⟩ = some (.int .i64 a1) := hD.cell 3
  have df3 := hD.free 3
  have d4 : w4.cell? ⟨b1, 4, none⟩ = some (.int .i64 a2) := hD.cell 4
  have df4 := hD.free 4
  have d5 : w4.cell? ⟨b1, 5, none⟩ = some (.int .i64 a3) := hD.cell 5
  have df5 := hD.free 5
  have d6 : w4.cell? ⟨b1, 6, none⟩ = some (.int .i64 a4) := hD.cell 6
  have df6 := hD.free 6
  have d7 : w4.cell? ⟨b1, 7, none⟩ = some (.int .i64 a5) := hD.cell 7
  have df7 := hD.free 7
  have d8 : w4.cell? ⟨b1, 8, none⟩ = some (.int .i64 0) := hD.cell 8
  have df8 := hD.free 8
  have d9 : w4.cell? ⟨b1, 9, none⟩ = some (.int .i64 0) := hD.cell 9
  have df9 := hD.free 9
  have d10 : w4.cell? ⟨b1, 10, none⟩ = some (.int .i64 0) := hD.cell 10
  have df10 := hD.free 10
  have d11 : w4.cell? ⟨b1, 11, none⟩ = some (.int .i64 0) := hD.cell 11
  have df11 := hD.free 11
  have d12 : w4.cell? ⟨b1, 12, none⟩ = some (.int .i64 0) := hD.cell 12
  have df12 := hD.free 12
  have lt_d := hD.lt
  have x0 : w4.cell? ⟨w.heap.size, 0, none⟩ = some (.int .i64 0) := hX.cell 0
  have xf0 := hX.free 0
  have x1 : w4.cell? ⟨w.heap.size, 1, none⟩ = some (.int .i64 0) := hX.cell 1
  have xf1 := hX.free 1
  have x2 : w4.cell? ⟨w.heap.size, 2, none⟩ = some (.int .i64 0) := hX.cell 2
  have xf2 := hX.free 2
  have x3 : w4.cell? ⟨w.heap.size, 3, none⟩ = some (.int .i64 0) := hX.cell 3
  have xf3 := hX.free 3
  have x4 : w4.cell? ⟨w.heap.size, 4, none⟩ = some (.int .i64 0) := hX.cell 4
  have xf4 := hX.free 4
  have x5 : w4.cell? ⟨w.heap.size, 5, none⟩ = some (.int .i64 0) := hX.cell 5
  have xf5 := hX.free 5
  have x6 : w4.cell? ⟨w.heap.size, 6, none⟩ = some (.int .i64 0) := hX.cell 6
  have xf6 := hX.free 6
  have x7 : w4.cell? ⟨w.heap.size, 7, none⟩ = some (.int .i64 0) := hX.cell 7
  have xf7 := hX.free 7
  have x8 : w4.cell? ⟨w.heap.size, 8, none⟩ = some (.int .i64 0) := hX.cell 8
  have xf8 := hX.free 8
  have x9 : w4.cell? ⟨w.heap.size, 9, none⟩ = some (.int .i64 0) := hX.cell 9
  have xf9 := hX.free 9
  have x10 : w4.cell? ⟨w.heap.size, 10, none⟩ = some (.int .i64 0) := hX.cell 10
  have xf10 := hX.free 10
  have x11 : w4.cell? ⟨w.heap.size, 11, none⟩ = some (.int .i64 0) := hX.cell 11
  have xf11 := hX.free 11
  have x12 : w4.cell? ⟨w.heap.size, 12, none⟩ = some (.int .i64 0) := hX.cell 12
  have xf12 := hX.free 12
  have lt_x := hX.lt
  have HX := Lib.hid hX
  clear hX hD
  go_wp2_with fail
  have hX := HX.out
  clear d0 df0 d1 df1 d2 df2 d3 df3 d4 df4 d5 df5 d6 df6 d7 df7 d8 df8 d9 df9 d10 df10 d11 df11 d12 df12 lt_d
  clear x0 xf0 x1 xf1 x2 xf2 x3 xf3 x4 xf4 x5 xf5 x6 xf6 x7 xf7 x8 xf8 x9 xf9 x10 xf10 x11 xf11 x12 xf12 lt_x
  have hF : Blok (((((((((((((w4.setCell ⟨w.heap.size, 0, none⟩ (.int .i64 1)).setCell ⟨w.heap.size, 1, none⟩ (.int .i64 1)).setCell ⟨w.heap.size, 2, none⟩ (.int .i64 a0)).setCell ⟨w.heap.size, 3, none⟩ (.int .i64 a1)).setCell ⟨w.heap.size, 4, none⟩ (.int .i64 a2)).setCell ⟨w.heap.size, 5, none⟩ (.int .i64 a3)).setCell ⟨w.heap.size, 6, none⟩ (.int .i64 a4)).setCell ⟨w.heap.size, 7, none⟩ (.int .i64 a5)).setCell ⟨w.heap.size, 8, none⟩ (.int .i64 0)).setCell ⟨w.heap.size, 9, none⟩ (.int .i64 0)).setCell ⟨w.heap.size, 10, none⟩ (.int .i64 0)).setCell ⟨w.heap.size, 11, none⟩ (.int .i64 0)).setCell ⟨w.heap.size, 12, none⟩ (.int .i64 0)) w.heap.size 41 #[.int .i64 1, .int .i64 1, .int .i64 a0, .int .i64 a1, .int .i64 a2, .int .i64 a3, .int .i64 a4, .int .i64 a5, .int .i64 0, .int .i64 0, .int .i64 0, .int .i64 0, .int .i64 0] := by have h := (((((((((((((hX.set_ 0 (.int .i64 1)).set_ 1 (.int .i64 1)).set_ 2 (.int .i64 a0)).set_ 3 (.int .i64 a1)).set_ 4 (.int .i64 a2)).set_ 5 (.int .i64 a3)).set_ 6 (.int .i64 a4)).set_ 7 (.int .i64 a5)).set_ 8 (.int .i64 0)).set_ 9 (.int .i64 0)).set_ 10 (.int .i64 0)).set_ 11 (.int .i64 0)).set_ 12 (.int .i64 0)); simpa using h
  have hle0 : w.heap.size ≤ w.heap.size := by first | exact Nat.le_refl _ | omega
  have hWf : Below w.heap.size w (((((((((((((w4.setCell ⟨w.heap.size, 0, none⟩ (.int .i64 1)).setCell ⟨w.heap.size, 1, none⟩ (.int .i64 1)).setCell ⟨w.heap.size, 2, none⟩ (.int .i64 a0)).setCell ⟨w.heap.size, 3, none⟩ (.int .i64 a1)).setCell ⟨w.heap.size, 4, none⟩ (.int .i64 a2)).setCell ⟨w.heap.size, 5, none⟩ (.int .i64 a3)).setCell ⟨w.heap.size, 6, none⟩ (.int .i64 a4)).setCell ⟨w.heap.size, 7, none⟩ (.int .i64 a5)).setCell ⟨w.heap.size, 8, none⟩ (.int .i64 0)).setCell ⟨w.heap.size, 9, none⟩ (.int .i64 0)).setCell ⟨w.heap.size, 10, none⟩ (.int .i64 0)).setCell ⟨w.heap.size, 11, none⟩ (.int .i64 0)).setCell ⟨w.heap.size, 12, none⟩ (.int .i64 0)) := (((((((((((((hB.setCell (p := ⟨w.heap.size, 0, none⟩) hle0 (.int .i64 1)).setCell (p := ⟨w.heap.size, 1, none⟩) hle0 (.int .i64 1)).setCell (p := ⟨w.heap.size, 2, none⟩) hle0 (.int .i64 a0)).setCell (p := ⟨w.heap.size, 3, none⟩) hle0 (.int .i64 a1)).setCell (p := ⟨w.heap.size, 4, none⟩) hle0 (.int .i64 a2)).setCell (p := ⟨w.heap.size, 5, none⟩) hle0 (.int .i64 a3)).setCell (p := ⟨w.heap.size, 6, none⟩) hle0 (.int .i64 a4)).setCell (p := ⟨w.heap.size, 7, none⟩) hle0 (.int .i64 a5)).setCell (p := ⟨w.heap.size, 8, none⟩) hle0 (.int .i64 0)).setCell (p := ⟨w.heap.size, 9, none⟩) hle0 (.int .i64 0)).setCell (p := ⟨w.heap.size, 10, none⟩) hle0 (.int .i64 0)).setCell (p := ⟨w.heap.size, 11, none⟩) hle0 (.int .i64 0)).setCell (p := ⟨w.heap.size, 12, none⟩) hle0 (.int .i64 0))
  have hlF := hF.lt
  generalize (((((((((((((w4.setCell ⟨w.heap.size, 0, none⟩ (.int .i64 1)).setCell ⟨w.heap.size, 1, none⟩ (.int .i64 1)).setCell ⟨w.heap.size, 2, none⟩ (.int .i64 a0)).setCell ⟨w.heap.size, 3, none⟩ (.int .i64 a1)).setCell ⟨w.heap.size, 4, none⟩ (.int .i64 a2)).setCell ⟨w.heap.size, 5, none⟩ (.int .i64 a3)).setCell ⟨w.heap.size, 6, none⟩ (.int .i64 a4)).setCell ⟨w.heap.size, 7, none⟩ (.int .i64 a5)).setCell ⟨w.heap.size, 8, none⟩ (.int .i64 0)).setCell ⟨w.heap.size, 9, none⟩ (.int .i64 0)).setCell ⟨w.heap.size, 10, none⟩ (.int .i64 0)).setCell ⟨w.heap.size, 11, none⟩ (.int .i64 0)).setCell ⟨w.heap.size, 12, none⟩ (.int .i64 0)) = wf at *
  have r0 : wf.cell? ⟨w.heap.size, 0, none⟩ = some (.int .i64 1) := hF.cell 0
  have r1 : wf.cell? ⟨w.heap.size, 1, none⟩ = some (.int .i64 1) := hF.cell 1
  have r2 : wf.cell? ⟨w.heap.size, 2, none⟩ = some (.int .i64 a0) := hF.cell 2
  have r3 : wf.cell? ⟨w.heap.size, 3, none⟩ = some (.int .i64 a1) := hF.cell 3
  have r4 : wf.cell? ⟨w.heap.size, 4, none⟩ = some (.int .i64 a2) := hF.cell 4
  have r5 : wf.cell? ⟨w.heap.size, 5, none⟩ = some (.int .i64 a3) := hF.cell 5
  have r6 : wf.cell? ⟨w.heap.size, 6, none⟩ = some (.int .i64 a4) := hF.cell 6
  have r7 : wf.cell? ⟨w.heap.size, 7, none⟩ = some (.int .i64 a5) := hF.cell 7
  have r8 : wf.cell? ⟨w.heap.size, 8, none⟩ = some (.int .i64 0) := hF.cell 8
  have r9 : wf.cell? ⟨w.heap.size, 9, none⟩ = some (.int .i64 0) := hF.cell 9
  have r10 : wf.cell? ⟨w.heap.size, 10, none⟩ = some (.int .i64 0) := hF.cell 10
  have r11 : wf.cell? ⟨w.heap.size, 11, none⟩ = some (.int .i64 0) := hF.cell 11
  have r12 : wf.cell? ⟨w.heap.size, 12, none⟩ = some (.int .i64 0) := hF.cell 12
  refine bodyPost_ret (v := .agg #[.int .i64 1, .int .i64 1, .int .i64 a0, .int .i64 a1, .int .i64 a2, .int .i64 a3, .int .i64 a4, .int .i64 a5, .int .i64 0, .int .i64 0, .int .i64 0, .int .i64 0, .int .i64 0]) (by simp [results, Tryz.results39, go_sem, r0, r1, r2, r3, r4, r5, r6, r7, r8, r9, r10, r11, r12, hlF]) rfl ?_
  exact ⟨rfl, hWf⟩
set_option maxHeartbeats 8000000 in
set_option maxRecDepth 100000 in
theorem rmade_21 (A : Option Addr) (c : Nat) (a0 : Int) (w : World) (h : Sl w w.heap.size 1 A 1 c ([a0].map (Value.int .i64))) : Calls Tryz.prog 39 #[.int .i64 2, .int .i64 1, .slice A 1 c] w fun e w' => e = .returned (.agg #[.int .i64 (madeD 2 1 [a0]).op, .int .i64 (madeD 2 1 [a0]).kd, .int .i64 (madeD 2 1 [a0]).id, .int .i64 (madeD 2 1 [a0]).fr, .int .i64 (madeD 2 1 [a0]).tn, .int .i64 (madeD 2 1 [a0]).st, .int .i64 (madeD 2 1 [a0]).en, .int .i64 (madeD 2 1 [a0]).rt, .int .i64 (madeD 2 1 [a0]).rf, .int .i64 (madeD 2 1 [a0]).rn, .int .i64 (madeD 2 1 [a0]).rs, .int .i64 (madeD 2 1 [a0]).re, .int .i64 (madeD 2 1 [a0]).ro]) ∧ Below w.heap.size w w' := by
  obtain ⟨ad, rfl, hab, _⟩ := h.lst.atI4 (k := 0) rfl (by omega)
  obtain ⟨_, e0, _, k0⟩ := h.lst.atI4 (k := 0) rfl (by omega)
  injection e0 with e0
  subst e0
  have g0 : w.cell? ad = some (.int .i64 a0) := by rw [add_zero_] at k0; exact k0
  have HFOOT := Lib.hid (fun (w' : World) (hb : Below w.heap.size w w') => (show w'.cell? ad = some (.int .i64 a0) from (hb.cell (block_lt_of_cell g0)).trans g0))
  clear h k0 g0
  have hX := Blok.new w 41 #[.int .i64 0, .int .i64 0, .int .i64 0, .int .i64 0, .int .i64 0, .int .i64 0, .int .i64 0, .int .i64 0, .int .i64 0, .int .i64 0, .int .i64 0, .int .i64 0, .int .i64 0]
  have hB : Below w.heap.size w (w.alloc (.cells #[.int .i64 0, .int .i64 0, .int .i64 0, .int .i64 0, .int .i64 0, .int .i64 0, .int .i64 0, .int .i64 0, .int .i64 0, .int .i64 0, .int .i64 0, .int .i64 0, .int .i64 0] 41)) := by (repeat (first | exact Below.refl _ _ | refine Below.alloc ?_ (by first | omega | (simp; done) | (simp; omega)) _ | refine Below.setCell ?_ (by first | omega | (simp; done) | (simp; omega)) _ | refine Below.drew ?_))
  have hs := hB.size
  go_enter Tryz.func39, Tryz.ntmps39
  go_upto_region 1 with fail
  generalize w.alloc (.cells #[.int .i64 0, .int .i64 0, .int .i64 0, .int .i64 0, .int .i64 0, .int .i64 0, .int .i64 0, .int .i64 0, .int .i64 0, .int .i64 0, .int .i64 0, .int .i64 0, .int .i64 0] 41) = w0 at *
  go_upto_region 2 with fail
  have hD := Blok.new w0 41 #[.int .i64 2, .int .i64 1, .int .i64 0, .int .i64 0, .int .i64 0, .int .i64 0, .int .i64 0, .int .i64 0, .int .i64 0, .int .i64 0, .int .i64 0, .int .i64 0, .int .i64 0]
  have hb : Below w0.heap.size w0 (w0.alloc (.cells #[.int .i64 2, .int .i64 1, .int .i64 0, .int .i64 0, .int .i64 0, .int .i64 0, .int .i64 0, .int .i64 0, .int .i64 0, .int .i64 0, .int .i64 0, .int .i64 0, .int .i64 0] 41)) := by (repeat (first | exact Below.refl _ _ | refine Below.alloc ?_ (by first | omega | (simp; done) | (simp; omega)) _ | refine Below.setCell ?_ (by first | omega | (simp; done) | (simp; omega)) _ | refine Below.drew ?_))
  have hne0 := hX.lt
  replace hX := hX.below hb hX.lt
  replace hB := hB.trans (hb.mono hs)
  replace hs := hB.size
  clear hb
  generalize w0.alloc (.cells #[.int .i64 2, .int .i64 1, .int .i64 0, .int .i64 0, .int .i64 0, .int .i64 0, .int .i64 0, .int .i64 0, .int .i64 0, .int .i64 0, .int .i64 0, .int .i64 0, .int .i64 0] 41) = w1 at *
  generalize hzz : w0.heap.size = b1 at *
  clear hzz
  have hne1 : w.heap.size ≠ b1 := by omega
  have c0 := HFOOT.out w1 hB
  have d0 : w1.cell? ⟨b1, 0, none⟩ = some (.int .i64 2) := hD.cell 0
  have df0 := hD.free 0
  have d1 : w1.cell? ⟨b1, 1, none⟩ = some (.int .i64 1) := hD.cell 1
  have df1 := hD.free 1
  have d2 : w1.cell? ⟨b1, 2, none⟩ = some (.int .i64 0) := hD.cell 2
  have df2 := hD.free 2
  have d3 : w1.cell? ⟨b1, 3, none⟩ = some (.int .i64 0) := hD.cell 3
  have df3 := hD.free 3
  have d4 : w1.cell? ⟨b1, 4, none⟩ = some (.int .i64 0) := hD.cell 4
  have df4 := hD.free 4
  have d5 : w1.cell? ⟨b1, 5, none⟩ = some (.int .i64 0) := hD.cell 5
  have df5 := hD.free 5
  have d6 : w1.cell? ⟨b1, 6, none⟩ = some (.int .i64 0) := hD.cell 6
  have df6 := hD.free 6
  have d7 : w1.cell? ⟨b1, 7, none⟩ = some (.int .i64 0) := hD.cell 7
  have df7 := hD.free 7
  have d8 : w1.cell? ⟨b1, 8, none⟩ = some (.int .i64 0) := hD.cell 8
  have df8 := hD.free 8
  have d9 : w1.cell? ⟨b1, 9, none⟩ = some (.int .i64 0) := hD.cell 9
  have df9 := hD.free 9
  have d10 : w1.cell? ⟨b1, 10, none⟩ = some (.int .i64 0) := hD.cell 10
  have df10 := hD.free 10
  have d11 : w1.cell? ⟨b1, 11, none⟩ = some (.int .i64 0) := hD.cell 11
  have df11 := hD.free 11
  have d12 : w1.cell? ⟨b1, 12, none⟩ = some (.int .i64 0) := hD.cell 12
  have df12 := hD.free 12
  have lt_d := hD.lt
  go_upto_region 4 with fail
  clear c0
  clear d0 df0 d1 df1 d2 df2 d3 df3 d4 df4 d5 df5 d6 df6 d7 df7 d8 df8 d9 df9 d10 df10 d11 df11 d12 df12 lt_d
  replace hD := hD.set_ 2 (.int .i64 a0)
  replace hX := hX.far (p := ⟨b1, 2, none⟩) (by show w.heap.size ≠ b1; omega) (.int .i64 a0)
  replace hB := hB.setCell (p := ⟨b1, 2, none⟩) (by show w.heap.size ≤ b1; omega) (.int .i64 a0)
  replace hs := hB.size
  generalize (w1).setCell ⟨b1, 2, none⟩ (.int .i64 a0) = w2 at *
  replace hD : Blok w2 b1 41 #[.int .i64 2, .int .i64 1, .int .i64 a0, .int .i64 0, .int .i64 0, .int .i64 0, .int .i64 0, .int .i64 0, .int .i64 0, .int .i64 0, .int .i64 0, .int .i64 0, .int .i64 0] := by simpa using hD
  have d0 : w2.cell? ⟨b1, 0, none⟩ = some (.int .i64 2) := hD.cell 0
  have df0 := hD.free 0
  have d1 : w2.cell? ⟨b1, 1, none⟩ = some (.int .i64 1) := hD.cell 1
  have df1 := hD.free 1
  have d2 : w2.cell? ⟨b1, 2, none⟩ = some (.int .i64 a0) := hD.cell 2
  have df2 := hD.free 2
  have d3 : w2.cell? ⟨b1, 3, none⟩ = some (.int .i64 0) := hD.cell 3
  have df3 := hD.free 3
  have d4 : w2.cell? ⟨b1, 4, none⟩ = some (.int .i64 0) := hD.cell 4
  have df4 := hD.free 4
  have d5 : w2.cell? ⟨b1, 5, none⟩ = some (.int .i64 0) := hD.cell 5
  have df5 := hD.free 5
  have d6 : w2.cell? ⟨b1, 6, none⟩ = some (.int .i64 0) := hD.cell 6
  have df6 := hD.free 6
  have d7 : w2.cell? ⟨b1, 7, none⟩ = some (.int .i64 0) := hD.cell 7
  have df7 := hD.free 7
  have d8 : w2.cell? ⟨b1, 8, none⟩ = some (.int .i64 0) := hD.cell 8
  have df8 := hD.free 8
  have d9 : w2.cell? ⟨b1, 9, none⟩ = some (.int .i64 0) := hD.cell 9
  have df9 := hD.free 9
  have d10 : w2.cell? ⟨b1, 10, none⟩ = some (.int .i64 0) := hD.cell 10
  have df10 := hD.free 10
  have d11 : w2.cell? ⟨b1, 11, none⟩ = some (.int .i64 0) := hD.cell 11
  have df11 := hD.free 11
  have d12 : w2.cell? ⟨b1, 12, none⟩ = some (.int .i64 0) := hD.cell 12
  have df12 := hD.free 12
  have lt_d := hD.lt
  have x0 : w2.cell? ⟨w.heap.size, 0, none⟩ = some (.int .i64 0) := hX.cell 0
  have xf0 := hX.free 0
  have x1 : w2.cell? ⟨w.heap.size, 1, none⟩ = some (.int .i64 0) := hX.cell 1
  have xf1 := hX.free 1
  have x2 : w2.cell? ⟨w.heap.size, 2, none⟩ = some (.int .i64 0) := hX.cell 2
  have xf2 := hX.free 2
  have x3 : w2.cell? ⟨w.heap.size, 3, none⟩ = some (.int .i64 0) := hX.cell 3
  have xf3 := hX.free 3
  have x4 : w2.cell? ⟨w.heap.size, 4, none⟩ = some (.int .i64 0) := hX.cell 4
  have xf4 := hX.free 4
  have x5 : w2.cell? ⟨w.heap.size, 5, none⟩ = some (.int .i64 0) := hX.cell 5
  have xf5 := hX.free 5
  have x6 : w2.cell? ⟨w.heap.size, 6, none⟩ = some (.int .i64 0) := hX.cell 6
  have xf6 := hX.free 6
  have x7 : w2.cell? ⟨w.heap.size, 7, none⟩ = some (.int .i64 0) := hX.cell 7
  have xf7 := hX.free 7
  have x8 : w2.cell? ⟨w.heap.size, 8, none⟩ = some (.int .i64 0) := hX.cell 8
  have xf8 := hX.free 8
  have x9 : w2.cell? ⟨w.heap.size, 9, none⟩ = some (.int .i64 0) := hX.cell 9
  have xf9 := hX.free 9
  have x10 : w2.cell? ⟨w.heap.size, 10, none⟩ = some (.int .i64 0) := hX.cell 10
  have xf10 := hX.free 10
  have x11 : w2.cell? ⟨w.heap.size, 11, none⟩ = some (.int .i64 0) := hX.cell 11
  have xf11 := hX.free 11
  have x12 : w2.cell? ⟨w.heap.size, 12, none⟩ = some (.int .i64 0) := hX.cell 12
  have xf12 := hX.free 12
  have lt_x := hX.lt
  have HX := Lib.hid hX
  clear hX hD
  go_wp2_with fail
  have hX := HX.out
  clear d0 df0 d1 df1 d2 df2 d3 df3 d4 df4 d5 df5 d6 df6 d7 df7 d8 df8 d9 df9 d10 df10 d11 df11 d12 df12 lt_d
  clear x0 xf0 x1 xf1 x2 xf2 x3 xf3 x4 xf4 x5 xf5 x6 xf6 x7 xf7 x8 xf8 x9 xf9 x10 xf10 x11 xf11 x12 xf12 lt_x
  have hF : Blok (((((((((((((w2.setCell ⟨w.heap.size, 0, none⟩ (.int .i64 2)).setCell ⟨w.heap.size, 1, none⟩ (.int .i64 1)).setCell ⟨w.heap.size, 2, none⟩ (.int .i64 a0)).setCell ⟨w.heap.size, 3, none⟩ (.int .i64 0)).setCell ⟨w.heap.size, 4, none⟩ (.int .i64 0)).setCell ⟨w.heap.size, 5, none⟩ (.int .i64 0)).setCell ⟨w.heap.size, 6, none⟩ (.int .i64 0)).setCell ⟨w.heap.size, 7, none⟩ (.int .i64 0)).setCell ⟨w.heap.size, 8, none⟩ (.int .i64 0)).setCell ⟨w.heap.size, 9, none⟩ (.int .i64 0)).setCell ⟨w.heap.size, 10, none⟩ (.int .i64 0)).setCell ⟨w.heap.size, 11, none⟩ (.int .i64 0)).setCell ⟨w.heap.size, 12, none⟩ (.int .i64 0)) w.heap.size 41 #[.int .i64 2, .int .i64 1, .int .i64 a0, .int .i64 0, .int .i64 0, .int .i64 0, .int .i64 0, .int .i64 0, .int .i64 0, .int .i64 0, .int .i64 0, .int .i64 0, .int .i64 0] := by have h := (((((((((((((hX.set_ 0 (.int .i64 2)).set_ 1 (.int .i64 1)).set_ 2 (.int .i64 a0)).set_ 3 (.int .i64 0)).set_ 4 (.int .i64 0)).set_ 5 (.int .i64 0)).set_ 6 (.int .i64 0)).set_ 7 (.int .i64 0)).set_ 8 (.int .i64 0)).set_ 9 (.int .i64 0)).set_ 10 (.int .i64 0)).set_ 11 (.int .i64 0)).set_ 12 (.int .i64 0)); simpa using h
  have hle0 : w.heap.size ≤ w.heap.size := by first | exact Nat.le_refl _ | omega
  have hWf : Below w.heap.size w (((((((((((((w2.setCell ⟨w.heap.size, 0, none⟩ (.int .i64 2)).setCell ⟨w.heap.size, 1, none⟩ (.int .i64 1)).setCell ⟨w.heap.size, 2, none⟩ (.int .i64 a0)).setCell ⟨w.heap.size, 3, none⟩ (.int .i64 0)).setCell ⟨w.heap.size, 4, none⟩ (.int .i64 0)).setCell ⟨w.heap.size, 5, none⟩ (.int .i64 0)).setCell ⟨w.heap.size, 6, none⟩ (.int .i64 0)).setCell ⟨w.heap.size, 7, none⟩ (.int .i64 0)).setCell ⟨w.heap.size, 8, none⟩ (.int .i64 0)).setCell ⟨w.heap.size, 9, none⟩ (.int .i64 0)).setCell ⟨w.heap.size, 10, none⟩ (.int .i64 0)).setCell ⟨w.heap.size, 11, none⟩ (.int .i64 0)).setCell ⟨w.heap.size, 12, none⟩ (.int .i64 0)) := (((((((((((((hB.setCell (p := ⟨w.heap.size, 0, none⟩) hle0 (.int .i64 2)).setCell (p := ⟨w.heap.size, 1, none⟩) hle0 (.int .i64 1)).setCell (p := ⟨w.heap.size, 2, none⟩) hle0 (.int .i64 a0)).setCell (p := ⟨w.heap.size, 3, none⟩) hle0 (.int .i64 0)).setCell (p := ⟨w.heap.size, 4, none⟩) hle0 (.int .i64 0)).setCell (p := ⟨w.heap.size, 5, none⟩) hle0 (.int .i64 0)).setCell (p := ⟨w.heap.size, 6, none⟩) hle0 (.int .i64 0)).setCell (p := ⟨w.heap.size, 7, none⟩) hle0 (.int .i64 0)).setCell (p := ⟨w.heap.size, 8, none⟩) hle0 (.int .i64 0)).setCell (p := ⟨w.heap.size, 9, none⟩) hle0 (.int .i64 0)).setCell (p := ⟨w.heap.size, 10, none⟩) hle0 (.int .i64 0)).setCell (p := ⟨w.heap.size, 11, none⟩) hle0 (.int .i64 0)).setCell (p := ⟨w.heap.size, 12, none⟩) hle0 (.int .i64 0))
  have hlF := hF.lt
  generalize (((((((((((((w2.setCell ⟨w.heap.size, 0, none⟩ (.int .i64 2)).setCell ⟨w.heap.size, 1, none⟩ (.int .i64 1)).setCell ⟨w.heap.size, 2, none⟩ (.int .i64 a0)).setCell ⟨w.heap.size, 3, none⟩ (.int .i64 0)).setCell ⟨w.heap.size, 4, none⟩ (.int .i64 0)).setCell ⟨w.heap.size, 5, none⟩ (.int .i64 0)).setCell ⟨w.heap.size, 6, none⟩ (.int .i64 0)).setCell ⟨w.heap.size, 7, none⟩ (.int .i64 0)).setCell ⟨w.heap.size, 8, none⟩ (.int .i64 0)).setCell ⟨w.heap.size, 9, none⟩ (.int .i64 0)).setCell ⟨w.heap.size, 10, none⟩ (.int .i64 0)).setCell ⟨w.heap.size, 11, none⟩ (.int .i64 0)).setCell ⟨w.heap.size, 12, none⟩ (.int .i64 0)) = wf at *
  have r0 : wf.cell? ⟨w.heap.size, 0, none⟩ = some (.int .i64 2) := hF.cell 0
  have r1 : wf.cell? ⟨w.heap.size, 1, none⟩ = some (.int .i64 1) := hF.cell 1
  have r2 : wf.cell? ⟨w.heap.size, 2, none⟩ = some (.int .i64 a0) := hF.cell 2
  have r3 : wf.cell? ⟨w.heap.size, 3, none⟩ = some (.int .i64 0) := hF.cell 3
  have r4 : wf.cell? ⟨w.heap.size, 4, none⟩ = some (.int .i64 0) := hF.cell 4
  have r5 : wf.cell? ⟨w.heap.size, 5, none⟩ = some (.int .i64 0) := hF.cell 5
  have r6 : wf.cell? ⟨w.heap.size, 6, none⟩ = some (.int .i64 0) := hF.cell 6
  have r7 : wf.cell? ⟨w.heap.size, 7, none⟩ = some (.int .i64 0) := hF.cell 7
  have r8 : wf.cell? ⟨w.heap.size, 8, none⟩ = some (.int .i64 0) := hF.cell 8
  have r9 : wf.cell? ⟨w.heap.size, 9, none⟩ = some (.int .i64 0) := hF.cell 9
  have r10 : wf.cell? ⟨w.heap.size, 10, none⟩ = some (.int .i64 0) := hF.cell 10
  have r11 : wf.cell? ⟨w.heap.size, 11, none⟩ = some (.int .i64 0) := hF.cell 11
  have r12 : wf.cell? ⟨w.heap.size, 12, none⟩ = some (.int .i64 0) := hF.cell 12
  refine bodyPost_ret (v := .agg #[.int .i64 2, .int .i64 1, .int .i64 a0, .int .i64 0, .int .i64 0, .int .i64 0, .int .i64 0, .int .i64 0, .int .i64 0, .int .i64 0, .int .i64 0, .int .i64 0, .int .i64 0]) (by simp [results, Tryz.results39, go_sem, r0, r1, r2, r3, r4, r5, r6, r7, r8, r9, r10, r11, r12, hlF]) rfl ?_
  exact ⟨rfl, hWf⟩
set_option maxHeartbeats 8000000 in
set_option maxRecDepth 100000 in
theorem rmade_31 (A : Option Addr) (c : Nat) (a0 a1 : Int) (w : World) (h : Sl w w.heap.size 1 A 2 c ([a0, a1].map (Value.int .i64))) : Calls Tryz.prog 39 #[.int .i64 3, .int .i64 1, .slice A 2 c] w fun e w' => e = .returned (.agg #[.int .i64 (madeD 3 1 [a0, a1]).op, .int .i64 (madeD 3 1 [a0, a1]).kd, .int .i64 (madeD 3 1 [a0, a1]).id, .int .i64 (madeD 3 1 [a0, a1]).fr, .int .i64 (madeD 3 1 [a0, a1]).tn, .int .i64 (madeD 3 1 [a0, a1]).st, .int .i64 (madeD 3 1 [a0, a1]).en, .int .i64 (madeD 3 1 [a0, a1]).rt, .int .i64 (madeD 3 1 [a0, a1]).rf, .int .i64 (madeD 3 1 [a0, a1]).rn, .int .i64 (madeD 3 1 [a0, a1]).rs, .int .i64 (madeD 3 1 [a0, a1]).re, .int .i64 (madeD 3 1 [a0, a1]).ro]) ∧ Below w.heap.size w w' := by
  obtain ⟨ad, rfl, hab, _⟩ := h.lst.atI4 (k := 0) rfl (by omega)
  obtain ⟨_, e0, _, k0⟩ := h.lst.atI4 (k := 0) rfl (by omega)
  injection e0 with e0
  subst e0
  have g0 : w.cell? ad = some (.int .i64 a0) := by rw [add_zero_] at k0; exact k0
  obtain ⟨_, e1, _, k1⟩ := h.lst.atI4 (k := 1) rfl (by omega)
  injection e1 with e1
  subst e1
  have g1 : w.cell? ⟨ad.block, ad.off + 1, none⟩ = some (.int .i64 a1) := by rw [addr_at ad 1 (by omega)]; exact k1
  have HFOOT := Lib.hid (fun (w' : World) (hb : Below w.heap.size w w') => (show w'.cell? ad = some (.int .i64 a0) ∧ w'.cell? ⟨ad.block, ad.off + 1, none⟩ = some (.int .i64 a1) from ⟨(hb.cell (block_lt_of_cell g0)).trans g0, (hb.cell (block_lt_of_cell g1)).trans g1⟩))
  clear h k0 g0 k1 g1
  have hX := Blok.new w 41 #[.int .i64 0, .int .i64 0, .int .i64 0, .int .i64 0, .int .i64 0, .int .i64 0, .int .i64 0, .int .i64 0, .int .i64 0, .int .i64 0, .int .i64 0, .int .i64 0, .int .i64 0]
  have hB : Below w.heap.size w (w.alloc (.cells #[.int .i64 0, .int .i64 0, .int .i64 0, .int .i64 0, .int .i64 0, .int .i64 0, .int .i64 0, .int .i64 0, .int .i64 0, .int .i64 0, .int .i64 0, .int .i64 0, .int .i64 0] 41)) := by (repeat (first | exact Below.refl _ _ | refine Below.alloc ?_ (by first | omega | (simp; done) | (simp; omega)) _ | refine Below.setCell ?_ (by first | omega | (simp; done) | (simp; omega)) _ | refine Below.drew ?_))
  have hs := hB.size
  go_enter Tryz.func39, Tryz.ntmps39
  go_upto_region 1 with fail
  generalize w.alloc (.cells #[.int .i64 0, .int .i64 0, .int .i64 0, .int .i64 0, .int .i64 0, .int .i64 0, .int .i64 0, .int .i64 0, .int .i64 0, .int .i64 0, .int .i64 0, .int .i64 0, .int .i64 0] 41) = w0 at *
  go_upto_region 2 with fail
  have hD := Blok.new w0 41 #[.int .i64 3, .int .i64 1, .int .i64 0, .int .i64 0, .int .i64 0, .int .i64 0, .int .i64 0, .int .i64 0, .int .i64 0, .int .i64 0, .int .i64 0, .int .i64 0, .int .i64 0]
  have hb : Below w0.heap.size w0 (w0.alloc (.cells #[.int .i64 3, .int .i64 1, .int .i64 0, .int .i64 0, .int .i64 0, .int .i64 0, .int .i64 0, .int .i64 0, .int .i64 0, .int .i64 0, .int .i64 0, .int .i64 0, .int .i64 0] 41)) := by (repeat (first | exact Below.refl _ _ | refine Below.alloc ?_ (by first | omega | (simp; done) | (simp; omega)) _ | refine Below.setCell ?_ (by first | omega | (simp; done) | (simp; omega)) _ | refine Below.drew ?_))
  have hne0 := hX.lt
  replace hX := hX.below hb hX.lt
  replace hB := hB.trans (hb.mono hs)
  replace hs := hB.size
  clear hb
  generalize w0.alloc (.cells #[.int .i64 3, .int .i64 1, .int .i64 0, .int .i64 0, .int .i64 0, .int .i64 0, .int .i64 0, .int .i64 0, .int .i64 0, .int .i64 0, .int .i64 0, .int .i64 0, .int .i64 0] 41) = w1 at *
  generalize hzz : w0.heap.size = b1 at *
  clear hzz
  have hne1 : w.heap.size ≠ b1 := by omega
  obtain ⟨c0, c1⟩ := HFOOT.out w1 hB
  have d0 : w1.cell? ⟨b1, 0, none⟩ = some (.int .i64 3) := hD.cell 0
  have df0 := hD.free 0
  have d1 : w1.cell? ⟨b1, 1, none⟩ = some (.int .i64 1) := hD.cell 1
  have df1 := hD.free 1
  have d2 : w1.cell? ⟨b1, 2, none⟩ = some (.int .i64 0) := hD.cell 2
  have df2 := hD.free 2
  have d3 : w1.cell? ⟨b1, 3, none⟩ = some (.int .i64 0) := hD.cell 3
  have df3 := hD.free 3
  have d4 : w1.cell? ⟨b1, 4, none⟩ = some (.int .i64 0) := hD.cell 4
  have df4 := hD.free 4
  have d5 : w1.cell? ⟨b1, 5, none⟩ = some (.int .i64 0) := hD.cell 5
  have df5 := hD.free 5
  have d6 : w1.cell? ⟨b1, 6, none⟩ = some (.int .i64 0) := hD.cell 6
  have df6 := hD.free 6
  have d7 : w1.cell? ⟨b1, 7, none⟩ = some (.int .i64 0) := hD.cell 7
  have df7 := hD.free 7
  have d8 : w1.cell? ⟨b1, 8, none⟩ = some (.int .i64 0) := hD.cell 8
  have df8 := hD.free 8
  have d9 : w1.cell? ⟨b1, 9, none⟩ = some (.int .i64 0) := hD.cell 9
  have df9 := hD.free 9
  have d10 : w1.cell? ⟨b1, 10, none⟩ = some (.int .i64 0) := hD.cell 10
  have df10 := hD.free 10
  have d11 : w1.cell? ⟨b1, 11, none⟩ = some (.int .i64 0) := hD.cell 11
  have df11 := hD.free 11
  have d12 : w1.cell? ⟨b1, 12, none⟩ = some (.int .i64 0) := hD.cell 12
  have df12 := hD.free 12
  have lt_d := hD.lt
  go_upto_region 4 with fail
  clear c0 c1
  clear d0 df0 d1 df1 d2 df2 d3 df3 d4 df4 d5 df5 d6 df6 d7 df7 d8 df8 d9 df9 d10 df10 d11 df11 d12 df12 lt_d
  replace hD := hD.set_ 2 (.int .i64 a0)
  replace hX := hX.far (p := ⟨b1, 2, none⟩) (by show w.heap.size ≠ b1; omega) (.int .i64 a0)
  replace hB := hB.setCell (p := ⟨b1, 2, none⟩) (by show w.heap.size ≤ b1; omega) (.int .i64 a0)
  replace hs := hB.size
  generalize (w1).setCell ⟨b1, 2, none⟩ (.int .i64 a0) = w2 at *
  replace hD : Blok w2 b1 41 #[.int .i64 3, .int .i64 1, .int .i64 a0, .int .i64 0, .int .i64 0, .int .i64 0, .int .i64 0, .int .i64 0, .int .i64 0, .int .i64 0, .int .i64 0, .int .i64 0, .int .i64 0] := by simpa using hD
  obtain ⟨c0, c1⟩ := HFOOT.out w2 hB
  have d0 : w2.cell? ⟨b1, 0, none⟩ = some (.int .i64 3) := hD.cell 0
  have df0 := hD.free 0
  have d1 : w2.cell? ⟨b1, 1, none⟩ = some (.int .i64 1) := hD.cell 1
  have df1 := hD.free 1
  have d2 : w2.cell? ⟨b1, 2, none⟩ = some (.int .i64 a0) := hD.cell 2
  have df2 := hD.free 2
  have d3 : w2.cell? ⟨b1, 3, none⟩ = some (.int .i64 0) := hD.cell 3
  have df3 := hD.free 3
  have d4 : w2.cell? ⟨b1, 4, none⟩ = some (.int .i64 0) := hD.cell 4
  have df4 := hD.free 4
  have d5 : w2.cell? ⟨b1, 5, none⟩ = some (.int .i64 0) := hD.cell 5
  have df5 := hD.free 5
  have d6 : w2.cell? ⟨b1, 6, none⟩ = some (.int .i64 0) := hD.cell 6
  have df6 := hD.free 6
  have d7 : w2.cell? ⟨b1, 7, none⟩ = some (.int .i64 0) := hD.cell 7
  have df7 := hD.free 7
  have d8 : w2.cell? ⟨b1, 8, none⟩ = some (.int .i64 0) := hD.cell 8
  have df8 := hD.free 8
  have d9 : w2.cell? ⟨b1, 9, none⟩ = some (.int .i64 0) := hD.cell 9
  have df9 := hD.free 9
  have d10 : w2.cell? ⟨b1, 10, none⟩ = some (.int .i64 0) := hD.cell 10
  have df10 := hD.free 10
  have d11 : w2.cell? ⟨b1, 11, none⟩ = some (.int .i64 0) := hD.cell 11
  have df11 := hD.free 11
  have d12 : w2.cell? ⟨b1, 12, none⟩ = some (.int .i64 0) := hD.cell 12
  have df12 := hD.free 12
  have lt_d := hD.lt
  go_upto_region 8 with fail
  clear c0 c1
  clear d0 df0 d1 df1 d2 df2 d3 df3 d4 df4 d5 df5 d6 df6 d7 df7 d8 df8 d9 df9 d10 df10 d11 df11 d12 df12 lt_d
  replace hD := hD.set_ 7 (.int .i64 a1)
  replace hX := hX.far (p := ⟨b1, 7, none⟩) (by show w.heap.size ≠ b1; omega) (.int .i64 a1)
  replace hB := hB.setCell (p := ⟨b1, 7, none⟩) (by show w.heap.size ≤ b1; omega) (.int .i64 a1)
  replace hs := hB.size
  generalize (w2).setCell ⟨b1, 7, none⟩ (.int .i64 a1) = w3 at *
  replace hD : Blok w3 b1 41 #[.int .i64 3, .int .i64 1, .int .i64 a0, .int .i64 0, .int .i64 0, .int .i64 0, .int .i64 0, .int .i64 a1, .int .i64 0, .int .i64 0, .int .i64 0, .int .i64 0, .int .i64 0] := by simpa using hD
  have d0 : w3.cell? ⟨b1, 0, none⟩ = some (.int .i64 3) := hD.cell 0
  have df0 := hD.free 0
  have d1 : w3.cell? ⟨b1, 1, none⟩ = some (.int .i64 1) := hD.cell 1
  have df1 := hD.free 1
  have d2 : w3.cell? ⟨b1, 2, none⟩ = some (.int .i64 a0) := hD.cell 2
  have df2 := hD.free 2
  have d3 : w3.cell? ⟨b1, 3, none⟩ = some (.int .i64 0) := hD.cell 3
  have df3 := hD.free 3
  have d4 : w3.cell? ⟨b1, 4, none⟩ = some (.int .i64 0) := hD.cell 4
  have df4 := hD.free 4
  have d5 : w3.cell? ⟨b1, 5, none⟩ = some (.int .i64 0) := hD.cell 5
  have df5 := hD.free 5
  have d6 : w3.cell? ⟨b1, 6, none⟩ = some (.int .i64 0) := hD.cell 6
  have df6 := hD.free 6
  have d7 : w3.cell? ⟨b1, 7, none⟩ = some (.int .i64 a1) := hD.cell 7
  have df7 := hD.free 7
  have d8 : w3.cell? ⟨b1, 8, none⟩ = some (.int .i64 0) := hD.cell 8
  have df8 := hD.free 8
  have d9 : w3.cell? ⟨b1, 9, none⟩ = some (.int .i64 0) := hD.cell 9
  have df9 := hD.free 9
  have d10 : w3.cell? ⟨b1, 10, none⟩ = some (.int .i64 0) := hD.cell 10
  have df10 := hD.free 10
  have d11 : w3.cell? ⟨b1, 11, none⟩ = some (.int .i64 0) := hD.cell 11
  have df11 := hD.free 11
  have d12 : w3.cell? ⟨b1, 12, none⟩ = some (.int .i64 0) := hD.cell 12
  have df12 := hD.free 12
  have lt_d := hD.lt
  have x0 : w3.cell? ⟨w.heap.size, 0, none⟩ = some (.int .i64 0) := hX.cell 0
  have xf0 := hX.free 0
  have x1 : w3.cell? ⟨w.heap.size, 1, none⟩ = some (.int .i64 0) := hX.cell 1
  have xf1 := hX.free 1
  have x2 : w3.cell? ⟨w.heap.size, 2, none⟩ = some (.int .i64 0) := hX.cell 2
  have xf2 := hX.free 2
  have x3 : w3.cell? ⟨w.heap.size, 3, none⟩ = some (.int .i64 0) := hX.cell 3
  have xf3 := hX.free 3
  have x4 : w3.cell? ⟨w.heap.size, 4, none⟩ = some (.int .i64 0) := hX.cell 4
  have xf4 := hX.free 4
  have x5 : w3.cell? ⟨w.heap.size, 5, none⟩ = some (.int .i64 0) := hX.cell 5
  have xf5 := hX.free 5
  have x6 : w3.cell? ⟨w.heap.size, 6, none⟩ = some (.int .i64 0) := hX.cell 6
  have xf6 := hX.free 6
  have x7 : w3.cell? ⟨w.heap.size, 7, none⟩ = some (.int .i64 0) := hX.cell 7
  have xf7 := hX.free 7
  have x8 : w3.cell? ⟨w.heap.size, 8, none⟩ = some (.int .i64 0) := hX.cell 8
  have xf8 := hX.free 8
  have x9 : w3.cell? ⟨w.heap.size, 9, none⟩ = some (.int .i64 0) := hX.cell 9
  have xf9 := hX.free 9
  have x10 : w3.cell? ⟨w.heap.size, 10, none⟩ = some (.int .i64 0) := hX.cell 10
  have xf10 := hX.free 10
  have x11 : w3.cell? ⟨w.heap.size, 11, none⟩ = some (.int .i64 0) := hX.cell 11
  have xf11 := hX.free 11
  have x12 : w3.cell? ⟨w.heap.size, 12, none⟩ = some (.int .i64 0) := hX.cell 12
  have xf12 := hX.free 12
  have lt_x := hX.lt
  have HX := Lib.hid hX
  clear hX hD
  go_wp2_with fail
  have hX := HX.out
  clear d0 df0 d1 df1 d2 df2 d3 df3 d4 df4 d5 df5 d6 df6 d7 df7 d8 df8 d9 df9 d10 df10 d11 df11 d12 df12 lt_d
  clear x0 xf0 x1 xf1 x2 xf2 x3 xf3 x4 xf4 x5 xf5 x6 xf6 x7 xf7 x8 xf8 x9 xf9 x10 xf10 x11 xf11 x12 xf12 lt_x
  have hF : Blok (((((((((((((w3.setCell ⟨w.heap.size, 0, none⟩ (.int .i64 3)).setCell ⟨w.heap.size, 1, none⟩ (.int .i64 1)).setCell ⟨w.heap.size, 2, none⟩ (.int .i64 a0)).setCell ⟨w.heap.size, 3, none⟩ (.int .i64 0)).setCell ⟨w.heap.size, 4, none⟩ (.int .i64 0)).setCell ⟨w.heap.size, 5, none⟩ (.int .i64 0)).setCell ⟨w.heap.size, 6, none⟩ (.int .i64 0)).setCell ⟨w.heap.size, 7, none⟩ (.int .i64 a1)).setCell ⟨w.heap.size, 8, none⟩ (.int .i64 0)).setCell ⟨w.heap.size, 9, none⟩ (.int .i64 0)).setCell ⟨w.heap.size, 10, none⟩ (.int .i64 0)).setCell ⟨w.heap.size, 11, none⟩ (.int .i64 0)).setCell ⟨w.heap.size, 12, none⟩ (.int .i64 0)) w.heap.size 41 #[.int .i64 3, .int .i64 1, .int .i64 a0, .int .i64 0, .int .i64 0, .int .i64 0, .int .i64 0, .int .i64 a1, .int .i64 0, .int .i64 0, .int .i64 0, .int .i64 0, .int .i64 0] := by have h := (((((((((((((hX.set_ 0 (.int .i64 3)).set_ 1 (.int .i64 1)).set_ 2 (.int .i64 a0)).set_ 3 (.int .i64 0)).set_ 4 (.int .i64 0)).set_ 5 (.int .i64 0)).set_ 6 (.int .i64 0)).set_ 7 (.int .i64 a1)).set_ 8 (.int .i64 0)).set_ 9 (.int .i64 0)).set_ 10 (.int .i64 0)).set_ 11 (.int .i64 0)).set_ 12 (.int .i64 0)); simpa using h
  have hle0 : w.heap.size ≤ w.heap.size := by first | exact Nat.le_refl _ | omega
  have hWf : Below w.heap.size w (((((((((((((w3.setCell ⟨w.heap.size, 0, none⟩ (.int .i64 3)).setCell ⟨w.heap.size, 1, none⟩ (.int .i64 1)).setCell ⟨w.heap.size, 2, none⟩ (.int .i64 a0)).setCell ⟨w.heap.size, 3, none⟩ (.int .i64 0)).setCell ⟨w.heap.size, 4, none⟩ (.int .i64 0)).setCell ⟨w.heap.size, 5, none⟩ (.int .i64 0)).setCell ⟨w.heap.size, 6, none⟩ (.int .i64 0)).setCell ⟨w.heap.size, 7, none⟩ (.int .i64 a1)).setCell ⟨w.heap.size, 8, none⟩ (.int .i64 0)).setCell ⟨w.heap.size, 9, none⟩ (.int .i64 0)).setCell ⟨w.heap.size, 10, none⟩ (.int .i64 0)).setCell ⟨w.heap.size, 11, none⟩ (.int .i64 0)).setCell ⟨w.heap.size, 12, none⟩ (.int .i64 0)) := (((((((((((((hB.setCell (p := ⟨w.heap.size, 0, none⟩) hle0 (.int .i64 3)).setCell (p := ⟨w.heap.size, 1, none⟩) hle0 (.int .i64 1)).setCell (p := ⟨w.heap.size, 2, none⟩) hle0 (.int .i64 a0)).setCell (p := ⟨w.heap.size, 3, none⟩) hle0 (.int .i64 0)).setCell (p := ⟨w.heap.size, 4, none⟩) hle0 (.int .i64 0)).setCell (p := ⟨w.heap.size, 5, none⟩) hle0 (.int .i64 0)).setCell (p := ⟨w.heap.size, 6, none⟩) hle0 (.int .i64 0)).setCell (p := ⟨w.heap.size, 7, none⟩) hle0 (.int .i64 a1)).setCell (p := ⟨w.heap.size, 8, none⟩) hle0 (.int .i64 0)).setCell (p := ⟨w.heap.size, 9, none⟩) hle0 (.int .i64 0)).setCell (p := ⟨w.heap.size, 10, none⟩) hle0 (.int .i64 0)).setCell (p := ⟨w.heap.size, 11, none⟩) hle0 (.int .i64 0)).setCell (p := ⟨w.heap.size, 12, none⟩) hle0 (.int .i64 0))
  have hlF := hF.lt
  generalize (((((((((((((w3.setCell ⟨w.heap.size, 0, none⟩ (.int .i64 3)).setCell ⟨w.heap.size, 1, none⟩ (.int .i64 1)).setCell ⟨w.heap.size, 2, none⟩ (.int .i64 a0)).setCell ⟨w.heap.size, 3, none⟩ (.int .i64 0)).setCell ⟨w.heap.size, 4, none⟩ (.int .i64 0)).setCell ⟨w.heap.size, 5, none⟩ (.int .i64 0)).setCell ⟨w.heap.size, 6, none⟩ (.int .i64 0)).setCell ⟨w.heap.size, 7, none⟩ (.int .i64 a1)).setCell ⟨w.heap.size, 8, none⟩ (.int .i64 0)).setCell ⟨w.heap.size, 9, none⟩ (.int .i64 0)).setCell ⟨w.heap.size, 10, none⟩ (.int .i64 0)).setCell ⟨w.heap.size, 11, none⟩ (.int .i64 0)).setCell ⟨w.heap.size, 12, none⟩ (.int .i64 0)) = wf at *
  have r0 : wf.cell? ⟨w.heap.size, 0, none⟩ = some (.int .i64 3) := hF.cell 0
  have r1 : wf.cell? ⟨w.heap.size, 1, none⟩ = some (.int .i64 1) := hF.cell 1
  have r2 : wf.cell? ⟨w.heap.size, 2, none⟩ = some (.int .i64 a0) := hF.cell 2
  have r3 : wf.cell? ⟨w.heap.size, 3, none⟩ = some (.int .i64 0) := hF.cell 3
  have r4 : wf.cell? ⟨w.heap.size, 4, none⟩ = some (.int .i64 0) := hF.cell 4
  have r5 : wf.cell? ⟨w.heap.size, 5, none⟩ = some (.int .i64 0) := hF.cell 5
  have r6 : wf.cell? ⟨w.heap.size, 6, none⟩ = some (.int .i64 0) := hF.cell 6
  have r7 : wf.cell? ⟨w.heap.size, 7, none⟩ = some (.int .i64 a1) := hF.cell 7
  have r8 : wf.cell? ⟨w.heap.size, 8, none⟩ = some (.int .i64 0) := hF.cell 8
  have r9 : wf.cell? ⟨w.heap.size, 9, none⟩ = some (.int .i64 0) := hF.cell 9
  have r10 : wf.cell? ⟨w.heap.size, 10, none⟩ = some (.int .i64 0) := hF.cell 10
  have r11 : wf.cell? ⟨w.heap.size, 11, none⟩ = some (.int .i64 0) := hF.cell 11
  have r12 : wf.cell? ⟨w.heap.size, 12, none⟩ = some (.int .i64 0) := hF.cell 12
  refine bodyPost_ret (v := .agg #[.int .i64 3, .int .i64 1, .int .i64 a0, .int .i64 0, .int .i64 0, .int .i64 0, .int .i64 0, .int .i64 a1, .int .i64 0, .int .i64 0, .int .i64 0, .int .i64 0, .int .i64 0]) (by simp [results, Tryz.results39, go_sem, r0, r1, r2, r3, r4, r5, r6, r7, r8, r9, r10, r11, r12, hlF]) rfl ?_
  exact ⟨rfl, hWf⟩
set_option maxHeartbeats 8000000 in
set_option maxRecDepth 100000 in
theorem rmade_12 (A : Option Addr) (c : Nat) (a0 a1 a2 a3 a4 : Int) (w : World) (h : Sl w w.heap.size 1 A 5 c ([a0, a1, a2, a3, a4].map (Value.int .i64))) : Calls Tryz.prog 39 #[.int .i64 1, .int .i64 2, .slice A 5 c] w fun e w' => e = .returned (.agg #[.int .i64 (madeD 1 2 [a0, a1, a2, a3, a4]).op, .int .i64 (madeD 1 2 [a0, a1, a2, a3, a4]).kd, .int .i64 (madeD 1 2 [a0, a1, a2, a3, a4]).id, .int .i64 (madeD 1 2 [a0, a1, a2, a3, a4]).fr, .int .i64 (madeD 1 2 [a0, a1, a2, a3, a4]).tn, .int .i64 (madeD 1 2 [a0, a1, a2, a3, a4]).st, .int .i64 (madeD 1 2 [a0, a1, a2, a3, a4]).en, .int .i64 (madeD 1 2 [a0, a1, a2, a3, a4]).rt, .int .i64 (madeD 1 2 [a0, a1, a2, a3, a4]).rf, .int .i64 (madeD 1 2 [a0, a1, a2, a3, a4]).rn, .int .i64 (madeD 1 2 [a0, a1, a2, a3, a4]).rs, .int .i64 (madeD 1 2 [a0, a1, a2, a3, a4]).re, .int .i64 (madeD 1 2 [a0, a1, a2, a3, a4]).ro]) ∧ Below w.heap.size w w' := by
  obtain ⟨ad, rfl, hab, _⟩ := h.lst.atI4 (k := 0) rfl (by omega)
  obtain ⟨_, e0, _, k0⟩ := h.lst.atI4 (k := 0) rfl (by omega)
  injection e0 with e0
  subst e0
  have g0 : w.cell? ad = some (.int .i64 a0) := by rw [add_zero_] at k0; exact k0
  obtain ⟨_, e1, _, k1⟩ := h.lst.atI4 (k := 1) rfl (by omega)
  injection e1 with e1
  subst e1
  have g1 : w.cell? ⟨ad.block, ad.off + 1, none⟩ = some (.int .i64 a1) := by rw [addr_at ad 1 (by omega)]; exact k1
  obtain ⟨_, e2, _, k2⟩ := h.lst.atI4 (k := 2) rfl (by omega)
  injection e2 with e2
  subst e2
  have g2 : w.cell? ⟨ad.block, ad.off + 2, none⟩ = some (.int .i64 a2) := by rw [addr_at ad 2 (by omega)]; exact k2
  obtain ⟨_, e3, _, k3⟩ := h.lst.atI4 (k := 3) rfl (by omega)
  injection e3 with e3
  subst e3
  have g3 : w.cell? ⟨ad.block, ad.off + 3, none⟩ = some (.int .i64 a3) := by rw [addr_at ad 3 (by omega)]; exact k3
  obtain ⟨_, e4, _, k4⟩ := h.lst.atI4 (k := 4) rfl (by omega)
  injection e4 with e4
  subst e4
  have g4 : w.cell? ⟨ad.block, ad.off + 4, none⟩ = some (.int .i64 a4) := by rw [addr_at ad 4 (by omega)]; exact k4
  have HFOOT := Lib.hid (fun (w' : World) (hb : Below w.heap.size w w') => (show w'.cell? ad = some (.int .i64 a0) ∧ w'.cell? ⟨ad.block, ad.off + 1, none⟩ = some (.int .i64 a1) ∧ w'.cell? ⟨ad.block, ad.off + 2, none⟩ = some (.int .i64 a2) ∧ w'.cell? ⟨ad.block, ad.off + 3, none⟩ = some (.int .i64 a3) ∧ w'.cell? ⟨ad.block, ad.off + 4, none⟩ = some (.int .i64 a4) from ⟨(hb.cell (block_lt_of_cell g0)).trans g0, (hb.cell (block_lt_of_cell g1)).trans g1, (hb.cell (block_lt_of_cell g2)).trans g2, (hb.cell (block_lt_of_cell g3)).trans g3, (hb.cell (block_lt_of_cell g4)).trans g4⟩))
  clear h k0 g0 k1 g1 k2 g2 k3 g3 k4 g4
  have hX := Blok.new w 41 #[.int .i64 0, .int .i64 0, .int .i64 0, .int .i64 0, .int .i64 0, .int .i64 0, .int .i64 0, .int .i64 0, .int .i64 0, .int .i64 0, .int .i64 0, .int .i64 0, .int .i64 0]
  have hB : Below w.heap.size w (w.alloc (.cells #[.int .i64 0, .int .i64 0, .int .i64 0, .int .i64 0, .int .i64 0, .int .i64 0, .int .i64 0, .int .i64 0, .int .i64 0, .int .i64 0, .int .i64 0, .int .i64 0, .int .i64 0] 41)) := by (repeat (first | exact Below.refl _ _ | refine Below.alloc ?_ (by first | omega | (simp; done) | (simp; omega)) _ | refine Below.setCell ?_ (by first | omega | (simp; done) | (simp; omega)) _ | refine Below.drew ?_))
  have hs := hB.size
  go_enter Tryz.func39, Tryz.ntmps39
  go_upto_region 1 with fail
  generalize w.alloc (.cells #[.int .i64 0, .int .i64 0, .int .i64 0, .int .i64 0, .int .i64 0, .int .i64 0, .int .i64 0, .int .i64 0, .int .i64 0, .int .i64 0, .int .i64 0, .int .i64 0, .int .i64 0] 41) = w0 at *
  go_upto_region 2 with fail
  have hD := Blok.new w0 41 #[.int .i64 1, .int .i64 2, .int .i64 0, .int .i64 0, .int .i64 0, .int .i64 0, .int .i64 0, .int .i64 0, .int .i64 0, .int .i64 0, .int .i64 0, .int .i64 0, .int .i64 0]
  have hb : Below w0.heap.size w0 (w0.alloc (.cells #[.int .i64 1, .int .i64 2, .int .i64 0, .int .i64 0, .int .i64 0, .int .i64 0, .int .i64 0, .int .i64 0, .int .i64 0, .int .i64 0, .int .i64 0, .int .i64 0, .int .i64 0] 41)) := by (repeat (first | exact Below.refl _ _ | refine Below.alloc ?_ (by first | omega | (simp; done) | (simp; omega)) _ | refine Below.setCell ?_ (by first | omega | (simp; done) | (simp; omega)) _ | refine Below.drew ?_))
  have hne0 := hX.lt
  replace hX := hX.below hb hX.lt
  replace hB := hB.trans (hb.mono hs)
  replace hs := hB.size
  clear hb
  generalize w0.alloc (.cells #[.int .i64 1, .int .i64 2, .int .i64 0, .int .i64 0, .int .i64 0, .int .i64 0, .int .i64 0, .int .i64 0, .int .i64 0, .int .i64 0, .int .i64 0, .int .i64 0, .int .i64 0] 41) = w1 at *
  generalize hzz : w0.heap.size = b1 at *
  clear hzz
  have hne1 : w.heap.size ≠ b1 := by omega
  obtain ⟨c0, c1, c2, c3, c4⟩ := HFOOT.out w1 hB
  have d0 : w1.cell? ⟨b1, 0, none⟩ = some (.int .i64 1) := hD.cell 0
  have df0 := hD.free 0
  have d1 : w1.cell? ⟨b1, 1, none⟩ = some (.int .i64 2) := hD.cell 1
  have df1 := hD.free 1
  have d2 : w1.cell? ⟨b1, 2, none⟩ = some (.int .i64 0) := hD.cell 2
  have df2 := hD.free 2
  have d3 : w1.cell? ⟨b1, 3, none⟩ = some (.int .i64 0) := hD.cell 3
  have df3 := hD.free 3
  have d4 : w1.cell? ⟨b1, 4, none⟩ = some (.int .i64 0) := hD.cell 4
  have df4 := hD.free 4
  have d5 : w1.cell? ⟨b1, 5, none⟩ = some (.int .i64 0) := hD.cell 5
  have df5 := hD.free 5
  have d6 : w1.cell? ⟨b1, 6, none⟩ = some (.int .i64 0) := hD.cell 6
  have df6 := hD.free 6
  have d7 : w1.cell? ⟨b1, 7, none⟩ = some (.int .i64 0) := hD.cell 7
  have df7 := hD.free 7
  have d8 : w1.cell? ⟨b1, 8, none⟩ = some (.int .i64 0) := hD.cell 8
  have df8 := hD.free 8
  have d9 : w1.cell? ⟨b1, 9, none⟩ = some (.int .i64 0) := hD.cell 9
  have df9 := hD.free 9
  have d10 : w1.cell? ⟨b1, 10, none⟩ = some (.int .i64 0) := hD.cell 10
  have df10 := hD.free 10
  have d11 : w1.cell? ⟨b1, 11, none⟩ = some (.int .i64 0) := hD.cell 11
  have df11 := hD.free 11
  have d12 : w1.cell? ⟨b1, 12, none⟩ = some (.int .i64 0) := hD.cell 12
  have df12 := hD.free 12
  have lt_d := hD.lt
  go_upto_region 9 with fail
  have q_c0 := fun d os => cell_regrown c0 d os
  have q_c1 := fun d os => cell_regrown c1 d os
  have q_c2 := fun d os => cell_regrown c2 d os
  have q_c3 := fun d os => cell_regrown c3 d os
  have q_c4 := fun d os => cell_regrown c4 d os
  try simp only [List.append]
  refine wp_region_grown_tail 11 (by kernel_rfl) (by kernel_rfl) ?_
  simp only [Nat.reduceAdd, List.take_succ_cons, List.take_zero]
  repeat (go_big_quiet_step ((fail)))
  refine wpQuiet_nil ?_
  intro _ hqw
  obtain ⟨pq, hqw⟩ := hqw
  subst hqw
  clear q_c0 q_c1 q_c2 q_c3 q_c4
  clear c0 c1 c2 c3 c4
  clear d0 df0 d1 df1 d2 df2 d3 df3 d4 df4 d5 df5 d6 df6 d7 df7 d8 df8 d9 df9 d10 df10 d11 df11 d12 df12 lt_d
  have hb := below_regrown w1 pq.d pq.os
  replace hX := hX.below hb hX.lt
  replace hD := hD.below hb hD.lt
  replace hB := hB.trans (hb.mono hs)
  replace hs := hB.size
  clear hb
  generalize grow (redrawn w1 pq.d) pq.os = w2 at *
  have d0 : w2.cell? ⟨b1, 0, none⟩ = some (.int .i64 1) := hD.cell 0
  have df0 := hD.free 0
  have d1 : w2.cell? ⟨b1, 1, none⟩ = some (.int .i64 2) := hD.cell 1
  have df1 := hD.free 1
  have d2 : w2.cell? ⟨b1, 2, none⟩ = some (.int .i64 0) := hD.cell 2
  have df2 := hD.free 2
  have d3 : w2.cell? ⟨b1, 3, none⟩ = some (.int .i64 0) := hD.cell 3
  have df3 := hD.free 3
  have d4 : w2.cell? ⟨b1, 4, none⟩ = some (.int .i64 0) := hD.cell 4
  have df4 := hD.free 4
  have d5 : w2.cell? ⟨b1, 5, none⟩ = some (.int .i64 0) := hD.cell 5
  have df5 := hD.free 5
  have d6 : w2.cell? ⟨b1, 6, none⟩ = some (.int .i64 0) := hD.cell 6
  have df6 := hD.free 6
  have d7 : w2.cell? ⟨b1, 7, none⟩ = some (.int .i64 0) := hD.cell 7
  have df7 := hD.free 7
  have d8 : w2.cell? ⟨b1, 8, none⟩ = some (.int .i64 0) := hD.cell 8
  have df8 := hD.free 8
  have d9 : w2.cell? ⟨b1, 9, none⟩ = some (.int .i64 0) := hD.cell 9
  have df9 := hD.free 9
  have d10 : w2.cell? ⟨b1, 10, none⟩ = some (.int .i64 0) := hD.cell 10
  have df10 := hD.free 10
  have d11 : w2.cell? ⟨b1, 11, none⟩ = some (.int .i64 0) := hD.cell 11
  have df11 := hD.free 11
  have d12 : w2.cell? ⟨b1, 12, none⟩ = some (.int .i64 0) := hD.cell 12
  have df12 := hD.free 12
  have lt_d := hD.lt
  go_upto_region 10 with fail
  clear d0 df0 d1 df1 d2 df2 d3 df3 d4 df4 d5 df5 d6 df6 d7 df7 d8 df8 d9 df9 d10 df10 d11 df11 d12 df12 lt_d
  replace hD := hD.set_ 8 (.int .i64 a0)
  replace hX := hX.far (p := ⟨b1, 8, none⟩) (by show w.heap.size ≠ b1; omega) (.int .i64 a0)
  replace hB := hB.setCell (p := ⟨b1, 8, none⟩) (by show w.heap.size ≤ b1; omega) (.int .i64 a0)
  replace hD := hD.set_ 9 (.int .i64 a1)
  replace hX := hX.far (p := ⟨b1, 9, none⟩) (by show w.heap.size ≠ b1; omega) (.int .i64 a1)
  replace hB := hB.setCell (p := ⟨b1, 9, none⟩) (by show w.heap.size ≤ b1; omega) (.int .i64 a1)
  replace hD := hD.set_ 10 (.int .i64 a2)
  replace hX := hX.far (p := ⟨b1, 10, none⟩) (by show w.heap.size ≠ b1; omega) (.int .i64 a2)
  replace hB := hB.setCell (p := ⟨b1, 10, none⟩) (by show w.heap.size ≤ b1; omega) (.int .i64 a2)
  replace hD := hD.set_ 11 (.int .i64 0)
  replace hX := hX.far (p := ⟨b1, 11, none⟩) (by show w.heap.size ≠ b1; omega) (.int .i64 0)
  replace hB := hB.setCell (p := ⟨b1, 11, none⟩) (by show w.heap.size ≤ b1; omega) (.int .i64 0)
  replace hD := hD.set_ 12 (.int .i64 0)
  replace hX := hX.far (p := ⟨b1, 12, none⟩) (by show w.heap.size ≠ b1; omega) (.int .i64 0)
  replace hB := hB.setCell (p := ⟨b1, 12, none⟩) (by show w.heap.size ≤ b1; omega) (.int .i64 0)
  replace hs := hB.size
  generalize (((((w2).setCell ⟨b1, 8, none⟩ (.int .i64 a0)).setCell ⟨b1, 9, none⟩ (.int .i64 a1)).setCell ⟨b1, 10, none⟩ (.int .i64 a2)).setCell ⟨b1, 11, none⟩ (.int .i64 0)).setCell ⟨b1, 12, none⟩ (.int .i64 0) = w3 at *
  replace hD : Blok w3 b1 41 #[.int .i64 1, .int .i64 2, .int .i64 0, .int .i64 0, .int .i64 0, .int .i64 0, .int .i64 0, .int .i64 0, .int .i64 a0, .int .i64 a1, .int .i64 a2, .int .i64 0, .int .i64 0] := by simpa using hD
  obtain ⟨c0, c1, c2, c3, c4⟩ := HFOOT.out w3 hB
  have d0 : w3.cell? ⟨b1, 0, none⟩ = some (.int .i64 1) := hD.cell 0
  have df0 := hD.free 0
  have d1 : w3.cell? ⟨b1, 1, none⟩ = some (.int .i64 2) := hD.cell 1
  have df1 := hD.free 1
  have d2 : w3.cell? ⟨b1, 2, none⟩ = some (.int .i64 0) := hD.cell 2
  have df2 := hD.free 2
  have d3 : w3.cell? ⟨b1, 3, none⟩ = some (.int .i64 0) := hD.cell 3
  have df3 := hD.free 3
  have d4 : w3.cell? ⟨b1, 4, none⟩ = some (.int .i64 0) := hD.cell 4
  have df4 := hD.free 4
  have d5 : w3.cell? ⟨b1, 5, none⟩ = some (.int .i64 0) := hD.cell 5
  have df5 := hD.free 5
  have d6 : w3.cell? ⟨b1, 6, none⟩ = some (.int .i64 0) := hD.cell 6
  have df6 := hD.free 6
  have d7 : w3.cell? ⟨b1, 7, none⟩ = some (.int .i64 0) := hD.cell 7
  have df7 := hD.free 7
  have d8 : w3.cell? ⟨b1, 8, none⟩ = some (.int .i64 a0) := hD.cell 8
  have df8 := hD.free 8
  have d9 : w3.cell? ⟨b1, 9, none⟩ = some (.int .i64 a1) := hD.cell 9
  have df9 := hD.free 9
  have d10 : w3.cell? ⟨b1, 10, none⟩ = some (.int .i64 a2) := hD.cell 10
  have df10 := hD.free 10
  have d11 : w3.cell? ⟨b1, 11, none⟩ = some (.int .i64 0) := hD.cell 11
  have df11 := hD.free 11
  have d12 : w3.cell? ⟨b1, 12, none⟩ = some (.int .i64 0) := hD.cell 12
  have df12 := hD.free 12
  have lt_d := hD.lt
  go_upto_region 12 with fail
  clear c0 c1 c2 c3 c4
  clear d0 df0 d1 df1 d2 df2 d3 df3 d4 df4 d5 df5 d6 df6 d7 df7 d8 df8 d9 df9 d10 df10 d11 df11 d12 df12 lt_d
  replace hD := hD.set_ 11 (.int .i64 a3)
  replace hX := hX.far (p := ⟨b1, 11, none⟩) (by show w.heap.size ≠ b1; omega) (.int .i64 a3)
  replace hB := hB.setCell (p := ⟨b1, 11, none⟩) (by show w.heap.size ≤ b1; omega) (.int .i64 a3)
  replace hs := hB.size
  generalize (w3).setCell ⟨b1, 11, none⟩ (.int .i64 a3) = w4 at *
  replace hD : Blok w4 b1 41 #[.int .i64 1, .int .i64 2, .int .i64 0, .int .i64 0, .int .i64 0, .int .i64 0, .int .i64 0, .int .i64 0, .int .i64 a0, .int .i64 a1, .int .i64 a2, .int .i64 a3, .int .i64 0] := by simpa using hD
  obtain ⟨c0, c1, c2, c3, c4⟩ := HFOOT.out w4 hB
  have d0 : w4.cell? ⟨b1, 0, none⟩ = some (.int .i64 1) := hD.cell 0
  have df0 := hD.free 0
  have d1 : w4.cell? ⟨b1, 1, none⟩ = some (.int .i64 2) := hD.cell 1
  have df1 := hD.free 1
  have d2 : w4.cell? ⟨b1, 2, none⟩ = some (.int .i64 0) := hD.cell 2
  have df2 := hD.free 2
  have d3 : w4.cell? ⟨b1, 3, none⟩ = some (.int .i64 0) := hD.cell 3
  have df3 := hD.free 3
  have d4 : w4.cell? ⟨b1, 4, none⟩ = some (.int .i64 0) := hD.cell 4
  have df4 := hD.free 4
  have d5 : w4.cell? ⟨b1, 5, none⟩ = some (.int .i64 0) := hD.cell 5
  have df5 := hD.free 5
  have d6 : w4.cell? ⟨b1, 6, none⟩ = some (.int .i64 0) := hD.cell 6
  have df6 := hD.free 6
  have d7 : w4.cell? ⟨b1, 7, none⟩ = some (.int .i64 0) := hD.cell 7
  have df7 := hD.free 7
  have d8 : w4.cell? ⟨b1, 8, none⟩ = some (.int .i64 a0) := hD.cell 8
  have df8 := hD.free 8
  have d9 : w4.cell? ⟨b1, 9, none⟩ = some (.int .i64 a1) := hD.cell 9
  have df9 := hD.free 9
  have d10 : w4.cell? ⟨b1, 10, none⟩ = some (.int .i64 a2) := hD.cell 10
  have df10 := hD.free 10
  have d11 : w4.cell? ⟨b1, 11, none⟩ = some (.int .i64 a3) := hD.cell 11
  have df11 := hD.free 11
  have d12 : w4.cell? ⟨b1, 12, none⟩ = some (.int .i64 0) := hD.cell 12
  have df12 := hD.free 12
  have lt_d := hD.lt
  go_upto_region 13 with fail
  clear c0 c1 c2 c3 c4
  clear d0 df0 d1 df1 d2 df2 d3 df3 d4 df4 d5 df5 d6 df6 d7 df7 d8 df8 d9 df9 d10 df10 d11 df11 d12 df12 lt_d
  replace hD := hD.set_ 12 (.int .i64 a4)
  replace hX := hX.far (p := ⟨b1, 12, none⟩) (by show w.heap.size ≠ b1; omega) (.int .i64 a4)
  replace hB := hB.setCell (p := ⟨b1, 12, none⟩) (by show w.heap.size ≤ b1; omega) (.int .i64 a4)
  replace hs := hB.size
  generalize (w4).setCell ⟨b1, 12, none⟩ (.int .i64 a4) = w5 at *
  replace hD : Blok w5 b1 41 #[.int .i64 1, .int .i64 2, .int .i64 0, .int .i64 0, .int .i64 0, .int .i64 0, .int .i64 0, .int .i64 0, .int .i64 a0, .int .i64 a1, .int .i64 a2, .int .i64 a3, .int .i64 a4] := by simpa using hD
  have d0 : w5.cell? ⟨b1, 0, none⟩ = some (.int .i64 1) := hD.cell 0
  have df0 := hD.free 0
  have d1 : w5.cell? ⟨b1, 1, none⟩ = some (.int .i64 2) := hD.cell 1
  have df1 := hD.free 1
  have d2 : w5.cell? ⟨b1, 2, none⟩ = some (.int .i64 0) := hD.cell 2
  have df2 := hD.free 2
  have d3 : w5.cell? ⟨b1, 3, none⟩ = some (.int .i64 0) := hD.cell 3
  have df3 := hD.free 3
  have d4 : w5.cell? ⟨b1, 4, none⟩ = some (.int .i64 0) := hD.cell 4
  have df4 := hD.free 4
  have d5 : w5.cell? ⟨b1, 5, none⟩ = some (.int .i64 0) := hD.cell 5
  have df5 := hD.free 5
  have d6 : w5.cell? ⟨b1, 6, none⟩ = some (.int .i64 0) := hD.cell 6
  have df6 := hD.free 6
  have d7 : w5.cell? ⟨b1, 7, none⟩ = some (.int .i64 0) := hD.cell 7
  have df7 := hD.free 7
  have d8 : w5.cell? ⟨b1, 8, none⟩ = some (.int .i64 a0) := hD.cell 8
  have df8 := hD.free 8
  have d9 : w5.cell? ⟨b1, 9, none⟩ = some (.int .i64 a1) := hD.cell 9
  have df9 := hD.free 9
  have d10 : w5.cell? ⟨b1, 10, none⟩ = some (.int .i64 a2) := hD.cell 10
  have df10 := hD.free 10
  have d11 : w5.cell? ⟨b1, 11, none⟩ = some (.int .i64 a3) := hD.cell 11
  have df11 := hD.free 11
  have d12 : w5.cell? ⟨b1, 12, none⟩ = some (.int .i64 a4) := hD.cell 12
  have df12 := hD.free 12
  have lt_d := hD.lt
  have x0 : w5.cell? ⟨w.heap.size, 0, none⟩ = some (.int .i64 0) := hX.cell 0
  have xf0 := hX.free 0
  have x1 : w5.cell? ⟨w.heap.size, 1, none⟩ = some (.int .i64 0) := hX.cell 1
  have xf1 := hX.free 1
  have x2 : w5.cell? ⟨w.heap.size, 2, none⟩ = some (.int .i64 0) := hX.cell 2
  have xf2 := hX.free 2
  have x3 : w5.cell? ⟨w.heap.size, 3, none⟩ = some (.int .i64 0) := hX.cell 3
  have xf3 := hX.free 3
  have x4 : w5.cell? ⟨w.heap.size, 4, none⟩ = some (.int .i64 0) := hX.cell 4
  have xf4 := hX.free 4
  have x5 : w5.cell? ⟨w.heap.size, 5, none⟩ = some (.int .i64 0) := hX.cell 5
  have xf5 := hX.free 5
  have x6 : w5.cell? ⟨w.heap.size, 6, none⟩ = some (.int .i64 0) := hX.cell 6
  have xf6 := hX.free 6
  have x7 : w5.cell? ⟨w.heap.size, 7, none⟩ = some (.int .i64 0) := hX.cell 7
  have xf7 := hX.free 7
  have x8 : w5.cell? ⟨w.heap.size, 8, none⟩ = some (.int .i64 0) := hX.cell 8
  have xf8 := hX.free 8
  have x9 : w5.cell? ⟨w.heap.size, 9, none⟩ = some (.int .i64 0) := hX.cell 9
  have xf9 := hX.free 9
  have x10 : w5.cell? ⟨w.heap.size, 10, none⟩ = some (.int .i64 0) := hX.cell 10
  have xf10 := hX.free 10
  have x11 : w5.cell? ⟨w.heap.size, 11, none⟩ = some (.int .i64 0) := hX.cell 11
  have xf11 := hX.free 11
  have x12 : w5.cell? ⟨w.heap.size, 12, none⟩ = some (.int .i64 0) := hX.cell 12
  have xf12 := hX.free 12
  have lt_x := hX.lt
  have HX := Lib.hid hX
  clear hX hD
  go_wp2_with fail
  have hX := HX.out
  clear d0 df0 d1 df1 d2 df2 d3 df3 d4 df4 d5 df5 d6 df6 d7 df7 d8 df8 d9 df9 d10 df10 d11 df11 d12 df12 lt_d
  clear x0 xf0 x1 xf1 x2 xf2 x3 xf3 x4 xf4 x5 xf5 x6 xf6 x7 xf7 x8 xf8 x9 xf9 x10 xf10 x11 xf11 x12 xf12 lt_x
  have hF : Blok (((((((((((((w5.setCell ⟨w.heap.size, 0, none⟩ (.int .i64 1)).setCell ⟨w.heap.size, 1, none⟩ (.int .i64 2)).setCell ⟨w.heap.size, 2, none⟩ (.int .i64 0)).setCell ⟨w.heap.size, 3, none⟩ (.int .i64 0)).setCell ⟨w.heap.size, 4, none⟩ (.int .i64 0)).setCell ⟨w.heap.size, 5, none⟩ (.int .i64 0)).setCell ⟨w.heap.size, 6, none⟩ (.int .i64 0)).setCell ⟨w.heap.size, 7, none⟩ (.int .i64 0)).setCell ⟨w.heap.size, 8, none⟩ (.int .i64 a0)).setCell ⟨w.heap.size, 9, none⟩ (.int .i64 a1)).setCell ⟨w.heap.size, 10, none⟩ (.int .i64 a2)).setCell ⟨w.heap.size, 11, none⟩ (.int .i64 a3)).setCell ⟨w.heap.size, 12, none⟩ (.int .i64 a4)) w.heap.size 41 #[.int .i64 1, .int .i64 2, .int .i64 0, .int .i64 0, .int .i64 0, .int .i64 0, .int .i64 0, .int .i64 0, .int .i64 a0, .int .i64 a1, .int .i64 a2, .int .i64 a3, .int .i64 a4] := by have h := (((((((((((((hX.set_ 0 (.int .i64 1)).set_ 1 (.int .i64 2)).set_ 2 (.int .i64 0)).set_ 3 (.int .i64 0)).set_ 4 (.int .i64 0)).set_ 5 (.int .i64 0)).set_ 6 (.int .i64 0)).set_ 7 (.int .i64 0)).set_ 8 (.int .i64 a0)).set_ 9 (.int .i64 a1)).set_ 10 (.int .i64 a2)).set_ 11 (.int .i64 a3)).set_ 12 (.int .i64 a4)); simpa using h
  have hle0 : w.heap.size ≤ w.heap.size := by first | exact Nat.le_refl _ | omega
  have hWf : Below w.heap.size w (((((((((((((w5.setCell ⟨w.heap.size, 0, none⟩ (.int .i64 1)).setCell ⟨w.heap.size, 1, none⟩ (.int .i64 2)).setCell ⟨w.heap.size, 2, none⟩ (.int .i64 0)).setCell ⟨w.heap.size, 3, none⟩ (.int .i64 0)).setCell ⟨w.heap.size, 4, none⟩ (.int .i64 0)).setCell ⟨w.heap.size, 5, none⟩ (.int .i64 0)).setCell ⟨w.heap.size, 6, none⟩ (.int .i64 0)).setCell ⟨w.heap.size, 7, none⟩ (.int .i64 0)).setCell ⟨w.heap.size, 8, none⟩ (.int .i64 a0)).setCell ⟨w.heap.size, 9, none⟩ (.int .i64 a1)).setCell ⟨w.heap.size, 10, none⟩ (.int .i64 a2)).setCell ⟨w.heap.size, 11, none⟩ (.int .i64 a3)).setCell ⟨w.heap.size, 12, none⟩ (.int .i64 a4)) := (((((((((((((hB.setCell (p := ⟨w.heap.size, 0, none⟩) hle0 (.int .i64 1)).setCell (p := ⟨w.heap.size, 1, none⟩) hle0 (.int .i64 2)).setCell (p := ⟨w.heap.size, 2, none⟩) hle0 (.int .i64 0)).setCell (p := ⟨w.heap.size, 3, none⟩) hle0 (.int .i64 0)).setCell (p := ⟨w.heap.size, 4, none⟩) hle0 (.int .i64 0)).setCell (p := ⟨w.heap.size, 5, none⟩) hle0 (.int .i64 0)).setCell (p := ⟨w.heap.size, 6, none⟩) hle0 (.int .i64 0)).setCell (p := ⟨w.heap.size, 7, none⟩) hle0 (.int .i64 0)).setCell (p := ⟨w.heap.size, 8, none⟩) hle0 (.int .i64 a0)).setCell (p := ⟨w.heap.size, 9, none⟩) hle0 (.int .i64 a1)).setCell (p := ⟨w.heap.size, 10, none⟩) hle0 (.int .i64 a2)).setCell (p := ⟨w.heap.size, 11, none⟩) hle0 (.int .i64 a3)).setCell (p := ⟨w.heap.size, 12, none⟩) hle0 (.int .i64 a4))
  have hlF := hF.lt
  generalize (((((((((((((w5.setCell ⟨w.heap.size, 0, none⟩ (.int .i64 1)).setCell ⟨w.heap.size, 1, none⟩ (.int .i64 2)).setCell ⟨w.heap.size, 2, none⟩ (.int .i64 0)).setCell ⟨w.heap.size, 3, none⟩ (.int .i64 0)).setCell ⟨w.heap.size, 4, none⟩ (.int .i64 0)).setCell ⟨w.heap.size, 5, none⟩ (.int .i64 0)).setCell ⟨w.heap.size, 6, none⟩ (.int .i64 0)).setCell ⟨w.heap.size, 7, none⟩ (.int .i64 0)).setCell ⟨w.heap.size, 8, none⟩ (.int .i64 a0)).setCell ⟨w.heap.size, 9, none⟩ (.int .i64 a1)).setCell ⟨w.heap.size, 10, none⟩ (.int .i64 a2)).setCell ⟨w.heap.size, 11, none⟩ (.int .i64 a3)).setCell ⟨w.heap.size, 12, none⟩ (.int .i64 a4)) = wf at *
  have r0 : wf.cell? ⟨w.heap.size, 0, none⟩ = some (.int .i64 1) := hF.cell 0
  have r1 : wf.cell? ⟨w.heap.size, 1, none⟩ = some (.int .i64 2) := hF.cell 1
  have r2 : wf.cell? ⟨w.heap.size, 2, none⟩ = some (.int .i64 0) := hF.cell 2
  have r3 : wf.cell? ⟨w.heap.size, 3, none⟩ = some (.int .i64 0) := hF.cell 3
  have r4 : wf.cell? ⟨w.heap.size, 4, none⟩ = some (.int .i64 0) := hF.cell 4
  have r5 : wf.cell? ⟨w.heap.size, 5, none⟩ = some (.int .i64 0) := hF.cell 5
  have r6 : wf.cell? ⟨w.heap.size, 6, none⟩ = some (.int .i64 0) := hF.cell 6
  have r7 : wf.cell? ⟨w.heap.size, 7, none⟩ = some (.int .i64 0) := hF.cell 7
  have r8 : wf.cell? ⟨w.heap.size, 8, none⟩ = some (.int .i64 a0) := hF.cell 8
  have r9 : wf.cell? ⟨w.heap.size, 9, none⟩ = some (.int .i64 a1) := hF.cell 9
  have r10 : wf.cell? ⟨w.heap.size, 10, none⟩ = some (.int .i64 a2) := hF.cell 10
  have r11 : wf.cell? ⟨w.heap.size, 11, none⟩ = some (.int .i64 a3) := hF.cell 11
  have r12 : wf.cell? ⟨w.heap.size, 12, none⟩ = some (.int .i64 a4) := hF.cell 12
  refine bodyPost_ret (v := .agg #[.int .i64 1, .int .i64 2, .int .i64 0, .int .i64 0, .int .i64 0, .int .i64 0, .int .i64 0, .int .i64 0, .int .i64 a0, .int .i64 a1, .int .i64 a2, .int .i64 a3, .int .i64 a4]) (by simp [results, Tryz.results39, go_sem, r0, r1, r2, r3, r4, r5, r6, r7, r8, r9, r10, r11, r12, hlF]) rfl ?_
  exact ⟨rfl, hWf⟩
set_option maxHeartbeats 8000000 in
set_option maxRecDepth 100000 in
theorem rmade_22 (A : Option Addr) (c : Nat) (a0 a1 a2 : Int) (w : World) (h : Sl w w.heap.size 1 A 3 c ([a0, a1, a2].map (Value.int .i64))) : Calls Tryz.prog 39 #[.int .i64 2, .int .i64 2, .slice A 3 c] w fun e w' => e = .returned (.agg #[.int .i64 (madeD 2 2 [a0, a1, a2]).op, .int .i64 (madeD 2 2 [a0, a1, a2]).kd, .int .i64 (madeD 2 2 [a0, a1, a2]).id, .int .i64 (madeD 2 2 [a0, a1, a2]).fr, .int .i64 (madeD 2 2 [a0, a1, a2]).tn, .int .i64 (madeD 2 2 [a0, a1, a2]).st, .int .i64 (madeD 2 2 [a0, a1, a2]).en, .int .i64 (madeD 2 2 [a0, a1, a2]).rt, .int .i64 (madeD 2 2 [a0, a1, a2]).rf, .int .i64 (madeD 2 2 [a0, a1, a2]).rn, .int .i64 (madeD 2 2 [a0, a1, a2]).rs, .int .i64 (madeD 2 2 [a0, a1, a2]).re, .int .i64 (madeD 2 2 [a0, a1, a2]).ro]) ∧ Below w.heap.size w w' := by
  obtain ⟨ad, rfl, hab, _⟩ := h.lst.atI4 (k := 0) rfl (by omega)
  obtain ⟨_, e0, _, k0⟩ := h.lst.atI4 (k := 0) rfl (by omega)
  injection e0 with e0
  subst e0
  have g0 : w.cell? ad = some (.int .i64 a0) := by rw [add_zero_] at k0; exact k0
  obtain ⟨_, e1, _, k1⟩ := h.lst.atI4 (k := 1) rfl (by omega)
  injection e1 with e1
  subst e1
  have g1 : w.cell? ⟨ad.block, ad.off + 1, none⟩ = some (.int .i64 a1) := by rw [addr_at ad 1 (by omega)]; exact k1
  obtain ⟨_, e2, _, k2⟩ := h.lst.atI4 (k := 2) rfl (by omega)
  injection e2 with e2
  subst e2
  have g2 : w.cell? ⟨ad.block, ad.off + 2, none⟩ = some (.int .i64 a2) := by rw [addr_at ad 2 (by omega)]; exact k2
  have HFOOT := Lib.hid (fun (w' : World) (hb : Below w.heap.size w w') => (show w'.cell? ad = some (.int .i64 a0) ∧ w'.cell? ⟨ad.block, ad.off + 1, none⟩ = some (.int .i64 a1) ∧ w'.cell? ⟨ad.block, ad.off + 2, none⟩ = some (.int .i64 a2) from ⟨(hb.cell (block_lt_of_cell g0)).trans g0, (hb.cell (block_lt_of_cell g1)).trans g1, (hb.cell (block_lt_of_cell g2)).trans g2⟩))
  clear h k0 g0 k1 g1 k2 g2
  have hX := Blok.new w 41 #[.int .i64 0, .int .i64 0, .int .i64 0, .int .i64 0, .int .i64 0, .int .i64 0, .int .i64 0, .int .i64 0, .int .i64 0, .int .i64 0, .int .i64 0, .int .i64 0, .int .i64 0]
  have hB : Below w.heap.size w (w.alloc (.cells #[.int .i64 0, .int .i64 0, .int .i64 0, .int .i64 0, .int .i64 0, .int .i64 0, .int .i64 0, .int .i64 0, .int .i64 0, .int .i64 0, .int .i64 0, .int .i64 0, .int .i64 0] 41)) := by (repeat (first | exact Below.refl _ _ | refine Below.alloc ?_ (by first | omega | (simp; done) | (simp; omega)) _ | refine Below.setCell ?_ (by first | omega | (simp; done) | (simp; omega)) _ | refine Below.drew ?_))
  have hs := hB.size
  go_enter Tryz.func39, Tryz.ntmps39
  go_upto_region 1 with fail
  generalize w.alloc (.cells #[.int .i64 0, .int .i64 0, .int .i64 0, .int .i64 0, .int .i64 0, .int .i64 0, .int .i64 0, .int .i64 0, .int .i64 0, .int .i64 0, .int .i64 0, .int .i64 0, .int .i64 0] 41) = w0 at *
  go_upto_region 2 with fail
  have hD := Blok.new w0 41 #[.int .i64 2, .int .i64 2, .int .i64 0, .int .i64 0, .int .i64 0, .int .i64 0, .int .i64 0, .int .i64 0, .int .i64 0, .int .i64 0, .int .i64 0, .int .i64 0, .int .i64 0]
  have hb : Below w0.heap.size w0 (w0.alloc (.cells #[.int .i64 2, .int .i64 2, .int .i64 0, .int .i64 0, .int .i64 0, .int .i64 0, .int .i64 0, .int .i64 0, .int .i64 0, .int .i64 0, .int .i64 0, .int .i64 0, .int .i64 0] 41)) := by (repeat (first | exact Below.refl _ _ | refine Below.alloc ?_ (by first | omega | (simp; done) | (simp; omega)) _ | refine Below.setCell ?_ (by first | omega | (simp; done) | (simp; omega)) _ | refine Below.drew ?_))
  have hne0 := hX.lt
  replace hX := hX.below hb hX.lt
  replace hB := hB.trans (hb.mono hs)
  replace hs := hB.size
  clear hb
  generalize w0.alloc (.cells #[.int .i64 2, .int .i64 2, .int .i64 0, .int .i64 0, .int .i64 0, .int .i64 0, .int .i64 0, .int .i64 0, .int .i64 0, .int .i64 0, .int .i64 0, .int .i64 0, .int .i64 0] 41) = w1 at *
  generalize hzz : w0.heap.size = b1 at *
  clear hzz
  have hne1 : w.heap.size ≠ b1 := by omega
  obtain ⟨c0, c1, c2⟩ := HFOOT.out w1 hB
  have d0 : w1.cell? ⟨b1, 0, none⟩ = some (.int .i64 2) := hD.cell 0
  have df0 := hD.free 0
  have d1 : w1.cell? ⟨b1, 1, none⟩ = some (.int .i64 2) := hD.cell 1
  have df1 := hD.free 1
  have d2 : w1.cell? ⟨b1, 2, none⟩ = some (.int .i64 0) := hD.cell 2
  have df2 := hD.free 2
  have d3 : w1.cell? ⟨b1, 3, none⟩ = some (.int .i64 0) := hD.cell 3
  have df3 := hD.free 3
  have d4 : w1.cell? ⟨b1, 4, none⟩ = some (.int .i64 0) := hD.cell 4
  have df4 := hD.free 4
  have d5 : w1.cell? ⟨b1, 5, none⟩ = some (.int .i64 0) := hD.cell 5
  have df5 := hD.free 5
  have d6 : w1.cell? ⟨b1, 6, none⟩ = some (.int .i64 0) := hD.cell 6
  have df6 := hD.free 6
  have d7 : w1.cell? ⟨b1, 7, none⟩ = some (.int .i64 0) := hD.cell 7
  have df7 := hD.free 7
  have d8 : w1.cell? ⟨b1, 8, none⟩ = some (.int .i64 0) := hD.cell 8
  have df8 := hD.free 8
  have d9 : w1.cell? ⟨b1, 9, none⟩ = some (.int .i64 0) := hD.cell 9
  have df9 := hD.free 9
  have d10 : w1.cell? ⟨b1, 10, none⟩ = some (.int .i64 0) := hD.cell 10
  have df10 := hD.free 10
  have d11 : w1.cell? ⟨b1, 11, none⟩ = some (.int .i64 0) := hD.cell 11
  have df11 := hD.free 11
  have d12 : w1.cell? ⟨b1, 12, none⟩ = some (.int .i64 0) := hD.cell 12
  have df12 := hD.free 12
  have lt_d := hD.lt
  go_upto_region 9 with fail
  have q_c0 := fun d os => cell_regrown c0 d os
  have q_c1 := fun d os => cell_regrown c1 d os
  have q_c2 := fun d os => cell_regrown c2 d os
  try simp only [List.append]
  refine wp_region_grown_tail 11 (by kernel_rfl) (by kernel_rfl) ?_
  simp only [Nat.reduceAdd, List.take_succ_cons, List.take_zero]
  repeat (go_big_quiet_step ((fail)))
  refine wpQuiet_nil ?_
  intro _ hqw
  obtain ⟨pq, hqw⟩ := hqw
  subst hqw
  clear q_c0 q_c1 q_c2
  clear c0 c1 c2
  clear d0 df0 d1 df1 d2 df2 d3 df3 d4 df4 d5 df5 d6 df6 d7 df7 d8 df8 d9 df9 d10 df10 d11 df11 d12 df12 lt_d
  have hb := below_regrown w1 pq.d pq.os
  replace hX := hX.below hb hX.lt
  replace hD := hD.below hb hD.lt
  replace hB := hB.trans (hb.mono hs)
  replace hs := hB.size
  clear hb
  generalize grow (redrawn w1 pq.d) pq.os = w2 at *
  have d0 : w2.cell? ⟨b1, 0, none⟩ = some (.int .i64 2) := hD.cell 0
  have df0 := hD.free 0
  have d1 : w2.cell? ⟨b1, 1, none⟩ = some (.int .i64 2) := hD.cell 1
  have df1 := hD.free 1
  have d2 : w2.cell? ⟨b1, 2, none⟩ = some (.int .i64 0) := hD.cell 2
  have df2 := hD.free 2
  have d3 : w2.cell? ⟨b1, 3, none⟩ = some (.int .i64 0) := hD.cell 3
  have df3 := hD.free 3
  have d4 : w2.cell? ⟨b1, 4, none⟩ = some (.int .i64 0) := hD.cell 4
  have df4 := hD.free 4
  have d5 : w2.cell? ⟨b1, 5, none⟩ = some (.int .i64 0) := hD.cell 5
  have df5 := hD.free 5
  have d6 : w2.cell? ⟨b1, 6, none⟩ = some (.int .i64 0) := hD.cell 6
  have df6 := hD.free 6
  have d7 : w2.cell? ⟨b1, 7, none⟩ = some (.int .i64 0) := hD.cell 7
  have df7 := hD.free 7
  have d8 : w2.cell? ⟨b1, 8, none⟩ = some (.int .i64 0) := hD.cell 8
  have df8 := hD.free 8
  have d9 : w2.cell? ⟨b1, 9, none⟩ = some (.int .i64 0) := hD.cell 9
  have df9 := hD.free 9
  have d10 : w2.cell? ⟨b1, 10, none⟩ = some (.int .i64 0) := hD.cell 10
  have df10 := hD.free 10
  have d11 : w2.cell? ⟨b1, 11, none⟩ = some (.int .i64 0) := hD.cell 11
  have df11 := hD.free 11
  have d12 : w2.cell? ⟨b1, 12, none⟩ = some (.int .i64 0) := hD.cell 12
  have df12 := hD.free 12
  have lt_d := hD.lt
  go_upto_region 10 with fail
  clear d0 df0 d1 df1 d2 df2 d3 df3 d4 df4 d5 df5 d6 df6 d7 df7 d8 df8 d9 df9 d10 df10 d11 df11 d12 df12 lt_d
  replace hD := hD.set_ 8 (.int .i64 a0)
  replace hX := hX.far (p := ⟨b1, 8, none⟩) (by show w.heap.size ≠ b1; omega) (.int .i64 a0)
  replace hB := hB.setCell (p := ⟨b1, 8, none⟩) (by show w.heap.size ≤ b1; omega) (.int .i64 a0)
  replace hD := hD.set_ 9 (.int .i64 a1)
  replace hX := hX.far (p := ⟨b1, 9, none⟩) (by show w.heap.size ≠ b1; omega) (.int .i64 a1)
  replace hB := hB.setCell (p := ⟨b1, 9, none⟩) (by show w.heap.size ≤ b1; omega) (.int .i64 a1)
  replace hD := hD.set_ 10 (.int .i64 a2)
  replace hX := hX.far (p := ⟨b1, 10, none⟩) (by show w.heap.size ≠ b1; omega) (.int .i64 a2)
  replace hB := hB.setCell (p := ⟨b1, 10, none⟩) (by show w.heap.size ≤ b1; omega) (.int .i64 a2)
  replace hD := hD.set_ 11 (.int .i64 0)
  replace hX := hX.far (p := ⟨b1, 11, none⟩) (by show w.heap.size ≠ b1; omega) (.int .i64 0)
  replace hB := hB.setCell (p := ⟨b1, 11, none⟩) (by show w.heap.size ≤ b1; omega) (.int .i64 0)
  replace hD := hD.set_ 12 (.int .i64 0)
  replace hX := hX.far (p := ⟨b1, 12, none⟩) (by show w.heap.size ≠ b1; omega) (.int .i64 0)
  replace hB := hB.setCell (p := ⟨b1, 12, none⟩) (by show w.heap.size ≤ b1; omega) (.int .i64 0)
  replace hs := hB.size
  generalize (((((w2).setCell ⟨b1, 8, none⟩ (.int .i64 a0)).setCell ⟨b1, 9, none⟩ (.int .i64 a1)).setCell ⟨b1, 10, none⟩ (.int .i64 a2)).setCell ⟨b1, 11, none⟩ (.int .i64 0)).setCell ⟨b1, 12, none⟩ (.int .i64 0) = w3 at *
  replace hD : Blok w3 b1 41 #[.int .i64 2, .int .i64 2, .int .i64 0, .int .i64 0, .int .i64 0, .int .i64 0, .int .i64 0, .int .i64 0, .int .i64 a0, .int .i64 a1, .int .i64 a2, .int .i64 0, .int .i64 0] := by simpa using hD
  have d0 : w3.cell? ⟨b1, 0, none⟩ = some (.int .i64 2) := hD.cell 0
  have df0 := hD.free 0
  have d1 : w3.cell? ⟨b1, 1, none⟩ = some (.int .i64 2) := hD.cell 1
  have df1 := hD.free 1
  have d2 : w3.cell? ⟨b1, 2, none⟩ = some (.int .i64 0) := hD.cell 2
  have df2 := hD.free 2
  have d3 : w3.cell? ⟨b1, 3, none⟩ = some (.int .i64 0) := hD.cell 3
  have df3 := hD.free 3
  have d4 : w3.cell? ⟨b1, 4, none⟩ = some (.int .i64 0) := hD.cell 4
  have df4 := hD.free 4
  have d5 : w3.cell? ⟨b1, 5, none⟩ = some (.int .i64 0) := hD.cell 5
  have df5 := hD.free 5
  have d6 : w3.cell? ⟨b1, 6, none⟩ = some (.int .i64 0) := hD.cell 6
  have df6 := hD.free 6
  have d7 : w3.cell? ⟨b1, 7, none⟩ = some (.int .i64 0) := hD.cell 7
  have df7 := hD.free 7
  have d8 : w3.cell? ⟨b1, 8, none⟩ = some (.int .i64 a0) := hD.cell 8
  have df8 := hD.free 8
  have d9 : w3.cell? ⟨b1, 9, none⟩ = some (.int .i64 a1) := hD.cell 9
  have df9 := hD.free 9
  have d10 : w3.cell? ⟨b1, 10, none⟩ = some (.int .i64 a2) := hD.cell 10
  have df10 := hD.free 10
  have d11 : w3.cell? ⟨b1, 11, none⟩ = some (.int .i64 0) := hD.cell 11
  have df11 := hD.free 11
  have d12 : w3.cell? ⟨b1, 12, none⟩ = some (.int .i64 0) := hD.cell 12
  have df12 := hD.free 12
  have lt_d := hD.lt
  have x0 : w3.cell? ⟨w.heap.size, 0, none⟩ = some (.int .i64 0) := hX.cell 0
  have xf0 := hX.free 0
  have x1 : w3.cell? ⟨w.heap.size, 1, none⟩ = some (.int .i64 0) := hX.cell 1
  have xf1 := hX.free 1
  have x2 : w3.cell? ⟨w.heap.size, 2, none⟩ = some (.int .i64 0) := hX.cell 2
  have xf2 := hX.free 2
  have x3 : w3.cell? ⟨w.heap.size, 3, none⟩ = some (.int .i64 0) := hX.cell 3
  have xf3 := hX.free 3
  have x4 : w3.cell? ⟨w.heap.size, 4, none⟩ = some (.int .i64 0) := hX.cell 4
  have xf4 := hX.free 4
  have x5 : w3.cell? ⟨w.heap.size, 5, none⟩ = some (.int .i64 0) := hX.cell 5
  have xf5 := hX.free 5
  have x6 : w3.cell? ⟨w.heap.size, 6, none⟩ = some (.int .i64 0) := hX.cell 6
  have xf6 := hX.free 6
  have x7 : w3.cell? ⟨w.heap.size, 7, none⟩ = some (.int .i64 0) := hX.cell 7
  have xf7 := hX.free 7
  have x8 : w3.cell? ⟨w.heap.size, 8, none⟩ = some (.int .i64 0) := hX.cell 8
  have xf8 := hX.free 8
  have x9 : w3.cell? ⟨w.heap.size, 9, none⟩ = some (.int .i64 0) := hX.cell 9
  have xf9 := hX.free 9
  have x10 : w3.cell? ⟨w.heap.size, 10, none⟩ = some (.int .i64 0) := hX.cell 10
  have xf10 := hX.free 10
  have x11 : w3.cell? ⟨w.heap.size, 11, none⟩ = some (.int .i64 0) := hX.cell 11
  have xf11 := hX.free 11
  have x12 : w3.cell? ⟨w.heap.size, 12, none⟩ = some (.int .i64 0) := hX.cell 12
  have xf12 := hX.free 12
  have lt_x := hX.lt
  have HX := Lib.hid hX
  clear hX hD
  go_wp2_with fail
  have hX := HX.out
  clear d0 df0 d1 df1 d2 df2 d3 df3 d4 df4 d5 df5 d6 df6 d7 df7 d8 df8 d9 df9 d10 df10 d11 df11 d12 df12 lt_d
  clear x0 xf0 x1 xf1 x2 xf2 x3 xf3 x4 xf4 x5 xf5 x6 xf6 x7 xf7 x8 xf8 x9 xf9 x10 xf10 x11 xf11 x12 xf12 lt_x
  have hF : Blok (((((((((((((w3.setCell ⟨w.heap.size, 0, none⟩ (.int .i64 2)).setCell ⟨w.heap.size, 1, none⟩ (.int .i64 2)).setCell ⟨w.heap.size, 2, none⟩ (.int .i64 0)).setCell ⟨w.heap.size, 3, none⟩ (.int .i64 0)).setCell ⟨w.heap.size, 4, none⟩ (.int .i64 0)).setCell ⟨w.heap.size, 5, none⟩ (.int .i64 0)).setCell ⟨w.heap.size, 6, none⟩ (.int .i64 0)).setCell ⟨w.heap.size, 7, none⟩ (.int .i64 0)).setCell ⟨w.heap.size, 8, none⟩ (.int .i64 a0)).setCell ⟨w.heap.size, 9, none⟩ (.int .i64 a1)).setCell ⟨w.heap.size, 10, none⟩ (.int .i64 a2)).setCell ⟨w.heap.size, 11, none⟩ (.int .i64 0)).setCell ⟨w.heap.size, 12, none⟩ (.int .i64 0)) w.heap.size 41 #[.int .i64 2, .int .i64 2, .int .i64 0, .int .i64 0, .int .i64 0, .int .i64 0, .int .i64 0, .int .i64 0, .int .i64 a0, .int .i64 a1, .int .i64 a2, .int .i64 0, .int .i64 0] := by have h := (((((((((((((hX.set_ 0 (.int .i64 2)).set_ 1 (.int .i64 2)).set_ 2 (.int .i64 0)).set_ 3 (.int .i64 0)).set_ 4 (.int .i64 0)).set_ 5 (.int .i64 0)).set_ 6 (.int .i64 0)).set_ 7 (.int .i64 0)).set_ 8 (.int .i64 a0)).set_ 9 (.int .i64 a1)).set_ 10 (.int .i64 a2)).set_ 11 (.int .i64 0)).set_ 12 (.int .i64 0)); simpa using h
  have hle0 : w.heap.size ≤ w.heap.size := by first | exact Nat.le_refl _ | omega
  have hWf : Below w.heap.size w (((((((((((((w3.setCell ⟨w.heap.size, 0, none⟩ (.int .i64 2)).setCell ⟨w.heap.size, 1, none⟩ (.int .i64 2)).setCell ⟨w.heap.size, 2, none⟩ (.int .i64 0)).setCell ⟨w.heap.size, 3, none⟩ (.int .i64 0)).setCell ⟨w.heap.size, 4, none⟩ (.int .i64 0)).setCell ⟨w.heap.size, 5, none⟩ (.int .i64 0)).setCell ⟨w.heap.size, 6, none⟩ (.int .i64 0)).setCell ⟨w.heap.size, 7, none⟩ (.int .i64 0)).setCell ⟨w.heap.size, 8, none⟩ (.int .i64 a0)).setCell ⟨w.heap.size, 9, none⟩ (.int .i64 a1)).setCell ⟨w.heap.size, 10, none⟩ (.int .i64 a2)).setCell ⟨w.heap.size, 11, none⟩ (.int .i64 0)).setCell ⟨w.heap.size, 12, none⟩ (.int .i64 0)) := (((((((((((((hB.setCell (p := ⟨w.heap.size, 0, none⟩) hle0 (.int .i64 2)).setCell (p := ⟨w.heap.size, 1, none⟩) hle0 (.int .i64 2)).setCell (p := ⟨w.heap.size, 2, none⟩) hle0 (.int .i64 0)).setCell (p := ⟨w.heap.size, 3, none⟩) hle0 (.int .i64 0)).setCell (p := ⟨w.heap.size, 4, none⟩) hle0 (.int .i64 0)).setCell (p := ⟨w.heap.size, 5, none⟩) hle0 (.int .i64 0)).setCell (p := ⟨w.heap.size, 6, none⟩) hle0 (.int .i64 0)).setCell (p := ⟨w.heap.size, 7, none⟩) hle0 (.int .i64 0)).setCell (p := ⟨w.heap.size, 8, none⟩) hle0 (.int .i64 a0)).setCell (p := ⟨w.heap.size, 9, none⟩) hle0 (.int .i64 a1)).setCell (p := ⟨w.heap.size, 10, none⟩) hle0 (.int .i64 a2)).setCell (p := ⟨w.heap.size, 11, none⟩) hle0 (.int .i64 0)).setCell (p := ⟨w.heap.size, 12, none⟩) hle0 (.int .i64 0))
  have hlF := hF.lt
  generalize (((((((((((((w3.setCell ⟨w.heap.size, 0, none⟩ (.int .i64 2)).setCell ⟨w.heap.size, 1, none⟩ (.int .i64 2)).setCell ⟨w.heap.size, 2, none⟩ (.int .i64 0)).setCell ⟨w.heap.size, 3, none⟩ (.int .i64 0)).setCell ⟨w.heap.size, 4, none⟩ (.int .i64 0)).setCell ⟨w.heap.size, 5, none⟩ (.int .i64 0)).setCell ⟨w.heap.size, 6, none⟩ (.int .i64 0)).setCell ⟨w.heap.size, 7, none⟩ (.int .i64 0)).setCell ⟨w.heap.size, 8, none⟩ (.int .i64 a0)).setCell ⟨w.heap.size, 9, none⟩ (.int .i64 a1)).setCell ⟨w.heap.size, 10, none⟩ (.int .i64 a2)).setCell ⟨w.heap.size, 11, none⟩ (.int .i64 0)).setCell ⟨w.heap.size, 12, none⟩ (.int .i64 0)) = wf at *
  have r0 : wf.cell? ⟨w.heap.size, 0, none⟩ = some (.int .i64 2) := hF.cell 0
  have r1 : wf.cell? ⟨w.heap.size, 1, none⟩ = some (.int .i64 2) := hF.cell 1
  have r2 : wf.cell? ⟨w.heap.size, 2, none⟩ = some (.int .i64 0) := hF.cell 2
  have r3 : wf.cell? ⟨w.heap.size, 3, none⟩ = some (.int .i64 0) := hF.cell 3
  have r4 : wf.cell? ⟨w.heap.size, 4, none⟩ = some (.int .i64 0) := hF.cell 4
  have r5 : wf.cell? ⟨w.heap.size, 5, none⟩ = some (.int .i64 0) := hF.cell 5
  have r6 : wf.cell? ⟨w.heap.size, 6, none⟩ = some (.int .i64 0) := hF.cell 6
  have r7 : wf.cell? ⟨w.heap.size, 7, none⟩ = some (.int .i64 0) := hF.cell 7
  have r8 : wf.cell? ⟨w.heap.size, 8, none⟩ = some (.int .i64 a0) := hF.cell 8
  have r9 : wf.cell? ⟨w.heap.size, 9, none⟩ = some (.int .i64 a1) := hF.cell 9
  have r10 : wf.cell? ⟨w.heap.size, 10, none⟩ = some (.int .i64 a2) := hF.cell 10
  have r11 : wf.cell? ⟨w.heap.size, 11, none⟩ = some (.int .i64 0) := hF.cell 11
  have r12 : wf.cell? ⟨w.heap.size, 12, none⟩ = some (.int .i64 0) := hF.cell 12
  refine bodyPost_ret (v := .agg #[.int .i64 2, .int .i64 2, .int .i64 0, .int .i64 0, .int .i64 0, .int .i64 0, .int .i64 0, .int .i64 0, .int .i64 a0, .int .i64 a1, .int .i64 a2, .int .i64 0, .int .i64 0]) (by simp [results, Tryz.results39, go_sem, r0, r1, r2, r3, r4, r5, r6, r7, r8, r9, r10, r11, r12, hlF]) rfl ?_
  exact ⟨rfl, hWf⟩
set_option maxHeartbeats 8000000 in
set_option maxRecDepth 100000 in
theorem rmade_32 (A : Option Addr) (c : Nat) (a0 a1 a2 a3 : Int) (w : World) (h : Sl w w.heap.size 1 A 4 c ([a0, a1, a2, a3].map (Value.int .i64))) : Calls Tryz.prog 39 #[.int .i64 3, .int .i64 2, .slice A 4 c] w fun e w' => e = .returned (.agg #[.int .i64 (madeD 3 2 [a0, a1, a2, a3]).op, .int .i64 (madeD 3 2 [a0, a1, a2, a3]).kd, .int .i64 (madeD 3 2 [a0, a1, a2, a3]).id, .int .i64 (madeD 3 2 [a0, a1, a2, a3]).fr, .int .i64 (madeD 3 2 [a0, a1, a2, a3]).tn, .int .i64 (madeD 3 2 [a0, a1, a2, a3]).st, .int .i64 (madeD 3 2 [a0, a1, a2, a3]).en, .int .i64 (madeD 3 2 [a0, a1, a2, a3]).rt, .int .i64 (madeD 3 2 [a0, a1, a2, a3]).rf, .int .i64 (madeD 3 2 [a0, a1, a2, a3]).rn, .int .i64 (madeD 3 2 [a0, a1, a2, a3]).rs, .int .i64 (madeD 3 2 [a0, a1, a2, a3]).re, .int .i64 (madeD 3 2 [a0, a1, a2, a3]).ro]) ∧ Below w.heap.size w w' := by
  obtain ⟨ad, rfl, hab, _⟩ := h.lst.atI4 (k := 0) rfl (by omega)
  obtain ⟨_, e0, _, k0⟩ := h.lst.atI4 (k := 0) rfl (by omega)
  injection e0 with e0
  subst e0
  have g0 : w.cell? ad = some (.int .i64 a0) := by rw [add_zero_] at k0; exact k0
  obtain ⟨_, e1, _, k1⟩ := h.lst.atI4 (k := 1) rfl (by omega)
  injection e1 with e1
  subst e1
  have g1 : w.cell? ⟨ad.block, ad.off + 1, none⟩ = some (.int .i64 a1) := by rw [addr_at ad 1 (by omega)]; exact k1
  obtain ⟨_, e2, _, k2⟩ := h.lst.atI4 (k := 2) rfl (by omega)
  injection e2 with e2
  subst e2
  have g2 : w.cell? ⟨ad.block, ad.off + 2, none⟩ = some (.int .i64 a2) := by rw [addr_at ad 2 (by omega)]; exact k2
  obtain ⟨_, e3, _, k3⟩ := h.lst.atI4 (k := 3) rfl (by omega)
  injection e3 with e3
  subst e3
  have g3 : w.cell? ⟨ad.block, ad.off + 3, none⟩ = some (.int .i64 a3) := by rw [addr_at ad 3 (by omega)]; exact k3
  have HFOOT := Lib.hid (fun (w' : World) (hb : Below w.heap.size w w') => (show w'.cell? ad = some (.int .i64 a0) ∧ w'.cell? ⟨ad.block, ad.off + 1, none⟩ = some (.int .i64 a1) ∧ w'.cell? ⟨ad.block, ad.off + 2, none⟩ = some (.int .i64 a2) ∧ w'.cell? ⟨ad.block, ad.off + 3, none⟩ = some (.int .i64 a3) from ⟨(hb.cell (block_lt_of_cell g0)).trans g0, (hb.cell (block_lt_of_cell g1)).trans g1, (hb.cell (block_lt_of_cell g2)).trans g2, (hb.cell (block_lt_of_cell g3)).trans g3⟩))
  clear h k0 g0 k1 g1 k2 g2 k3 g3
  have hX := Blok.new w 41 #[.int .i64 0, .int .i64 0, .int .i64 0, .int .i64 0, .int .i64 0, .int .i64 0, .int .i64 0, .int .i64 0, .int .i64 0, .int .i64 0, .int .i64 0, .int .i64 0, .int .i64 0]
  have hB : Below w.heap.size w (w.alloc (.cells #[.int .i64 0, .int .i64 0, .int .i64 0, .int .i64 0, .int .i64 0, .int .i64 0, .int .i64 0, .int .i64 0, .int .i64 0, .int .i64 0, .int .i64 0, .int .i64 0, .int .i64 0] 41)) := by (repeat (first | exact Below.refl _ _ | refine Below.alloc ?_ (by first | omega | (simp; done) | (simp; omega)) _ | refine Below.setCell ?_ (by first | omega | (simp; done) | (simp; omega)) _ | refine Below.drew ?_))
  have hs := hB.size
  go_enter Tryz.func39, Tryz.ntmps39
  go_upto_region 1 with fail
  generalize w.alloc (.cells #[.int .i64 0, .int .i64 0, .int .i64 0, .int .i64 0, .int .i64 0, .int .i64 0, .int .i64 0, .int .i64 0, .int .i64 0, .int .i64 0, .int .i64 0, .int .i64 0, .int .i64 0] 41) = w0 at *
  go_upto_region 2 with fail
  have hD := Blok.new w0 41 #[.int .i64 3, .int .i64 2, .int .i64 0, .int .i64 0, .int .i64 0, .int .i64 0, .int .i64 0, .int .i64 0, .int .i64 0, .int .i64 0, .int .i64 0, .int .i64 0, .int .i64 0]
  have hb : Below w0.heap.size w0 (w0.alloc (.cells #[.int .i64 3, .int .i64 2, .int .i64 0, .int .i64 0, .int .i64 0, .int .i64 0, .int .i64 0, .int .i64 0, .int .i64 0, .int .i64 0, .int .i64 0, .int .i64 0, .int .i64 0] 41)) := by (repeat (first | exact Below.refl _ _ | refine Below.alloc ?_ (by first | omega | (simp; done) | (simp; omega)) _ | refine Below.setCell ?_ (by first | omega | (simp; done) | (simp; omega)) _ | refine Below.drew ?_))
  have hne0 := hX.lt
  replace hX := hX.below hb hX.lt
  replace hB := hB.trans (hb.mono hs)
  replace hs := hB.size
  clear hb
  generalize w0.alloc (.cells #[.int .i64 3, .int .i64 2, .int .i64 0, .int .i64 0, .int .i64 0, .int .i64 0, .int .i64 0, .int .i64 0, .int .i64 0, .int .i64 0, .int .i64 0, .int .i64 0, .int .i64 0] 41) = w1 at *
  generalize hzz : w0.heap.size = b1 at *
  clear hzz
  have hne1 : w.heap.size ≠ b1 := by omega
  obtain ⟨c0, c1, c2, c3⟩ := HFOOT.out w1 hB
  have d0 : w1.cell? ⟨b1, 0, none⟩ = some (.int .i64 3) := hD.cell 0
  have df0 := hD.free 0
  have d1 : w1.cell? ⟨b1, 1, none⟩ = some (.int .i64 2) := hD.cell 1
  have df1 := hD.free 1
  have d2 : w1.cell? ⟨b1, 2, none⟩ = some (.int .i64 0) := hD.cell 2
  have df2 := hD.free 2
  have d3 : w1.cell? ⟨b1, 3, none⟩ = some (.int .i64 0) := hD.cell 3
  have df3 := hD.free 3
  have d4 : w1.cell? ⟨b1, 4, none⟩ = some (.int .i64 0) := hD.cell 4
  have df4 := hD.free 4
  have d5 : w1.cell? ⟨b1, 5, none⟩ = some (.int .i64 0) := hD.cell 5
  have df5 := hD.free 5
  have d6 : w1.cell? ⟨b1, 6, none⟩ = some (.int .i64 0) := hD.cell 6
  have df6 := hD.free 6
  have d7 : w1.cell? ⟨b1, 7, none⟩ = some (.int .i64 0) := hD.cell 7
  have df7 := hD.free 7
  have d8 : w1.cell? ⟨b1, 8, none⟩ = some (.int .i64 0) := hD.cell 8
  have df8 := hD.free 8
  have d9 : w1.cell? ⟨b1, 9, none⟩ = some (.int .i64 0) := hD.cell 9
  have df9 := hD.free 9
  have d10 : w1.cell? ⟨b1, 10, none⟩ = some (.int .i64 0) := hD.cell 10
  have df10 := hD.free 10
  have d11 : w1.cell? ⟨b1, 11, none⟩ = some (.int .i64 0) := hD.cell 11
  have df11 := hD.free 11
  have d12 : w1.cell? ⟨b1, 12, none⟩ = some (.int .i64 0) := hD.cell 12
  have df12 := hD.free 12
  have lt_d := hD.lt
  go_upto_region 9 with fail
  have q_c0 := fun d os => cell_regrown c0 d os
  have q_c1 := fun d os => cell_regrown c1 d os
  have q_c2 := fun d os => cell_regrown c2 d os
  have q_c3 := fun d os => cell_regrown c3 d os
  try simp only [List.append]
  refine wp_region_grown_tail 11 (by kernel_rfl) (by kernel_rfl) ?_
  simp only [Nat.reduceAdd, List.take_succ_cons, List.take_zero]
  repeat (go_big_quiet_step ((fail)))
  refine wpQuiet_nil ?_
  intro _ hqw
  obtain ⟨pq, hqw⟩ := hqw
  subst hqw
  clear q_c0 q_c1 q_c2 q_c3
  clear c0 c1 c2 c3
  clear d0 df0 d1 df1 d2 df2 d3 df3 d4 df4 d5 df5 d6 df6 d7 df7 d8 df8 d9 df9 d10 df10 d11 df11 d12 df12 lt_d
  have hb := below_regrown w1 pq.d pq.os
  replace hX := hX.below hb hX.lt
  replace hD := hD.below hb hD.lt
  replace hB := hB.trans (hb.mono hs)
  replace hs := hB.size
  clear hb
  generalize grow (redrawn w1 pq.d) pq.os = w2 at *
  have d0 : w2.cell? ⟨b1, 0, none⟩ = some (.int .i64 3) := hD.cell 0
  have df0 := hD.free 0
  have d1 : w2.cell? ⟨b1, 1, none⟩ = some (.int .i64 2) := hD.cell 1
  have df1 := hD.free 1
  have d2 : w2.cell? ⟨b1, 2, none⟩ = some (.int .i64 0) := hD.cell 2
  have df2 := hD.free 2
  have d3 : w2.cell? ⟨b1, 3, none⟩ = some (.int .i64 0) := hD.cell 3
  have df3 := hD.free 3
  have d4 : w2.cell? ⟨b1, 4, none⟩ = some (.int .i64 0) := hD.cell 4
  have df4 := hD.free 4
  have d5 : w2.cell? ⟨b1, 5, none⟩ = some (.int .i64 0) := hD.cell 5
  have df5 := hD.free 5
  have d6 : w2.cell? ⟨b1, 6, none⟩ = some (.int .i64 0) := hD.cell 6
  have df6 := hD.free 6
  have d7 : w2.cell? ⟨b1, 7, none⟩ = some (.int .i64 0) := hD.cell 7
  have df7 := hD.free 7
  have d8 : w2.cell? ⟨b1, 8, none⟩ = some (.int .i64 0) := hD.cell 8
  have df8 := hD.free 8
  have d9 : w2.cell? ⟨b1, 9, none⟩ = some (.int .i64 0) := hD.cell 9
  have df9 := hD.free 9
  have d10 : w2.cell? ⟨b1, 10, none⟩ = some (.int .i64 0) := hD.cell 10
  have df10 := hD.free 10
  have d11 : w2.cell? ⟨b1, 11, none⟩ = some (.int .i64 0) := hD.cell 11
  have df11 := hD.free 11
  have d12 : w2.cell? ⟨b1, 12, none⟩ = some (.int .i64 0) := hD.cell 12
  have df12 := hD.free 12
  have lt_d := hD.lt
  go_upto_region 10 with fail
  clear d0 df0 d1 df1 d2 df2 d3 df3 d4 df4 d5 df5 d6 df6 d7 df7 d8 df8 d9 df9 d10 df10 d11 df11 d12 df12 lt_d
  replace hD := hD.set_ 8 (.int .i64 a0)
  replace hX := hX.far (p := ⟨b1, 8, none⟩) (by show w.heap.size ≠ b1; omega) (.int .i64 a0)
  replace hB := hB.setCell (p := ⟨b1, 8, none⟩) (by show w.heap.size ≤ b1; omega) (.int .i64 a0)
  replace hD := hD.set_ 9 (.int .i64 a1)
  replace hX := hX.far (p := ⟨b1, 9, none⟩) (by show w.heap.size ≠ b1; omega) (.int .i64 a1)
  replace hB := hB.setCell (p := ⟨b1, 9, none⟩) (by show w.heap.size ≤ b1; omega) (.int .i64 a1)
  replace hD := hD.set_ 10 (.int .i64 a2)
  replace hX := hX.far (p := ⟨b1, 10, none⟩) (by show w.heap.size ≠ b1; omega) (.int .i64 a2)
  replace hB := hB.setCell (p := ⟨b1, 10, none⟩) (by show w.heap.size ≤ b1; omega) (.int .i64 a2)
  replace hD := hD.set_ 11 (.int .i64 0)
  replace hX := hX.far (p := ⟨b1, 11, none⟩) (by show w.heap.size ≠ b1; omega) (.int .i64 0)
  replace hB := hB.setCell (p := ⟨b1, 11, none⟩) (by show w.heap.size ≤ b1; omega) (.int .i64 0)
  replace hD := hD.set_ 12 (.int .i64 0)
  replace hX := hX.far (p := ⟨b1, 12, none⟩) (by show w.heap.size ≠ b1; omega) (.int .i64 0)
  replace hB := hB.setCell (p := ⟨b1, 12, none⟩) (by show w.heap.size ≤ b1; omega) (.int .i64 0)
  replace hs := hB.size
  generalize (((((w2).setCell ⟨b1, 8, none⟩ (.int .i64 a0)).setCell ⟨b1, 9, none⟩ (.int .i64 a1)).setCell ⟨b1, 10, none⟩ (.int .i64 a2)).setCell ⟨b1, 11, none⟩ (.int .i64 0)).setCell ⟨b1, 12, none⟩ (.int .i64 0) = w3 at *
  replace hD : Blok w3 b1 41 #[.int .i64 3, .int .i64 2, .int .i64 0, .int .i64 0, .int .i64 0, .int .i64 0, .int .i64 0, .int .i64 0, .int .i64 a0, .int .i64 a1, .int .i64 a2, .int .i64 0, .int .i64 0] := by simpa using hD
  obtain ⟨c0, c1, c2, c3⟩ := HFOOT.out w3 hB
  have d0 : w3.cell? ⟨b1, 0, none⟩ = some (.int .i64 3) := hD.cell 0
  have df0 := hD.free 0
  have d1 : w3.cell? ⟨b1, 1, none⟩ = some (.int .i64 2) := hD.cell 1
  have df1 := hD.free 1
  have d2 : w3.cell? ⟨b1, 2, none⟩ = some (.int .i64 0) := hD.cell 2
  have df2 := hD.free 2
  have d3 : w3.cell? ⟨b1, 3, none⟩ = some (.int .i64 0) := hD.cell 3
  have df3 := hD.free 3
  have d4 : w3.cell? ⟨b1, 4, none⟩ = some (.int .i64 0) := hD.cell 4
  have df4 := hD.free 4
  have d5 : w3.cell? ⟨b1, 5, none⟩ = some (.int .i64 0) := hD.cell 5
  have df5 := hD.free 5
  have d6 : w3.cell? ⟨b1, 6, none⟩ = some (.int .i64 0) := hD.cell 6
  have df6 := hD.free 6
  have d7 : w3.cell? ⟨b1, 7, none⟩ = some (.int .i64 0) := hD.cell 7
  have df7 := hD.free 7
  have d8 : w3.cell? ⟨b1, 8, none⟩ = some (.int .i64 a0) := hD.cell 8
  have df8 := hD.free 8
  have d9 : w3.cell? ⟨b1, 9, none⟩ = some (.int .i64 a1) := hD.cell 9
  have df9 := hD.free 9
  have d10 : w3.cell? ⟨b1, 10, none⟩ = some (.int .i64 a2) := hD.cell 10
  have df10 := hD.free 10
  have d11 : w3.cell? ⟨b1, 11, none⟩ = some (.int .i64 0) := hD.cell 11
  have df11 := hD.free 11
  have d12 : w3.cell? ⟨b1, 12, none⟩ = some (.int .i64 0) := hD.cell 12
  have df12 := hD.free 12
  have lt_d := hD.lt
  go_upto_region 15 with fail
  clear c0 c1 c2 c3
  clear d0 df0 d1 df1 d2 df2 d3 df3 d4 df4 d5 df5 d6 df6 d7 df7 d8 df8 d9 df9 d10 df10 d11 df11 d12 df12 lt_d
  replace hD := hD.set_ 12 (.int .i64 a3)
  replace hX := hX.far (p := ⟨b1, 12, none⟩) (by show w.heap.size ≠ b1; omega) (.int .i64 a3)
  replace hB := hB.setCell (p := ⟨b1, 12, none⟩) (by show w.heap.size ≤ b1; omega) (.int .i64 a3)
  replace hs := hB.size
  generalize (w3).setCell ⟨b1, 12, none⟩ (.int .i64 a3) = w4 at *
  replace hD : Blok w4 b1 41 #[.int .i64 3, .int .i64 2, .int .i64 0, .int .i64 0, .int .i64 0, .int .i64 0, .int .i64 0, .int .i64 0, .int .i64 a0, .int .i64 a1, .int .i64 a2, .int .i64 0, .int .i64 a3] := by simpa using hD
  have d0 : w4.cell? ⟨b1, 0, none⟩ = some (.int .i64 3) := hD.cell 0
  have df0 := hD.free 0
  have d1 : w4.cell? ⟨b1, 1, none⟩ = some (.int .i64 2) := hD.cell 1
  have df1 := hD.free 1
  have d2 : w4.cell? ⟨b1, 2, none⟩ = some (.int .i64 0) := hD.cell 2
  have df2 := hD.free 2
  have d3 : w4.cell? ⟨b1, 3, none⟩ = some (.int .i64 0) := hD.cell 3
  have df3 := hD.free 3
  have d4 : w4.cell? ⟨b1, 4, none⟩ = some (.int .i64 0) := hD.cell 4
  have df4 := hD.free 4
  have d5 : w4.cell? ⟨b1, 5, none⟩ = some (.int .i64 0) := hD.cell 5
  have df5 := hD.free 5
  have d6 : w4.cell? ⟨b1, 6, none⟩ = some (.int .i64 0) := hD.cell 6
  have df6 := hD.free 6
  have d7 : w4.cell? ⟨b1, 7, none⟩ = some (.int .i64 0) := hD.cell 7
  have df7 := hD.free 7
  have d8 : w4.cell? ⟨b1, 8, none⟩ = some (.int .i64 a0) := hD.cell 8
  have df8 := hD.free 8
  have d9 : w4.cell? ⟨b1, 9, none⟩ = some (.int .i64 a1) := hD.cell 9
  have df9 := hD.free 9
  have d10 : w4.cell? ⟨b1, 10, none⟩ = some (.int .i64 a2) := hD.cell 10
  have df10 := hD.free 10
  have d11 : w4.cell? ⟨b1, 11, none⟩ = some (.int .i64 0) := hD.cell 11
  have df11 := hD.free 11
  have d12 : w4.cell? ⟨b1, 12, none⟩ = some (.int .i64 a3) := hD.cell 12
  have df12 := hD.free 12
  have lt_d := hD.lt
  have x0 : w4.cell? ⟨w.heap.size, 0, none⟩ = some (.int .i64 0) := hX.cell 0
  have xf0 := hX.free 0
  have x1 : w4.cell? ⟨w.heap.size, 1, none⟩ = some (.int .i64 0) := hX.cell 1
  have xf1 := hX.free 1
  have x2 : w4.cell? ⟨w.heap.size, 2, none⟩ = some (.int .i64 0) := hX.cell 2
  have xf2 := hX.free 2
  have x3 : w4.cell? ⟨w.heap.size, 3, none⟩ = some (.int .i64 0) := hX.cell 3
  have xf3 := hX.free 3
  have x4 : w4.cell? ⟨w.heap.size, 4, none⟩ = some (.int .i64 0) := hX.cell 4
  have xf4 := hX.free 4
  have x5 : w4.cell? ⟨w.heap.size, 5, none⟩ = some (.int .i64 0) := hX.cell 5
  have xf5 := hX.free 5
  have x6 : w4.cell? ⟨w.heap.size, 6, none⟩ = some (.int .i64 0) := hX.cell 6
  have xf6 := hX.free 6
  have x7 : w4.cell? ⟨w.heap.size, 7, none⟩ = some (.int .i64 0) := hX.cell 7
  have xf7 := hX.free 7
  have x8 : w4.cell? ⟨w.heap.size, 8, none⟩ = some (.int .i64 0) := hX.cell 8
  have xf8 := hX.free 8
  have x9 : w4.cell? ⟨w.heap.size, 9, none⟩ = some (.int .i64 0) := hX.cell 9
  have xf9 := hX.free 9
  have x10 : w4.cell? ⟨w.heap.size, 10, none⟩ = some (.int .i64 0) := hX.cell 10
  have xf10 := hX.free 10
  have x11 : w4.cell? ⟨w.heap.size, 11, none⟩ = some (.int .i64 0) := hX.cell 11
  have xf11 := hX.free 11
  have x12 : w4.cell? ⟨w.heap.size, 12, none⟩ = some (.int .i64 0) := hX.cell 12
  have xf12 := hX.free 12
  have lt_x := hX.lt
  have HX := Lib.hid hX
  clear hX hD
  go_wp2_with fail
  have hX := HX.out
  clear d0 df0 d1 df1 d2 df2 d3 df3 d4 df4 d5 df5 d6 df6 d7 df7 d8 df8 d9 df9 d10 df10 d11 df11 d12 df12 lt_d
  clear x0 xf0 x1 xf1 x2 xf2 x3 xf3 x4 xf4 x5 xf5 x6 xf6 x7 xf7 x8 xf8 x9 xf9 x10 xf10 x11 xf11 x12 xf12 lt_x
  have hF : Blok (((((((((((((w4.setCell ⟨w.heap.size, 0, none⟩ (.int .i64 3)).setCell ⟨w.heap.size, 1, none⟩ (.int .i64 2)).setCell ⟨w.heap.size, 2, none⟩ (.int .i64 0)).setCell ⟨w.heap.size, 3, none⟩ (.int .i64 0)).setCell ⟨w.heap.size, 4, none⟩ (.int .i64 0)).setCell ⟨w.heap.size, 5, none⟩ (.int .i64 0)).setCell ⟨w.heap.size, 6, none⟩ (.int .i64 0)).setCell ⟨w.heap.size, 7, none⟩ (.int .i64 0)).setCell ⟨w.heap.size, 8, none⟩ (.int .i64 a0)).setCell ⟨w.heap.size, 9, none⟩ (.int .i64 a1)).setCell ⟨w.heap.size, 10, none⟩ (.int .i64 a2)).setCell ⟨w.heap.size, 11, none⟩ (.int .i64 0)).setCell ⟨w.heap.size, 12, none⟩ (.int .i64 a3)) w.heap.size 41 #[.int .i64 3, .int .i64 2, .int .i64 0, .int .i64 0, .int .i64 0, .int .i64 0, .int .i64 0, .int .i64 0, .int .i64 a0, .int .i64 a1, .int .i64 a2, .int .i64 0, .int .i64 a3] := by have h := (((((((((((((hX.set_ 0 (.int .i64 3)).set_ 1 (.int .i64 2)).set_ 2 (.int .i64 0)).set_ 3 (.int .i64 0)).set_ 4 (.int .i64 0)).set_ 5 (.int .i64 0)).set_ 6 (.int .i64 0)).set_ 7 (.int .i64 0)).set_ 8 (.int .i64 a0)).set_ 9 (.int .i64 a1)).set_ 10 (.int .i64 a2)).set_ 11 (.int .i64 0)).set_ 12 (.int .i64 a3)); simpa using h
  have hle0 : w.heap.size ≤ w.heap.size := by first | exact Nat.le_refl _ | omega
  have hWf : Below w.heap.size w (((((((((((((w4.setCell ⟨w.heap.size, 0, none⟩ (.int .i64 3)).setCell ⟨w.heap.size, 1, none⟩ (.int .i64 2)).setCell ⟨w.heap.size, 2, none⟩ (.int .i64 0)).setCell ⟨w.heap.size, 3, none⟩ (.int .i64 0)).setCell ⟨w.heap.size, 4, none⟩ (.int .i64 0)).setCell ⟨w.heap.size, 5, none⟩ (.int .i64 0)).setCell ⟨w.heap.size, 6, none⟩ (.int .i64 0)).setCell ⟨w.heap.size, 7, none⟩ (.int .i64 0)).setCell ⟨w.heap.size, 8, none⟩ (.int .i64 a0)).setCell ⟨w.heap.size, 9, none⟩ (.int .i64 a1)).setCell ⟨w.heap.size, 10, none⟩ (.int .i64 a2)).setCell ⟨w.heap.size, 11, none⟩ (.int .i64 0)).setCell ⟨w.heap.size, 12, none⟩ (.int .i64 a3)) := (((((((((((((hB.setCell (p := ⟨w.heap.size, 0, none⟩) hle0 (.int .i64 3)).setCell (p := ⟨w.heap.size, 1, none⟩) hle0 (.int .i64 2)).setCell (p := ⟨w.heap.size, 2, none⟩) hle0 (.int .i64 0)).setCell (p := ⟨w.heap.size, 3, none⟩) hle0 (.int .i64 0)).setCell (p := ⟨w.heap.size, 4, none⟩) hle0 (.int .i64 0)).setCell (p := ⟨w.heap.size, 5, none⟩) hle0 (.int .i64 0)).setCell (p := ⟨w.heap.size, 6, none⟩) hle0 (.int .i64 0)).setCell (p := ⟨w.heap.size, 7, none⟩) hle0 (.int .i64 0)).setCell (p := ⟨w.heap.size, 8, none⟩) hle0 (.int .i64 a0)).setCell (p := ⟨w.heap.size, 9, none⟩) hle0 (.int .i64 a1)).setCell (p := ⟨w.heap.size, 10, none⟩) hle0 (.int .i64 a2)).setCell (p := ⟨w.heap.size, 11, none⟩) hle0 (.int .i64 0)).setCell (p := ⟨w.heap.size, 12, none⟩) hle0 (.int .i64 a3))
  have hlF := hF.lt
  generalize (((((((((((((w4.setCell ⟨w.heap.size, 0, none⟩ (.int .i64 3)).setCell ⟨w.heap.size, 1, none⟩ (.int .i64 2)).setCell ⟨w.heap.size, 2, none⟩ (.int .i64 0)).setCell ⟨w.heap.size, 3, none⟩ (.int .i64 0)).setCell ⟨w.heap.size, 4, none⟩ (.int .i64 0)).setCell ⟨w.heap.size, 5, none⟩ (.int .i64 0)).setCell ⟨w.heap.size, 6, none⟩ (.int .i64 0)).setCell ⟨w.heap.size, 7, none⟩ (.int .i64 0)).setCell ⟨w.heap.size, 8, none⟩ (.int .i64 a0)).setCell ⟨w.heap.size, 9, none⟩ (.int .i64 a1)).setCell ⟨w.heap.size, 10, none⟩ (.int .i64 a2)).setCell ⟨w.heap.size, 11, none⟩ (.int .i64 0)).setCell ⟨w.heap.size, 12, none⟩ (.int .i64 a3)) = wf at *
  have r0 : wf.cell? ⟨w.heap.size, 0, none⟩ = some (.int .i64 3) := hF.cell 0
  have r1 : wf.cell? ⟨w.heap.size, 1, none⟩ = some (.int .i64 2) := hF.cell 1
  have r2 : wf.cell? ⟨w.heap.size, 2, none⟩ = some (.int .i64 0) := hF.cell 2
  have r3 : wf.cell? ⟨w.heap.size, 3, none⟩ = some (.int .i64 0) := hF.cell 3
  have r4 : wf.cell? ⟨w.heap.size, 4, none⟩ = some (.int .i64 0) := hF.cell 4
  have r5 : wf.cell? ⟨w.heap.size, 5, none⟩ = some (.int .i64 0) := hF.cell 5
  have r6 : wf.cell? ⟨w.heap.size, 6, none⟩ = some (.int .i64 0) := hF.cell 6
  have r7 : wf.cell? ⟨w.heap.size, 7, none⟩ = some (.int .i64 0) := hF.cell 7
  have r8 : wf.cell? ⟨w.heap.size, 8, none⟩ = some (.int .i64 a0) := hF.cell 8
  have r9 : wf.cell? ⟨w.heap.size, 9, none⟩ = some (.int .i64 a1) := hF.cell 9
  have r10 : wf.cell? ⟨w.heap.size, 10, none⟩ = some (.int .i64 a2) := hF.cell 10
  have r11 : wf.cell? ⟨w.heap.size, 11, none⟩ = some (.int .i64 0) := hF.cell 11
  have r12 : wf.cell? ⟨w.heap.size, 12, none⟩ = some (.int .i64 a3) := hF.cell 12
  refine bodyPost_ret (v := .agg #[.int .i64 3, .int .i64 2, .int .i64 0, .int .i64 0, .int .i64 0, .int .i64 0, .int .i64 0, .int .i64 0, .int .i64 a0, .int .i64 a1, .int .i64 a2, .int .i64 0, .int .i64 a3]) (by simp [results, Tryz.results39, go_sem, r0, r1, r2, r3, r4, r5, r6, r7, r8, r9, r10, r11, r12, hlF]) rfl ?_
  exact ⟨rfl, hWf⟩
theorem rmade_any (op kd : Int) (ns : List Int) (hk : (formV op kd).isSome = true) (hl : ns.length = formLen op kd) (n : Nat) (hn : ns.length = n) (A : Option Addr) (c : Nat) (w : World) (h : Sl w w.heap.size 1 A n c (ns.map (Value.int .i64))) :
    Calls Tryz.prog 39 #[.int .i64 op, .int .i64 kd, .slice A n c] w fun e w' => e = .returned (.agg #[.int .i64 (madeD op kd ns).op, .int .i64 (madeD op kd ns).kd, .int .i64 (madeD op kd ns).id, .int .i64 (madeD op kd ns).fr, .int .i64 (madeD op kd ns).tn, .int .i64 (madeD op kd ns).st, .int .i64 (madeD op kd ns).en, .int .i64 (madeD op kd ns).rt, .int .i64 (madeD op kd ns).rf, .int .i64 (madeD op kd ns).rn, .int .i64 (madeD op kd ns).rs, .int .i64 (madeD op kd ns).re, .int .i64 (madeD op kd ns).ro]) ∧ Below w.heap.size w w' := by
  subst hn
  by_cases c0 : op = 1 ∧ kd = 1
  · obtain ⟨rfl, rfl⟩ := c0
    match ns, hl, h with
    | [a0, a1, a2, a3, a4, a5], _, h => exact rmade_11 A c a0 a1 a2 a3 a4 a5 w h
  by_cases c1 : op = 2 ∧ kd = 1
  · obtain ⟨rfl, rfl⟩ := c1
    match ns, hl, h with
    | [a0], _, h => exact rmade_21 A c a0 w h
  by_cases c2 : op = 3 ∧ kd = 1
  · obtain ⟨rfl, rfl⟩ := c2
    match ns, hl, h with
    | [a0, a1], _, h => exact rmade_31 A c a0 a1 w h
  by_cases c3 : op = 1 ∧ kd = 2
  · obtain ⟨rfl, rfl⟩ := c3
    match ns, hl, h with
    | [a0, a1, a2, a3, a4], _, h => exact rmade_12 A c a0 a1 a2 a3 a4 w h
  by_cases c4 : op = 2 ∧ kd = 2
  · obtain ⟨rfl, rfl⟩ := c4
    match ns, hl, h with
    | [a0, a1, a2], _, h => exact rmade_22 A c a0 a1 a2 w h
  by_cases c5 : op = 3 ∧ kd = 2
  · obtain ⟨rfl, rfl⟩ := c5
    match ns, hl, h with
    | [a0, a1, a2, a3], _, h => exact rmade_32 A c a0 a1 a2 a3 w h
  exfalso
  unfold formV at hk
  simp [c0, c1, c2, c3, c4, c5] at hk
end Go.Proofs.YtcclfmaockapjaaGreatDoor
