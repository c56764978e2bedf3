/- Package ranges: Owlt. -/
import Derived.Test.YtglhembdlipccaaRanges6
namespace Go.Proofs.Ytglhembdlipccaa
open Go.ChangeShapes Go.WideShapes Go.ChangeAt Go.RowKit Go.Sort
set_option linter.unusedSimpArgs false
set_option linter.unusedVariables false
def owR (d : List Rg) (cf ct cs : Int) (n i : Nat) : Int × Bool := if i = n ∨ waysI (gRg d i) ⟨cf, ct, 0, 0, 0⟩ ≠ 0 ∨ cs < (gRg d i).st then (0, false) else ((gRg d i).ow, true)
/-- The place that is asked. -/
def AskAt (d : List Rg) (cf ct ce : Int) (n i : Nat) : Prop := i ≤ n ∧ (i = 0 ∨ passP d cf ct ce (i - 1) = false) ∧ (i = n ∨ passP d cf ct ce i = true)
set_option maxHeartbeats 2000000 in
set_option maxRecDepth 100000 in
theorem owlt_any (A : Option Addr) (n c : Nat) (d : List Rg) (ci cf ct cs ce cr : Int) (w : World) (hd : d.length = n) (hn : n ≤ 1000000) (h : Sl w w.heap.size 5 A n c (flatRg d)) :
    Calls Try.prog 16 #[.slice A n c, .agg #[.int .i64 ci, .int .i64 cf, .int .i64 ct, .int .i64 cs, .int .i64 ce, .int .i64 cr]] w fun e w' => ∃ i o b, e = .returned (.tuple #[.int .i64 o, .bool b]) ∧ AskAt d cf ct ce n i ∧ owR d cf ct cs n i = (o, b) ∧ Below w.heap.size w w' := by
  have HD := Lib.hid hd
  have hB : Below w.heap.size w (((w.alloc (.cells #[.slice A n c] 22)).alloc (.cells #[.int .i64 ci, .int .i64 cf, .int .i64 ct, .int .i64 cs, .int .i64 ce, .int .i64 cr] 38)).alloc (.cells #[.int .i64 cf, .int .i64 ct, .int .i64 0, .int .i64 0, .int .i64 0] 27)) := by (repeat (first | exact Below.refl _ _ | refine Below.alloc ?_ (by first | omega | (simp; done) | (simp; omega)) _ | refine Below.setCell ?_ (by first | omega | (simp; done) | (simp; omega)) _ | refine Below.drew ?_))
  have hL := ((Blok.new w 22 #[.slice A n c]).alloc (.cells #[.int .i64 ci, .int .i64 cf, .int .i64 ct, .int .i64 cs, .int .i64 ce, .int .i64 cr] 38)).alloc (.cells #[.int .i64 cf, .int .i64 ct, .int .i64 0, .int .i64 0, .int .i64 0] 27)
  have hC := (Blok.new (w.alloc (.cells #[.slice A n c] 22)) 38 #[.int .i64 ci, .int .i64 cf, .int .i64 ct, .int .i64 cs, .int .i64 ce, .int .i64 cr]).alloc (.cells #[.int .i64 cf, .int .i64 ct, .int .i64 0, .int .i64 0, .int .i64 0] 27)
  have hW := Blok.new ((w.alloc (.cells #[.slice A n c] 22)).alloc (.cells #[.int .i64 ci, .int .i64 cf, .int .i64 ct, .int .i64 cs, .int .i64 ce, .int .i64 cr] 38)) 27 #[.int .i64 cf, .int .i64 ct, .int .i64 0, .int .i64 0, .int .i64 0]
  simp only [World.size_alloc] at hC hW
  have hs := h.up hB
  have hz := hB.size
  clear h hd
  go_enter Try.func16, Try.ntmps16
  go_wp2_with fail
  generalize (((w.alloc (.cells #[.slice A n c] 22)).alloc (.cells #[.int .i64 ci, .int .i64 cf, .int .i64 ct, .int .i64 cs, .int .i64 ce, .int .i64 cr] 38)).alloc (.cells #[.int .i64 cf, .int .i64 ct, .int .i64 0, .int .i64 0, .int .i64 0] 27)) = w2 at *
  refine (search_any n _ _ _ w2 hn (pred_owlt A n c d ci cf ct cs ce cr _ _ _ w2 HD.out hn hs hL hW hC)).mono ?_
  rintro e w3 ⟨i, rfl, hi, h1, h2, hb3⟩
  have HA : Hid (AskAt d cf ct ce n i) := ⟨hi, h1, h2⟩
  replace hL := hL.below hb3 hL.lt
  replace hC := hC.below hb3 hC.lt
  replace hW := hW.below hb3 hW.lt
  replace hs := hs.up hb3
  replace hB := hB.trans (hb3.mono hz)
  replace hz := hB.size
  clear hb3 h1 h2
  have l0 : w3.cell? ⟨w.heap.size, 0, none⟩ = some (.slice A n c) := hL.cell 0
  by_cases hin : i = n
  · subst hin
    have hib : ((i : Int) == (i : Int)) = true := by simp
    have hr : owR d cf ct cs i i = (0, false) := by unfold owR; rw [if_pos (.inl rfl)]
    have HR := Lib.hid hr
    clear hr hL hC hW hs
    go_wp2_with fail
    have q_l0 := fun d os => cell_regrown l0 d os
    try simp only [List.append]
    first | refine wp_region_text_below ?_ | refine wp_region_quiet_below (by kernel_rfl) (by kernel_rfl) ?_
    repeat (go_big_quiet_step ((fail)))
    refine wpQuiet_nil ?_
    intro _ hqw
    obtain ⟨pq, hqw⟩ := hqw
    subst hqw
    clear q_l0
    have hb4 := below_regrown w3 pq.d pq.os
    go_wp2
    go_ret2
    exact ⟨i, 0, false, rfl, HA.out, HR.out, hB.trans (hb4.mono hz)⟩
  · have hib : ((i : Int) == (n : Int)) = false := beq_eq_false_iff_ne.2 (by omega)
    have hil : i < n := by omega
    have hilI : (i : Int) < (n : Int) := by omega
    obtain ⟨ad, rfl, hab, c0, c1, c2, c3, c4⟩ := hs.lst.atRg HD.out hil
    obtain ⟨x, hx⟩ : ∃ x, gRg d i = x := ⟨_, rfl⟩
    rw [hx] at c0 c1 c2 c3 c4
    obtain ⟨y, hy⟩ : ∃ y, waysI x ⟨cf, ct, 0, 0, 0⟩ = y := ⟨_, rfl⟩
    have w0 : w3.cell? ⟨w.heap.size + 1 + 1, 0, none⟩ = some (.int .i64 cf) := hW.cell 0
    have w1 : w3.cell? ⟨w.heap.size + 1 + 1, 1, none⟩ = some (.int .i64 ct) := hW.cell 1
    have w2' : w3.cell? ⟨w.heap.size + 1 + 1, 2, none⟩ = some (.int .i64 0) := hW.cell 2
    have w3' : w3.cell? ⟨w.heap.size + 1 + 1, 3, none⟩ = some (.int .i64 0) := hW.cell 3
    have w4' : w3.cell? ⟨w.heap.size + 1 + 1, 4, none⟩ = some (.int .i64 0) := hW.cell 4
    have k3 : w3.cell? ⟨w.heap.size + 1, 3, none⟩ = some (.int .i64 cs) := hC.cell 3
    have HX := Lib.hid hx
    have HY := Lib.hid hy
    clear hL hC hW
    by_cases hy0 : y = 0
    · have hyb : (y != 0) = false := by simp [hy0]
      by_cases hst : cs < x.st
      · have hdst : decide (cs < x.st) = true := by simpa using hst
        have hr : owR d cf ct cs n i = (0, false) := by unfold owR; rw [if_pos (.inr (.inr (by rw [hx]; exact hst)))]
        have HR := Lib.hid hr
        clear hr hx hy hy0 hs
        go_wp2_with fail
        have q_l0 := fun d os => cell_regrown l0 d os
        have q_w0 := fun d os => cell_regrown w0 d os
        have q_w1 := fun d os => cell_regrown w1 d os
        have q_w2' := fun d os => cell_regrown w2' d os
        have q_w3' := fun d os => cell_regrown w3' d os
        have q_w4' := fun d os => cell_regrown w4' d os
        have q_k3 := fun d os => cell_regrown k3 d os
        have q_c0 := fun d os => cell_regrown c0 d os
        have q_c1 := fun d os => cell_regrown c1 d os
        have q_c2 := fun d os => cell_regrown c2 d os
        have q_c3 := fun d os => cell_regrown c3 d os
        have q_c4 := fun d os => cell_regrown c4 d os
        try simp only [List.append]
        first | refine wp_region_text_below ?_ | refine wp_region_quiet_below (by kernel_rfl) (by kernel_rfl) ?_
        repeat (go_big_quiet_step ((go_at_call 30; with_reducible exact Calls.regrown_of (HY.out ▸ ways_any x ⟨cf, ct, 0, 0, 0⟩ _))))
        refine wpQuiet_nil ?_
        intro _ hqw
        obtain ⟨pq, hqw⟩ := hqw
        subst hqw
        clear q_l0 q_w0 q_w1 q_w2' q_w3' q_w4' q_k3 q_c0 q_c1 q_c2 q_c3 q_c4
        have hb4 := below_regrown w3 pq.d pq.os
        clear c0 c1 c2 c3 c4 w0 w1 w2' w3' w4' k3 l0
        go_wp2
        go_ret2
        exact ⟨i, 0, false, rfl, HA.out, HR.out, hB.trans (hb4.mono hz)⟩
      · have hdst : decide (cs < x.st) = false := by simpa using hst
        have hr : owR d cf ct cs n i = (x.ow, true) := by
          unfold owR
          rw [if_neg, hx]
          rw [hx, hy]
          rintro (e | e | e)
          · exact hin e
          · exact e hy0
          · exact hst e
        have HR := Lib.hid hr
        clear hr hx hy hy0
        go_wp2_with fail
        have q_l0 := fun d os => cell_regrown l0 d os
        have q_w0 := fun d os => cell_regrown w0 d os
        have q_w1 := fun d os => cell_regrown w1 d os
        have q_w2' := fun d os => cell_regrown w2' d os
        have q_w3' := fun d os => cell_regrown w3' d os
        have q_w4' := fun d os => cell_regrown w4' d os
        have q_k3 := fun d os => cell_regrown k3 d os
        have q_c0 := fun d os => cell_regrown c0 d os
        have q_c1 := fun d os => cell_regrown c1 d os
        have q_c2 := fun d os => cell_regrown c2 d os
        have q_c3 := fun d os => cell_regrown c3 d os
        have q_c4 := fun d os => cell_regrown c4 d os
        try simp only [List.append]
        first | refine wp_region_text_below ?_ | refine wp_region_quiet_below (by kernel_rfl) (by kernel_rfl) ?_
        repeat (go_big_quiet_step ((go_at_call 30; with_reducible exact Calls.regrown_of (HY.out ▸ ways_any x ⟨cf, ct, 0, 0, 0⟩ _))))
        refine wpQuiet_nil ?_
        intro _ hqw
        obtain ⟨pq, hqw⟩ := hqw
        subst hqw
        clear q_l0 q_w0 q_w1 q_w2' q_w3' q_w4' q_k3 q_c0 q_c1 q_c2 q_c3 q_c4
        have hb4 := below_regrown w3 pq.d pq.os
        have l0' : (grow (redrawn w3 pq.d) pq.os).cell? ⟨w.heap.size, 0, none⟩ = some (.slice (some ad) n c) := cell_regrown l0 _ _
        have c4' : (grow (redrawn w3 pq.d) pq.os).cell? ⟨(ad.add (i * 5)).block, (ad.add (i * 5)).off + 4, none⟩ = some (.int .i64 x.ow) := cell_regrown c4 _ _
        clear c0 c1 c2 c3 c4 w0 w1 w2' w3' w4' k3 l0 hs
        generalize grow (redrawn w3 pq.d) pq.os = wq at *
        go_wp2
        go_ret2
        exact ⟨i, x.ow, true, rfl, HA.out, HR.out, hB.trans (hb4.mono hz)⟩
    · have hyb : (y != 0) = true := by simpa using hy0
      have hr : owR d cf ct cs n i = (0, false) := by unfold owR; rw [if_pos (.inr (.inl (by rw [hx, hy]; exact hy0)))]
      have HR := Lib.hid hr
      clear hr hx hy hy0 hs
      go_wp2_with fail
      have q_l0 := fun d os => cell_regrown l0 d os
      have q_w0 := fun d os => cell_regrown w0 d os
      have q_w1 := fun d os => cell_regrown w1 d os
      have q_w2' := fun d os => cell_regrown w2' d os
      have q_w3' := fun d os => cell_regrown w3' d os
      have q_w4' := fun d os => cell_regrown w4' d os
      have q_k3 := fun d os => cell_regrown k3 d os
      have q_c0 := fun d os => cell_regrown c0 d os
      have q_c1 := fun d os => cell_regrown c1 d os
      have q_c2 := fun d os => cell_regrown c2 d os
      have q_c3 := fun d os => cell_regrown c3 d os
      have q_c4 := fun d os => cell_regrown c4 d os
      try simp only [List.append]
      first | refine wp_region_text_below ?_ | refine wp_region_quiet_below (by kernel_rfl) (by kernel_rfl) ?_
      repeat (go_big_quiet_step ((go_at_call 30; with_reducible exact Calls.regrown_of (HY.out ▸ ways_any x ⟨cf, ct, 0, 0, 0⟩ _))))
      refine wpQuiet_nil ?_
      intro _ hqw
      obtain ⟨pq, hqw⟩ := hqw
      subst hqw
      clear q_l0 q_w0 q_w1 q_w2' q_w3' q_w4' q_k3 q_c0 q_c1 q_c2 q_c3 q_c4
      have hb4 := below_regrown w3 pq.d pq.os
      clear c0 c1 c2 c3 c4 w0 w1 w2' w3' w4' k3 l0
      go_wp2
      go_ret2
      exact ⟨i, 0, false, rfl, HA.out, HR.out, hB.trans (hb4.mono hz)⟩
end Go.Proofs.Ytglhembdlipccaa
