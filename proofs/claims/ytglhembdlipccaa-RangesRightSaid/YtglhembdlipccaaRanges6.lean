/- sort.Search; package ranges: Owlt. -/
import Derived.Test.YtglhembdlipccaaRanges5
namespace Go.Proofs.Ytglhembdlipccaa
open Go.ChangeShapes Go.WideShapes Go.ChangeAt Go.RowKit Go.Sort
set_option linter.unusedSimpArgs false
set_option linter.unusedVariables false
/-- A function value that tells p of places below n, in whatever world that has grown from W. -/
structure PredI (g : FuncId) (lb : Array Value) (n : Nat) (W : World) (p : Nat → Bool) : Prop where
  run : ∀ vals w, (callFunc g vals).run Try.prog w = .ok (.enter g vals) w
  tells : ∀ w', Below W.heap.size W w' → ∀ i : Nat, i < n → Calls Try.prog g (#[.int .i64 i] ++ lb) w' fun e w'' => e = .returned (.bool (p i)) ∧ Below w'.heap.size w' w''
set_option maxHeartbeats 1000000 in
set_option maxRecDepth 100000 in
theorem search_any (n : Nat) (g : FuncId) (lb : Array Value) (p : Nat → Bool) (w : World) (hn : n ≤ 1000000) (hp : PredI g lb n w p) :
    Calls Try.prog 34 #[.int .i64 n, .func (.func g) #[] lb] w fun e w' => ∃ i : Nat, e = .returned (.int .i64 i) ∧ i ≤ n ∧ (i = 0 ∨ p (i - 1) = false) ∧ (i = n ∨ p i = true) ∧ Below w.heap.size w w' := by
  have hcf := hp.run
  have HP := Lib.hid hp
  clear hp
  go_enter Try.func34, Try.ntmps34
  go_wp2
  go_loopw [5, 6] (fun iv jv wr => ∃ i j : Nat, iv = .int .i64 i ∧ jv = .int .i64 j ∧ i ≤ j ∧ j ≤ n ∧ Hid (i = 0 ∨ p (i - 1) = false) ∧ Hid (j = n ∨ p j = true) ∧ Below w.heap.size w wr) (fun iv jv _ => (intOf jv - intOf iv).toNat)
  case atStart => exact ⟨0, n, rfl, rfl, by omega, Nat.le_refl _, .inl rfl, .inl rfl, Below.refl _ _⟩
  case round =>
    obtain ⟨i, j, rfl, rfl, hij, hjn, HI, HJ, hB⟩ := hrel
    have hs := hB.size
    by_cases hlt : i < j
    · obtain ⟨m, hm⟩ : ∃ m : Nat, (i + j) / 2 = m := ⟨_, rfl⟩
      have hmi : ((i : Int) + (j : Int)) / 2 = (m : Int) := by omega
      have hm1 : i ≤ m := by omega
      have hm2 : m < j := by omega
      have HM := Lib.hid hmi
      clear hm hmi
      have ht := HP.out.tells wr hB m (by omega)
      cases hpm : p m
      all_goals
        rw [hpm] at ht
        have HPM := Lib.hid hpm
        have HT := Lib.hid ht
        clear hpm ht
        go_wp2_with fail
        rw [HM.out]
        refine HT.out.mono ?_
        rintro e w1 ⟨rfl, hb1⟩
        have hB2 := hB.trans (hb1.mono hs)
        clear hb1 hB
        go_wp2
        go_roundw
        case rel => first
          | exact ⟨m + 1, j, by go_num, rfl, by omega, by omega, (.inr (by rw [Nat.add_sub_cancel]; exact HPM.out)), HJ, hB2⟩
          | exact ⟨i, m, rfl, rfl, by omega, by omega, HI, (.inr HPM.out), hB2⟩
        case measure => simp [intOf]; omega
    · obtain rfl : i = j := by omega
      go_wp2
      go_ret
      exact ⟨i, rfl, hjn, HI.out, HJ.out, hB⟩
def passP (d : List Rg) (cf ct ce : Int) (i : Nat) : Bool := decide (0 < waysI (gRg d i) ⟨cf, ct, 0, 0, 0⟩) || (waysI (gRg d i) ⟨cf, ct, 0, 0, 0⟩ == 0 && decide (ce ≤ (gRg d i).en))
set_option maxHeartbeats 1000000 in
set_option maxRecDepth 100000 in
theorem owlt1_any (A : Option Addr) (n c : Nat) (d : List Rg) (ci cf ct cs ce cr : Int) (i gl gw gc : Nat) (w : World) (hd : d.length = n) (hn : n ≤ 1000000) (h : Sl w w.heap.size 5 A n c (flatRg d)) (hi : i < n)
    (hL : Blok w gl 22 #[.slice A n c]) (hW : Blok w gw 27 #[.int .i64 cf, .int .i64 ct, .int .i64 0, .int .i64 0, .int .i64 0]) (hC : Blok w gc 38 #[.int .i64 ci, .int .i64 cf, .int .i64 ct, .int .i64 cs, .int .i64 ce, .int .i64 cr]) :
    Calls Try.prog 35 #[.int .i64 i, .pointer (some ⟨gl, 0, none⟩), .pointer (some ⟨gw, 0, none⟩), .pointer (some ⟨gc, 0, none⟩)] w fun e w' => e = .returned (.bool (passP d cf ct ce i)) ∧ Below w.heap.size w w' := by
  obtain ⟨ad, rfl, hab, c0, c1, c2, c3, c4⟩ := h.lst.atRg hd hi
  obtain ⟨x, hx⟩ : ∃ x, gRg d i = x := ⟨_, rfl⟩
  rw [hx] at c0 c1 c2 c3 c4
  obtain ⟨y, hy⟩ : ∃ y, waysI x ⟨cf, ct, 0, 0, 0⟩ = y := ⟨_, rfl⟩
  have hfin : passP d cf ct ce i = (decide (0 < y) || (y == 0 && decide (ce ≤ x.en))) := by unfold passP; rw [hx, hy]
  rw [hfin]
  have HY := Lib.hid hy
  have l0 : w.cell? ⟨gl, 0, none⟩ = some (.slice (some ad) n c) := hL.cell 0
  have w0 : w.cell? ⟨gw, 0, none⟩ = some (.int .i64 cf) := hW.cell 0
  have w1 : w.cell? ⟨gw, 1, none⟩ = some (.int .i64 ct) := hW.cell 1
  have w2 : w.cell? ⟨gw, 2, none⟩ = some (.int .i64 0) := hW.cell 2
  have w3 : w.cell? ⟨gw, 3, none⟩ = some (.int .i64 0) := hW.cell 3
  have w4 : w.cell? ⟨gw, 4, none⟩ = some (.int .i64 0) := hW.cell 4
  have k4 : w.cell? ⟨gc, 4, none⟩ = some (.int .i64 ce) := hC.cell 4
  have hil : (i : Int) < (n : Int) := by omega
  clear hx hy hfin hd hL hW hC
  go_enter Try.func35, Try.ntmps35
  go_wp2_with fail
  have q_l0 := fun d os => cell_regrown l0 d os
  have q_w0 := fun d os => cell_regrown w0 d os
  have q_w1 := fun d os => cell_regrown w1 d os
  have q_w2 := fun d os => cell_regrown w2 d os
  have q_w3 := fun d os => cell_regrown w3 d os
  have q_w4 := fun d os => cell_regrown w4 d os
  have q_c0 := fun d os => cell_regrown c0 d os
  have q_c1 := fun d os => cell_regrown c1 d os
  have q_c2 := fun d os => cell_regrown c2 d os
  have q_c3 := fun d os => cell_regrown c3 d os
  have q_c4 := fun d os => cell_regrown c4 d os
  try simp only [List.append]
  first | refine wp_region_text_below ?_ | refine wp_region_quiet_below (by kernel_rfl) (by kernel_rfl) ?_
  repeat (go_big_quiet_step ((go_at_call 30; with_reducible exact Calls.regrown_of (HY.out ▸ ways_any x ⟨cf, ct, 0, 0, 0⟩ _))))
  refine wpQuiet_nil ?_
  intro _ hqw
  obtain ⟨pq, hqw⟩ := hqw
  subst hqw
  clear q_l0 q_w0 q_w1 q_w2 q_w3 q_w4 q_c0 q_c1 q_c2 q_c3 q_c4
  have hB := below_regrown w pq.d pq.os
  have l0' : (grow (redrawn w pq.d) pq.os).cell? ⟨gl, 0, none⟩ = some (.slice (some ad) n c) := cell_regrown l0 _ _
  have k4' : (grow (redrawn w pq.d) pq.os).cell? ⟨gc, 4, none⟩ = some (.int .i64 ce) := cell_regrown k4 _ _
  have c3' : (grow (redrawn w pq.d) pq.os).cell? ⟨(ad.add (i * 5)).block, (ad.add (i * 5)).off + 3, none⟩ = some (.int .i64 x.en) := cell_regrown c3 _ _
  clear l0 w0 w1 w2 w3 w4 c0 c1 c2 c3 c4 k4 h
  generalize grow (redrawn w pq.d) pq.os = wq at *
  have hs := hB.size
  by_cases hy1 : 0 < y
  · have hd1 : decide (0 < y) = true := by simpa using hy1
    go_wp2_with fail
    have q_l0' := fun d os => cell_regrown l0' d os
    have q_k4' := fun d os => cell_regrown k4' d os
    have q_c3' := fun d os => cell_regrown c3' d os
    try simp only [List.append]
    first | refine wp_region_text_below ?_ | refine wp_region_quiet_below (by kernel_rfl) (by kernel_rfl) ?_
    repeat (go_big_quiet_step ((fail)))
    refine wpQuiet_nil ?_
    intro _ hqw
    obtain ⟨pq, hqw⟩ := hqw
    subst hqw
    clear q_l0' q_k4' q_c3'
    have hb2 := below_regrown wq pq.d pq.os
    go_wp2
    go_ret
    exact ⟨by simp [hd1], hB.trans (hb2.mono hs)⟩
  · have hd1 : decide (0 < y) = false := by simpa using hy1
    by_cases hy0 : y = 0
    · have hd2 : (y == 0) = true := by simpa using hy0
      go_wp2_with fail
      have q_l0' := fun d os => cell_regrown l0' d os
      have q_k4' := fun d os => cell_regrown k4' d os
      have q_c3' := fun d os => cell_regrown c3' d os
      try simp only [List.append]
      first | refine wp_region_text_below ?_ | refine wp_region_quiet_below (by kernel_rfl) (by kernel_rfl) ?_
      repeat (go_big_quiet_step ((fail)))
      refine wpQuiet_nil ?_
      intro _ hqw
      obtain ⟨pq, hqw⟩ := hqw
      subst hqw
      clear q_l0' q_k4' q_c3'
      have hb2 := below_regrown wq pq.d pq.os
      go_wp2
      go_ret
      exact ⟨by simp [hd1, hd2], hB.trans (hb2.mono hs)⟩
    · have hd2 : (y == 0) = false := by simpa using hy0
      go_wp2_with fail
      have q_l0' := fun d os => cell_regrown l0' d os
      have q_k4' := fun d os => cell_regrown k4' d os
      have q_c3' := fun d os => cell_regrown c3' d os
      try simp only [List.append]
      first | refine wp_region_text_below ?_ | refine wp_region_quiet_below (by kernel_rfl) (by kernel_rfl) ?_
      repeat (go_big_quiet_step ((fail)))
      refine wpQuiet_nil ?_
      intro _ hqw
      obtain ⟨pq, hqw⟩ := hqw
      subst hqw
      clear q_l0' q_k4' q_c3'
      have hb2 := below_regrown wq pq.d pq.os
      go_wp2
      go_ret
      exact ⟨by simp [hd1, hd2], hB.trans (hb2.mono hs)⟩
theorem pred_owlt (A : Option Addr) (n c : Nat) (d : List Rg) (ci cf ct cs ce cr : Int) (gl gw gc : Nat) (w : World) (hd : d.length = n) (hn : n ≤ 1000000) (h : Sl w w.heap.size 5 A n c (flatRg d))
    (hL : Blok w gl 22 #[.slice A n c]) (hW : Blok w gw 27 #[.int .i64 cf, .int .i64 ct, .int .i64 0, .int .i64 0, .int .i64 0]) (hC : Blok w gc 38 #[.int .i64 ci, .int .i64 cf, .int .i64 ct, .int .i64 cs, .int .i64 ce, .int .i64 cr]) :
    PredI 35 #[.pointer (some ⟨gl, 0, none⟩), .pointer (some ⟨gw, 0, none⟩), .pointer (some ⟨gc, 0, none⟩)] n w (passP d cf ct ce) :=
  ⟨enter_run Try.func35 rfl rfl, fun w' hb i hi => owlt1_any A n c d ci cf ct cs ce cr i gl gw gc w' hd hn (h.up hb) hi (hL.below hb hL.lt) (hW.below hb hW.lt) (hC.below hb hC.lt)⟩
end Go.Proofs.Ytglhembdlipccaa
