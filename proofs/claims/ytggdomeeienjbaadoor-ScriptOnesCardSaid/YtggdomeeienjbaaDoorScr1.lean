
/- Package script: rest, odd, Directive, ids. No condition but that bytes are bytes. -/
import Derived.Test.YtggdomeeienjbaaDoorTyDr
import Derived.Test.YtggdomeeienjbaaDoorNewVar
import Derived.Test.YtggdomeeienjbaaDoorStep
import Derived.Test.YtggdomeeienjbaaDoorAppl
namespace Go.Proofs.YtggdomeeienjbaaDoor
open Go.ChangeShapes Go.WideShapes Go.ChangeAt Go.RowKit Go.Sort
set_option linter.unusedSimpArgs false
set_option linter.unusedVariables false
theorem tmod_nat (b k : Nat) : ((b : Int).tmod (k : Int)) = ((b % k : Nat) : Int) := by simp [Int.tmod]
theorem k3_ : (3 : Int) = ((3 : Nat) : Int) := rfl
theorem k4_ : (4 : Int) = ((4 : Nat) : Int) := rfl
theorem k6_ : (6 : Int) = ((6 : Nat) : Int) := rfl
theorem k7_ : (7 : Int) = ((7 : Nat) : Int) := rfl
theorem k8_ : (8 : Int) = ((8 : Nat) : Int) := rfl
theorem k10_ : (10 : Int) = ((10 : Nat) : Int) := rfl
theorem k16_ : (16 : Int) = ((16 : Nat) : Int) := rfl
theorem k64_ : (64 : Int) = ((64 : Nat) : Int) := rfl
set_option maxRecDepth 100000 in
theorem rest_any (b k q : Nat) (K : Int) (hK : K = (k : Int)) (w : World) (hb : b < 256) (hk : 0 < k) (hk2 : k < 1000) (hq : b % k = q) : Calls Tryd.prog 19 #[.int .u8 (b : Nat), .int .i64 K] w fun e w' => e = .returned (.int .i64 (q : Nat)) ∧ w = w' := by
  subst hK
  have h0 : ((k : Int) == 0) = false := by simp; omega
  have h00 : (k : Int) ≠ 0 := by omega
  have h1 : IntKind.i64.wrap (b : Int) = (b : Int) := IntWalk.i64_in _ (by omega)
  have h2 : (b : Int).tmod (k : Int) = (q : Int) := by rw [tmod_nat, hq]
  have hq' : q < 1000 := by rw [← hq]; have := Nat.mod_lt b hk; omega
  have h3 : IntKind.i64.wrap (q : Int) = (q : Int) := IntWalk.i64_in _ (by omega)
  clear hq
  go_enter Tryd.func19, Tryd.ntmps19
  go_wp2
  go_ret
  exact ⟨rfl, rfl⟩
set_option maxRecDepth 100000 in
theorem odd_any (b : Nat) (w : World) (hb : b < 256) (r : Bool) (hr : decide (b % 2 = 1) = r) : Calls Tryd.prog 37 #[.int .u8 (b : Nat)] w fun e w' => e = .returned (.bool r) ∧ w = w' := by
  have h2 : (b : Int).tmod (2 : Int) = ((b % 2 : Nat) : Int) := tmod_nat b 2
  have h3 : IntKind.u8.wrap ((b % 2 : Nat) : Int) = ((b % 2 : Nat) : Int) := by
    rcases Nat.mod_two_eq_zero_or_one b with h | h <;> rw [h] <;> rfl
  have h4 : ((((b % 2 : Nat) : Int)) == 1) = r := by
    rw [← hr]
    rcases Nat.mod_two_eq_zero_or_one b with h | h <;> rw [h] <;> rfl
  obtain ⟨q, hq⟩ : ∃ q : Int, ((b % 2 : Nat) : Int) = q := ⟨_, rfl⟩
  rw [hq] at h2 h3 h4
  clear hr hq
  go_enter Tryd.func37, Tryd.ntmps37
  go_wp2
  go_ret
  exact ⟨rfl, rfl⟩
/-- The directive that bytes make. -/
def dirF (b1 b2 b3 b4 b5 b6 b7 : Nat) : Dr :=
  if b1 % 6 = 2 then ⟨1, 2, 0, 0, 0, 0, 0, 0, (1 + b3 % 4 : Nat), (1 + b4 % 4 : Nat), 0, (1 + b5 : Nat), (b6 % 8 : Nat)⟩
  else if b1 % 6 = 3 then ⟨2, 1, (1 + b2 % 16 : Nat), 0, 0, 0, 0, 0, 0, 0, 0, 0, 0⟩
  else if b1 % 6 = 4 then ⟨3, 1, (1 + b2 % 16 : Nat), 0, 0, 0, 0, (1 + b7 % 4 : Nat), 0, 0, 0, 0, 0⟩
  else if b1 % 6 = 5 then ⟨2, 2, 0, 0, 0, 0, 0, 0, (1 + b3 % 4 : Nat), (1 + b4 % 4 : Nat), 0, 0, 0⟩
  else ⟨1, 1, (1 + b2 % 16 : Nat), (1 + b3 % 4 : Nat), (1 + b4 % 4 : Nat), (b5 % 64 : Nat), (b5 % 64 + 1 + b6 % 64 : Nat), (1 + b7 % 4 : Nat), 0, 0, 0, 0, 0⟩
set_option maxHeartbeats 8000000 in
set_option maxRecDepth 100000 in
theorem sdir_any (b0 b1 b2 b3 b4 b5 b6 b7 b8 b9 : Nat) (w : World) (h0 : b0 < 256) (h1 : b1 < 256) (h2 : b2 < 256) (h3 : b3 < 256) (h4 : b4 < 256) (h5 : b5 < 256) (h6 : b6 < 256) (h7 : b7 < 256) (h8 : b8 < 256) (h9 : b9 < 256) (D : Dr) (hD : dirF b1 b2 b3 b4 b5 b6 b7 = D) :
    Calls Tryd.prog 10 #[.agg #[.int .u8 (b0 : Nat), .int .u8 (b1 : Nat), .int .u8 (b2 : Nat), .int .u8 (b3 : Nat), .int .u8 (b4 : Nat), .int .u8 (b5 : Nat), .int .u8 (b6 : Nat), .int .u8 (b7 : Nat), .int .u8 (b8 : Nat), .int .u8 (b9 : Nat)]] w fun e w' => e = .returned (.agg #[.int .i64 D.op, .int .i64 D.kd, .int .i64 D.id, .int .i64 D.fr, .int .i64 D.tn, .int .i64 D.st, .int .i64 D.en, .int .i64 D.rt, .int .i64 D.rf, .int .i64 D.rn, .int .i64 D.rs, .int .i64 D.re, .int .i64 D.ro]) ∧ Below w.heap.size w w' := by
  obtain ⟨q1, eq1⟩ : ∃ q, b1 % 6 = q := ⟨_, rfl⟩
  have lq1 : q1 < 6 := by rw [← eq1]; exact Nat.mod_lt _ (by omega)
  obtain ⟨q2, eq2⟩ : ∃ q, b2 % 16 = q := ⟨_, rfl⟩
  have lq2 : q2 < 16 := by rw [← eq2]; exact Nat.mod_lt _ (by omega)
  obtain ⟨q3, eq3⟩ : ∃ q, b3 % 4 = q := ⟨_, rfl⟩
  have lq3 : q3 < 4 := by rw [← eq3]; exact Nat.mod_lt _ (by omega)
  obtain ⟨q4, eq4⟩ : ∃ q, b4 % 4 = q := ⟨_, rfl⟩
  have lq4 : q4 < 4 := by rw [← eq4]; exact Nat.mod_lt _ (by omega)
  obtain ⟨q5, eq5⟩ : ∃ q, b5 % 64 = q := ⟨_, rfl⟩
  have lq5 : q5 < 64 := by rw [← eq5]; exact Nat.mod_lt _ (by omega)
  obtain ⟨q7, eq7⟩ : ∃ q, b7 % 4 = q := ⟨_, rfl⟩
  have lq7 : q7 < 4 := by rw [← eq7]; exact Nat.mod_lt _ (by omega)
  obtain ⟨p6, ep6⟩ : ∃ q, b6 % 8 = q := ⟨_, rfl⟩
  have lp6 : p6 < 8 := by rw [← ep6]; exact Nat.mod_lt _ (by omega)
  obtain ⟨s6, es6⟩ : ∃ q, b6 % 64 = q := ⟨_, rfl⟩
  have ls6 : s6 < 64 := by rw [← es6]; exact Nat.mod_lt _ (by omega)
  have HD : Hid ((if q1 = 2 then (⟨1, 2, 0, 0, 0, 0, 0, 0, (1 + q3 : Nat), (1 + q4 : Nat), 0, (1 + b5 : Nat), (p6 : Nat)⟩ : Dr) else if q1 = 3 then ⟨2, 1, (1 + q2 : Nat), 0, 0, 0, 0, 0, 0, 0, 0, 0, 0⟩ else if q1 = 4 then ⟨3, 1, (1 + q2 : Nat), 0, 0, 0, 0, (1 + q7 : Nat), 0, 0, 0, 0, 0⟩ else if q1 = 5 then ⟨2, 2, 0, 0, 0, 0, 0, 0, (1 + q3 : Nat), (1 + q4 : Nat), 0, 0, 0⟩ else ⟨1, 1, (1 + q2 : Nat), (1 + q3 : Nat), (1 + q4 : Nat), (q5 : Nat), (q5 + 1 + s6 : Nat), (1 + q7 : Nat), 0, 0, 0, 0, 0⟩) = D) := by unfold dirF at hD; rw [eq1, eq2, eq3, eq4, eq5, eq7, ep6, es6] at hD; exact hD
  have Eq1 := Lib.hid eq1
  have Eq2 := Lib.hid eq2
  have Eq3 := Lib.hid eq3
  have Eq4 := Lib.hid eq4
  have Eq5 := Lib.hid eq5
  have Eq7 := Lib.hid eq7
  have Ep6 := Lib.hid ep6
  have Es6 := Lib.hid es6
  clear hD eq1 eq2 eq3 eq4 eq5 eq7 ep6 es6
  have H0 := Lib.hid h0
  have H1 := Lib.hid h1
  have H2 := Lib.hid h2
  have H3 := Lib.hid h3
  have H4 := Lib.hid h4
  have H5 := Lib.hid h5
  have H6 := Lib.hid h6
  have H7 := Lib.hid h7
  have H8 := Lib.hid h8
  have H9 := Lib.hid h9
  have wq2 : IntKind.i64.wrap (1 + (q2 : Int)) = 1 + (q2 : Int) := IntWalk.i64_in _ (by omega)
  have wq3 : IntKind.i64.wrap (1 + (q3 : Int)) = 1 + (q3 : Int) := IntWalk.i64_in _ (by omega)
  have wq4 : IntKind.i64.wrap (1 + (q4 : Int)) = 1 + (q4 : Int) := IntWalk.i64_in _ (by omega)
  have wq7 : IntKind.i64.wrap (1 + (q7 : Int)) = 1 + (q7 : Int) := IntWalk.i64_in _ (by omega)
  have wb5 : IntKind.i64.wrap (1 + (b5 : Int)) = 1 + (b5 : Int) := IntWalk.i64_in _ (by omega)
  have vb5 : IntKind.i64.wrap (b5 : Int) = (b5 : Int) := IntWalk.i64_in _ (by omega)
  have ws : IntKind.i64.wrap ((q5 : Int) + 1) = (q5 : Int) + 1 := IntWalk.i64_in _ (by omega)
  have wt : IntKind.i64.wrap ((q5 : Int) + 1 + (s6 : Int)) = (q5 : Int) + 1 + (s6 : Int) := IntWalk.i64_in _ (by omega)
  clear h0 h1 h2 h3 h4 h5 h6 h7 h8 h9
  have hB : Below w.heap.size w ((w.alloc (.cells #[.int .u8 (b0 : Nat), .int .u8 (b1 : Nat), .int .u8 (b2 : Nat), .int .u8 (b3 : Nat), .int .u8 (b4 : Nat), .int .u8 (b5 : Nat), .int .u8 (b6 : Nat), .int .u8 (b7 : Nat), .int .u8 (b8 : Nat), .int .u8 (b9 : Nat)] 23)).alloc (.cells #[.int .i64 0, .int .i64 0, .int .i64 0, .int .i64 0, .int .i64 0, .int .i64 0, .int .i64 0, .int .i64 0, .int .i64 0, .int .i64 0, .int .i64 0, .int .i64 0, .int .i64 0] 31)) := by (repeat (first | exact Below.refl _ _ | refine Below.alloc ?_ (by first | omega | (simp; done) | (simp; omega)) _ | refine Below.setCell ?_ (by first | omega | (simp; done) | (simp; omega)) _ | refine Below.drew ?_))
  have hX := (Blok.new w 23 #[.int .u8 (b0 : Nat), .int .u8 (b1 : Nat), .int .u8 (b2 : Nat), .int .u8 (b3 : Nat), .int .u8 (b4 : Nat), .int .u8 (b5 : Nat), .int .u8 (b6 : Nat), .int .u8 (b7 : Nat), .int .u8 (b8 : Nat), .int .u8 (b9 : Nat)]).alloc (.cells #[.int .i64 0, .int .i64 0, .int .i64 0, .int .i64 0, .int .i64 0, .int .i64 0, .int .i64 0, .int .i64 0, .int .i64 0, .int .i64 0, .int .i64 0, .int .i64 0, .int .i64 0] 31)
  have hR := Blok.new (w.alloc (.cells #[.int .u8 (b0 : Nat), .int .u8 (b1 : Nat), .int .u8 (b2 : Nat), .int .u8 (b3 : Nat), .int .u8 (b4 : Nat), .int .u8 (b5 : Nat), .int .u8 (b6 : Nat), .int .u8 (b7 : Nat), .int .u8 (b8 : Nat), .int .u8 (b9 : Nat)] 23)) 31 #[.int .i64 0, .int .i64 0, .int .i64 0, .int .i64 0, .int .i64 0, .int .i64 0, .int .i64 0, .int .i64 0, .int .i64 0, .int .i64 0, .int .i64 0, .int .i64 0, .int .i64 0]
  rw [World.size_alloc] at hR
  go_enter Tryd.func10, Tryd.ntmps10
  go_upto_region 1 with fail
  generalize ((w.alloc (.cells #[.int .u8 (b0 : Nat), .int .u8 (b1 : Nat), .int .u8 (b2 : Nat), .int .u8 (b3 : Nat), .int .u8 (b4 : Nat), .int .u8 (b5 : Nat), .int .u8 (b6 : Nat), .int .u8 (b7 : Nat), .int .u8 (b8 : Nat), .int .u8 (b9 : Nat)] 23)).alloc (.cells #[.int .i64 0, .int .i64 0, .int .i64 0, .int .i64 0, .int .i64 0, .int .i64 0, .int .i64 0, .int .i64 0, .int .i64 0, .int .i64 0, .int .i64 0, .int .i64 0, .int .i64 0] 31)) = w1 at *
  have x0 : w1.cell? ⟨w.heap.size, 0, none⟩ = some (.int .u8 (b0 : Nat)) := hX.cell 0
  have x1 : w1.cell? ⟨w.heap.size, 1, none⟩ = some (.int .u8 (b1 : Nat)) := hX.cell 1
  have x2 : w1.cell? ⟨w.heap.size, 2, none⟩ = some (.int .u8 (b2 : Nat)) := hX.cell 2
  have x3 : w1.cell? ⟨w.heap.size, 3, none⟩ = some (.int .u8 (b3 : Nat)) := hX.cell 3
  have x4 : w1.cell? ⟨w.heap.size, 4, none⟩ = some (.int .u8 (b4 : Nat)) := hX.cell 4
  have x5 : w1.cell? ⟨w.heap.size, 5, none⟩ = some (.int .u8 (b5 : Nat)) := hX.cell 5
  have x6 : w1.cell? ⟨w.heap.size, 6, none⟩ = some (.int .u8 (b6 : Nat)) := hX.cell 6
  have x7 : w1.cell? ⟨w.heap.size, 7, none⟩ = some (.int .u8 (b7 : Nat)) := hX.cell 7
  have x8 : w1.cell? ⟨w.heap.size, 8, none⟩ = some (.int .u8 (b8 : Nat)) := hX.cell 8
  have x9 : w1.cell? ⟨w.heap.size, 9, none⟩ = some (.int .u8 (b9 : Nat)) := hX.cell 9
  have lt_x := hX.lt
  have q_x0 := fun d os => cell_regrown x0 d os
  have q_x1 := fun d os => cell_regrown x1 d os
  have q_x2 := fun d os => cell_regrown x2 d os
  have q_x3 := fun d os => cell_regrown x3 d os
  have q_x4 := fun d os => cell_regrown x4 d os
  have q_x5 := fun d os => cell_regrown x5 d os
  have q_x6 := fun d os => cell_regrown x6 d os
  have q_x7 := fun d os => cell_regrown x7 d os
  have q_x8 := fun d os => cell_regrown x8 d os
  have q_x9 := fun d os => cell_regrown x9 d os
  try simp only [List.append]
  first | refine wp_region_text_below ?_ | refine wp_region_quiet_below (by kernel_rfl) (by kernel_rfl) ?_
  repeat (go_big_quiet_step (((go_at_call 19; first | with_reducible exact Calls.regrown_same (rest_any b1 6 q1 6 k6_ _ H1.out (by decide) (by decide) Eq1.out) | with_reducible exact Calls.regrown_same (rest_any b2 16 q2 16 k16_ _ H2.out (by decide) (by decide) Eq2.out) | with_reducible exact Calls.regrown_same (rest_any b3 4 q3 4 k4_ _ H3.out (by decide) (by decide) Eq3.out) | with_reducible exact Calls.regrown_same (rest_any b4 4 q4 4 k4_ _ H4.out (by decide) (by decide) Eq4.out) | with_reducible exact Calls.regrown_same (rest_any b5 64 q5 64 k64_ _ H5.out (by decide) (by decide) Eq5.out) | with_reducible exact Calls.regrown_same (rest_any b7 4 q7 4 k4_ _ H7.out (by decide) (by decide) Eq7.out) | with_reducible exact Calls.regrown_same (rest_any b6 8 p6 8 k8_ _ H6.out (by decide) (by decide) Ep6.out) | with_reducible exact Calls.regrown_same (rest_any b6 64 s6 64 k64_ _ H6.out (by decide) (by decide) Es6.out)))))
  refine wpQuiet_nil ?_
  intro _ hqw
  obtain ⟨pq, hqw⟩ := hqw
  subst hqw
  clear q_x0 q_x1 q_x2 q_x3 q_x4 q_x5 q_x6 q_x7 q_x8 q_x9
  have hb := below_regrown w1 pq.d pq.os
  replace hX := hX.below hb hX.lt
  replace hR := hR.below hb hR.lt
  replace hB := hB.trans (hb.mono hB.size)
  clear x0 x1 x2 x3 x4 x5 x6 x7 x8 x9 lt_x hb
  generalize grow (redrawn w1 pq.d) pq.os = w2 at *
  have x0 : w2.cell? ⟨w.heap.size, 0, none⟩ = some (.int .u8 (b0 : Nat)) := hX.cell 0
  have x1 : w2.cell? ⟨w.heap.size, 1, none⟩ = some (.int .u8 (b1 : Nat)) := hX.cell 1
  have x2 : w2.cell? ⟨w.heap.size, 2, none⟩ = some (.int .u8 (b2 : Nat)) := hX.cell 2
  have x3 : w2.cell? ⟨w.heap.size, 3, none⟩ = some (.int .u8 (b3 : Nat)) := hX.cell 3
  have x4 : w2.cell? ⟨w.heap.size, 4, none⟩ = some (.int .u8 (b4 : Nat)) := hX.cell 4
  have x5 : w2.cell? ⟨w.heap.size, 5, none⟩ = some (.int .u8 (b5 : Nat)) := hX.cell 5
  have x6 : w2.cell? ⟨w.heap.size, 6, none⟩ = some (.int .u8 (b6 : Nat)) := hX.cell 6
  have x7 : w2.cell? ⟨w.heap.size, 7, none⟩ = some (.int .u8 (b7 : Nat)) := hX.cell 7
  have x8 : w2.cell? ⟨w.heap.size, 8, none⟩ = some (.int .u8 (b8 : Nat)) := hX.cell 8
  have x9 : w2.cell? ⟨w.heap.size, 9, none⟩ = some (.int .u8 (b9 : Nat)) := hX.cell 9
  have lt_x := hX.lt
  go_upto_region 2 with fail
  have q_x0 := fun d os => cell_regrown x0 d os
  have q_x1 := fun d os => cell_regrown x1 d os
  have q_x2 := fun d os => cell_regrown x2 d os
  have q_x3 := fun d os => cell_regrown x3 d os
  have q_x4 := fun d os => cell_regrown x4 d os
  have q_x5 := fun d os => cell_regrown x5 d os
  have q_x6 := fun d os => cell_regrown x6 d os
  have q_x7 := fun d os => cell_regrown x7 d os
  have q_x8 := fun d os => cell_regrown x8 d os
  have q_x9 := fun d os => cell_regrown x9 d os
  try simp only [List.append]
  first | refine wp_region_text_below ?_ | refine wp_region_quiet_below (by kernel_rfl) (by kernel_rfl) ?_
  repeat (go_big_quiet_step (((go_at_call 19; first | with_reducible exact Calls.regrown_same (rest_any b1 6 q1 6 k6_ _ H1.out (by decide) (by decide) Eq1.out) | with_reducible exact Calls.regrown_same (rest_any b2 16 q2 16 k16_ _ H2.out (by decide) (by decide) Eq2.out) | with_reducible exact Calls.regrown_same (rest_any b3 4 q3 4 k4_ _ H3.out (by decide) (by decide) Eq3.out) | with_reducible exact Calls.regrown_same (rest_any b4 4 q4 4 k4_ _ H4.out (by decide) (by decide) Eq4.out) | with_reducible exact Calls.regrown_same (rest_any b5 64 q5 64 k64_ _ H5.out (by decide) (by decide) Eq5.out) | with_reducible exact Calls.regrown_same (rest_any b7 4 q7 4 k4_ _ H7.out (by decide) (by decide) Eq7.out) | with_reducible exact Calls.regrown_same (rest_any b6 8 p6 8 k8_ _ H6.out (by decide) (by decide) Ep6.out) | with_reducible exact Calls.regrown_same (rest_any b6 64 s6 64 k64_ _ H6.out (by decide) (by decide) Es6.out)))))
  refine wpQuiet_nil ?_
  intro _ hqw
  obtain ⟨pq, hqw⟩ := hqw
  subst hqw
  clear q_x0 q_x1 q_x2 q_x3 q_x4 q_x5 q_x6 q_x7 q_x8 q_x9
  have hb := below_regrown w2 pq.d pq.os
  replace hX := hX.below hb hX.lt
  replace hR := hR.below hb hR.lt
  replace hB := hB.trans (hb.mono hB.size)
  clear x0 x1 x2 x3 x4 x5 x6 x7 x8 x9 lt_x hb
  generalize grow (redrawn w2 pq.d) pq.os = w3 at *
  have x0 : w3.cell? ⟨w.heap.size, 0, none⟩ = some (.int .u8 (b0 : Nat)) := hX.cell 0
  have x1 : w3.cell? ⟨w.heap.size, 1, none⟩ = some (.int .u8 (b1 : Nat)) := hX.cell 1
  have x2 : w3.cell? ⟨w.heap.size, 2, none⟩ = some (.int .u8 (b2 : Nat)) := hX.cell 2
  have x3 : w3.cell? ⟨w.heap.size, 3, none⟩ = some (.int .u8 (b3 : Nat)) := hX.cell 3
  have x4 : w3.cell? ⟨w.heap.size, 4, none⟩ = some (.int .u8 (b4 : Nat)) := hX.cell 4
  have x5 : w3.cell? ⟨w.heap.size, 5, none⟩ = some (.int .u8 (b5 : Nat)) := hX.cell 5
  have x6 : w3.cell? ⟨w.heap.size, 6, none⟩ = some (.int .u8 (b6 : Nat)) := hX.cell 6
  have x7 : w3.cell? ⟨w.heap.size, 7, none⟩ = some (.int .u8 (b7 : Nat)) := hX.cell 7
  have x8 : w3.cell? ⟨w.heap.size, 8, none⟩ = some (.int .u8 (b8 : Nat)) := hX.cell 8
  have x9 : w3.cell? ⟨w.heap.size, 9, none⟩ = some (.int .u8 (b9 : Nat)) := hX.cell 9
  have lt_x := hX.lt
  have hq1 : q1 = 0 ∨ q1 = 1 ∨ q1 = 2 ∨ q1 = 3 ∨ q1 = 4 ∨ q1 = 5 := by omega
  clear lq1 lq2 lq3 lq4 lq5 lq7 lp6 ls6
  rcases hq1 with rfl | rfl | rfl | rfl | rfl | rfl
  · skip
    have r0 : w3.cell? ⟨w.heap.size + 1, 0, none⟩ = some (.int .i64 0) := hR.cell 0
    have f0 := hR.free 0
    have r1 : w3.cell? ⟨w.heap.size + 1, 1, none⟩ = some (.int .i64 0) := hR.cell 1
    have f1 := hR.free 1
    have r2 : w3.cell? ⟨w.heap.size + 1, 2, none⟩ = some (.int .i64 0) := hR.cell 2
    have f2 := hR.free 2
    have r3 : w3.cell? ⟨w.heap.size + 1, 3, none⟩ = some (.int .i64 0) := hR.cell 3
    have f3 := hR.free 3
    have r4 : w3.cell? ⟨w.heap.size + 1, 4, none⟩ = some (.int .i64 0) := hR.cell 4
    have f4 := hR.free 4
    have r5 : w3.cell? ⟨w.heap.size + 1, 5, none⟩ = some (.int .i64 0) := hR.cell 5
    have f5 := hR.free 5
    have r6 : w3.cell? ⟨w.heap.size + 1, 6, none⟩ = some (.int .i64 0) := hR.cell 6
    have f6 := hR.free 6
    have r7 : w3.cell? ⟨w.heap.size + 1, 7, none⟩ = some (.int .i64 0) := hR.cell 7
    have f7 := hR.free 7
    have r8 : w3.cell? ⟨w.heap.size + 1, 8, none⟩ = some (.int .i64 0) := hR.cell 8
    have f8 := hR.free 8
    have r9 : w3.cell? ⟨w.heap.size + 1, 9, none⟩ = some (.int .i64 0) := hR.cell 9
    have f9 := hR.free 9
    have r10 : w3.cell? ⟨w.heap.size + 1, 10, none⟩ = some (.int .i64 0) := hR.cell 10
    have f10 := hR.free 10
    have r11 : w3.cell? ⟨w.heap.size + 1, 11, none⟩ = some (.int .i64 0) := hR.cell 11
    have f11 := hR.free 11
    have r12 : w3.cell? ⟨w.heap.size + 1, 12, none⟩ = some (.int .i64 0) := hR.cell 12
    have f12 := hR.free 12
    have lt_r := hR.lt
    clear r0 f0 r1 f1 r2 f2 r3 f3 r4 f4 r5 f5 r6 f6 r7 f7 r8 f8 r9 f9 r10 f10 r11 f11 r12 f12 lt_r
    go_upto_region 14 with ((go_at_call 19; first | ((with_reducible refine Calls.mono (rest_any b1 6 _ 6 k6_ _ H1.out (by decide) (by decide) Eq1.out) ?_); rintro e9 w9 ⟨rfl, rfl⟩) | ((with_reducible refine Calls.mono (rest_any b2 16 q2 16 k16_ _ H2.out (by decide) (by decide) Eq2.out) ?_); rintro e9 w9 ⟨rfl, rfl⟩) | ((with_reducible refine Calls.mono (rest_any b3 4 q3 4 k4_ _ H3.out (by decide) (by decide) Eq3.out) ?_); rintro e9 w9 ⟨rfl, rfl⟩) | ((with_reducible refine Calls.mono (rest_any b4 4 q4 4 k4_ _ H4.out (by decide) (by decide) Eq4.out) ?_); rintro e9 w9 ⟨rfl, rfl⟩) | ((with_reducible refine Calls.mono (rest_any b5 64 q5 64 k64_ _ H5.out (by decide) (by decide) Eq5.out) ?_); rintro e9 w9 ⟨rfl, rfl⟩) | ((with_reducible refine Calls.mono (rest_any b7 4 q7 4 k4_ _ H7.out (by decide) (by decide) Eq7.out) ?_); rintro e9 w9 ⟨rfl, rfl⟩) | ((with_reducible refine Calls.mono (rest_any b6 8 p6 8 k8_ _ H6.out (by decide) (by decide) Ep6.out) ?_); rintro e9 w9 ⟨rfl, rfl⟩) | ((with_reducible refine Calls.mono (rest_any b6 64 s6 64 k64_ _ H6.out (by decide) (by decide) Es6.out) ?_); rintro e9 w9 ⟨rfl, rfl⟩)))
    clear x0 x1 x2 x3 x4 x5 x6 x7 x8 x9 lt_x
    have hY := Blok.new w3 27 #[.int .i64 (1 + (q2 : Int)), .int .i64 (1 + (q3 : Int)), .int .i64 (1 + (q4 : Int)), .int .i64 ((q5 : Int)), .int .i64 ((q5 : Int) + 1 + (s6 : Int)), .int .i64 (1 + (q7 : Int))]
    have hb : Below w3.heap.size w3 (w3.alloc (.cells #[.int .i64 (1 + (q2 : Int)), .int .i64 (1 + (q3 : Int)), .int .i64 (1 + (q4 : Int)), .int .i64 ((q5 : Int)), .int .i64 ((q5 : Int) + 1 + (s6 : Int)), .int .i64 (1 + (q7 : Int))] 27)) := by (repeat (first | exact Below.refl _ _ | refine Below.alloc ?_ (by first | omega | (simp; done) | (simp; omega)) _ | refine Below.setCell ?_ (by first | omega | (simp; done) | (simp; omega)) _ | refine Below.drew ?_))
    replace hR := hR.below hb hR.lt
    replace hB := hB.trans (hb.mono hB.size)
    clear hb hX
    generalize w3.alloc (.cells #[.int .i64 (1 + (q2 : Int)), .int .i64 (1 + (q3 : Int)), .int .i64 (1 + (q4 : Int)), .int .i64 ((q5 : Int)), .int .i64 ((q5 : Int) + 1 + (s6 : Int)), .int .i64 (1 + (q7 : Int))] 27) = w4 at *
    generalize w3.heap.size = bK at *
    have k0 : w4.cell? ⟨bK, 0, none⟩ = some (.int .i64 (1 + (q2 : Int))) := hY.cell 0
    have k1 : w4.cell? ⟨bK, 1, none⟩ = some (.int .i64 (1 + (q3 : Int))) := hY.cell 1
    have k2 : w4.cell? ⟨bK, 2, none⟩ = some (.int .i64 (1 + (q4 : Int))) := hY.cell 2
    have k3 : w4.cell? ⟨bK, 3, none⟩ = some (.int .i64 ((q5 : Int))) := hY.cell 3
    have k4 : w4.cell? ⟨bK, 4, none⟩ = some (.int .i64 ((q5 : Int) + 1 + (s6 : Int))) := hY.cell 4
    have k5 : w4.cell? ⟨bK, 5, none⟩ = some (.int .i64 (1 + (q7 : Int))) := hY.cell 5
    have lt_k := hY.lt
    have r0 : w4.cell? ⟨w.heap.size + 1, 0, none⟩ = some (.int .i64 0) := hR.cell 0
    have f0 := hR.free 0
    have r1 : w4.cell? ⟨w.heap.size + 1, 1, none⟩ = some (.int .i64 0) := hR.cell 1
    have f1 := hR.free 1
    have r2 : w4.cell? ⟨w.heap.size + 1, 2, none⟩ = some (.int .i64 0) := hR.cell 2
    have f2 := hR.free 2
    have r3 : w4.cell? ⟨w.heap.size + 1, 3, none⟩ = some (.int .i64 0) := hR.cell 3
    have f3 := hR.free 3
    have r4 : w4.cell? ⟨w.heap.size + 1, 4, none⟩ = some (.int .i64 0) := hR.cell 4
    have f4 := hR.free 4
    have r5 : w4.cell? ⟨w.heap.size + 1, 5, none⟩ = some (.int .i64 0) := hR.cell 5
    have f5 := hR.free 5
    have r6 : w4.cell? ⟨w.heap.size + 1, 6, none⟩ = some (.int .i64 0) := hR.cell 6
    have f6 := hR.free 6
    have r7 : w4.cell? ⟨w.heap.size + 1, 7, none⟩ = some (.int .i64 0) := hR.cell 7
    have f7 := hR.free 7
    have r8 : w4.cell? ⟨w.heap.size + 1, 8, none⟩ = some (.int .i64 0) := hR.cell 8
    have f8 := hR.free 8
    have r9 : w4.cell? ⟨w.heap.size + 1, 9, none⟩ = some (.int .i64 0) := hR.cell 9
    have f9 := hR.free 9
    have r10 : w4.cell? ⟨w.heap.size + 1, 10, none⟩ = some (.int .i64 0) := hR.cell 10
    have f10 := hR.free 10
    have r11 : w4.cell? ⟨w.heap.size + 1, 11, none⟩ = some (.int .i64 0) := hR.cell 11
    have f11 := hR.free 11
    have r12 : w4.cell? ⟨w.heap.size + 1, 12, none⟩ = some (.int .i64 0) := hR.cell 12
    have f12 := hR.free 12
    have lt_r := hR.lt
    go_wp2_with fail
    clear k0 k1 k2 k3 k4 k5 lt_k
    clear r0 f0 r1 f1 r2 f2 r3 f3 r4 f4 r5 f5 r6 f6 r7 f7 r8 f8 r9 f9 r10 f10 r11 f11 r12 f12 lt_r
    have hF : Blok (((((((((((((w4.setCell ⟨(w.heap.size + 1), 0, none⟩ (.int .i64 (1))).setCell ⟨(w.heap.size + 1), 1, none⟩ (.int .i64 (1))).setCell ⟨(w.heap.size + 1), 2, none⟩ (.int .i64 (1 + (q2 : Int)))).setCell ⟨(w.heap.size + 1), 3, none⟩ (.int .i64 (1 + (q3 : Int)))).setCell ⟨(w.heap.size + 1), 4, none⟩ (.int .i64 (1 + (q4 : Int)))).setCell ⟨(w.heap.size + 1), 5, none⟩ (.int .i64 ((q5 : Int)))).setCell ⟨(w.heap.size + 1), 6, none⟩ (.int .i64 ((q5 : Int) + 1 + (s6 : Int)))).setCell ⟨(w.heap.size + 1), 7, none⟩ (.int .i64 (1 + (q7 : Int)))).setCell ⟨(w.heap.size + 1), 8, none⟩ (.int .i64 (0))).setCell ⟨(w.heap.size + 1), 9, none⟩ (.int .i64 (0))).setCell ⟨(w.heap.size + 1), 10, none⟩ (.int .i64 (0))).setCell ⟨(w.heap.size + 1), 11, none⟩ (.int .i64 (0))).setCell ⟨(w.heap.size + 1), 12, none⟩ (.int .i64 (0))) (w.heap.size + 1) 31 #[.int .i64 (1), .int .i64 (1), .int .i64 (1 + (q2 : Int)), .int .i64 (1 + (q3 : Int)), .int .i64 (1 + (q4 : Int)), .int .i64 ((q5 : Int)), .int .i64 ((q5 : Int) + 1 + (s6 : Int)), .int .i64 (1 + (q7 : Int)), .int .i64 (0), .int .i64 (0), .int .i64 (0), .int .i64 (0), .int .i64 (0)] := by have h := (((((((((((((hR.set_ 0 (.int .i64 (1))).set_ 1 (.int .i64 (1))).set_ 2 (.int .i64 (1 + (q2 : Int)))).set_ 3 (.int .i64 (1 + (q3 : Int)))).set_ 4 (.int .i64 (1 + (q4 : Int)))).set_ 5 (.int .i64 ((q5 : Int)))).set_ 6 (.int .i64 ((q5 : Int) + 1 + (s6 : Int)))).set_ 7 (.int .i64 (1 + (q7 : Int)))).set_ 8 (.int .i64 (0))).set_ 9 (.int .i64 (0))).set_ 10 (.int .i64 (0))).set_ 11 (.int .i64 (0))).set_ 12 (.int .i64 (0))); simpa using h
    have hle0 : w.heap.size ≤ (w.heap.size + 1) := by first | exact Nat.le_refl _ | omega
    have hWf : Below w.heap.size w (((((((((((((w4.setCell ⟨(w.heap.size + 1), 0, none⟩ (.int .i64 (1))).setCell ⟨(w.heap.size + 1), 1, none⟩ (.int .i64 (1))).setCell ⟨(w.heap.size + 1), 2, none⟩ (.int .i64 (1 + (q2 : Int)))).setCell ⟨(w.heap.size + 1), 3, none⟩ (.int .i64 (1 + (q3 : Int)))).setCell ⟨(w.heap.size + 1), 4, none⟩ (.int .i64 (1 + (q4 : Int)))).setCell ⟨(w.heap.size + 1), 5, none⟩ (.int .i64 ((q5 : Int)))).setCell ⟨(w.heap.size + 1), 6, none⟩ (.int .i64 ((q5 : Int) + 1 + (s6 : Int)))).setCell ⟨(w.heap.size + 1), 7, none⟩ (.int .i64 (1 + (q7 : Int)))).setCell ⟨(w.heap.size + 1), 8, none⟩ (.int .i64 (0))).setCell ⟨(w.heap.size + 1), 9, none⟩ (.int .i64 (0))).setCell ⟨(w.heap.size + 1), 10, none⟩ (.int .i64 (0))).setCell ⟨(w.heap.size + 1), 11, none⟩ (.int .i64 (0))).setCell ⟨(w.heap.size + 1), 12, none⟩ (.int .i64 (0))) := (((((((((((((hB.setCell (p := ⟨(w.heap.size + 1), 0, none⟩) hle0 (.int .i64 (1))).setCell (p := ⟨(w.heap.size + 1), 1, none⟩) hle0 (.int .i64 (1))).setCell (p := ⟨(w.heap.size + 1), 2, none⟩) hle0 (.int .i64 (1 + (q2 : Int)))).setCell (p := ⟨(w.heap.size + 1), 3, none⟩) hle0 (.int .i64 (1 + (q3 : Int)))).setCell (p := ⟨(w.heap.size + 1), 4, none⟩) hle0 (.int .i64 (1 + (q4 : Int)))).setCell (p := ⟨(w.heap.size + 1), 5, none⟩) hle0 (.int .i64 ((q5 : Int)))).setCell (p := ⟨(w.heap.size + 1), 6, none⟩) hle0 (.int .i64 ((q5 : Int) + 1 + (s6 : Int)))).setCell (p := ⟨(w.heap.size + 1), 7, none⟩) hle0 (.int .i64 (1 + (q7 : Int)))).setCell (p := ⟨(w.heap.size + 1), 8, none⟩) hle0 (.int .i64 (0))).setCell (p := ⟨(w.heap.size + 1), 9, none⟩) hle0 (.int .i64 (0))).setCell (p := ⟨(w.heap.size + 1), 10, none⟩) hle0 (.int .i64 (0))).setCell (p := ⟨(w.heap.size + 1), 11, none⟩) hle0 (.int .i64 (0))).setCell (p := ⟨(w.heap.size + 1), 12, none⟩) hle0 (.int .i64 (0)))
    have hlF := hF.lt
    have hgw : w4.grownBy (((((((((((((w4.setCell ⟨(w.heap.size + 1), 0, none⟩ (.int .i64 (1))).setCell ⟨(w.heap.size + 1), 1, none⟩ (.int .i64 (1))).setCell ⟨(w.heap.size + 1), 2, none⟩ (.int .i64 (1 + (q2 : Int)))).setCell ⟨(w.heap.size + 1), 3, none⟩ (.int .i64 (1 + (q3 : Int)))).setCell ⟨(w.heap.size + 1), 4, none⟩ (.int .i64 (1 + (q4 : Int)))).setCell ⟨(w.heap.size + 1), 5, none⟩ (.int .i64 ((q5 : Int)))).setCell ⟨(w.heap.size + 1), 6, none⟩ (.int .i64 ((q5 : Int) + 1 + (s6 : Int)))).setCell ⟨(w.heap.size + 1), 7, none⟩ (.int .i64 (1 + (q7 : Int)))).setCell ⟨(w.heap.size + 1), 8, none⟩ (.int .i64 (0))).setCell ⟨(w.heap.size + 1), 9, none⟩ (.int .i64 (0))).setCell ⟨(w.heap.size + 1), 10, none⟩ (.int .i64 (0))).setCell ⟨(w.heap.size + 1), 11, none⟩ (.int .i64 (0))).setCell ⟨(w.heap.size + 1), 12, none⟩ (.int .i64 (0))) (some (w.heap.size + 1)) := grown_trans (grown_trans (grown_trans (grown_trans (grown_trans (grown_trans (grown_trans (grown_trans (grown_trans (grown_trans (grown_trans (grown_trans (grown_set _ _ _) (grown_set _ _ _)) (grown_set _ _ _)) (grown_set _ _ _)) (grown_set _ _ _)) (grown_set _ _ _)) (grown_set _ _ _)) (grown_set _ _ _)) (grown_set _ _ _)) (grown_set _ _ _)) (grown_set _ _ _)) (grown_set _ _ _)) (grown_set _ _ _)
    generalize (((((((((((((w4.setCell ⟨(w.heap.size + 1), 0, none⟩ (.int .i64 (1))).setCell ⟨(w.heap.size + 1), 1, none⟩ (.int .i64 (1))).setCell ⟨(w.heap.size + 1), 2, none⟩ (.int .i64 (1 + (q2 : Int)))).setCell ⟨(w.heap.size + 1), 3, none⟩ (.int .i64 (1 + (q3 : Int)))).setCell ⟨(w.heap.size + 1), 4, none⟩ (.int .i64 (1 + (q4 : Int)))).setCell ⟨(w.heap.size + 1), 5, none⟩ (.int .i64 ((q5 : Int)))).setCell ⟨(w.heap.size + 1), 6, none⟩ (.int .i64 ((q5 : Int) + 1 + (s6 : Int)))).setCell ⟨(w.heap.size + 1), 7, none⟩ (.int .i64 (1 + (q7 : Int)))).setCell ⟨(w.heap.size + 1), 8, none⟩ (.int .i64 (0))).setCell ⟨(w.heap.size + 1), 9, none⟩ (.int .i64 (0))).setCell ⟨(w.heap.size + 1), 10, none⟩ (.int .i64 (0))).setCell ⟨(w.heap.size + 1), 11, none⟩ (.int .i64 (0))).setCell ⟨(w.heap.size + 1), 12, none⟩ (.int .i64 (0))) = wf at *
    have r0 : wf.cell? ⟨(w.heap.size + 1), 0, none⟩ = some (.int .i64 (1)) := hF.cell 0
    have r1 : wf.cell? ⟨(w.heap.size + 1), 1, none⟩ = some (.int .i64 (1)) := hF.cell 1
    have r2 : wf.cell? ⟨(w.heap.size + 1), 2, none⟩ = some (.int .i64 (1 + (q2 : Int))) := hF.cell 2
    have r3 : wf.cell? ⟨(w.heap.size + 1), 3, none⟩ = some (.int .i64 (1 + (q3 : Int))) := hF.cell 3
    have r4 : wf.cell? ⟨(w.heap.size + 1), 4, none⟩ = some (.int .i64 (1 + (q4 : Int))) := hF.cell 4
    have r5 : wf.cell? ⟨(w.heap.size + 1), 5, none⟩ = some (.int .i64 ((q5 : Int))) := hF.cell 5
    have r6 : wf.cell? ⟨(w.heap.size + 1), 6, none⟩ = some (.int .i64 ((q5 : Int) + 1 + (s6 : Int))) := hF.cell 6
    have r7 : wf.cell? ⟨(w.heap.size + 1), 7, none⟩ = some (.int .i64 (1 + (q7 : Int))) := hF.cell 7
    have r8 : wf.cell? ⟨(w.heap.size + 1), 8, none⟩ = some (.int .i64 (0)) := hF.cell 8
    have r9 : wf.cell? ⟨(w.heap.size + 1), 9, none⟩ = some (.int .i64 (0)) := hF.cell 9
    have r10 : wf.cell? ⟨(w.heap.size + 1), 10, none⟩ = some (.int .i64 (0)) := hF.cell 10
    have r11 : wf.cell? ⟨(w.heap.size + 1), 11, none⟩ = some (.int .i64 (0)) := hF.cell 11
    have r12 : wf.cell? ⟨(w.heap.size + 1), 12, none⟩ = some (.int .i64 (0)) := hF.cell 12
    refine bodyPost_ret (v := .agg #[.int .i64 (1), .int .i64 (1), .int .i64 (1 + (q2 : Int)), .int .i64 (1 + (q3 : Int)), .int .i64 (1 + (q4 : Int)), .int .i64 ((q5 : Int)), .int .i64 ((q5 : Int) + 1 + (s6 : Int)), .int .i64 (1 + (q7 : Int)), .int .i64 (0), .int .i64 (0), .int .i64 (0), .int .i64 (0), .int .i64 (0)]) (by simp [results, Tryd.results10, go_sem, r0, r1, r2, r3, r4, r5, r6, r7, r8, r9, r10, r11, r12, hlF]) rfl ?_
    exact ⟨by rw [← HD.out]; rfl, hWf⟩
  · skip
    have r0 : w3.cell? ⟨w.heap.size + 1, 0, none⟩ = some (.int .i64 0) := hR.cell 0
    have f0 := hR.free 0
    have r1 : w3.cell? ⟨w.heap.size + 1, 1, none⟩ = some (.int .i64 0) := hR.cell 1
    have f1 := hR.free 1
    have r2 : w3.cell? ⟨w.heap.size + 1, 2, none⟩ = some (.int .i64 0) := hR.cell 2
    have f2 := hR.free 2
    have r3 : w3.cell? ⟨w.heap.size + 1, 3, none⟩ = some (.int .i64 0) := hR.cell 3
    have f3 := hR.free 3
    have r4 : w3.cell? ⟨w.heap.size + 1, 4, none⟩ = some (.int .i64 0) := hR.cell 4
    have f4 := hR.free 4
    have r5 : w3.cell? ⟨w.heap.size + 1, 5, none⟩ = some (.int .i64 0) := hR.cell 5
    have f5 := hR.free 5
    have r6 : w3.cell? ⟨w.heap.size + 1, 6, none⟩ = some (.int .i64 0) := hR.cell 6
    have f6 := hR.free 6
    have r7 : w3.cell? ⟨w.heap.size + 1, 7, none⟩ = some (.int .i64 0) := hR.cell 7
    have f7 := hR.free 7
    have r8 : w3.cell? ⟨w.heap.size + 1, 8, none⟩ = some (.int .i64 0) := hR.cell 8
    have f8 := hR.free 8
    have r9 : w3.cell? ⟨w.heap.size + 1, 9, none⟩ = some (.int .i64 0) := hR.cell 9
    have f9 := hR.free 9
    have r10 : w3.cell? ⟨w.heap.size + 1, 10, none⟩ = some (.int .i64 0) := hR.cell 10
    have f10 := hR.free 10
    have r11 : w3.cell? ⟨w.heap.size + 1, 11, none⟩ = some (.int .i64 0) := hR.cell 11
    have f11 := hR.free 11
    have r12 : w3.cell? ⟨w.heap.size + 1, 12, none⟩ = some (.int .i64 0) := hR.cell 12
    have f12 := hR.free 12
    have lt_r := hR.lt
    clear r0 f0 r1 f1 r2 f2 r3 f3 r4 f4 r5 f5 r6 f6 r7 f7 r8 f8 r9 f9 r10 f10 r11 f11 r12 f12 lt_r
    go_upto_region 14 with ((go_at_call 19; first | ((with_reducible refine Calls.mono (rest_any b1 6 _ 6 k6_ _ H1.out (by decide) (by decide) Eq1.out) ?_); rintro e9 w9 ⟨rfl, rfl⟩) | ((with_reducible refine Calls.mono (rest_any b2 16 q2 16 k16_ _ H2.out (by decide) (by decide) Eq2.out) ?_); rintro e9 w9 ⟨rfl, rfl⟩) | ((with_reducible refine Calls.mono (rest_any b3 4 q3 4 k4_ _ H3.out (by decide) (by decide) Eq3.out) ?_); rintro e9 w9 ⟨rfl, rfl⟩) | ((with_reducible refine Calls.mono (rest_any b4 4 q4 4 k4_ _ H4.out (by decide) (by decide) Eq4.out) ?_); rintro e9 w9 ⟨rfl, rfl⟩) | ((with_reducible refine Calls.mono (rest_any b5 64 q5 64 k64_ _ H5.out (by decide) (by decide) Eq5.out) ?_); rintro e9 w9 ⟨rfl, rfl⟩) | ((with_reducible refine Calls.mono (rest_any b7 4 q7 4 k4_ _ H7.out (by decide) (by decide) Eq7.out) ?_); rintro e9 w9 ⟨rfl, rfl⟩) | ((with_reducible refine Calls.mono (rest_any b6 8 p6 8 k8_ _ H6.out (by decide) (by decide) Ep6.out) ?_); rintro e9 w9 ⟨rfl, rfl⟩) | ((with_reducible refine Calls.mono (rest_any b6 64 s6 64 k64_ _ H6.out (by decide) (by decide) Es6.out) ?_); rintro e9 w9 ⟨rfl, rfl⟩)))
    clear x0 x1 x2 x3 x4 x5 x6 x7 x8 x9 lt_x
    have hY := Blok.new w3 27 #[.int .i64 (1 + (q2 : Int)), .int .i64 (1 + (q3 : Int)), .int .i64 (1 + (q4 : Int)), .int .i64 ((q5 : Int)), .int .i64 ((q5 : Int) + 1 + (s6 : Int)), .int .i64 (1 + (q7 : Int))]
    have hb : Below w3.heap.size w3 (w3.alloc (.cells #[.int .i64 (1 + (q2 : Int)), .int .i64 (1 + (q3 : Int)), .int .i64 (1 + (q4 : Int)), .int .i64 ((q5 : Int)), .int .i64 ((q5 : Int) + 1 + (s6 : Int)), .int .i64 (1 + (q7 : Int))] 27)) := by (repeat (first | exact Below.refl _ _ | refine Below.alloc ?_ (by first | omega | (simp; done) | (simp; omega)) _ | refine Below.setCell ?_ (by first | omega | (simp; done) | (simp; omega)) _ | refine Below.drew ?_))
    replace hR := hR.below hb hR.lt
    replace hB := hB.trans (hb.mono hB.size)
    clear hb hX
    generalize w3.alloc (.cells #[.int .i64 (1 + (q2 : Int)), .int .i64 (1 + (q3 : Int)), .int .i64 (1 + (q4 : Int)), .int .i64 ((q5 : Int)), .int .i64 ((q5 : Int) + 1 + (s6 : Int)), .int .i64 (1 + (q7 : Int))] 27) = w4 at *
    generalize w3.heap.size = bK at *
    have k0 : w4.cell? ⟨bK, 0, none⟩ = some (.int .i64 (1 + (q2 : Int))) := hY.cell 0
    have k1 : w4.cell? ⟨bK, 1, none⟩ = some (.int .i64 (1 + (q3 : Int))) := hY.cell 1
    have k2 : w4.cell? ⟨bK, 2, none⟩ = some (.int .i64 (1 + (q4 : Int))) := hY.cell 2
    have k3 : w4.cell? ⟨bK, 3, none⟩ = some (.int .i64 ((q5 : Int))) := hY.cell 3
    have k4 : w4.cell? ⟨bK, 4, none⟩ = some (.int .i64 ((q5 : Int) + 1 + (s6 : Int))) := hY.cell 4
    have k5 : w4.cell? ⟨bK, 5, none⟩ = some (.int .i64 (1 + (q7 : Int))) := hY.cell 5
    have lt_k := hY.lt
    have r0 : w4.cell? ⟨w.heap.size + 1, 0, none⟩ = some (.int .i64 0) := hR.cell 0
    have f0 := hR.free 0
    have r1 : w4.cell? ⟨w.heap.size + 1, 1, none⟩ = some (.int .i64 0) := hR.cell 1
    have f1 := hR.free 1
    have r2 : w4.cell? ⟨w.heap.size + 1, 2, none⟩ = some (.int .i64 0) := hR.cell 2
    have f2 := hR.free 2
    have r3 : w4.cell? ⟨w.heap.size + 1, 3, none⟩ = some (.int .i64 0) := hR.cell 3
    have f3 := hR.free 3
    have r4 : w4.cell? ⟨w.heap.size + 1, 4, none⟩ = some (.int .i64 0) := hR.cell 4
    have f4 := hR.free 4
    have r5 : w4.cell? ⟨w.heap.size + 1, 5, none⟩ = some (.int .i64 0) := hR.cell 5
    have f5 := hR.free 5
    have r6 : w4.cell? ⟨w.heap.size + 1, 6, none⟩ = some (.int .i64 0) := hR.cell 6
    have f6 := hR.free 6
    have r7 : w4.cell? ⟨w.heap.size + 1, 7, none⟩ = some (.int .i64 0) := hR.cell 7
    have f7 := hR.free 7
    have r8 : w4.cell? ⟨w.heap.size + 1, 8, none⟩ = some (.int .i64 0) := hR.cell 8
    have f8 := hR.free 8
    have r9 : w4.cell? ⟨w.heap.size + 1, 9, none⟩ = some (.int .i64 0) := hR.cell 9
    have f9 := hR.free 9
    have r10 : w4.cell? ⟨w.heap.size + 1, 10, none⟩ = some (.int .i64 0) := hR.cell 10
    have f10 := hR.free 10
    have r11 : w4.cell? ⟨w.heap.size + 1, 11, none⟩ = some (.int .i64 0) := hR.cell 11
    have f11 := hR.free 11
    have r12 : w4.cell? ⟨w.heap.size + 1, 12, none⟩ = some (.int .i64 0) := hR.cell 12
    have f12 := hR.free 12
    have lt_r := hR.lt
    go_wp2_with fail
    clear k0 k1 k2 k3 k4 k5 lt_k
    clear r0 f0 r1 f1 r2 f2 r3 f3 r4 f4 r5 f5 r6 f6 r7 f7 r8 f8 r9 f9 r10 f10 r11 f11 r12 f12 lt_r
    have hF : Blok (((((((((((((w4.setCell ⟨(w.heap.size + 1), 0, none⟩ (.int .i64 (1))).setCell ⟨(w.heap.size + 1), 1, none⟩ (.int .i64 (1))).setCell ⟨(w.heap.size + 1), 2, none⟩ (.int .i64 (1 + (q2 : Int)))).setCell ⟨(w.heap.size + 1), 3, none⟩ (.int .i64 (1 + (q3 : Int)))).setCell ⟨(w.heap.size + 1), 4, none⟩ (.int .i64 (1 + (q4 : Int)))).setCell ⟨(w.heap.size + 1), 5, none⟩ (.int .i64 ((q5 : Int)))).setCell ⟨(w.heap.size + 1), 6, none⟩ (.int .i64 ((q5 : Int) + 1 + (s6 : Int)))).setCell ⟨(w.heap.size + 1), 7, none⟩ (.int .i64 (1 + (q7 : Int)))).setCell ⟨(w.heap.size + 1), 8, none⟩ (.int .i64 (0))).setCell ⟨(w.heap.size + 1), 9, none⟩ (.int .i64 (0))).setCell ⟨(w.heap.size + 1), 10, none⟩ (.int .i64 (0))).setCell ⟨(w.heap.size + 1), 11, none⟩ (.int .i64 (0))).setCell ⟨(w.heap.size + 1), 12, none⟩ (.int .i64 (0))) (w.heap.size + 1) 31 #[.int .i64 (1), .int .i64 (1), .int .i64 (1 + (q2 : Int)), .int .i64 (1 + (q3 : Int)), .int .i64 (1 + (q4 : Int)), .int .i64 ((q5 : Int)), .int .i64 ((q5 : Int) + 1 + (s6 : Int)), .int .i64 (1 + (q7 : Int)), .int .i64 (0), .int .i64 (0), .int .i64 (0), .int .i64 (0), .int .i64 (0)] := by have h := (((((((((((((hR.set_ 0 (.int .i64 (1))).set_ 1 (.int .i64 (1))).set_ 2 (.int .i64 (1 + (q2 : Int)))).set_ 3 (.int .i64 (1 + (q3 : Int)))).set_ 4 (.int .i64 (1 + (q4 : Int)))).set_ 5 (.int .i64 ((q5 : Int)))).set_ 6 (.int .i64 ((q5 : Int) + 1 + (s6 : Int)))).set_ 7 (.int .i64 (1 + (q7 : Int)))).set_ 8 (.int .i64 (0))).set_ 9 (.int .i64 (0))).set_ 10 (.int .i64 (0))).set_ 11 (.int .i64 (0))).set_ 12 (.int .i64 (0))); simpa using h
    have hle0 : w.heap.size ≤ (w.heap.size + 1) := by first | exact Nat.le_refl _ | omega
    have hWf : Below w.heap.size w (((((((((((((w4.setCell ⟨(w.heap.size + 1), 0, none⟩ (.int .i64 (1))).setCell ⟨(w.heap.size + 1), 1, none⟩ (.int .i64 (1))).setCell ⟨(w.heap.size + 1), 2, none⟩ (.int .i64 (1 + (q2 : Int)))).setCell ⟨(w.heap.size + 1), 3, none⟩ (.int .i64 (1 + (q3 : Int)))).setCell ⟨(w.heap.size + 1), 4, none⟩ (.int .i64 (1 + (q4 : Int)))).setCell ⟨(w.heap.size + 1), 5, none⟩ (.int .i64 ((q5 : Int)))).setCell ⟨(w.heap.size + 1), 6, none⟩ (.int .i64 ((q5 : Int) + 1 + (s6 : Int)))).setCell ⟨(w.heap.size + 1), 7, none⟩ (.int .i64 (1 + (q7 : Int)))).setCell ⟨(w.heap.size + 1), 8, none⟩ (.int .i64 (0))).setCell ⟨(w.heap.size + 1), 9, none⟩ (.int .i64 (0))).setCell ⟨(w.heap.size + 1), 10, none⟩ (.int .i64 (0))).setCell ⟨(w.heap.size + 1), 11, none⟩ (.int .i64 (0))).setCell ⟨(w.heap.size + 1), 12, none⟩ (.int .i64 (0))) := (((((((((((((hB.setCell (p := ⟨(w.heap.size + 1), 0, none⟩) hle0 (.int .i64 (1))).setCell (p := ⟨(w.heap.size + 1), 1, none⟩) hle0 (.int .i64 (1))).setCell (p := ⟨(w.heap.size + 1), 2, none⟩) hle0 (.int .i64 (1 + (q2 : Int)))).setCell (p := ⟨(w.heap.size + 1), 3, none⟩) hle0 (.int .i64 (1 + (q3 : Int)))).setCell (p := ⟨(w.heap.size + 1), 4, none⟩) hle0 (.int .i64 (1 + (q4 : Int)))).setCell (p := ⟨(w.heap.size + 1), 5, none⟩) hle0 (.int .i64 ((q5 : Int)))).setCell (p := ⟨(w.heap.size + 1), 6, none⟩) hle0 (.int .i64 ((q5 : Int) + 1 + (s6 : Int)))).setCell (p := ⟨(w.heap.size + 1), 7, none⟩) hle0 (.int .i64 (1 + (q7 : Int)))).setCell (p := ⟨(w.heap.size + 1), 8, none⟩) hle0 (.int .i64 (0))).setCell (p := ⟨(w.heap.size + 1), 9, none⟩) hle0 (.int .i64 (0))).setCell (p := ⟨(w.heap.size + 1), 10, none⟩) hle0 (.int .i64 (0))).setCell (p := ⟨(w.heap.size + 1), 11, none⟩) hle0 (.int .i64 (0))).setCell (p := ⟨(w.heap.size + 1), 12, none⟩) hle0 (.int .i64 (0)))
    have hlF := hF.lt
    have hgw : w4.grownBy (((((((((((((w4.setCell ⟨(w.heap.size + 1), 0, none⟩ (.int .i64 (1))).setCell ⟨(w.heap.size + 1), 1, none⟩ (.int .i64 (1))).setCell ⟨(w.heap.size + 1), 2, none⟩ (.int .i64 (1 + (q2 : Int)))).setCell ⟨(w.heap.size + 1), 3, none⟩ (.int .i64 (1 + (q3 : Int)))).setCell ⟨(w.heap.size + 1), 4, none⟩ (.int .i64 (1 + (q4 : Int)))).setCell ⟨(w.heap.size + 1), 5, none⟩ (.int .i64 ((q5 : Int)))).setCell ⟨(w.heap.size + 1), 6, none⟩ (.int .i64 ((q5 : Int) + 1 + (s6 : Int)))).setCell ⟨(w.heap.size + 1), 7, none⟩ (.int .i64 (1 + (q7 : Int)))).setCell ⟨(w.heap.size + 1), 8, none⟩ (.int .i64 (0))).setCell ⟨(w.heap.size + 1), 9, none⟩ (.int .i64 (0))).setCell ⟨(w.heap.size + 1), 10, none⟩ (.int .i64 (0))).setCell ⟨(w.heap.size + 1), 11, none⟩ (.int .i64 (0))).setCell ⟨(w.heap.size + 1), 12, none⟩ (.int .i64 (0))) (some (w.heap.size + 1)) := grown_trans (grown_trans (grown_trans (grown_trans (grown_trans (grown_trans (grown_trans (grown_trans (grown_trans (grown_trans (grown_trans (grown_trans (grown_set _ _ _) (grown_set _ _ _)) (grown_set _ _ _)) (grown_set _ _ _)) (grown_set _ _ _)) (grown_set _ _ _)) (grown_set _ _ _)) (grown_set _ _ _)) (grown_set _ _ _)) (grown_set _ _ _)) (grown_set _ _ _)) (grown_set _ _ _)) (grown_set _ _ _)
    generalize (((((((((((((w4.setCell ⟨(w.heap.size + 1), 0, none⟩ (.int .i64 (1))).setCell ⟨(w.heap.size + 1), 1, none⟩ (.int .i64 (1))).setCell ⟨(w.heap.size + 1), 2, none⟩ (.int .i64 (1 + (q2 : Int)))).setCell ⟨(w.heap.size + 1), 3, none⟩ (.int .i64 (1 + (q3 : Int)))).setCell ⟨(w.heap.size + 1), 4, none⟩ (.int .i64 (1 + (q4 : Int)))).setCell ⟨(w.heap.size + 1), 5, none⟩ (.int .i64 ((q5 : Int)))).setCell ⟨(w.heap.size + 1), 6, none⟩ (.int .i64 ((q5 : Int) + 1 + (s6 : Int)))).setCell ⟨(w.heap.size + 1), 7, none⟩ (.int .i64 (1 + (q7 : Int)))).setCell ⟨(w.heap.size + 1), 8, none⟩ (.int .i64 (0))).setCell ⟨(w.heap.size + 1), 9, none⟩ (.int .i64 (0))).setCell ⟨(w.heap.size + 1), 10, none⟩ (.int .i64 (0))).setCell ⟨(w.heap.size + 1), 11, none⟩ (.int .i64 (0))).setCell ⟨(w.heap.size + 1), 12, none⟩ (.int .i64 (0))) = wf at *
    have r0 : wf.cell? ⟨(w.heap.size + 1), 0, none⟩ = some (.int .i64 (1)) := hF.cell 0
    have r1 : wf.cell? ⟨(w.heap.size + 1), 1, none⟩ = some (.int .i64 (1)) := hF.cell 1
    have r2 : wf.cell? ⟨(w.heap.size + 1), 2, none⟩ = some (.int .i64 (1 + (q2 : Int))) := hF.cell 2
    have r3 : wf.cell? ⟨(w.heap.size + 1), 3, none⟩ = some (.int .i64 (1 + (q3 : Int))) := hF.cell 3
    have r4 : wf.cell? ⟨(w.heap.size + 1), 4, none⟩ = some (.int .i64 (1 + (q4 : Int))) := hF.cell 4
    have r5 : wf.cell? ⟨(w.heap.size + 1), 5, none⟩ = some (.int .i64 ((q5 : Int))) := hF.cell 5
    have r6 : wf.cell? ⟨(w.heap.size + 1), 6, none⟩ = some (.int .i64 ((q5 : Int) + 1 + (s6 : Int))) := hF.cell 6
    have r7 : wf.cell? ⟨(w.heap.size + 1), 7, none⟩ = some (.int .i64 (1 + (q7 : Int))) := hF.cell 7
    have r8 : wf.cell? ⟨(w.heap.size + 1), 8, none⟩ = some (.int .i64 (0)) := hF.cell 8
    have r9 : wf.cell? ⟨(w.heap.size + 1), 9, none⟩ = some (.int .i64 (0)) := hF.cell 9
    have r10 : wf.cell? ⟨(w.heap.size + 1), 10, none⟩ = some (.int .i64 (0)) := hF.cell 10
    have r11 : wf.cell? ⟨(w.heap.size + 1), 11, none⟩ = some (.int .i64 (0)) := hF.cell 11
    have r12 : wf.cell? ⟨(w.heap.size + 1), 12, none⟩ = some (.int .i64 (0)) := hF.cell 12
    refine bodyPost_ret (v := .agg #[.int .i64 (1), .int .i64 (1), .int .i64 (1 + (q2 : Int)), .int .i64 (1 + (q3 : Int)), .int .i64 (1 + (q4 : Int)), .int .i64 ((q5 : Int)), .int .i64 ((q5 : Int) + 1 + (s6 : Int)), .int .i64 (1 + (q7 : Int)), .int .i64 (0), .int .i64 (0), .int .i64 (0), .int .i64 (0), .int .i64 (0)]) (by simp [results, Tryd.results10, go_sem, r0, r1, r2, r3, r4, r5, r6, r7, r8, r9, r10, r11, r12, hlF]) rfl ?_
    exact ⟨by rw [← HD.out]; rfl, hWf⟩
  · skip
    go_upto_region 5 with ((go_at_call 19; first | ((with_reducible refine Calls.mono (rest_any b1 6 _ 6 k6_ _ H1.out (by decide) (by decide) Eq1.out) ?_); rintro e9 w9 ⟨rfl, rfl⟩) | ((with_reducible refine Calls.mono (rest_any b2 16 q2 16 k16_ _ H2.out (by decide) (by decide) Eq2.out) ?_); rintro e9 w9 ⟨rfl, rfl⟩) | ((with_reducible refine Calls.mono (rest_any b3 4 q3 4 k4_ _ H3.out (by decide) (by decide) Eq3.out) ?_); rintro e9 w9 ⟨rfl, rfl⟩) | ((with_reducible refine Calls.mono (rest_any b4 4 q4 4 k4_ _ H4.out (by decide) (by decide) Eq4.out) ?_); rintro e9 w9 ⟨rfl, rfl⟩) | ((with_reducible refine Calls.mono (rest_any b5 64 q5 64 k64_ _ H5.out (by decide) (by decide) Eq5.out) ?_); rintro e9 w9 ⟨rfl, rfl⟩) | ((with_reducible refine Calls.mono (rest_any b7 4 q7 4 k4_ _ H7.out (by decide) (by decide) Eq7.out) ?_); rintro e9 w9 ⟨rfl, rfl⟩) | ((with_reducible refine Calls.mono (rest_any b6 8 p6 8 k8_ _ H6.out (by decide) (by decide) Ep6.out) ?_); rintro e9 w9 ⟨rfl, rfl⟩) | ((with_reducible refine Calls.mono (rest_any b6 64 s6 64 k64_ _ H6.out (by decide) (by decide) Es6.out) ?_); rintro e9 w9 ⟨rfl, rfl⟩)))
    try simp only [List.append]
    refine wp_region_newvar (m := 10) (s := 11) (dm := 8) (dv := 43) (T := 29) (zs := #[.int .i64 0, .int .i64 0, .int .i64 0, .int .i64 0, .int .i64 0]) (cs := #[.int .i64 (1 + (q3 : Int)), .int .i64 (1 + (q4 : Int)), .int .i64 0, .int .i64 (1 + (b5 : Int)), .int .i64 (p6 : Nat)]) [0, 1, 2, 3, 4, 5, 6, 7, 8, 9] (by kernel_rfl) (NewVar.of rfl rfl rfl (by kernel_rfl)) (by kernel_rfl) rfl (fun a w => by simp [execOp, go_sem]) rfl (by kernel_rfl) (by kernel_rfl) ?_
    apply Exists.intro
    refine ⟨?_, ?_, ?_, ?_, ?_⟩
    · intro wb hwb
      have q_x0 := cell_up x0 hwb
      have q_x1 := cell_up x1 hwb
      have q_x2 := cell_up x2 hwb
      have q_x3 := cell_up x3 hwb
      have q_x4 := cell_up x4 hwb
      have q_x5 := cell_up x5 hwb
      have q_x6 := cell_up x6 hwb
      have q_x7 := cell_up x7 hwb
      have q_x8 := cell_up x8 hwb
      have q_x9 := cell_up x9 hwb
      simp only [pickL, List.flatMap_cons, List.flatMap_nil, List.drop_succ_cons, List.drop_zero, List.take_succ_cons, List.take_zero, List.append_nil, List.cons_append, List.nil_append]
      repeat (go_big_quiet_step (((go_at_call 19; first | with_reducible exact Calls.regrown_same (rest_any b1 6 q1 6 k6_ _ H1.out (by decide) (by decide) Eq1.out) | with_reducible exact Calls.regrown_same (rest_any b2 16 q2 16 k16_ _ H2.out (by decide) (by decide) Eq2.out) | with_reducible exact Calls.regrown_same (rest_any b3 4 q3 4 k4_ _ H3.out (by decide) (by decide) Eq3.out) | with_reducible exact Calls.regrown_same (rest_any b4 4 q4 4 k4_ _ H4.out (by decide) (by decide) Eq4.out) | with_reducible exact Calls.regrown_same (rest_any b5 64 q5 64 k64_ _ H5.out (by decide) (by decide) Eq5.out) | with_reducible exact Calls.regrown_same (rest_any b7 4 q7 4 k4_ _ H7.out (by decide) (by decide) Eq7.out) | with_reducible exact Calls.regrown_same (rest_any b6 8 p6 8 k8_ _ H6.out (by decide) (by decide) Ep6.out) | with_reducible exact Calls.regrown_same (rest_any b6 64 s6 64 k64_ _ H6.out (by decide) (by decide) Es6.out)))))
      exact wpQuiet_nil rfl
    · rfl
    · simp
    · rfl
    intro bX wX hX
    go_simp
    obtain ⟨_, hY, hb⟩ := hX
    clear x0 x1 x2 x3 x4 x5 x6 x7 x8 x9 lt_x
    replace hR := hR.below hb hR.lt
    replace hB := hB.trans (hb.mono hB.size)
    clear hb
    have k0 : wX.cell? ⟨bX, 0, none⟩ = some (.int .i64 (1 + (q3 : Int))) := hY.cell 0
    have k1 : wX.cell? ⟨bX, 1, none⟩ = some (.int .i64 (1 + (q4 : Int))) := hY.cell 1
    have k2 : wX.cell? ⟨bX, 2, none⟩ = some (.int .i64 (0)) := hY.cell 2
    have k3 : wX.cell? ⟨bX, 3, none⟩ = some (.int .i64 (1 + (b5 : Int))) := hY.cell 3
    have k4 : wX.cell? ⟨bX, 4, none⟩ = some (.int .i64 ((p6 : Nat))) := hY.cell 4
    have lt_k := hY.lt
    have r0 : wX.cell? ⟨w.heap.size + 1, 0, none⟩ = some (.int .i64 0) := hR.cell 0
    have f0 := hR.free 0
    have r1 : wX.cell? ⟨w.heap.size + 1, 1, none⟩ = some (.int .i64 0) := hR.cell 1
    have f1 := hR.free 1
    have r2 : wX.cell? ⟨w.heap.size + 1, 2, none⟩ = some (.int .i64 0) := hR.cell 2
    have f2 := hR.free 2
    have r3 : wX.cell? ⟨w.heap.size + 1, 3, none⟩ = some (.int .i64 0) := hR.cell 3
    have f3 := hR.free 3
    have r4 : wX.cell? ⟨w.heap.size + 1, 4, none⟩ = some (.int .i64 0) := hR.cell 4
    have f4 := hR.free 4
    have r5 : wX.cell? ⟨w.heap.size + 1, 5, none⟩ = some (.int .i64 0) := hR.cell 5
    have f5 := hR.free 5
    have r6 : wX.cell? ⟨w.heap.size + 1, 6, none⟩ = some (.int .i64 0) := hR.cell 6
    have f6 := hR.free 6
    have r7 : wX.cell? ⟨w.heap.size + 1, 7, none⟩ = some (.int .i64 0) := hR.cell 7
    have f7 := hR.free 7
    have r8 : wX.cell? ⟨w.heap.size + 1, 8, none⟩ = some (.int .i64 0) := hR.cell 8
    have f8 := hR.free 8
    have r9 : wX.cell? ⟨w.heap.size + 1, 9, none⟩ = some (.int .i64 0) := hR.cell 9
    have f9 := hR.free 9
    have r10 : wX.cell? ⟨w.heap.size + 1, 10, none⟩ = some (.int .i64 0) := hR.cell 10
    have f10 := hR.free 10
    have r11 : wX.cell? ⟨w.heap.size + 1, 11, none⟩ = some (.int .i64 0) := hR.cell 11
    have f11 := hR.free 11
    have r12 : wX.cell? ⟨w.heap.size + 1, 12, none⟩ = some (.int .i64 0) := hR.cell 12
    have f12 := hR.free 12
    have lt_r := hR.lt
    go_wp2_with fail
    clear k0 k1 k2 k3 k4 lt_k
    clear r0 f0 r1 f1 r2 f2 r3 f3 r4 f4 r5 f5 r6 f6 r7 f7 r8 f8 r9 f9 r10 f10 r11 f11 r12 f12 lt_r
    have hF : Blok (((((((((((((wX.setCell ⟨(w.heap.size + 1), 0, none⟩ (.int .i64 (1))).setCell ⟨(w.heap.size + 1), 1, none⟩ (.int .i64 (2))).setCell ⟨(w.heap.size + 1), 2, none⟩ (.int .i64 (0))).setCell ⟨(w.heap.size + 1), 3, none⟩ (.int .i64 (0))).setCell ⟨(w.heap.size + 1), 4, none⟩ (.int .i64 (0))).setCell ⟨(w.heap.size + 1), 5, none⟩ (.int .i64 (0))).setCell ⟨(w.heap.size + 1), 6, none⟩ (.int .i64 (0))).setCell ⟨(w.heap.size + 1), 7, none⟩ (.int .i64 (0))).setCell ⟨(w.heap.size + 1), 8, none⟩ (.int .i64 (1 + (q3 : Int)))).setCell ⟨(w.heap.size + 1), 9, none⟩ (.int .i64 (1 + (q4 : Int)))).setCell ⟨(w.heap.size + 1), 10, none⟩ (.int .i64 (0))).setCell ⟨(w.heap.size + 1), 11, none⟩ (.int .i64 (1 + (b5 : Int)))).setCell ⟨(w.heap.size + 1), 12, none⟩ (.int .i64 ((p6 : Nat)))) (w.heap.size + 1) 31 #[.int .i64 (1), .int .i64 (2), .int .i64 (0), .int .i64 (0), .int .i64 (0), .int .i64 (0), .int .i64 (0), .int .i64 (0), .int .i64 (1 + (q3 : Int)), .int .i64 (1 + (q4 : Int)), .int .i64 (0), .int .i64 (1 + (b5 : Int)), .int .i64 ((p6 : Nat))] := by have h := (((((((((((((hR.set_ 0 (.int .i64 (1))).set_ 1 (.int .i64 (2))).set_ 2 (.int .i64 (0))).set_ 3 (.int .i64 (0))).set_ 4 (.int .i64 (0))).set_ 5 (.int .i64 (0))).set_ 6 (.int .i64 (0))).set_ 7 (.int .i64 (0))).set_ 8 (.int .i64 (1 + (q3 : Int)))).set_ 9 (.int .i64 (1 + (q4 : Int)))).set_ 10 (.int .i64 (0))).set_ 11 (.int .i64 (1 + (b5 : Int)))).set_ 12 (.int .i64 ((p6 : Nat)))); simpa using h
    have hle0 : w.heap.size ≤ (w.heap.size + 1) := by first | exact Nat.le_refl _ | omega
    have hWf : Below w.heap.size w (((((((((((((wX.setCell ⟨(w.heap.size + 1), 0, none⟩ (.int .i64 (1))).setCell ⟨(w.heap.size + 1), 1, none⟩ (.int .i64 (2))).setCell ⟨(w.heap.size + 1), 2, none⟩ (.int .i64 (0))).setCell ⟨(w.heap.size + 1), 3, none⟩ (.int .i64 (0))).setCell ⟨(w.heap.size + 1), 4, none⟩ (.int .i64 (0))).setCell ⟨(w.heap.size + 1), 5, none⟩ (.int .i64 (0))).setCell ⟨(w.heap.size + 1), 6, none⟩ (.int .i64 (0))).setCell ⟨(w.heap.size + 1), 7, none⟩ (.int .i64 (0))).setCell ⟨(w.heap.size + 1), 8, none⟩ (.int .i64 (1 + (q3 : Int)))).setCell ⟨(w.heap.size + 1), 9, none⟩ (.int .i64 (1 + (q4 : Int)))).setCell ⟨(w.heap.size + 1), 10, none⟩ (.int .i64 (0))).setCell ⟨(w.heap.size + 1), 11, none⟩ (.int .i64 (1 + (b5 : Int)))).setCell ⟨(w.heap.size + 1), 12, none⟩ (.int .i64 ((p6 : Nat)))) := (((((((((((((hB.setCell (p := ⟨(w.heap.size + 1), 0, none⟩) hle0 (.int .i64 (1))).setCell (p := ⟨(w.heap.size + 1), 1, none⟩) hle0 (.int .i64 (2))).setCell (p := ⟨(w.heap.size + 1), 2, none⟩) hle0 (.int .i64 (0))).setCell (p := ⟨(w.heap.size + 1), 3, none⟩) hle0 (.int .i64 (0))).setCell (p := ⟨(w.heap.size + 1), 4, none⟩) hle0 (.int .i64 (0))).setCell (p := ⟨(w.heap.size + 1), 5, none⟩) hle0 (.int .i64 (0))).setCell (p := ⟨(w.heap.size + 1), 6, none⟩) hle0 (.int .i64 (0))).setCell (p := ⟨(w.heap.size + 1), 7, none⟩) hle0 (.int .i64 (0))).setCell (p := ⟨(w.heap.size + 1), 8, none⟩) hle0 (.int .i64 (1 + (q3 : Int)))).setCell (p := ⟨(w.heap.size + 1), 9, none⟩) hle0 (.int .i64 (1 + (q4 : Int)))).setCell (p := ⟨(w.heap.size + 1), 10, none⟩) hle0 (.int .i64 (0))).setCell (p := ⟨(w.heap.size + 1), 11, none⟩) hle0 (.int .i64 (1 + (b5 : Int)))).setCell (p := ⟨(w.heap.size + 1), 12, none⟩) hle0 (.int .i64 ((p6 : Nat))))
    have hlF := hF.lt
    have hgw : wX.grownBy (((((((((((((wX.setCell ⟨(w.heap.size + 1), 0, none⟩ (.int .i64 (1))).setCell ⟨(w.heap.size + 1), 1, none⟩ (.int .i64 (2))).setCell ⟨(w.heap.size + 1), 2, none⟩ (.int .i64 (0))).setCell ⟨(w.heap.size + 1), 3, none⟩ (.int .i64 (0))).setCell ⟨(w.heap.size + 1), 4, none⟩ (.int .i64 (0))).setCell ⟨(w.heap.size + 1), 5, none⟩ (.int .i64 (0))).setCell ⟨(w.heap.size + 1), 6, none⟩ (.int .i64 (0))).setCell ⟨(w.heap.size + 1), 7, none⟩ (.int .i64 (0))).setCell ⟨(w.heap.size + 1), 8, none⟩ (.int .i64 (1 + (q3 : Int)))).setCell ⟨(w.heap.size + 1), 9, none⟩ (.int .i64 (1 + (q4 : Int)))).setCell ⟨(w.heap.size + 1), 10, none⟩ (.int .i64 (0))).setCell ⟨(w.heap.size + 1), 11, none⟩ (.int .i64 (1 + (b5 : Int)))).setCell ⟨(w.heap.size + 1), 12, none⟩ (.int .i64 ((p6 : Nat)))) (some (w.heap.size + 1)) := grown_trans (grown_trans (grown_trans (grown_trans (grown_trans (grown_trans (grown_trans (grown_trans (grown_trans (grown_trans (grown_trans (grown_trans (grown_set _ _ _) (grown_set _ _ _)) (grown_set _ _ _)) (grown_set _ _ _)) (grown_set _ _ _)) (grown_set _ _ _)) (grown_set _ _ _)) (grown_set _ _ _)) (grown_set _ _ _)) (grown_set _ _ _)) (grown_set _ _ _)) (grown_set _ _ _)) (grown_set _ _ _)
    generalize (((((((((((((wX.setCell ⟨(w.heap.size + 1), 0, none⟩ (.int .i64 (1))).setCell ⟨(w.heap.size + 1), 1, none⟩ (.int .i64 (2))).setCell ⟨(w.heap.size + 1), 2, none⟩ (.int .i64 (0))).setCell ⟨(w.heap.size + 1), 3, none⟩ (.int .i64 (0))).setCell ⟨(w.heap.size + 1), 4, none⟩ (.int .i64 (0))).setCell ⟨(w.heap.size + 1), 5, none⟩ (.int .i64 (0))).setCell ⟨(w.heap.size + 1), 6, none⟩ (.int .i64 (0))).setCell ⟨(w.heap.size + 1), 7, none⟩ (.int .i64 (0))).setCell ⟨(w.heap.size + 1), 8, none⟩ (.int .i64 (1 + (q3 : Int)))).setCell ⟨(w.heap.size + 1), 9, none⟩ (.int .i64 (1 + (q4 : Int)))).setCell ⟨(w.heap.size + 1), 10, none⟩ (.int .i64 (0))).setCell ⟨(w.heap.size + 1), 11, none⟩ (.int .i64 (1 + (b5 : Int)))).setCell ⟨(w.heap.size + 1), 12, none⟩ (.int .i64 ((p6 : Nat)))) = wf at *
    have r0 : wf.cell? ⟨(w.heap.size + 1), 0, none⟩ = some (.int .i64 (1)) := hF.cell 0
    have r1 : wf.cell? ⟨(w.heap.size + 1), 1, none⟩ = some (.int .i64 (2)) := hF.cell 1
    have r2 : wf.cell? ⟨(w.heap.size + 1), 2, none⟩ = some (.int .i64 (0)) := hF.cell 2
    have r3 : wf.cell? ⟨(w.heap.size + 1), 3, none⟩ = some (.int .i64 (0)) := hF.cell 3
    have r4 : wf.cell? ⟨(w.heap.size + 1), 4, none⟩ = some (.int .i64 (0)) := hF.cell 4
    have r5 : wf.cell? ⟨(w.heap.size + 1), 5, none⟩ = some (.int .i64 (0)) := hF.cell 5
    have r6 : wf.cell? ⟨(w.heap.size + 1), 6, none⟩ = some (.int .i64 (0)) := hF.cell 6
    have r7 : wf.cell? ⟨(w.heap.size + 1), 7, none⟩ = some (.int .i64 (0)) := hF.cell 7
    have r8 : wf.cell? ⟨(w.heap.size + 1), 8, none⟩ = some (.int .i64 (1 + (q3 : Int))) := hF.cell 8
    have r9 : wf.cell? ⟨(w.heap.size + 1), 9, none⟩ = some (.int .i64 (1 + (q4 : Int))) := hF.cell 9
    have r10 : wf.cell? ⟨(w.heap.size + 1), 10, none⟩ = some (.int .i64 (0)) := hF.cell 10
    have r11 : wf.cell? ⟨(w.heap.size + 1), 11, none⟩ = some (.int .i64 (1 + (b5 : Int))) := hF.cell 11
    have r12 : wf.cell? ⟨(w.heap.size + 1), 12, none⟩ = some (.int .i64 ((p6 : Nat))) := hF.cell 12
    refine bodyPost_ret (v := .agg #[.int .i64 (1), .int .i64 (2), .int .i64 (0), .int .i64 (0), .int .i64 (0), .int .i64 (0), .int .i64 (0), .int .i64 (0), .int .i64 (1 + (q3 : Int)), .int .i64 (1 + (q4 : Int)), .int .i64 (0), .int .i64 (1 + (b5 : Int)), .int .i64 ((p6 : Nat))]) (by simp [results, Tryd.results10, go_sem, r0, r1, r2, r3, r4, r5, r6, r7, r8, r9, r10, r11, r12, hlF]) rfl ?_
    exact ⟨by rw [← HD.out]; rfl, hWf⟩
  · skip
    have r0 : w3.cell? ⟨w.heap.size + 1, 0, none⟩ = some (.int .i64 0) := hR.cell 0
    have f0 := hR.free 0
    have r1 : w3.cell? ⟨w.heap.size + 1, 1, none⟩ = some (.int .i64 0) := hR.cell 1
    have f1 := hR.free 1
    have r2 : w3.cell? ⟨w.heap.size + 1, 2, none⟩ = some (.int .i64 0) := hR.cell 2
    have f2 := hR.free 2
    have r3 : w3.cell? ⟨w.heap.size + 1, 3, none⟩ = some (.int .i64 0) := hR.cell 3
    have f3 := hR.free 3
    have r4 : w3.cell? ⟨w.heap.size + 1, 4, none⟩ = some (.int .i64 0) := hR.cell 4
    have f4 := hR.free 4
    have r5 : w3.cell? ⟨w.heap.size + 1, 5, none⟩ = some (.int .i64 0) := hR.cell 5
    have f5 := hR.free 5
    have r6 : w3.cell? ⟨w.heap.size + 1, 6, none⟩ = some (.int .i64 0) := hR.cell 6
    have f6 := hR.free 6
    have r7 : w3.cell? ⟨w.heap.size + 1, 7, none⟩ = some (.int .i64 0) := hR.cell 7
    have f7 := hR.free 7
    have r8 : w3.cell? ⟨w.heap.size + 1, 8, none⟩ = some (.int .i64 0) := hR.cell 8
    have f8 := hR.free 8
    have r9 : w3.cell? ⟨w.heap.size + 1, 9, none⟩ = some (.int .i64 0) := hR.cell 9
    have f9 := hR.free 9
    have r10 : w3.cell? ⟨w.heap.size + 1, 10, none⟩ = some (.int .i64 0) := hR.cell 10
    have f10 := hR.free 10
    have r11 : w3.cell? ⟨w.heap.size + 1, 11, none⟩ = some (.int .i64 0) := hR.cell 11
    have f11 := hR.free 11
    have r12 : w3.cell? ⟨w.heap.size + 1, 12, none⟩ = some (.int .i64 0) := hR.cell 12
    have f12 := hR.free 12
    have lt_r := hR.lt
    go_wp2_with ((go_at_call 19; first | ((with_reducible refine Calls.mono (rest_any b1 6 _ 6 k6_ _ H1.out (by decide) (by decide) Eq1.out) ?_); rintro e9 w9 ⟨rfl, rfl⟩) | ((with_reducible refine Calls.mono (rest_any b2 16 q2 16 k16_ _ H2.out (by decide) (by decide) Eq2.out) ?_); rintro e9 w9 ⟨rfl, rfl⟩) | ((with_reducible refine Calls.mono (rest_any b3 4 q3 4 k4_ _ H3.out (by decide) (by decide) Eq3.out) ?_); rintro e9 w9 ⟨rfl, rfl⟩) | ((with_reducible refine Calls.mono (rest_any b4 4 q4 4 k4_ _ H4.out (by decide) (by decide) Eq4.out) ?_); rintro e9 w9 ⟨rfl, rfl⟩) | ((with_reducible refine Calls.mono (rest_any b5 64 q5 64 k64_ _ H5.out (by decide) (by decide) Eq5.out) ?_); rintro e9 w9 ⟨rfl, rfl⟩) | ((with_reducible refine Calls.mono (rest_any b7 4 q7 4 k4_ _ H7.out (by decide) (by decide) Eq7.out) ?_); rintro e9 w9 ⟨rfl, rfl⟩) | ((with_reducible refine Calls.mono (rest_any b6 8 p6 8 k8_ _ H6.out (by decide) (by decide) Ep6.out) ?_); rintro e9 w9 ⟨rfl, rfl⟩) | ((with_reducible refine Calls.mono (rest_any b6 64 s6 64 k64_ _ H6.out (by decide) (by decide) Es6.out) ?_); rintro e9 w9 ⟨rfl, rfl⟩)))
    clear r0 f0 r1 f1 r2 f2 r3 f3 r4 f4 r5 f5 r6 f6 r7 f7 r8 f8 r9 f9 r10 f10 r11 f11 r12 f12 lt_r
    have hF : Blok (((((((((((((w3.setCell ⟨(w.heap.size + 1), 0, none⟩ (.int .i64 (2))).setCell ⟨(w.heap.size + 1), 1, none⟩ (.int .i64 (1))).setCell ⟨(w.heap.size + 1), 2, none⟩ (.int .i64 (1 + (q2 : Int)))).setCell ⟨(w.heap.size + 1), 3, none⟩ (.int .i64 (0))).setCell ⟨(w.heap.size + 1), 4, none⟩ (.int .i64 (0))).setCell ⟨(w.heap.size + 1), 5, none⟩ (.int .i64 (0))).setCell ⟨(w.heap.size + 1), 6, none⟩ (.int .i64 (0))).setCell ⟨(w.heap.size + 1), 7, none⟩ (.int .i64 (0))).setCell ⟨(w.heap.size + 1), 8, none⟩ (.int .i64 (0))).setCell ⟨(w.heap.size + 1), 9, none⟩ (.int .i64 (0))).setCell ⟨(w.heap.size + 1), 10, none⟩ (.int .i64 (0))).setCell ⟨(w.heap.size + 1), 11, none⟩ (.int .i64 (0))).setCell ⟨(w.heap.size + 1), 12, none⟩ (.int .i64 (0))) (w.heap.size + 1) 31 #[.int .i64 (2), .int .i64 (1), .int .i64 (1 + (q2 : Int)), .int .i64 (0), .int .i64 (0), .int .i64 (0), .int .i64 (0), .int .i64 (0), .int .i64 (0), .int .i64 (0), .int .i64 (0), .int .i64 (0), .int .i64 (0)] := by have h := (((((((((((((hR.set_ 0 (.int .i64 (2))).set_ 1 (.int .i64 (1))).set_ 2 (.int .i64 (1 + (q2 : Int)))).set_ 3 (.int .i64 (0))).set_ 4 (.int .i64 (0))).set_ 5 (.int .i64 (0))).set_ 6 (.int .i64 (0))).set_ 7 (.int .i64 (0))).set_ 8 (.int .i64 (0))).set_ 9 (.int .i64 (0))).set_ 10 (.int .i64 (0))).set_ 11 (.int .i64 (0))).set_ 12 (.int .i64 (0))); simpa using h
    have hle0 : w.heap.size ≤ (w.heap.size + 1) := by first | exact Nat.le_refl _ | omega
    have hWf : Below w.heap.size w (((((((((((((w3.setCell ⟨(w.heap.size + 1), 0, none⟩ (.int .i64 (2))).setCell ⟨(w.heap.size + 1), 1, none⟩ (.int .i64 (1))).setCell ⟨(w.heap.size + 1), 2, none⟩ (.int .i64 (1 + (q2 : Int)))).setCell ⟨(w.heap.size + 1), 3, none⟩ (.int .i64 (0))).setCell ⟨(w.heap.size + 1), 4, none⟩ (.int .i64 (0))).setCell ⟨(w.heap.size + 1), 5, none⟩ (.int .i64 (0))).setCell ⟨(w.heap.size + 1), 6, none⟩ (.int .i64 (0))).setCell ⟨(w.heap.size + 1), 7, none⟩ (.int .i64 (0))).setCell ⟨(w.heap.size + 1), 8, none⟩ (.int .i64 (0))).setCell ⟨(w.heap.size + 1), 9, none⟩ (.int .i64 (0))).setCell ⟨(w.heap.size + 1), 10, none⟩ (.int .i64 (0))).setCell ⟨(w.heap.size + 1), 11, none⟩ (.int .i64 (0))).setCell ⟨(w.heap.size + 1), 12, none⟩ (.int .i64 (0))) := (((((((((((((hB.setCell (p := ⟨(w.heap.size + 1), 0, none⟩) hle0 (.int .i64 (2))).setCell (p := ⟨(w.heap.size + 1), 1, none⟩) hle0 (.int .i64 (1))).setCell (p := ⟨(w.heap.size + 1), 2, none⟩) hle0 (.int .i64 (1 + (q2 : Int)))).setCell (p := ⟨(w.heap.size + 1), 3, none⟩) hle0 (.int .i64 (0))).setCell (p := ⟨(w.heap.size + 1), 4, none⟩) hle0 (.int .i64 (0))).setCell (p := ⟨(w.heap.size + 1), 5, none⟩) hle0 (.int .i64 (0))).setCell (p := ⟨(w.heap.size + 1), 6, none⟩) hle0 (.int .i64 (0))).setCell (p := ⟨(w.heap.size + 1), 7, none⟩) hle0 (.int .i64 (0))).setCell (p := ⟨(w.heap.size + 1), 8, none⟩) hle0 (.int .i64 (0))).setCell (p := ⟨(w.heap.size + 1), 9, none⟩) hle0 (.int .i64 (0))).setCell (p := ⟨(w.heap.size + 1), 10, none⟩) hle0 (.int .i64 (0))).setCell (p := ⟨(w.heap.size + 1), 11, none⟩) hle0 (.int .i64 (0))).setCell (p := ⟨(w.heap.size + 1), 12, none⟩) hle0 (.int .i64 (0)))
    have hlF := hF.lt
    have hgw : w3.grownBy (((((((((((((w3.setCell ⟨(w.heap.size + 1), 0, none⟩ (.int .i64 (2))).setCell ⟨(w.heap.size + 1), 1, none⟩ (.int .i64 (1))).setCell ⟨(w.heap.size + 1), 2, none⟩ (.int .i64 (1 + (q2 : Int)))).setCell ⟨(w.heap.size + 1), 3, none⟩ (.int .i64 (0))).setCell ⟨(w.heap.size + 1), 4, none⟩ (.int .i64 (0))).setCell ⟨(w.heap.size + 1), 5, none⟩ (.int .i64 (0))).setCell ⟨(w.heap.size + 1), 6, none⟩ (.int .i64 (0))).setCell ⟨(w.heap.size + 1), 7, none⟩ (.int .i64 (0))).setCell ⟨(w.heap.size + 1), 8, none⟩ (.int .i64 (0))).setCell ⟨(w.heap.size + 1), 9, none⟩ (.int .i64 (0))).setCell ⟨(w.heap.size + 1), 10, none⟩ (.int .i64 (0))).setCell ⟨(w.heap.size + 1), 11, none⟩ (.int .i64 (0))).setCell ⟨(w.heap.size + 1), 12, none⟩ (.int .i64 (0))) (some (w.heap.size + 1)) := grown_trans (grown_trans (grown_trans (grown_trans (grown_trans (grown_trans (grown_trans (grown_trans (grown_trans (grown_trans (grown_trans (grown_trans (grown_set _ _ _) (grown_set _ _ _)) (grown_set _ _ _)) (grown_set _ _ _)) (grown_set _ _ _)) (grown_set _ _ _)) (grown_set _ _ _)) (grown_set _ _ _)) (grown_set _ _ _)) (grown_set _ _ _)) (grown_set _ _ _)) (grown_set _ _ _)) (grown_set _ _ _)
    generalize (((((((((((((w3.setCell ⟨(w.heap.size + 1), 0, none⟩ (.int .i64 (2))).setCell ⟨(w.heap.size + 1), 1, none⟩ (.int .i64 (1))).setCell ⟨(w.heap.size + 1), 2, none⟩ (.int .i64 (1 + (q2 : Int)))).setCell ⟨(w.heap.size + 1), 3, none⟩ (.int .i64 (0))).setCell ⟨(w.heap.size + 1), 4, none⟩ (.int .i64 (0))).setCell ⟨(w.heap.size + 1), 5, none⟩ (.int .i64 (0))).setCell ⟨(w.heap.size + 1), 6, none⟩ (.int .i64 (0))).setCell ⟨(w.heap.size + 1), 7, none⟩ (.int .i64 (0))).setCell ⟨(w.heap.size + 1), 8, none⟩ (.int .i64 (0))).setCell ⟨(w.heap.size + 1), 9, none⟩ (.int .i64 (0))).setCell ⟨(w.heap.size + 1), 10, none⟩ (.int .i64 (0))).setCell ⟨(w.heap.size + 1), 11, none⟩ (.int .i64 (0))).setCell ⟨(w.heap.size + 1), 12, none⟩ (.int .i64 (0))) = wf at *
    have r0 : wf.cell? ⟨(w.heap.size + 1), 0, none⟩ = some (.int .i64 (2)) := hF.cell 0
    have r1 : wf.cell? ⟨(w.heap.size + 1), 1, none⟩ = some (.int .i64 (1)) := hF.cell 1
    have r2 : wf.cell? ⟨(w.heap.size + 1), 2, none⟩ = some (.int .i64 (1 + (q2 : Int))) := hF.cell 2
    have r3 : wf.cell? ⟨(w.heap.size + 1), 3, none⟩ = some (.int .i64 (0)) := hF.cell 3
    have r4 : wf.cell? ⟨(w.heap.size + 1), 4, none⟩ = some (.int .i64 (0)) := hF.cell 4
    have r5 : wf.cell? ⟨(w.heap.size + 1), 5, none⟩ = some (.int .i64 (0)) := hF.cell 5
    have r6 : wf.cell? ⟨(w.heap.size + 1), 6, none⟩ = some (.int .i64 (0)) := hF.cell 6
    have r7 : wf.cell? ⟨(w.heap.size + 1), 7, none⟩ = some (.int .i64 (0)) := hF.cell 7
    have r8 : wf.cell? ⟨(w.heap.size + 1), 8, none⟩ = some (.int .i64 (0)) := hF.cell 8
    have r9 : wf.cell? ⟨(w.heap.size + 1), 9, none⟩ = some (.int .i64 (0)) := hF.cell 9
    have r10 : wf.cell? ⟨(w.heap.size + 1), 10, none⟩ = some (.int .i64 (0)) := hF.cell 10
    have r11 : wf.cell? ⟨(w.heap.size + 1), 11, none⟩ = some (.int .i64 (0)) := hF.cell 11
    have r12 : wf.cell? ⟨(w.heap.size + 1), 12, none⟩ = some (.int .i64 (0)) := hF.cell 12
    refine bodyPost_ret (v := .agg #[.int .i64 (2), .int .i64 (1), .int .i64 (1 + (q2 : Int)), .int .i64 (0), .int .i64 (0), .int .i64 (0), .int .i64 (0), .int .i64 (0), .int .i64 (0), .int .i64 (0), .int .i64 (0), .int .i64 (0), .int .i64 (0)]) (by simp [results, Tryd.results10, go_sem, r0, r1, r2, r3, r4, r5, r6, r7, r8, r9, r10, r11, r12, hlF]) rfl ?_
    exact ⟨by rw [← HD.out]; rfl, hWf⟩
  · skip
    have r0 : w3.cell? ⟨w.heap.size + 1, 0, none⟩ = some (.int .i64 0) := hR.cell 0
    have f0 := hR.free 0
    have r1 : w3.cell? ⟨w.heap.size + 1, 1, none⟩ = some (.int .i64 0) := hR.cell 1
    have f1 := hR.free 1
    have r2 : w3.cell? ⟨w.heap.size + 1, 2, none⟩ = some (.int .i64 0) := hR.cell 2
    have f2 := hR.free 2
    have r3 : w3.cell? ⟨w.heap.size + 1, 3, none⟩ = some (.int .i64 0) := hR.cell 3
    have f3 := hR.free 3
    have r4 : w3.cell? ⟨w.heap.size + 1, 4, none⟩ = some (.int .i64 0) := hR.cell 4
    have f4 := hR.free 4
    have r5 : w3.cell? ⟨w.heap.size + 1, 5, none⟩ = some (.int .i64 0) := hR.cell 5
    have f5 := hR.free 5
    have r6 : w3.cell? ⟨w.heap.size + 1, 6, none⟩ = some (.int .i64 0) := hR.cell 6
    have f6 := hR.free 6
    have r7 : w3.cell? ⟨w.heap.size + 1, 7, none⟩ = some (.int .i64 0) := hR.cell 7
    have f7 := hR.free 7
    have r8 : w3.cell? ⟨w.heap.size + 1, 8, none⟩ = some (.int .i64 0) := hR.cell 8
    have f8 := hR.free 8
    have r9 : w3.cell? ⟨w.heap.size + 1, 9, none⟩ = some (.int .i64 0) := hR.cell 9
    have f9 := hR.free 9
    have r10 : w3.cell? ⟨w.heap.size + 1, 10, none⟩ = some (.int .i64 0) := hR.cell 10
    have f10 := hR.free 10
    have r11 : w3.cell? ⟨w.heap.size + 1, 11, none⟩ = some (.int .i64 0) := hR.cell 11
    have f11 := hR.free 11
    have r12 : w3.cell? ⟨w.heap.size + 1, 12, none⟩ = some (.int .i64 0) := hR.cell 12
    have f12 := hR.free 12
    have lt_r := hR.lt
    go_wp2_with ((go_at_call 19; first | ((with_reducible refine Calls.mono (rest_any b1 6 _ 6 k6_ _ H1.out (by decide) (by decide) Eq1.out) ?_); rintro e9 w9 ⟨rfl, rfl⟩) | ((with_reducible refine Calls.mono (rest_any b2 16 q2 16 k16_ _ H2.out (by decide) (by decide) Eq2.out) ?_); rintro e9 w9 ⟨rfl, rfl⟩) | ((with_reducible refine Calls.mono (rest_any b3 4 q3 4 k4_ _ H3.out (by decide) (by decide) Eq3.out) ?_); rintro e9 w9 ⟨rfl, rfl⟩) | ((with_reducible refine Calls.mono (rest_any b4 4 q4 4 k4_ _ H4.out (by decide) (by decide) Eq4.out) ?_); rintro e9 w9 ⟨rfl, rfl⟩) | ((with_reducible refine Calls.mono (rest_any b5 64 q5 64 k64_ _ H5.out (by decide) (by decide) Eq5.out) ?_); rintro e9 w9 ⟨rfl, rfl⟩) | ((with_reducible refine Calls.mono (rest_any b7 4 q7 4 k4_ _ H7.out (by decide) (by decide) Eq7.out) ?_); rintro e9 w9 ⟨rfl, rfl⟩) | ((with_reducible refine Calls.mono (rest_any b6 8 p6 8 k8_ _ H6.out (by decide) (by decide) Ep6.out) ?_); rintro e9 w9 ⟨rfl, rfl⟩) | ((with_reducible refine Calls.mono (rest_any b6 64 s6 64 k64_ _ H6.out (by decide) (by decide) Es6.out) ?_); rintro e9 w9 ⟨rfl, rfl⟩)))
    clear r0 f0 r1 f1 r2 f2 r3 f3 r4 f4 r5 f5 r6 f6 r7 f7 r8 f8 r9 f9 r10 f10 r11 f11 r12 f12 lt_r
    have hF : Blok (((((((((((((w3.setCell ⟨(w.heap.size + 1), 0, none⟩ (.int .i64 (3))).setCell ⟨(w.heap.size + 1), 1, none⟩ (.int .i64 (1))).setCell ⟨(w.heap.size + 1), 2, none⟩ (.int .i64 (1 + (q2 : Int)))).setCell ⟨(w.heap.size + 1), 3, none⟩ (.int .i64 (0))).setCell ⟨(w.heap.size + 1), 4, none⟩ (.int .i64 (0))).setCell ⟨(w.heap.size + 1), 5, none⟩ (.int .i64 (0))).setCell ⟨(w.heap.size + 1), 6, none⟩ (.int .i64 (0))).setCell ⟨(w.heap.size + 1), 7, none⟩ (.int .i64 (1 + (q7 : Int)))).setCell ⟨(w.heap.size + 1), 8, none⟩ (.int .i64 (0))).setCell ⟨(w.heap.size + 1), 9, none⟩ (.int .i64 (0))).setCell ⟨(w.heap.size + 1), 10, none⟩ (.int .i64 (0))).setCell ⟨(w.heap.size + 1), 11, none⟩ (.int .i64 (0))).setCell ⟨(w.heap.size + 1), 12, none⟩ (.int .i64 (0))) (w.heap.size + 1) 31 #[.int .i64 (3), .int .i64 (1), .int .i64 (1 + (q2 : Int)), .int .i64 (0), .int .i64 (0), .int .i64 (0), .int .i64 (0), .int .i64 (1 + (q7 : Int)), .int .i64 (0), .int .i64 (0), .int .i64 (0), .int .i64 (0), .int .i64 (0)] := by have h := (((((((((((((hR.set_ 0 (.int .i64 (3))).set_ 1 (.int .i64 (1))).set_ 2 (.int .i64 (1 + (q2 : Int)))).set_ 3 (.int .i64 (0))).set_ 4 (.int .i64 (0))).set_ 5 (.int .i64 (0))).set_ 6 (.int .i64 (0))).set_ 7 (.int .i64 (1 + (q7 : Int)))).set_ 8 (.int .i64 (0))).set_ 9 (.int .i64 (0))).set_ 10 (.int .i64 (0))).set_ 11 (.int .i64 (0))).set_ 12 (.int .i64 (0))); simpa using h
    have hle0 : w.heap.size ≤ (w.heap.size + 1) := by first | exact Nat.le_refl _ | omega
    have hWf : Below w.heap.size w (((((((((((((w3.setCell ⟨(w.heap.size + 1), 0, none⟩ (.int .i64 (3))).setCell ⟨(w.heap.size + 1), 1, none⟩ (.int .i64 (1))).setCell ⟨(w.heap.size + 1), 2, none⟩ (.int .i64 (1 + (q2 : Int)))).setCell ⟨(w.heap.size + 1), 3, none⟩ (.int .i64 (0))).setCell ⟨(w.heap.size + 1), 4, none⟩ (.int .i64 (0))).setCell ⟨(w.heap.size + 1), 5, none⟩ (.int .i64 (0))).setCell ⟨(w.heap.size + 1), 6, none⟩ (.int .i64 (0))).setCell ⟨(w.heap.size + 1), 7, none⟩ (.int .i64 (1 + (q7 : Int)))).setCell ⟨(w.heap.size + 1), 8, none⟩ (.int .i64 (0))).setCell ⟨(w.heap.size + 1), 9, none⟩ (.int .i64 (0))).setCell ⟨(w.heap.size + 1), 10, none⟩ (.int .i64 (0))).setCell ⟨(w.heap.size + 1), 11, none⟩ (.int .i64 (0))).setCell ⟨(w.heap.size + 1), 12, none⟩ (.int .i64 (0))) := (((((((((((((hB.setCell (p := ⟨(w.heap.size + 1), 0, none⟩) hle0 (.int .i64 (3))).setCell (p := ⟨(w.heap.size + 1), 1, none⟩) hle0 (.int .i64 (1))).setCell (p := ⟨(w.heap.size + 1), 2, none⟩) hle0 (.int .i64 (1 + (q2 : Int)))).setCell (p := ⟨(w.heap.size + 1), 3, none⟩) hle0 (.int .i64 (0))).setCell (p := ⟨(w.heap.size + 1), 4, none⟩) hle0 (.int .i64 (0))).setCell (p := ⟨(w.heap.size + 1), 5, none⟩) hle0 (.int .i64 (0))).setCell (p := ⟨(w.heap.size + 1), 6, none⟩) hle0 (.int .i64 (0))).setCell (p := ⟨(w.heap.size + 1), 7, none⟩) hle0 (.int .i64 (1 + (q7 : Int)))).setCell (p := ⟨(w.heap.size + 1), 8, none⟩) hle0 (.int .i64 (0))).setCell (p := ⟨(w.heap.size + 1), 9, none⟩) hle0 (.int .i64 (0))).setCell (p := ⟨(w.heap.size + 1), 10, none⟩) hle0 (.int .i64 (0))).setCell (p := ⟨(w.heap.size + 1), 11, none⟩) hle0 (.int .i64 (0))).setCell (p := ⟨(w.heap.size + 1), 12, none⟩) hle0 (.int .i64 (0)))
    have hlF := hF.lt
    have hgw : w3.grownBy (((((((((((((w3.setCell ⟨(w.heap.size + 1), 0, none⟩ (.int .i64 (3))).setCell ⟨(w.heap.size + 1), 1, none⟩ (.int .i64 (1))).setCell ⟨(w.heap.size + 1), 2, none⟩ (.int .i64 (1 + (q2 : Int)))).setCell ⟨(w.heap.size + 1), 3, none⟩ (.int .i64 (0))).setCell ⟨(w.heap.size + 1), 4, none⟩ (.int .i64 (0))).setCell ⟨(w.heap.size + 1), 5, none⟩ (.int .i64 (0))).setCell ⟨(w.heap.size + 1), 6, none⟩ (.int .i64 (0))).setCell ⟨(w.heap.size + 1), 7, none⟩ (.int .i64 (1 + (q7 : Int)))).setCell ⟨(w.heap.size + 1), 8, none⟩ (.int .i64 (0))).setCell ⟨(w.heap.size + 1), 9, none⟩ (.int .i64 (0))).setCell ⟨(w.heap.size + 1), 10, none⟩ (.int .i64 (0))).setCell ⟨(w.heap.size + 1), 11, none⟩ (.int .i64 (0))).setCell ⟨(w.heap.size + 1), 12, none⟩ (.int .i64 (0))) (some (w.heap.size + 1)) := grown_trans (grown_trans (grown_trans (grown_trans (grown_trans (grown_trans (grown_trans (grown_trans (grown_trans (grown_trans (grown_trans (grown_trans (grown_set _ _ _) (grown_set _ _ _)) (grown_set _ _ _)) (grown_set _ _ _)) (grown_set _ _ _)) (grown_set _ _ _)) (grown_set _ _ _)) (grown_set _ _ _)) (grown_set _ _ _)) (grown_set _ _ _)) (grown_set _ _ _)) (grown_set _ _ _)) (grown_set _ _ _)
    generalize (((((((((((((w3.setCell ⟨(w.heap.size + 1), 0, none⟩ (.int .i64 (3))).setCell ⟨(w.heap.size + 1), 1, none⟩ (.int .i64 (1))).setCell ⟨(w.heap.size + 1), 2, none⟩ (.int .i64 (1 + (q2 : Int)))).setCell ⟨(w.heap.size + 1), 3, none⟩ (.int .i64 (0))).setCell ⟨(w.heap.size + 1), 4, none⟩ (.int .i64 (0))).setCell ⟨(w.heap.size + 1), 5, none⟩ (.int .i64 (0))).setCell ⟨(w.heap.size + 1), 6, none⟩ (.int .i64 (0))).setCell ⟨(w.heap.size + 1), 7, none⟩ (.int .i64 (1 + (q7 : Int)))).setCell ⟨(w.heap.size + 1), 8, none⟩ (.int .i64 (0))).setCell ⟨(w.heap.size + 1), 9, none⟩ (.int .i64 (0))).setCell ⟨(w.heap.size + 1), 10, none⟩ (.int .i64 (0))).setCell ⟨(w.heap.size + 1), 11, none⟩ (.int .i64 (0))).setCell ⟨(w.heap.size + 1), 12, none⟩ (.int .i64 (0))) = wf at *
    have r0 : wf.cell? ⟨(w.heap.size + 1), 0, none⟩ = some (.int .i64 (3)) := hF.cell 0
    have r1 : wf.cell? ⟨(w.heap.size + 1), 1, none⟩ = some (.int .i64 (1)) := hF.cell 1
    have r2 : wf.cell? ⟨(w.heap.size + 1), 2, none⟩ = some (.int .i64 (1 + (q2 : Int))) := hF.cell 2
    have r3 : wf.cell? ⟨(w.heap.size + 1), 3, none⟩ = some (.int .i64 (0)) := hF.cell 3
    have r4 : wf.cell? ⟨(w.heap.size + 1), 4, none⟩ = some (.int .i64 (0)) := hF.cell 4
    have r5 : wf.cell? ⟨(w.heap.size + 1), 5, none⟩ = some (.int .i64 (0)) := hF.cell 5
    have r6 : wf.cell? ⟨(w.heap.size + 1), 6, none⟩ = some (.int .i64 (0)) := hF.cell 6
    have r7 : wf.cell? ⟨(w.heap.size + 1), 7, none⟩ = some (.int .i64 (1 + (q7 : Int))) := hF.cell 7
    have r8 : wf.cell? ⟨(w.heap.size + 1), 8, none⟩ = some (.int .i64 (0)) := hF.cell 8
    have r9 : wf.cell? ⟨(w.heap.size + 1), 9, none⟩ = some (.int .i64 (0)) := hF.cell 9
    have r10 : wf.cell? ⟨(w.heap.size + 1), 10, none⟩ = some (.int .i64 (0)) := hF.cell 10
    have r11 : wf.cell? ⟨(w.heap.size + 1), 11, none⟩ = some (.int .i64 (0)) := hF.cell 11
    have r12 : wf.cell? ⟨(w.heap.size + 1), 12, none⟩ = some (.int .i64 (0)) := hF.cell 12
    refine bodyPost_ret (v := .agg #[.int .i64 (3), .int .i64 (1), .int .i64 (1 + (q2 : Int)), .int .i64 (0), .int .i64 (0), .int .i64 (0), .int .i64 (0), .int .i64 (1 + (q7 : Int)), .int .i64 (0), .int .i64 (0), .int .i64 (0), .int .i64 (0), .int .i64 (0)]) (by simp [results, Tryd.results10, go_sem, r0, r1, r2, r3, r4, r5, r6, r7, r8, r9, r10, r11, r12, hlF]) rfl ?_
    exact ⟨by rw [← HD.out]; rfl, hWf⟩
  · skip
    have r0 : w3.cell? ⟨w.heap.size + 1, 0, none⟩ = some (.int .i64 0) := hR.cell 0
    have f0 := hR.free 0
    have r1 : w3.cell? ⟨w.heap.size + 1, 1, none⟩ = some (.int .i64 0) := hR.cell 1
    have f1 := hR.free 1
    have r2 : w3.cell? ⟨w.heap.size + 1, 2, none⟩ = some (.int .i64 0) := hR.cell 2
    have f2 := hR.free 2
    have r3 : w3.cell? ⟨w.heap.size + 1, 3, none⟩ = some (.int .i64 0) := hR.cell 3
    have f3 := hR.free 3
    have r4 : w3.cell? ⟨w.heap.size + 1, 4, none⟩ = some (.int .i64 0) := hR.cell 4
    have f4 := hR.free 4
    have r5 : w3.cell? ⟨w.heap.size + 1, 5, none⟩ = some (.int .i64 0) := hR.cell 5
    have f5 := hR.free 5
    have r6 : w3.cell? ⟨w.heap.size + 1, 6, none⟩ = some (.int .i64 0) := hR.cell 6
    have f6 := hR.free 6
    have r7 : w3.cell? ⟨w.heap.size + 1, 7, none⟩ = some (.int .i64 0) := hR.cell 7
    have f7 := hR.free 7
    have r8 : w3.cell? ⟨w.heap.size + 1, 8, none⟩ = some (.int .i64 0) := hR.cell 8
    have f8 := hR.free 8
    have r9 : w3.cell? ⟨w.heap.size + 1, 9, none⟩ = some (.int .i64 0) := hR.cell 9
    have f9 := hR.free 9
    have r10 : w3.cell? ⟨w.heap.size + 1, 10, none⟩ = some (.int .i64 0) := hR.cell 10
    have f10 := hR.free 10
    have r11 : w3.cell? ⟨w.heap.size + 1, 11, none⟩ = some (.int .i64 0) := hR.cell 11
    have f11 := hR.free 11
    have r12 : w3.cell? ⟨w.heap.size + 1, 12, none⟩ = some (.int .i64 0) := hR.cell 12
    have f12 := hR.free 12
    have lt_r := hR.lt
    go_wp2_with ((go_at_call 19; first | ((with_reducible refine Calls.mono (rest_any b1 6 _ 6 k6_ _ H1.out (by decide) (by decide) Eq1.out) ?_); rintro e9 w9 ⟨rfl, rfl⟩) | ((with_reducible refine Calls.mono (rest_any b2 16 q2 16 k16_ _ H2.out (by decide) (by decide) Eq2.out) ?_); rintro e9 w9 ⟨rfl, rfl⟩) | ((with_reducible refine Calls.mono (rest_any b3 4 q3 4 k4_ _ H3.out (by decide) (by decide) Eq3.out) ?_); rintro e9 w9 ⟨rfl, rfl⟩) | ((with_reducible refine Calls.mono (rest_any b4 4 q4 4 k4_ _ H4.out (by decide) (by decide) Eq4.out) ?_); rintro e9 w9 ⟨rfl, rfl⟩) | ((with_reducible refine Calls.mono (rest_any b5 64 q5 64 k64_ _ H5.out (by decide) (by decide) Eq5.out) ?_); rintro e9 w9 ⟨rfl, rfl⟩) | ((with_reducible refine Calls.mono (rest_any b7 4 q7 4 k4_ _ H7.out (by decide) (by decide) Eq7.out) ?_); rintro e9 w9 ⟨rfl, rfl⟩) | ((with_reducible refine Calls.mono (rest_any b6 8 p6 8 k8_ _ H6.out (by decide) (by decide) Ep6.out) ?_); rintro e9 w9 ⟨rfl, rfl⟩) | ((with_reducible refine Calls.mono (rest_any b6 64 s6 64 k64_ _ H6.out (by decide) (by decide) Es6.out) ?_); rintro e9 w9 ⟨rfl, rfl⟩)))
    clear r0 f0 r1 f1 r2 f2 r3 f3 r4 f4 r5 f5 r6 f6 r7 f7 r8 f8 r9 f9 r10 f10 r11 f11 r12 f12 lt_r
    have hF : Blok (((((((((((((w3.setCell ⟨(w.heap.size + 1), 0, none⟩ (.int .i64 (2))).setCell ⟨(w.heap.size + 1), 1, none⟩ (.int .i64 (2))).setCell ⟨(w.heap.size + 1), 2, none⟩ (.int .i64 (0))).setCell ⟨(w.heap.size + 1), 3, none⟩ (.int .i64 (0))).setCell ⟨(w.heap.size + 1), 4, none⟩ (.int .i64 (0))).setCell ⟨(w.heap.size + 1), 5, none⟩ (.int .i64 (0))).setCell ⟨(w.heap.size + 1), 6, none⟩ (.int .i64 (0))).setCell ⟨(w.heap.size + 1), 7, none⟩ (.int .i64 (0))).setCell ⟨(w.heap.size + 1), 8, none⟩ (.int .i64 (1 + (q3 : Int)))).setCell ⟨(w.heap.size + 1), 9, none⟩ (.int .i64 (1 + (q4 : Int)))).setCell ⟨(w.heap.size + 1), 10, none⟩ (.int .i64 (0))).setCell ⟨(w.heap.size + 1), 11, none⟩ (.int .i64 (0))).setCell ⟨(w.heap.size + 1), 12, none⟩ (.int .i64 (0))) (w.heap.size + 1) 31 #[.int .i64 (2), .int .i64 (2), .int .i64 (0), .int .i64 (0), .int .i64 (0), .int .i64 (0), .int .i64 (0), .int .i64 (0), .int .i64 (1 + (q3 : Int)), .int .i64 (1 + (q4 : Int)), .int .i64 (0), .int .i64 (0), .int .i64 (0)] := by have h := (((((((((((((hR.set_ 0 (.int .i64 (2))).set_ 1 (.int .i64 (2))).set_ 2 (.int .i64 (0))).set_ 3 (.int .i64 (0))).set_ 4 (.int .i64 (0))).set_ 5 (.int .i64 (0))).set_ 6 (.int .i64 (0))).set_ 7 (.int .i64 (0))).set_ 8 (.int .i64 (1 + (q3 : Int)))).set_ 9 (.int .i64 (1 + (q4 : Int)))).set_ 10 (.int .i64 (0))).set_ 11 (.int .i64 (0))).set_ 12 (.int .i64 (0))); simpa using h
    have hle0 : w.heap.size ≤ (w.heap.size + 1) := by first | exact Nat.le_refl _ | omega
    have hWf : Below w.heap.size w (((((((((((((w3.setCell ⟨(w.heap.size + 1), 0, none⟩ (.int .i64 (2))).setCell ⟨(w.heap.size + 1), 1, none⟩ (.int .i64 (2))).setCell ⟨(w.heap.size + 1), 2, none⟩ (.int .i64 (0))).setCell ⟨(w.heap.size + 1), 3, none⟩ (.int .i64 (0))).setCell ⟨(w.heap.size + 1), 4, none⟩ (.int .i64 (0))).setCell ⟨(w.heap.size + 1), 5, none⟩ (.int .i64 (0))).setCell ⟨(w.heap.size + 1), 6, none⟩ (.int .i64 (0))).setCell ⟨(w.heap.size + 1), 7, none⟩ (.int .i64 (0))).setCell ⟨(w.heap.size + 1), 8, none⟩ (.int .i64 (1 + (q3 : Int)))).setCell ⟨(w.heap.size + 1), 9, none⟩ (.int .i64 (1 + (q4 : Int)))).setCell ⟨(w.heap.size + 1), 10, none⟩ (.int .i64 (0))).setCell ⟨(w.heap.size + 1), 11, none⟩ (.int .i64 (0))).setCell ⟨(w.heap.size + 1), 12, none⟩ (.int .i64 (0))) := (((((((((((((hB.setCell (p := ⟨(w.heap.size + 1), 0, none⟩) hle0 (.int .i64 (2))).setCell (p := ⟨(w.heap.size + 1), 1, none⟩) hle0 (.int .i64 (2))).setCell (p := ⟨(w.heap.size + 1), 2, none⟩) hle0 (.int .i64 (0))).setCell (p := ⟨(w.heap.size + 1), 3, none⟩) hle0 (.int .i64 (0))).setCell (p := ⟨(w.heap.size + 1), 4, none⟩) hle0 (.int .i64 (0))).setCell (p := ⟨(w.heap.size + 1), 5, none⟩) hle0 (.int .i64 (0))).setCell (p := ⟨(w.heap.size + 1), 6, none⟩) hle0 (.int .i64 (0))).setCell (p := ⟨(w.heap.size + 1), 7, none⟩) hle0 (.int .i64 (0))).setCell (p := ⟨(w.heap.size + 1), 8, none⟩) hle0 (.int .i64 (1 + (q3 : Int)))).setCell (p := ⟨(w.heap.size + 1), 9, none⟩) hle0 (.int .i64 (1 + (q4 : Int)))).setCell (p := ⟨(w.heap.size + 1), 10, none⟩) hle0 (.int .i64 (0))).setCell (p := ⟨(w.heap.size + 1), 11, none⟩) hle0 (.int .i64 (0))).setCell (p := ⟨(w.heap.size + 1), 12, none⟩) hle0 (.int .i64 (0)))
    have hlF := hF.lt
    have hgw : w3.grownBy (((((((((((((w3.setCell ⟨(w.heap.size + 1), 0, none⟩ (.int .i64 (2))).setCell ⟨(w.heap.size + 1), 1, none⟩ (.int .i64 (2))).setCell ⟨(w.heap.size + 1), 2, none⟩ (.int .i64 (0))).setCell ⟨(w.heap.size + 1), 3, none⟩ (.int .i64 (0))).setCell ⟨(w.heap.size + 1), 4, none⟩ (.int .i64 (0))).setCell ⟨(w.heap.size + 1), 5, none⟩ (.int .i64 (0))).setCell ⟨(w.heap.size + 1), 6, none⟩ (.int .i64 (0))).setCell ⟨(w.heap.size + 1), 7, none⟩ (.int .i64 (0))).setCell ⟨(w.heap.size + 1), 8, none⟩ (.int .i64 (1 + (q3 : Int)))).setCell ⟨(w.heap.size + 1), 9, none⟩ (.int .i64 (1 + (q4 : Int)))).setCell ⟨(w.heap.size + 1), 10, none⟩ (.int .i64 (0))).setCell ⟨(w.heap.size + 1), 11, none⟩ (.int .i64 (0))).setCell ⟨(w.heap.size + 1), 12, none⟩ (.int .i64 (0))) (some (w.heap.size + 1)) := grown_trans (grown_trans (grown_trans (grown_trans (grown_trans (grown_trans (grown_trans (grown_trans (grown_trans (grown_trans (grown_trans (grown_trans (grown_set _ _ _) (grown_set _ _ _)) (grown_set _ _ _)) (grown_set _ _ _)) (grown_set _ _ _)) (grown_set _ _ _)) (grown_set _ _ _)) (grown_set _ _ _)) (grown_set _ _ _)) (grown_set _ _ _)) (grown_set _ _ _)) (grown_set _ _ _)) (grown_set _ _ _)
    generalize (((((((((((((w3.setCell ⟨(w.heap.size + 1), 0, none⟩ (.int .i64 (2))).setCell ⟨(w.heap.size + 1), 1, none⟩ (.int .i64 (2))).setCell ⟨(w.heap.size + 1), 2, none⟩ (.int .i64 (0))).setCell ⟨(w.heap.size + 1), 3, none⟩ (.int .i64 (0))).setCell ⟨(w.heap.size + 1), 4, none⟩ (.int .i64 (0))).setCell ⟨(w.heap.size + 1), 5, none⟩ (.int .i64 (0))).setCell ⟨(w.heap.size + 1), 6, none⟩ (.int .i64 (0))).setCell ⟨(w.heap.size + 1), 7, none⟩ (.int .i64 (0))).setCell ⟨(w.heap.size + 1), 8, none⟩ (.int .i64 (1 + (q3 : Int)))).setCell ⟨(w.heap.size + 1), 9, none⟩ (.int .i64 (1 + (q4 : Int)))).setCell ⟨(w.heap.size + 1), 10, none⟩ (.int .i64 (0))).setCell ⟨(w.heap.size + 1), 11, none⟩ (.int .i64 (0))).setCell ⟨(w.heap.size + 1), 12, none⟩ (.int .i64 (0))) = wf at *
    have r0 : wf.cell? ⟨(w.heap.size + 1), 0, none⟩ = some (.int .i64 (2)) := hF.cell 0
    have r1 : wf.cell? ⟨(w.heap.size + 1), 1, none⟩ = some (.int .i64 (2)) := hF.cell 1
    have r2 : wf.cell? ⟨(w.heap.size + 1), 2, none⟩ = some (.int .i64 (0)) := hF.cell 2
    have r3 : wf.cell? ⟨(w.heap.size + 1), 3, none⟩ = some (.int .i64 (0)) := hF.cell 3
    have r4 : wf.cell? ⟨(w.heap.size + 1), 4, none⟩ = some (.int .i64 (0)) := hF.cell 4
    have r5 : wf.cell? ⟨(w.heap.size + 1), 5, none⟩ = some (.int .i64 (0)) := hF.cell 5
    have r6 : wf.cell? ⟨(w.heap.size + 1), 6, none⟩ = some (.int .i64 (0)) := hF.cell 6
    have r7 : wf.cell? ⟨(w.heap.size + 1), 7, none⟩ = some (.int .i64 (0)) := hF.cell 7
    have r8 : wf.cell? ⟨(w.heap.size + 1), 8, none⟩ = some (.int .i64 (1 + (q3 : Int))) := hF.cell 8
    have r9 : wf.cell? ⟨(w.heap.size + 1), 9, none⟩ = some (.int .i64 (1 + (q4 : Int))) := hF.cell 9
    have r10 : wf.cell? ⟨(w.heap.size + 1), 10, none⟩ = some (.int .i64 (0)) := hF.cell 10
    have r11 : wf.cell? ⟨(w.heap.size + 1), 11, none⟩ = some (.int .i64 (0)) := hF.cell 11
    have r12 : wf.cell? ⟨(w.heap.size + 1), 12, none⟩ = some (.int .i64 (0)) := hF.cell 12
    refine bodyPost_ret (v := .agg #[.int .i64 (2), .int .i64 (2), .int .i64 (0), .int .i64 (0), .int .i64 (0), .int .i64 (0), .int .i64 (0), .int .i64 (0), .int .i64 (1 + (q3 : Int)), .int .i64 (1 + (q4 : Int)), .int .i64 (0), .int .i64 (0), .int .i64 (0)]) (by simp [results, Tryd.results10, go_sem, r0, r1, r2, r3, r4, r5, r6, r7, r8, r9, r10, r11, r12, hlF]) rfl ?_
    exact ⟨by rw [← HD.out]; rfl, hWf⟩
end Go.Proofs.YtggdomeeienjbaaDoor
