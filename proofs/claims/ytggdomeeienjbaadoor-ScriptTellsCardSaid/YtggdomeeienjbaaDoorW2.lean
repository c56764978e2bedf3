/- Contracts and plain facts, several texts of mine in one: Scr1, Scr2, Scr3, Scr3q0, Scr3q1, Scr3q2, Scr3q3, Scr3q4. No condition. -/
import Derived.Test.YtggdomeeienjbaaDoorW1
import Derived.Test.YtggdomeeienjbaaDoorTyDr
import Derived.Test.YtggdomeeienjbaaDoorNewVar
import Derived.Test.YtggdomeeienjbaaDoorStep
import Derived.Test.YtggdomeeienjbaaDoorAppl
import Derived.Test.YtggdomeeienjbaaDoorInts
import Derived.Test.YtggdomeeienjbaaDoorFacts5
import Derived.Deep.WholeRow
import Derived.Laws.CopyOwn

/- Package script: rest, odd, Directive, ids. No condition but that bytes are bytes. -/
namespace Go.Proofs.YtggdomeeienjbaaDoor
open Go.ChangeShapes Go.WideShapes Go.ChangeAt Go.RowKit Go.Sort
set_option linter.unusedSimpArgs false
set_option linter.unusedVariables false
theorem tmod_nat (b k : Nat) : ((b : Int).tmod (k : Int)) = ((b % k : Nat) : Int) := by simp [Int.tmod]
theorem k3_ : (3 : Int) = ((3 : Nat) : Int) := rfl
theorem k4_ : (4 : Int) = ((4 : Nat) : Int) := rfl
theorem k6_ : (6 : Int) = ((6 : Nat) : Int) := rfl
theorem k7_ : (7 : Int) = ((7 : Nat) : Int) := rfl
theorem k8_ : (8 : Int) = ((8 : Nat) : Int) := rfl
theorem k10_ : (10 : Int) = ((10 : Nat) : Int) := rfl
theorem k16_ : (16 : Int) = ((16 : Nat) : Int) := rfl
theorem k64_ : (64 : Int) = ((64 : Nat) : Int) := rfl
set_option maxRecDepth 100000 in
theorem rest_any (b k q : Nat) (K : Int) (hK : K = (k : Int)) (w : World) (hb : b < 256) (hk : 0 < k) (hk2 : k < 1000) (hq : b % k = q) : Calls Tryd.prog 19 #[.int .u8 (b : Nat), .int .i64 K] w fun e w' => e = .returned (.int .i64 (q : Nat)) ∧ w = w' := by
  subst hK
  have h0 : ((k : Int) == 0) = false := by simp; omega
  have h00 : (k : Int) ≠ 0 := by omega
  have h1 : IntKind.i64.wrap (b : Int) = (b : Int) := IntWalk.i64_in _ (by omega)
  have h2 : (b : Int).tmod (k : Int) = (q : Int) := by rw [tmod_nat,hq]
  have hq' : q < 1000 := by rw [← hq]; have := Nat.mod_lt b hk; omega
  have h3 : IntKind.i64.wrap (q : Int) = (q : Int) := IntWalk.i64_in _ (by omega)
  clear hq
  go_enter Tryd.func19,Tryd.ntmps19
  go_wp2
  go_ret
  exact ⟨rfl,rfl⟩
set_option maxRecDepth 100000 in
theorem odd_any (b : Nat) (w : World) (hb : b < 256) (r : Bool) (hr : decide (b % 2 = 1) = r) : Calls Tryd.prog 37 #[.int .u8 (b : Nat)] w fun e w' => e = .returned (.bool r) ∧ w = w' := by
  have h2 : (b : Int).tmod (2 : Int) = ((b % 2 : Nat) : Int) := tmod_nat b 2
  have h3 : IntKind.u8.wrap ((b % 2 : Nat) : Int) = ((b % 2 : Nat) : Int) := by
    rcases Nat.mod_two_eq_zero_or_one b with h | h <;> rw [h] <;> rfl
  have h4 : ((((b % 2 : Nat) : Int)) == 1) = r := by
    rw [← hr]
    rcases Nat.mod_two_eq_zero_or_one b with h | h <;> rw [h] <;> rfl
  obtain ⟨q,hq⟩ : ∃ q : Int,((b % 2 : Nat) : Int) = q := ⟨_,rfl⟩
  rw [hq] at h2 h3 h4
  clear hr hq
  go_enter Tryd.func37,Tryd.ntmps37
  go_wp2
  go_ret
  exact ⟨rfl,rfl⟩
/-- The directive that bytes make. -/
def dirF (b1 b2 b3 b4 b5 b6 b7 : Nat) : Dr :=
  if b1 % 6 = 2 then ⟨1,2,0,0,0,0,0,0,(1 + b3 % 4 : Nat),(1 + b4 % 4 : Nat),0,(1 + b5 : Nat),(b6 % 8 : Nat)⟩
  else if b1 % 6 = 3 then ⟨2,1,(1 + b2 % 16 : Nat),0,0,0,0,0,0,0,0,0,0⟩
  else if b1 % 6 = 4 then ⟨3,1,(1 + b2 % 16 : Nat),0,0,0,0,(1 + b7 % 4 : Nat),0,0,0,0,0⟩
  else if b1 % 6 = 5 then ⟨2,2,0,0,0,0,0,0,(1 + b3 % 4 : Nat),(1 + b4 % 4 : Nat),0,0,0⟩
  else ⟨1,1,(1 + b2 % 16 : Nat),(1 + b3 % 4 : Nat),(1 + b4 % 4 : Nat),(b5 % 64 : Nat),(b5 % 64 + 1 + b6 % 64 : Nat),(1 + b7 % 4 : Nat),0,0,0,0,0⟩
set_option maxHeartbeats 8000000 in
set_option maxRecDepth 100000 in
theorem sdir_any (b0 b1 b2 b3 b4 b5 b6 b7 b8 b9 : Nat) (w : World) (h0 : b0 < 256) (h1 : b1 < 256) (h2 : b2 < 256) (h3 : b3 < 256) (h4 : b4 < 256) (h5 : b5 < 256) (h6 : b6 < 256) (h7 : b7 < 256) (h8 : b8 < 256) (h9 : b9 < 256) (D : Dr) (hD : dirF b1 b2 b3 b4 b5 b6 b7 = D) :
    Calls Tryd.prog 10 #[.agg #[.int .u8 (b0 : Nat), .int .u8 (b1 : Nat), .int .u8 (b2 : Nat), .int .u8 (b3 : Nat), .int .u8 (b4 : Nat), .int .u8 (b5 : Nat), .int .u8 (b6 : Nat), .int .u8 (b7 : Nat), .int .u8 (b8 : Nat), .int .u8 (b9 : Nat)]] w fun e w' => e = .returned (.agg #[.int .i64 D.op, .int .i64 D.kd, .int .i64 D.id, .int .i64 D.fr, .int .i64 D.tn, .int .i64 D.st, .int .i64 D.en, .int .i64 D.rt, .int .i64 D.rf, .int .i64 D.rn, .int .i64 D.rs, .int .i64 D.re, .int .i64 D.ro]) ∧ Below w.heap.size w w' := by
  obtain ⟨q1,eq1⟩ : ∃ q,b1 % 6 = q := ⟨_,rfl⟩
  have lq1 : q1 < 6 := by rw [← eq1]; exact Nat.mod_lt _ (by omega)
  obtain ⟨q2,eq2⟩ : ∃ q,b2 % 16 = q := ⟨_,rfl⟩
  have lq2 : q2 < 16 := by rw [← eq2]; exact Nat.mod_lt _ (by omega)
  obtain ⟨q3,eq3⟩ : ∃ q,b3 % 4 = q := ⟨_,rfl⟩
  have lq3 : q3 < 4 := by rw [← eq3]; exact Nat.mod_lt _ (by omega)
  obtain ⟨q4,eq4⟩ : ∃ q,b4 % 4 = q := ⟨_,rfl⟩
  have lq4 : q4 < 4 := by rw [← eq4]; exact Nat.mod_lt _ (by omega)
  obtain ⟨q5,eq5⟩ : ∃ q,b5 % 64 = q := ⟨_,rfl⟩
  have lq5 : q5 < 64 := by rw [← eq5]; exact Nat.mod_lt _ (by omega)
  obtain ⟨q7,eq7⟩ : ∃ q,b7 % 4 = q := ⟨_,rfl⟩
  have lq7 : q7 < 4 := by rw [← eq7]; exact Nat.mod_lt _ (by omega)
  obtain ⟨p6,ep6⟩ : ∃ q,b6 % 8 = q := ⟨_,rfl⟩
  have lp6 : p6 < 8 := by rw [← ep6]; exact Nat.mod_lt _ (by omega)
  obtain ⟨s6,es6⟩ : ∃ q,b6 % 64 = q := ⟨_,rfl⟩
  have ls6 : s6 < 64 := by rw [← es6]; exact Nat.mod_lt _ (by omega)
  have HD : Hid ((if q1 = 2 then (⟨1,2,0,0,0,0,0,0,(1 + q3 : Nat),(1 + q4 : Nat),0,(1 + b5 : Nat),(p6 : Nat)⟩ : Dr) else if q1 = 3 then ⟨2,1,(1 + q2 : Nat),0,0,0,0,0,0,0,0,0,0⟩ else if q1 = 4 then ⟨3,1,(1 + q2 : Nat),0,0,0,0,(1 + q7 : Nat),0,0,0,0,0⟩ else if q1 = 5 then ⟨2,2,0,0,0,0,0,0,(1 + q3 : Nat),(1 + q4 : Nat),0,0,0⟩ else ⟨1,1,(1 + q2 : Nat),(1 + q3 : Nat),(1 + q4 : Nat),(q5 : Nat),(q5 + 1 + s6 : Nat),(1 + q7 : Nat),0,0,0,0,0⟩) = D) := by unfold dirF at hD; rw [eq1,eq2,eq3,eq4,eq5,eq7,ep6,es6] at hD; exact hD
  have Eq1 := Lib.hid eq1
  have Eq2 := Lib.hid eq2
  have Eq3 := Lib.hid eq3
  have Eq4 := Lib.hid eq4
  have Eq5 := Lib.hid eq5
  have Eq7 := Lib.hid eq7
  have Ep6 := Lib.hid ep6
  have Es6 := Lib.hid es6
  clear hD eq1 eq2 eq3 eq4 eq5 eq7 ep6 es6
  have H0 := Lib.hid h0
  have H1 := Lib.hid h1
  have H2 := Lib.hid h2
  have H3 := Lib.hid h3
  have H4 := Lib.hid h4
  have H5 := Lib.hid h5
  have H6 := Lib.hid h6
  have H7 := Lib.hid h7
  have H8 := Lib.hid h8
  have H9 := Lib.hid h9
  have wq2 : IntKind.i64.wrap (1 + (q2 : Int)) = 1 + (q2 : Int) := IntWalk.i64_in _ (by omega)
  have wq3 : IntKind.i64.wrap (1 + (q3 : Int)) = 1 + (q3 : Int) := IntWalk.i64_in _ (by omega)
  have wq4 : IntKind.i64.wrap (1 + (q4 : Int)) = 1 + (q4 : Int) := IntWalk.i64_in _ (by omega)
  have wq7 : IntKind.i64.wrap (1 + (q7 : Int)) = 1 + (q7 : Int) := IntWalk.i64_in _ (by omega)
  have wb5 : IntKind.i64.wrap (1 + (b5 : Int)) = 1 + (b5 : Int) := IntWalk.i64_in _ (by omega)
  have vb5 : IntKind.i64.wrap (b5 : Int) = (b5 : Int) := IntWalk.i64_in _ (by omega)
  have ws : IntKind.i64.wrap ((q5 : Int) + 1) = (q5 : Int) + 1 := IntWalk.i64_in _ (by omega)
  have wt : IntKind.i64.wrap ((q5 : Int) + 1 + (s6 : Int)) = (q5 : Int) + 1 + (s6 : Int) := IntWalk.i64_in _ (by omega)
  clear h0 h1 h2 h3 h4 h5 h6 h7 h8 h9
  have hB : Below w.heap.size w ((w.alloc (.cells #[.int .u8 (b0 : Nat), .int .u8 (b1 : Nat), .int .u8 (b2 : Nat), .int .u8 (b3 : Nat), .int .u8 (b4 : Nat), .int .u8 (b5 : Nat), .int .u8 (b6 : Nat), .int .u8 (b7 : Nat), .int .u8 (b8 : Nat), .int .u8 (b9 : Nat)] 23)).alloc (.cells #[.int .i64 0, .int .i64 0, .int .i64 0, .int .i64 0, .int .i64 0, .int .i64 0, .int .i64 0, .int .i64 0, .int .i64 0, .int .i64 0, .int .i64 0, .int .i64 0, .int .i64 0] 31)) := by (repeat (first | exact Below.refl _ _ | refine Below.alloc ?_ (by first | omega | (simp; done) | (simp; omega)) _ | refine Below.setCell ?_ (by first | omega | (simp; done) | (simp; omega)) _ | refine Below.drew ?_))
  have hX := (Blok.new w 23 #[.int .u8 (b0 : Nat), .int .u8 (b1 : Nat), .int .u8 (b2 : Nat), .int .u8 (b3 : Nat), .int .u8 (b4 : Nat), .int .u8 (b5 : Nat), .int .u8 (b6 : Nat), .int .u8 (b7 : Nat), .int .u8 (b8 : Nat), .int .u8 (b9 : Nat)]).alloc (.cells #[.int .i64 0, .int .i64 0, .int .i64 0, .int .i64 0, .int .i64 0, .int .i64 0, .int .i64 0, .int .i64 0, .int .i64 0, .int .i64 0, .int .i64 0, .int .i64 0, .int .i64 0] 31)
  have hR := Blok.new (w.alloc (.cells #[.int .u8 (b0 : Nat), .int .u8 (b1 : Nat), .int .u8 (b2 : Nat), .int .u8 (b3 : Nat), .int .u8 (b4 : Nat), .int .u8 (b5 : Nat), .int .u8 (b6 : Nat), .int .u8 (b7 : Nat), .int .u8 (b8 : Nat), .int .u8 (b9 : Nat)] 23)) 31 #[.int .i64 0, .int .i64 0, .int .i64 0, .int .i64 0, .int .i64 0, .int .i64 0, .int .i64 0, .int .i64 0, .int .i64 0, .int .i64 0, .int .i64 0, .int .i64 0, .int .i64 0]
  rw [World.size_alloc] at hR
  go_enter Tryd.func10,Tryd.ntmps10
  go_upto_region 1 with fail
  generalize ((w.alloc (.cells #[.int .u8 (b0 : Nat), .int .u8 (b1 : Nat), .int .u8 (b2 : Nat), .int .u8 (b3 : Nat), .int .u8 (b4 : Nat), .int .u8 (b5 : Nat), .int .u8 (b6 : Nat), .int .u8 (b7 : Nat), .int .u8 (b8 : Nat), .int .u8 (b9 : Nat)] 23)).alloc (.cells #[.int .i64 0, .int .i64 0, .int .i64 0, .int .i64 0, .int .i64 0, .int .i64 0, .int .i64 0, .int .i64 0, .int .i64 0, .int .i64 0, .int .i64 0, .int .i64 0, .int .i64 0] 31)) = w1 at *
  have x0 : w1.cell? ⟨w.heap.size,0,none⟩ = some (.int .u8 (b0 : Nat)) := hX.cell 0
  have x1 : w1.cell? ⟨w.heap.size,1,none⟩ = some (.int .u8 (b1 : Nat)) := hX.cell 1
  have x2 : w1.cell? ⟨w.heap.size,2,none⟩ = some (.int .u8 (b2 : Nat)) := hX.cell 2
  have x3 : w1.cell? ⟨w.heap.size,3,none⟩ = some (.int .u8 (b3 : Nat)) := hX.cell 3
  have x4 : w1.cell? ⟨w.heap.size,4,none⟩ = some (.int .u8 (b4 : Nat)) := hX.cell 4
  have x5 : w1.cell? ⟨w.heap.size,5,none⟩ = some (.int .u8 (b5 : Nat)) := hX.cell 5
  have x6 : w1.cell? ⟨w.heap.size,6,none⟩ = some (.int .u8 (b6 : Nat)) := hX.cell 6
  have x7 : w1.cell? ⟨w.heap.size,7,none⟩ = some (.int .u8 (b7 : Nat)) := hX.cell 7
  have x8 : w1.cell? ⟨w.heap.size,8,none⟩ = some (.int .u8 (b8 : Nat)) := hX.cell 8
  have x9 : w1.cell? ⟨w.heap.size,9,none⟩ = some (.int .u8 (b9 : Nat)) := hX.cell 9
  have lt_x := hX.lt
  have q_x0 := fun d os => cell_regrown x0 d os
  have q_x1 := fun d os => cell_regrown x1 d os
  have q_x2 := fun d os => cell_regrown x2 d os
  have q_x3 := fun d os => cell_regrown x3 d os
  have q_x4 := fun d os => cell_regrown x4 d os
  have q_x5 := fun d os => cell_regrown x5 d os
  have q_x6 := fun d os => cell_regrown x6 d os
  have q_x7 := fun d os => cell_regrown x7 d os
  have q_x8 := fun d os => cell_regrown x8 d os
  have q_x9 := fun d os => cell_regrown x9 d os
  try simp only [List.append]
  first | refine wp_region_text_below ?_ | refine wp_region_quiet_below (by kernel_rfl) (by kernel_rfl) ?_
  repeat (go_big_quiet_step (((go_at_call 19; first | with_reducible exact Calls.regrown_same (rest_any b1 6 q1 6 k6_ _ H1.out (by decide) (by decide) Eq1.out) | with_reducible exact Calls.regrown_same (rest_any b2 16 q2 16 k16_ _ H2.out (by decide) (by decide) Eq2.out) | with_reducible exact Calls.regrown_same (rest_any b3 4 q3 4 k4_ _ H3.out (by decide) (by decide) Eq3.out) | with_reducible exact Calls.regrown_same (rest_any b4 4 q4 4 k4_ _ H4.out (by decide) (by decide) Eq4.out) | with_reducible exact Calls.regrown_same (rest_any b5 64 q5 64 k64_ _ H5.out (by decide) (by decide) Eq5.out) | with_reducible exact Calls.regrown_same (rest_any b7 4 q7 4 k4_ _ H7.out (by decide) (by decide) Eq7.out) | with_reducible exact Calls.regrown_same (rest_any b6 8 p6 8 k8_ _ H6.out (by decide) (by decide) Ep6.out) | with_reducible exact Calls.regrown_same (rest_any b6 64 s6 64 k64_ _ H6.out (by decide) (by decide) Es6.out)))))
  refine wpQuiet_nil ?_
  intro _ hqw
  obtain ⟨pq,hqw⟩ := hqw
  subst hqw
  clear q_x0 q_x1 q_x2 q_x3 q_x4 q_x5 q_x6 q_x7 q_x8 q_x9
  have hb := below_regrown w1 pq.d pq.os
  replace hX := hX.below hb hX.lt
  replace hR := hR.below hb hR.lt
  replace hB := hB.trans (hb.mono hB.size)
  clear x0 x1 x2 x3 x4 x5 x6 x7 x8 x9 lt_x hb
  generalize grow (redrawn w1 pq.d) pq.os = w2 at *
  have x0 : w2.cell? ⟨w.heap.size,0,none⟩ = some (.int .u8 (b0 : Nat)) := hX.cell 0
  have x1 : w2.cell? ⟨w.heap.size,1,none⟩ = some (.int .u8 (b1 : Nat)) := hX.cell 1
  have x2 : w2.cell? ⟨w.heap.size,2,none⟩ = some (.int .u8 (b2 : Nat)) := hX.cell 2
  have x3 : w2.cell? ⟨w.heap.size,3,none⟩ = some (.int .u8 (b3 : Nat)) := hX.cell 3
  have x4 : w2.cell? ⟨w.heap.size,4,none⟩ = some (.int .u8 (b4 : Nat)) := hX.cell 4
  have x5 : w2.cell? ⟨w.heap.size,5,none⟩ = some (.int .u8 (b5 : Nat)) := hX.cell 5
  have x6 : w2.cell? ⟨w.heap.size,6,none⟩ = some (.int .u8 (b6 : Nat)) := hX.cell 6
  have x7 : w2.cell? ⟨w.heap.size,7,none⟩ = some (.int .u8 (b7 : Nat)) := hX.cell 7
  have x8 : w2.cell? ⟨w.heap.size,8,none⟩ = some (.int .u8 (b8 : Nat)) := hX.cell 8
  have x9 : w2.cell? ⟨w.heap.size,9,none⟩ = some (.int .u8 (b9 : Nat)) := hX.cell 9
  have lt_x := hX.lt
  go_upto_region 2 with fail
  have q_x0 := fun d os => cell_regrown x0 d os
  have q_x1 := fun d os => cell_regrown x1 d os
  have q_x2 := fun d os => cell_regrown x2 d os
  have q_x3 := fun d os => cell_regrown x3 d os
  have q_x4 := fun d os => cell_regrown x4 d os
  have q_x5 := fun d os => cell_regrown x5 d os
  have q_x6 := fun d os => cell_regrown x6 d os
  have q_x7 := fun d os => cell_regrown x7 d os
  have q_x8 := fun d os => cell_regrown x8 d os
  have q_x9 := fun d os => cell_regrown x9 d os
  try simp only [List.append]
  first | refine wp_region_text_below ?_ | refine wp_region_quiet_below (by kernel_rfl) (by kernel_rfl) ?_
  repeat (go_big_quiet_step (((go_at_call 19; first | with_reducible exact Calls.regrown_same (rest_any b1 6 q1 6 k6_ _ H1.out (by decide) (by decide) Eq1.out) | with_reducible exact Calls.regrown_same (rest_any b2 16 q2 16 k16_ _ H2.out (by decide) (by decide) Eq2.out) | with_reducible exact Calls.regrown_same (rest_any b3 4 q3 4 k4_ _ H3.out (by decide) (by decide) Eq3.out) | with_reducible exact Calls.regrown_same (rest_any b4 4 q4 4 k4_ _ H4.out (by decide) (by decide) Eq4.out) | with_reducible exact Calls.regrown_same (rest_any b5 64 q5 64 k64_ _ H5.out (by decide) (by decide) Eq5.out) | with_reducible exact Calls.regrown_same (rest_any b7 4 q7 4 k4_ _ H7.out (by decide) (by decide) Eq7.out) | with_reducible exact Calls.regrown_same (rest_any b6 8 p6 8 k8_ _ H6.out (by decide) (by decide) Ep6.out) | with_reducible exact Calls.regrown_same (rest_any b6 64 s6 64 k64_ _ H6.out (by decide) (by decide) Es6.out)))))
  refine wpQuiet_nil ?_
  intro _ hqw
  obtain ⟨pq,hqw⟩ := hqw
  subst hqw
  clear q_x0 q_x1 q_x2 q_x3 q_x4 q_x5 q_x6 q_x7 q_x8 q_x9
  have hb := below_regrown w2 pq.d pq.os
  replace hX := hX.below hb hX.lt
  replace hR := hR.below hb hR.lt
  replace hB := hB.trans (hb.mono hB.size)
  clear x0 x1 x2 x3 x4 x5 x6 x7 x8 x9 lt_x hb
  generalize grow (redrawn w2 pq.d) pq.os = w3 at *
  have x0 : w3.cell? ⟨w.heap.size,0,none⟩ = some (.int .u8 (b0 : Nat)) := hX.cell 0
  have x1 : w3.cell? ⟨w.heap.size,1,none⟩ = some (.int .u8 (b1 : Nat)) := hX.cell 1
  have x2 : w3.cell? ⟨w.heap.size,2,none⟩ = some (.int .u8 (b2 : Nat)) := hX.cell 2
  have x3 : w3.cell? ⟨w.heap.size,3,none⟩ = some (.int .u8 (b3 : Nat)) := hX.cell 3
  have x4 : w3.cell? ⟨w.heap.size,4,none⟩ = some (.int .u8 (b4 : Nat)) := hX.cell 4
  have x5 : w3.cell? ⟨w.heap.size,5,none⟩ = some (.int .u8 (b5 : Nat)) := hX.cell 5
  have x6 : w3.cell? ⟨w.heap.size,6,none⟩ = some (.int .u8 (b6 : Nat)) := hX.cell 6
  have x7 : w3.cell? ⟨w.heap.size,7,none⟩ = some (.int .u8 (b7 : Nat)) := hX.cell 7
  have x8 : w3.cell? ⟨w.heap.size,8,none⟩ = some (.int .u8 (b8 : Nat)) := hX.cell 8
  have x9 : w3.cell? ⟨w.heap.size,9,none⟩ = some (.int .u8 (b9 : Nat)) := hX.cell 9
  have lt_x := hX.lt
  have hq1 : q1 = 0 ∨ q1 = 1 ∨ q1 = 2 ∨ q1 = 3 ∨ q1 = 4 ∨ q1 = 5 := by omega
  clear lq1 lq2 lq3 lq4 lq5 lq7 lp6 ls6
  rcases hq1 with rfl | rfl | rfl | rfl | rfl | rfl
  · skip
    have r0 : w3.cell? ⟨w.heap.size + 1,0,none⟩ = some (.int .i64 0) := hR.cell 0
    have f0 := hR.free 0
    have r1 : w3.cell? ⟨w.heap.size + 1,1,none⟩ = some (.int .i64 0) := hR.cell 1
    have f1 := hR.free 1
    have r2 : w3.cell? ⟨w.heap.size + 1,2,none⟩ = some (.int .i64 0) := hR.cell 2
    have f2 := hR.free 2
    have r3 : w3.cell? ⟨w.heap.size + 1,3,none⟩ = some (.int .i64 0) := hR.cell 3
    have f3 := hR.free 3
    have r4 : w3.cell? ⟨w.heap.size + 1,4,none⟩ = some (.int .i64 0) := hR.cell 4
    have f4 := hR.free 4
    have r5 : w3.cell? ⟨w.heap.size + 1,5,none⟩ = some (.int .i64 0) := hR.cell 5
    have f5 := hR.free 5
    have r6 : w3.cell? ⟨w.heap.size + 1,6,none⟩ = some (.int .i64 0) := hR.cell 6
    have f6 := hR.free 6
    have r7 : w3.cell? ⟨w.heap.size + 1,7,none⟩ = some (.int .i64 0) := hR.cell 7
    have f7 := hR.free 7
    have r8 : w3.cell? ⟨w.heap.size + 1,8,none⟩ = some (.int .i64 0) := hR.cell 8
    have f8 := hR.free 8
    have r9 : w3.cell? ⟨w.heap.size + 1,9,none⟩ = some (.int .i64 0) := hR.cell 9
    have f9 := hR.free 9
    have r10 : w3.cell? ⟨w.heap.size + 1,10,none⟩ = some (.int .i64 0) := hR.cell 10
    have f10 := hR.free 10
    have r11 : w3.cell? ⟨w.heap.size + 1,11,none⟩ = some (.int .i64 0) := hR.cell 11
    have f11 := hR.free 11
    have r12 : w3.cell? ⟨w.heap.size + 1,12,none⟩ = some (.int .i64 0) := hR.cell 12
    have f12 := hR.free 12
    have lt_r := hR.lt
    clear r0 f0 r1 f1 r2 f2 r3 f3 r4 f4 r5 f5 r6 f6 r7 f7 r8 f8 r9 f9 r10 f10 r11 f11 r12 f12 lt_r
    go_upto_region 14 with ((go_at_call 19; first | ((with_reducible refine Calls.mono (rest_any b1 6 _ 6 k6_ _ H1.out (by decide) (by decide) Eq1.out) ?_); rintro e9 w9 ⟨rfl,rfl⟩) | ((with_reducible refine Calls.mono (rest_any b2 16 q2 16 k16_ _ H2.out (by decide) (by decide) Eq2.out) ?_); rintro e9 w9 ⟨rfl,rfl⟩) | ((with_reducible refine Calls.mono (rest_any b3 4 q3 4 k4_ _ H3.out (by decide) (by decide) Eq3.out) ?_); rintro e9 w9 ⟨rfl,rfl⟩) | ((with_reducible refine Calls.mono (rest_any b4 4 q4 4 k4_ _ H4.out (by decide) (by decide) Eq4.out) ?_); rintro e9 w9 ⟨rfl,rfl⟩) | ((with_reducible refine Calls.mono (rest_any b5 64 q5 64 k64_ _ H5.out (by decide) (by decide) Eq5.out) ?_); rintro e9 w9 ⟨rfl,rfl⟩) | ((with_reducible refine Calls.mono (rest_any b7 4 q7 4 k4_ _ H7.out (by decide) (by decide) Eq7.out) ?_); rintro e9 w9 ⟨rfl,rfl⟩) | ((with_reducible refine Calls.mono (rest_any b6 8 p6 8 k8_ _ H6.out (by decide) (by decide) Ep6.out) ?_); rintro e9 w9 ⟨rfl,rfl⟩) | ((with_reducible refine Calls.mono (rest_any b6 64 s6 64 k64_ _ H6.out (by decide) (by decide) Es6.out) ?_); rintro e9 w9 ⟨rfl,rfl⟩)))
    clear x0 x1 x2 x3 x4 x5 x6 x7 x8 x9 lt_x
    have hY := Blok.new w3 27 #[.int .i64 (1 + (q2 : Int)), .int .i64 (1 + (q3 : Int)), .int .i64 (1 + (q4 : Int)), .int .i64 ((q5 : Int)), .int .i64 ((q5 : Int) + 1 + (s6 : Int)), .int .i64 (1 + (q7 : Int))]
    have hb : Below w3.heap.size w3 (w3.alloc (.cells #[.int .i64 (1 + (q2 : Int)), .int .i64 (1 + (q3 : Int)), .int .i64 (1 + (q4 : Int)), .int .i64 ((q5 : Int)), .int .i64 ((q5 : Int) + 1 + (s6 : Int)), .int .i64 (1 + (q7 : Int))] 27)) := by (repeat (first | exact Below.refl _ _ | refine Below.alloc ?_ (by first | omega | (simp; done) | (simp; omega)) _ | refine Below.setCell ?_ (by first | omega | (simp; done) | (simp; omega)) _ | refine Below.drew ?_))
    replace hR := hR.below hb hR.lt
    replace hB := hB.trans (hb.mono hB.size)
    clear hb hX
    generalize w3.alloc (.cells #[.int .i64 (1 + (q2 : Int)), .int .i64 (1 + (q3 : Int)), .int .i64 (1 + (q4 : Int)), .int .i64 ((q5 : Int)), .int .i64 ((q5 : Int) + 1 + (s6 : Int)), .int .i64 (1 + (q7 : Int))] 27) = w4 at *
    generalize w3.heap.size = bK at *
    have k0 : w4.cell? ⟨bK,0,none⟩ = some (.int .i64 (1 + (q2 : Int))) := hY.cell 0
    have k1 : w4.cell? ⟨bK,1,none⟩ = some (.int .i64 (1 + (q3 : Int))) := hY.cell 1
    have k2 : w4.cell? ⟨bK,2,none⟩ = some (.int .i64 (1 + (q4 : Int))) := hY.cell 2
    have k3 : w4.cell? ⟨bK,3,none⟩ = some (.int .i64 ((q5 : Int))) := hY.cell 3
    have k4 : w4.cell? ⟨bK,4,none⟩ = some (.int .i64 ((q5 : Int) + 1 + (s6 : Int))) := hY.cell 4
    have k5 : w4.cell? ⟨bK,5,none⟩ = some (.int .i64 (1 + (q7 : Int))) := hY.cell 5
    have lt_k := hY.lt
    have r0 : w4.cell? ⟨w.heap.size + 1,0,none⟩ = some (.int .i64 0) := hR.cell 0
    have f0 := hR.free 0
    have r1 : w4.cell? ⟨w.heap.size + 1,1,none⟩ = some (.int .i64 0) := hR.cell 1
    have f1 := hR.free 1
    have r2 : w4.cell? ⟨w.heap.size + 1,2,none⟩ = some (.int .i64 0) := hR.cell 2
    have f2 := hR.free 2
    have r3 : w4.cell? ⟨w.heap.size + 1,3,none⟩ = some (.int .i64 0) := hR.cell 3
    have f3 := hR.free 3
    have r4 : w4.cell? ⟨w.heap.size + 1,4,none⟩ = some (.int .i64 0) := hR.cell 4
    have f4 := hR.free 4
    have r5 : w4.cell? ⟨w.heap.size + 1,5,none⟩ = some (.int .i64 0) := hR.cell 5
    have f5 := hR.free 5
    have r6 : w4.cell? ⟨w.heap.size + 1,6,none⟩ = some (.int .i64 0) := hR.cell 6
    have f6 := hR.free 6
    have r7 : w4.cell? ⟨w.heap.size + 1,7,none⟩ = some (.int .i64 0) := hR.cell 7
    have f7 := hR.free 7
    have r8 : w4.cell? ⟨w.heap.size + 1,8,none⟩ = some (.int .i64 0) := hR.cell 8
    have f8 := hR.free 8
    have r9 : w4.cell? ⟨w.heap.size + 1,9,none⟩ = some (.int .i64 0) := hR.cell 9
    have f9 := hR.free 9
    have r10 : w4.cell? ⟨w.heap.size + 1,10,none⟩ = some (.int .i64 0) := hR.cell 10
    have f10 := hR.free 10
    have r11 : w4.cell? ⟨w.heap.size + 1,11,none⟩ = some (.int .i64 0) := hR.cell 11
    have f11 := hR.free 11
    have r12 : w4.cell? ⟨w.heap.size + 1,12,none⟩ = some (.int .i64 0) := hR.cell 12
    have f12 := hR.free 12
    have lt_r := hR.lt
    go_wp2_with fail
    clear k0 k1 k2 k3 k4 k5 lt_k
    clear r0 f0 r1 f1 r2 f2 r3 f3 r4 f4 r5 f5 r6 f6 r7 f7 r8 f8 r9 f9 r10 f10 r11 f11 r12 f12 lt_r
    have hF : Blok (((((((((((((w4.setCell ⟨(w.heap.size + 1),0,none⟩ (.int .i64 (1))).setCell ⟨(w.heap.size + 1),1,none⟩ (.int .i64 (1))).setCell ⟨(w.heap.size + 1),2,none⟩ (.int .i64 (1 + (q2 : Int)))).setCell ⟨(w.heap.size + 1),3,none⟩ (.int .i64 (1 + (q3 : Int)))).setCell ⟨(w.heap.size + 1),4,none⟩ (.int .i64 (1 + (q4 : Int)))).setCell ⟨(w.heap.size + 1),5,none⟩ (.int .i64 ((q5 : Int)))).setCell ⟨(w.heap.size + 1),6,none⟩ (.int .i64 ((q5 : Int) + 1 + (s6 : Int)))).setCell ⟨(w.heap.size + 1),7,none⟩ (.int .i64 (1 + (q7 : Int)))).setCell ⟨(w.heap.size + 1),8,none⟩ (.int .i64 (0))).setCell ⟨(w.heap.size + 1),9,none⟩ (.int .i64 (0))).setCell ⟨(w.heap.size + 1),10,none⟩ (.int .i64 (0))).setCell ⟨(w.heap.size + 1),11,none⟩ (.int .i64 (0))).setCell ⟨(w.heap.size + 1),12,none⟩ (.int .i64 (0))) (w.heap.size + 1) 31 #[.int .i64 (1), .int .i64 (1), .int .i64 (1 + (q2 : Int)), .int .i64 (1 + (q3 : Int)), .int .i64 (1 + (q4 : Int)), .int .i64 ((q5 : Int)), .int .i64 ((q5 : Int) + 1 + (s6 : Int)), .int .i64 (1 + (q7 : Int)), .int .i64 (0), .int .i64 (0), .int .i64 (0), .int .i64 (0), .int .i64 (0)] := by have h := (((((((((((((hR.set_ 0 (.int .i64 (1))).set_ 1 (.int .i64 (1))).set_ 2 (.int .i64 (1 + (q2 : Int)))).set_ 3 (.int .i64 (1 + (q3 : Int)))).set_ 4 (.int .i64 (1 + (q4 : Int)))).set_ 5 (.int .i64 ((q5 : Int)))).set_ 6 (.int .i64 ((q5 : Int) + 1 + (s6 : Int)))).set_ 7 (.int .i64 (1 + (q7 : Int)))).set_ 8 (.int .i64 (0))).set_ 9 (.int .i64 (0))).set_ 10 (.int .i64 (0))).set_ 11 (.int .i64 (0))).set_ 12 (.int .i64 (0))); simpa using h
    have hle0 : w.heap.size ≤ (w.heap.size + 1) := by first | exact Nat.le_refl _ | omega
    have hWf : Below w.heap.size w (((((((((((((w4.setCell ⟨(w.heap.size + 1),0,none⟩ (.int .i64 (1))).setCell ⟨(w.heap.size + 1),1,none⟩ (.int .i64 (1))).setCell ⟨(w.heap.size + 1),2,none⟩ (.int .i64 (1 + (q2 : Int)))).setCell ⟨(w.heap.size + 1),3,none⟩ (.int .i64 (1 + (q3 : Int)))).setCell ⟨(w.heap.size + 1),4,none⟩ (.int .i64 (1 + (q4 : Int)))).setCell ⟨(w.heap.size + 1),5,none⟩ (.int .i64 ((q5 : Int)))).setCell ⟨(w.heap.size + 1),6,none⟩ (.int .i64 ((q5 : Int) + 1 + (s6 : Int)))).setCell ⟨(w.heap.size + 1),7,none⟩ (.int .i64 (1 + (q7 : Int)))).setCell ⟨(w.heap.size + 1),8,none⟩ (.int .i64 (0))).setCell ⟨(w.heap.size + 1),9,none⟩ (.int .i64 (0))).setCell ⟨(w.heap.size + 1),10,none⟩ (.int .i64 (0))).setCell ⟨(w.heap.size + 1),11,none⟩ (.int .i64 (0))).setCell ⟨(w.heap.size + 1),12,none⟩ (.int .i64 (0))) := (((((((((((((hB.setCell (p := ⟨(w.heap.size + 1),0,none⟩) hle0 (.int .i64 (1))).setCell (p := ⟨(w.heap.size + 1),1,none⟩) hle0 (.int .i64 (1))).setCell (p := ⟨(w.heap.size + 1),2,none⟩) hle0 (.int .i64 (1 + (q2 : Int)))).setCell (p := ⟨(w.heap.size + 1),3,none⟩) hle0 (.int .i64 (1 + (q3 : Int)))).setCell (p := ⟨(w.heap.size + 1),4,none⟩) hle0 (.int .i64 (1 + (q4 : Int)))).setCell (p := ⟨(w.heap.size + 1),5,none⟩) hle0 (.int .i64 ((q5 : Int)))).setCell (p := ⟨(w.heap.size + 1),6,none⟩) hle0 (.int .i64 ((q5 : Int) + 1 + (s6 : Int)))).setCell (p := ⟨(w.heap.size + 1),7,none⟩) hle0 (.int .i64 (1 + (q7 : Int)))).setCell (p := ⟨(w.heap.size + 1),8,none⟩) hle0 (.int .i64 (0))).setCell (p := ⟨(w.heap.size + 1),9,none⟩) hle0 (.int .i64 (0))).setCell (p := ⟨(w.heap.size + 1),10,none⟩) hle0 (.int .i64 (0))).setCell (p := ⟨(w.heap.size + 1),11,none⟩) hle0 (.int .i64 (0))).setCell (p := ⟨(w.heap.size + 1),12,none⟩) hle0 (.int .i64 (0)))
    have hlF := hF.lt
    have hgw : w4.grownBy (((((((((((((w4.setCell ⟨(w.heap.size + 1),0,none⟩ (.int .i64 (1))).setCell ⟨(w.heap.size + 1),1,none⟩ (.int .i64 (1))).setCell ⟨(w.heap.size + 1),2,none⟩ (.int .i64 (1 + (q2 : Int)))).setCell ⟨(w.heap.size + 1),3,none⟩ (.int .i64 (1 + (q3 : Int)))).setCell ⟨(w.heap.size + 1),4,none⟩ (.int .i64 (1 + (q4 : Int)))).setCell ⟨(w.heap.size + 1),5,none⟩ (.int .i64 ((q5 : Int)))).setCell ⟨(w.heap.size + 1),6,none⟩ (.int .i64 ((q5 : Int) + 1 + (s6 : Int)))).setCell ⟨(w.heap.size + 1),7,none⟩ (.int .i64 (1 + (q7 : Int)))).setCell ⟨(w.heap.size + 1),8,none⟩ (.int .i64 (0))).setCell ⟨(w.heap.size + 1),9,none⟩ (.int .i64 (0))).setCell ⟨(w.heap.size + 1),10,none⟩ (.int .i64 (0))).setCell ⟨(w.heap.size + 1),11,none⟩ (.int .i64 (0))).setCell ⟨(w.heap.size + 1),12,none⟩ (.int .i64 (0))) (some (w.heap.size + 1)) := grown_trans (grown_trans (grown_trans (grown_trans (grown_trans (grown_trans (grown_trans (grown_trans (grown_trans (grown_trans (grown_trans (grown_trans (grown_set _ _ _) (grown_set _ _ _)) (grown_set _ _ _)) (grown_set _ _ _)) (grown_set _ _ _)) (grown_set _ _ _)) (grown_set _ _ _)) (grown_set _ _ _)) (grown_set _ _ _)) (grown_set _ _ _)) (grown_set _ _ _)) (grown_set _ _ _)) (grown_set _ _ _)
    generalize (((((((((((((w4.setCell ⟨(w.heap.size + 1),0,none⟩ (.int .i64 (1))).setCell ⟨(w.heap.size + 1),1,none⟩ (.int .i64 (1))).setCell ⟨(w.heap.size + 1),2,none⟩ (.int .i64 (1 + (q2 : Int)))).setCell ⟨(w.heap.size + 1),3,none⟩ (.int .i64 (1 + (q3 : Int)))).setCell ⟨(w.heap.size + 1),4,none⟩ (.int .i64 (1 + (q4 : Int)))).setCell ⟨(w.heap.size + 1),5,none⟩ (.int .i64 ((q5 : Int)))).setCell ⟨(w.heap.size + 1),6,none⟩ (.int .i64 ((q5 : Int) + 1 + (s6 : Int)))).setCell ⟨(w.heap.size + 1),7,none⟩ (.int .i64 (1 + (q7 : Int)))).setCell ⟨(w.heap.size + 1),8,none⟩ (.int .i64 (0))).setCell ⟨(w.heap.size + 1),9,none⟩ (.int .i64 (0))).setCell ⟨(w.heap.size + 1),10,none⟩ (.int .i64 (0))).setCell ⟨(w.heap.size + 1),11,none⟩ (.int .i64 (0))).setCell ⟨(w.heap.size + 1),12,none⟩ (.int .i64 (0))) = wf at *
    have r0 : wf.cell? ⟨(w.heap.size + 1),0,none⟩ = some (.int .i64 (1)) := hF.cell 0
    have r1 : wf.cell? ⟨(w.heap.size + 1),1,none⟩ = some (.int .i64 (1)) := hF.cell 1
    have r2 : wf.cell? ⟨(w.heap.size + 1),2,none⟩ = some (.int .i64 (1 + (q2 : Int))) := hF.cell 2
    have r3 : wf.cell? ⟨(w.heap.size + 1),3,none⟩ = some (.int .i64 (1 + (q3 : Int))) := hF.cell 3
    have r4 : wf.cell? ⟨(w.heap.size + 1),4,none⟩ = some (.int .i64 (1 + (q4 : Int))) := hF.cell 4
    have r5 : wf.cell? ⟨(w.heap.size + 1),5,none⟩ = some (.int .i64 ((q5 : Int))) := hF.cell 5
    have r6 : wf.cell? ⟨(w.heap.size + 1),6,none⟩ = some (.int .i64 ((q5 : Int) + 1 + (s6 : Int))) := hF.cell 6
    have r7 : wf.cell? ⟨(w.heap.size + 1),7,none⟩ = some (.int .i64 (1 + (q7 : Int))) := hF.cell 7
    have r8 : wf.cell? ⟨(w.heap.size + 1),8,none⟩ = some (.int .i64 (0)) := hF.cell 8
    have r9 : wf.cell? ⟨(w.heap.size + 1),9,none⟩ = some (.int .i64 (0)) := hF.cell 9
    have r10 : wf.cell? ⟨(w.heap.size + 1),10,none⟩ = some (.int .i64 (0)) := hF.cell 10
    have r11 : wf.cell? ⟨(w.heap.size + 1),11,none⟩ = some (.int .i64 (0)) := hF.cell 11
    have r12 : wf.cell? ⟨(w.heap.size + 1),12,none⟩ = some (.int .i64 (0)) := hF.cell 12
    refine bodyPost_ret (v := .agg #[.int .i64 (1), .int .i64 (1), .int .i64 (1 + (q2 : Int)), .int .i64 (1 + (q3 : Int)), .int .i64 (1 + (q4 : Int)), .int .i64 ((q5 : Int)), .int .i64 ((q5 : Int) + 1 + (s6 : Int)), .int .i64 (1 + (q7 : Int)), .int .i64 (0), .int .i64 (0), .int .i64 (0), .int .i64 (0), .int .i64 (0)]) (by simp [results,Tryd.results10,go_sem,r0,r1,r2,r3,r4,r5,r6,r7,r8,r9,r10,r11,r12,hlF]) rfl ?_
    exact ⟨by rw [← HD.out]; rfl,hWf⟩
  · skip
    have r0 : w3.cell? ⟨w.heap.size + 1,0,none⟩ = some (.int .i64 0) := hR.cell 0
    have f0 := hR.free 0
    have r1 : w3.cell? ⟨w.heap.size + 1,1,none⟩ = some (.int .i64 0) := hR.cell 1
    have f1 := hR.free 1
    have r2 : w3.cell? ⟨w.heap.size + 1,2,none⟩ = some (.int .i64 0) := hR.cell 2
    have f2 := hR.free 2
    have r3 : w3.cell? ⟨w.heap.size + 1,3,none⟩ = some (.int .i64 0) := hR.cell 3
    have f3 := hR.free 3
    have r4 : w3.cell? ⟨w.heap.size + 1,4,none⟩ = some (.int .i64 0) := hR.cell 4
    have f4 := hR.free 4
    have r5 : w3.cell? ⟨w.heap.size + 1,5,none⟩ = some (.int .i64 0) := hR.cell 5
    have f5 := hR.free 5
    have r6 : w3.cell? ⟨w.heap.size + 1,6,none⟩ = some (.int .i64 0) := hR.cell 6
    have f6 := hR.free 6
    have r7 : w3.cell? ⟨w.heap.size + 1,7,none⟩ = some (.int .i64 0) := hR.cell 7
    have f7 := hR.free 7
    have r8 : w3.cell? ⟨w.heap.size + 1,8,none⟩ = some (.int .i64 0) := hR.cell 8
    have f8 := hR.free 8
    have r9 : w3.cell? ⟨w.heap.size + 1,9,none⟩ = some (.int .i64 0) := hR.cell 9
    have f9 := hR.free 9
    have r10 : w3.cell? ⟨w.heap.size + 1,10,none⟩ = some (.int .i64 0) := hR.cell 10
    have f10 := hR.free 10
    have r11 : w3.cell? ⟨w.heap.size + 1,11,none⟩ = some (.int .i64 0) := hR.cell 11
    have f11 := hR.free 11
    have r12 : w3.cell? ⟨w.heap.size + 1,12,none⟩ = some (.int .i64 0) := hR.cell 12
    have f12 := hR.free 12
    have lt_r := hR.lt
    clear r0 f0 r1 f1 r2 f2 r3 f3 r4 f4 r5 f5 r6 f6 r7 f7 r8 f8 r9 f9 r10 f10 r11 f11 r12 f12 lt_r
    go_upto_region 14 with ((go_at_call 19; first | ((with_reducible refine Calls.mono (rest_any b1 6 _ 6 k6_ _ H1.out (by decide) (by decide) Eq1.out) ?_); rintro e9 w9 ⟨rfl,rfl⟩) | ((with_reducible refine Calls.mono (rest_any b2 16 q2 16 k16_ _ H2.out (by decide) (by decide) Eq2.out) ?_); rintro e9 w9 ⟨rfl,rfl⟩) | ((with_reducible refine Calls.mono (rest_any b3 4 q3 4 k4_ _ H3.out (by decide) (by decide) Eq3.out) ?_); rintro e9 w9 ⟨rfl,rfl⟩) | ((with_reducible refine Calls.mono (rest_any b4 4 q4 4 k4_ _ H4.out (by decide) (by decide) Eq4.out) ?_); rintro e9 w9 ⟨rfl,rfl⟩) | ((with_reducible refine Calls.mono (rest_any b5 64 q5 64 k64_ _ H5.out (by decide) (by decide) Eq5.out) ?_); rintro e9 w9 ⟨rfl,rfl⟩) | ((with_reducible refine Calls.mono (rest_any b7 4 q7 4 k4_ _ H7.out (by decide) (by decide) Eq7.out) ?_); rintro e9 w9 ⟨rfl,rfl⟩) | ((with_reducible refine Calls.mono (rest_any b6 8 p6 8 k8_ _ H6.out (by decide) (by decide) Ep6.out) ?_); rintro e9 w9 ⟨rfl,rfl⟩) | ((with_reducible refine Calls.mono (rest_any b6 64 s6 64 k64_ _ H6.out (by decide) (by decide) Es6.out) ?_); rintro e9 w9 ⟨rfl,rfl⟩)))
    clear x0 x1 x2 x3 x4 x5 x6 x7 x8 x9 lt_x
    have hY := Blok.new w3 27 #[.int .i64 (1 + (q2 : Int)), .int .i64 (1 + (q3 : Int)), .int .i64 (1 + (q4 : Int)), .int .i64 ((q5 : Int)), .int .i64 ((q5 : Int) + 1 + (s6 : Int)), .int .i64 (1 + (q7 : Int))]
    have hb : Below w3.heap.size w3 (w3.alloc (.cells #[.int .i64 (1 + (q2 : Int)), .int .i64 (1 + (q3 : Int)), .int .i64 (1 + (q4 : Int)), .int .i64 ((q5 : Int)), .int .i64 ((q5 : Int) + 1 + (s6 : Int)), .int .i64 (1 + (q7 : Int))] 27)) := by (repeat (first | exact Below.refl _ _ | refine Below.alloc ?_ (by first | omega | (simp; done) | (simp; omega)) _ | refine Below.setCell ?_ (by first | omega | (simp; done) | (simp; omega)) _ | refine Below.drew ?_))
    replace hR := hR.below hb hR.lt
    replace hB := hB.trans (hb.mono hB.size)
    clear hb hX
    generalize w3.alloc (.cells #[.int .i64 (1 + (q2 : Int)), .int .i64 (1 + (q3 : Int)), .int .i64 (1 + (q4 : Int)), .int .i64 ((q5 : Int)), .int .i64 ((q5 : Int) + 1 + (s6 : Int)), .int .i64 (1 + (q7 : Int))] 27) = w4 at *
    generalize w3.heap.size = bK at *
    have k0 : w4.cell? ⟨bK,0,none⟩ = some (.int .i64 (1 + (q2 : Int))) := hY.cell 0
    have k1 : w4.cell? ⟨bK,1,none⟩ = some (.int .i64 (1 + (q3 : Int))) := hY.cell 1
    have k2 : w4.cell? ⟨bK,2,none⟩ = some (.int .i64 (1 + (q4 : Int))) := hY.cell 2
    have k3 : w4.cell? ⟨bK,3,none⟩ = some (.int .i64 ((q5 : Int))) := hY.cell 3
    have k4 : w4.cell? ⟨bK,4,none⟩ = some (.int .i64 ((q5 : Int) + 1 + (s6 : Int))) := hY.cell 4
    have k5 : w4.cell? ⟨bK,5,none⟩ = some (.int .i64 (1 + (q7 : Int))) := hY.cell 5
    have lt_k := hY.lt
    have r0 : w4.cell? ⟨w.heap.size + 1,0,none⟩ = some (.int .i64 0) := hR.cell 0
    have f0 := hR.free 0
    have r1 : w4.cell? ⟨w.heap.size + 1,1,none⟩ = some (.int .i64 0) := hR.cell 1
    have f1 := hR.free 1
    have r2 : w4.cell? ⟨w.heap.size + 1,2,none⟩ = some (.int .i64 0) := hR.cell 2
    have f2 := hR.free 2
    have r3 : w4.cell? ⟨w.heap.size + 1,3,none⟩ = some (.int .i64 0) := hR.cell 3
    have f3 := hR.free 3
    have r4 : w4.cell? ⟨w.heap.size + 1,4,none⟩ = some (.int .i64 0) := hR.cell 4
    have f4 := hR.free 4
    have r5 : w4.cell? ⟨w.heap.size + 1,5,none⟩ = some (.int .i64 0) := hR.cell 5
    have f5 := hR.free 5
    have r6 : w4.cell? ⟨w.heap.size + 1,6,none⟩ = some (.int .i64 0) := hR.cell 6
    have f6 := hR.free 6
    have r7 : w4.cell? ⟨w.heap.size + 1,7,none⟩ = some (.int .i64 0) := hR.cell 7
    have f7 := hR.free 7
    have r8 : w4.cell? ⟨w.heap.size + 1,8,none⟩ = some (.int .i64 0) := hR.cell 8
    have f8 := hR.free 8
    have r9 : w4.cell? ⟨w.heap.size + 1,9,none⟩ = some (.int .i64 0) := hR.cell 9
    have f9 := hR.free 9
    have r10 : w4.cell? ⟨w.heap.size + 1,10,none⟩ = some (.int .i64 0) := hR.cell 10
    have f10 := hR.free 10
    have r11 : w4.cell? ⟨w.heap.size + 1,11,none⟩ = some (.int .i64 0) := hR.cell 11
    have f11 := hR.free 11
    have r12 : w4.cell? ⟨w.heap.size + 1,12,none⟩ = some (.int .i64 0) := hR.cell 12
    have f12 := hR.free 12
    have lt_r := hR.lt
    go_wp2_with fail
    clear k0 k1 k2 k3 k4 k5 lt_k
    clear r0 f0 r1 f1 r2 f2 r3 f3 r4 f4 r5 f5 r6 f6 r7 f7 r8 f8 r9 f9 r10 f10 r11 f11 r12 f12 lt_r
    have hF : Blok (((((((((((((w4.setCell ⟨(w.heap.size + 1),0,none⟩ (.int .i64 (1))).setCell ⟨(w.heap.size + 1),1,none⟩ (.int .i64 (1))).setCell ⟨(w.heap.size + 1),2,none⟩ (.int .i64 (1 + (q2 : Int)))).setCell ⟨(w.heap.size + 1),3,none⟩ (.int .i64 (1 + (q3 : Int)))).setCell ⟨(w.heap.size + 1),4,none⟩ (.int .i64 (1 + (q4 : Int)))).setCell ⟨(w.heap.size + 1),5,none⟩ (.int .i64 ((q5 : Int)))).setCell ⟨(w.heap.size + 1),6,none⟩ (.int .i64 ((q5 : Int) + 1 + (s6 : Int)))).setCell ⟨(w.heap.size + 1),7,none⟩ (.int .i64 (1 + (q7 : Int)))).setCell ⟨(w.heap.size + 1),8,none⟩ (.int .i64 (0))).setCell ⟨(w.heap.size + 1),9,none⟩ (.int .i64 (0))).setCell ⟨(w.heap.size + 1),10,none⟩ (.int .i64 (0))).setCell ⟨(w.heap.size + 1),11,none⟩ (.int .i64 (0))).setCell ⟨(w.heap.size + 1),12,none⟩ (.int .i64 (0))) (w.heap.size + 1) 31 #[.int .i64 (1), .int .i64 (1), .int .i64 (1 + (q2 : Int)), .int .i64 (1 + (q3 : Int)), .int .i64 (1 + (q4 : Int)), .int .i64 ((q5 : Int)), .int .i64 ((q5 : Int) + 1 + (s6 : Int)), .int .i64 (1 + (q7 : Int)), .int .i64 (0), .int .i64 (0), .int .i64 (0), .int .i64 (0), .int .i64 (0)] := by have h := (((((((((((((hR.set_ 0 (.int .i64 (1))).set_ 1 (.int .i64 (1))).set_ 2 (.int .i64 (1 + (q2 : Int)))).set_ 3 (.int .i64 (1 + (q3 : Int)))).set_ 4 (.int .i64 (1 + (q4 : Int)))).set_ 5 (.int .i64 ((q5 : Int)))).set_ 6 (.int .i64 ((q5 : Int) + 1 + (s6 : Int)))).set_ 7 (.int .i64 (1 + (q7 : Int)))).set_ 8 (.int .i64 (0))).set_ 9 (.int .i64 (0))).set_ 10 (.int .i64 (0))).set_ 11 (.int .i64 (0))).set_ 12 (.int .i64 (0))); simpa using h
    have hle0 : w.heap.size ≤ (w.heap.size + 1) := by first | exact Nat.le_refl _ | omega
    have hWf : Below w.heap.size w (((((((((((((w4.setCell ⟨(w.heap.size + 1),0,none⟩ (.int .i64 (1))).setCell ⟨(w.heap.size + 1),1,none⟩ (.int .i64 (1))).setCell ⟨(w.heap.size + 1),2,none⟩ (.int .i64 (1 + (q2 : Int)))).setCell ⟨(w.heap.size + 1),3,none⟩ (.int .i64 (1 + (q3 : Int)))).setCell ⟨(w.heap.size + 1),4,none⟩ (.int .i64 (1 + (q4 : Int)))).setCell ⟨(w.heap.size + 1),5,none⟩ (.int .i64 ((q5 : Int)))).setCell ⟨(w.heap.size + 1),6,none⟩ (.int .i64 ((q5 : Int) + 1 + (s6 : Int)))).setCell ⟨(w.heap.size + 1),7,none⟩ (.int .i64 (1 + (q7 : Int)))).setCell ⟨(w.heap.size + 1),8,none⟩ (.int .i64 (0))).setCell ⟨(w.heap.size + 1),9,none⟩ (.int .i64 (0))).setCell ⟨(w.heap.size + 1),10,none⟩ (.int .i64 (0))).setCell ⟨(w.heap.size + 1),11,none⟩ (.int .i64 (0))).setCell ⟨(w.heap.size + 1),12,none⟩ (.int .i64 (0))) := (((((((((((((hB.setCell (p := ⟨(w.heap.size + 1),0,none⟩) hle0 (.int .i64 (1))).setCell (p := ⟨(w.heap.size + 1),1,none⟩) hle0 (.int .i64 (1))).setCell (p := ⟨(w.heap.size + 1),2,none⟩) hle0 (.int .i64 (1 + (q2 : Int)))).setCell (p := ⟨(w.heap.size + 1),3,none⟩) hle0 (.int .i64 (1 + (q3 : Int)))).setCell (p := ⟨(w.heap.size + 1),4,none⟩) hle0 (.int .i64 (1 + (q4 : Int)))).setCell (p := ⟨(w.heap.size + 1),5,none⟩) hle0 (.int .i64 ((q5 : Int)))).setCell (p := ⟨(w.heap.size + 1),6,none⟩) hle0 (.int .i64 ((q5 : Int) + 1 + (s6 : Int)))).setCell (p := ⟨(w.heap.size + 1),7,none⟩) hle0 (.int .i64 (1 + (q7 : Int)))).setCell (p := ⟨(w.heap.size + 1),8,none⟩) hle0 (.int .i64 (0))).setCell (p := ⟨(w.heap.size + 1),9,none⟩) hle0 (.int .i64 (0))).setCell (p := ⟨(w.heap.size + 1),10,none⟩) hle0 (.int .i64 (0))).setCell (p := ⟨(w.heap.size + 1),11,none⟩) hle0 (.int .i64 (0))).setCell (p := ⟨(w.heap.size + 1),12,none⟩) hle0 (.int .i64 (0)))
    have hlF := hF.lt
    have hgw : w4.grownBy (((((((((((((w4.setCell ⟨(w.heap.size + 1),0,none⟩ (.int .i64 (1))).setCell ⟨(w.heap.size + 1),1,none⟩ (.int .i64 (1))).setCell ⟨(w.heap.size + 1),2,none⟩ (.int .i64 (1 + (q2 : Int)))).setCell ⟨(w.heap.size + 1),3,none⟩ (.int .i64 (1 + (q3 : Int)))).setCell ⟨(w.heap.size + 1),4,none⟩ (.int .i64 (1 + (q4 : Int)))).setCell ⟨(w.heap.size + 1),5,none⟩ (.int .i64 ((q5 : Int)))).setCell ⟨(w.heap.size + 1),6,none⟩ (.int .i64 ((q5 : Int) + 1 + (s6 : Int)))).setCell ⟨(w.heap.size + 1),7,none⟩ (.int .i64 (1 + (q7 : Int)))).setCell ⟨(w.heap.size + 1),8,none⟩ (.int .i64 (0))).setCell ⟨(w.heap.size + 1),9,none⟩ (.int .i64 (0))).setCell ⟨(w.heap.size + 1),10,none⟩ (.int .i64 (0))).setCell ⟨(w.heap.size + 1),11,none⟩ (.int .i64 (0))).setCell ⟨(w.heap.size + 1),12,none⟩ (.int .i64 (0))) (some (w.heap.size + 1)) := grown_trans (grown_trans (grown_trans (grown_trans (grown_trans (grown_trans (grown_trans (grown_trans (grown_trans (grown_trans (grown_trans (grown_trans (grown_set _ _ _) (grown_set _ _ _)) (grown_set _ _ _)) (grown_set _ _ _)) (grown_set _ _ _)) (grown_set _ _ _)) (grown_set _ _ _)) (grown_set _ _ _)) (grown_set _ _ _)) (grown_set _ _ _)) (grown_set _ _ _)) (grown_set _ _ _)) (grown_set _ _ _)
    generalize (((((((((((((w4.setCell ⟨(w.heap.size + 1),0,none⟩ (.int .i64 (1))).setCell ⟨(w.heap.size + 1),1,none⟩ (.int .i64 (1))).setCell ⟨(w.heap.size + 1),2,none⟩ (.int .i64 (1 + (q2 : Int)))).setCell ⟨(w.heap.size + 1),3,none⟩ (.int .i64 (1 + (q3 : Int)))).setCell ⟨(w.heap.size + 1),4,none⟩ (.int .i64 (1 + (q4 : Int)))).setCell ⟨(w.heap.size + 1),5,none⟩ (.int .i64 ((q5 : Int)))).setCell ⟨(w.heap.size + 1),6,none⟩ (.int .i64 ((q5 : Int) + 1 + (s6 : Int)))).setCell ⟨(w.heap.size + 1),7,none⟩ (.int .i64 (1 + (q7 : Int)))).setCell ⟨(w.heap.size + 1),8,none⟩ (.int .i64 (0))).setCell ⟨(w.heap.size + 1),9,none⟩ (.int .i64 (0))).setCell ⟨(w.heap.size + 1),10,none⟩ (.int .i64 (0))).setCell ⟨(w.heap.size + 1),11,none⟩ (.int .i64 (0))).setCell ⟨(w.heap.size + 1),12,none⟩ (.int .i64 (0))) = wf at *
    have r0 : wf.cell? ⟨(w.heap.size + 1),0,none⟩ = some (.int .i64 (1)) := hF.cell 0
    have r1 : wf.cell? ⟨(w.heap.size + 1),1,none⟩ = some (.int .i64 (1)) := hF.cell 1
    have r2 : wf.cell? ⟨(w.heap.size + 1),2,none⟩ = some (.int .i64 (1 + (q2 : Int))) := hF.cell 2
    have r3 : wf.cell? ⟨(w.heap.size + 1),3,none⟩ = some (.int .i64 (1 + (q3 : Int))) := hF.cell 3
    have r4 : wf.cell? ⟨(w.heap.size + 1),4,none⟩ = some (.int .i64 (1 + (q4 : Int))) := hF.cell 4
    have r5 : wf.cell? ⟨(w.heap.size + 1),5,none⟩ = some (.int .i64 ((q5 : Int))) := hF.cell 5
    have r6 : wf.cell? ⟨(w.heap.size + 1),6,none⟩ = some (.int .i64 ((q5 : Int) + 1 + (s6 : Int))) := hF.cell 6
    have r7 : wf.cell? ⟨(w.heap.size + 1),7,none⟩ = some (.int .i64 (1 + (q7 : Int))) := hF.cell 7
    have r8 : wf.cell? ⟨(w.heap.size + 1),8,none⟩ = some (.int .i64 (0)) := hF.cell 8
    have r9 : wf.cell? ⟨(w.heap.size + 1),9,none⟩ = some (.int .i64 (0)) := hF.cell 9
    have r10 : wf.cell? ⟨(w.heap.size + 1),10,none⟩ = some (.int .i64 (0)) := hF.cell 10
    have r11 : wf.cell? ⟨(w.heap.size + 1),11,none⟩ = some (.int .i64 (0)) := hF.cell 11
    have r12 : wf.cell? ⟨(w.heap.size + 1),12,none⟩ = some (.int .i64 (0)) := hF.cell 12
    refine bodyPost_ret (v := .agg #[.int .i64 (1), .int .i64 (1), .int .i64 (1 + (q2 : Int)), .int .i64 (1 + (q3 : Int)), .int .i64 (1 + (q4 : Int)), .int .i64 ((q5 : Int)), .int .i64 ((q5 : Int) + 1 + (s6 : Int)), .int .i64 (1 + (q7 : Int)), .int .i64 (0), .int .i64 (0), .int .i64 (0), .int .i64 (0), .int .i64 (0)]) (by simp [results,Tryd.results10,go_sem,r0,r1,r2,r3,r4,r5,r6,r7,r8,r9,r10,r11,r12,hlF]) rfl ?_
    exact ⟨by rw [← HD.out]; rfl,hWf⟩
  · skip
    go_upto_region 5 with ((go_at_call 19; first | ((with_reducible refine Calls.mono (rest_any b1 6 _ 6 k6_ _ H1.out (by decide) (by decide) Eq1.out) ?_); rintro e9 w9 ⟨rfl,rfl⟩) | ((with_reducible refine Calls.mono (rest_any b2 16 q2 16 k16_ _ H2.out (by decide) (by decide) Eq2.out) ?_); rintro e9 w9 ⟨rfl,rfl⟩) | ((with_reducible refine Calls.mono (rest_any b3 4 q3 4 k4_ _ H3.out (by decide) (by decide) Eq3.out) ?_); rintro e9 w9 ⟨rfl,rfl⟩) | ((with_reducible refine Calls.mono (rest_any b4 4 q4 4 k4_ _ H4.out (by decide) (by decide) Eq4.out) ?_); rintro e9 w9 ⟨rfl,rfl⟩) | ((with_reducible refine Calls.mono (rest_any b5 64 q5 64 k64_ _ H5.out (by decide) (by decide) Eq5.out) ?_); rintro e9 w9 ⟨rfl,rfl⟩) | ((with_reducible refine Calls.mono (rest_any b7 4 q7 4 k4_ _ H7.out (by decide) (by decide) Eq7.out) ?_); rintro e9 w9 ⟨rfl,rfl⟩) | ((with_reducible refine Calls.mono (rest_any b6 8 p6 8 k8_ _ H6.out (by decide) (by decide) Ep6.out) ?_); rintro e9 w9 ⟨rfl,rfl⟩) | ((with_reducible refine Calls.mono (rest_any b6 64 s6 64 k64_ _ H6.out (by decide) (by decide) Es6.out) ?_); rintro e9 w9 ⟨rfl,rfl⟩)))
    try simp only [List.append]
    refine wp_region_newvar (m := 10) (s := 11) (dm := 8) (dv := 43) (T := 29) (zs := #[.int .i64 0, .int .i64 0, .int .i64 0, .int .i64 0, .int .i64 0]) (cs := #[.int .i64 (1 + (q3 : Int)), .int .i64 (1 + (q4 : Int)), .int .i64 0, .int .i64 (1 + (b5 : Int)), .int .i64 (p6 : Nat)]) [0,1,2,3,4,5,6,7,8,9] (by kernel_rfl) (NewVar.of rfl rfl rfl (by kernel_rfl)) (by kernel_rfl) rfl (fun a w => by simp [execOp,go_sem]) rfl (by kernel_rfl) (by kernel_rfl) ?_
    apply Exists.intro
    refine ⟨?_,?_,?_,?_,?_⟩
    · intro wb hwb
      have q_x0 := cell_up x0 hwb
      have q_x1 := cell_up x1 hwb
      have q_x2 := cell_up x2 hwb
      have q_x3 := cell_up x3 hwb
      have q_x4 := cell_up x4 hwb
      have q_x5 := cell_up x5 hwb
      have q_x6 := cell_up x6 hwb
      have q_x7 := cell_up x7 hwb
      have q_x8 := cell_up x8 hwb
      have q_x9 := cell_up x9 hwb
      simp only [pickL,List.flatMap_cons,List.flatMap_nil,List.drop_succ_cons,List.drop_zero,List.take_succ_cons,List.take_zero,List.append_nil,List.cons_append,List.nil_append]
      repeat (go_big_quiet_step (((go_at_call 19; first | with_reducible exact Calls.regrown_same (rest_any b1 6 q1 6 k6_ _ H1.out (by decide) (by decide) Eq1.out) | with_reducible exact Calls.regrown_same (rest_any b2 16 q2 16 k16_ _ H2.out (by decide) (by decide) Eq2.out) | with_reducible exact Calls.regrown_same (rest_any b3 4 q3 4 k4_ _ H3.out (by decide) (by decide) Eq3.out) | with_reducible exact Calls.regrown_same (rest_any b4 4 q4 4 k4_ _ H4.out (by decide) (by decide) Eq4.out) | with_reducible exact Calls.regrown_same (rest_any b5 64 q5 64 k64_ _ H5.out (by decide) (by decide) Eq5.out) | with_reducible exact Calls.regrown_same (rest_any b7 4 q7 4 k4_ _ H7.out (by decide) (by decide) Eq7.out) | with_reducible exact Calls.regrown_same (rest_any b6 8 p6 8 k8_ _ H6.out (by decide) (by decide) Ep6.out) | with_reducible exact Calls.regrown_same (rest_any b6 64 s6 64 k64_ _ H6.out (by decide) (by decide) Es6.out)))))
      exact wpQuiet_nil rfl
    · rfl
    · simp
    · rfl
    intro bX wX hX
    go_simp
    obtain ⟨_,hY,hb⟩ := hX
    clear x0 x1 x2 x3 x4 x5 x6 x7 x8 x9 lt_x
    replace hR := hR.below hb hR.lt
    replace hB := hB.trans (hb.mono hB.size)
    clear hb
    have k0 : wX.cell? ⟨bX,0,none⟩ = some (.int .i64 (1 + (q3 : Int))) := hY.cell 0
    have k1 : wX.cell? ⟨bX,1,none⟩ = some (.int .i64 (1 + (q4 : Int))) := hY.cell 1
    have k2 : wX.cell? ⟨bX,2,none⟩ = some (.int .i64 (0)) := hY.cell 2
    have k3 : wX.cell? ⟨bX,3,none⟩ = some (.int .i64 (1 + (b5 : Int))) := hY.cell 3
    have k4 : wX.cell? ⟨bX,4,none⟩ = some (.int .i64 ((p6 : Nat))) := hY.cell 4
    have lt_k := hY.lt
    have r0 : wX.cell? ⟨w.heap.size + 1,0,none⟩ = some (.int .i64 0) := hR.cell 0
    have f0 := hR.free 0
    have r1 : wX.cell? ⟨w.heap.size + 1,1,none⟩ = some (.int .i64 0) := hR.cell 1
    have f1 := hR.free 1
    have r2 : wX.cell? ⟨w.heap.size + 1,2,none⟩ = some (.int .i64 0) := hR.cell 2
    have f2 := hR.free 2
    have r3 : wX.cell? ⟨w.heap.size + 1,3,none⟩ = some (.int .i64 0) := hR.cell 3
    have f3 := hR.free 3
    have r4 : wX.cell? ⟨w.heap.size + 1,4,none⟩ = some (.int .i64 0) := hR.cell 4
    have f4 := hR.free 4
    have r5 : wX.cell? ⟨w.heap.size + 1,5,none⟩ = some (.int .i64 0) := hR.cell 5
    have f5 := hR.free 5
    have r6 : wX.cell? ⟨w.heap.size + 1,6,none⟩ = some (.int .i64 0) := hR.cell 6
    have f6 := hR.free 6
    have r7 : wX.cell? ⟨w.heap.size + 1,7,none⟩ = some (.int .i64 0) := hR.cell 7
    have f7 := hR.free 7
    have r8 : wX.cell? ⟨w.heap.size + 1,8,none⟩ = some (.int .i64 0) := hR.cell 8
    have f8 := hR.free 8
    have r9 : wX.cell? ⟨w.heap.size + 1,9,none⟩ = some (.int .i64 0) := hR.cell 9
    have f9 := hR.free 9
    have r10 : wX.cell? ⟨w.heap.size + 1,10,none⟩ = some (.int .i64 0) := hR.cell 10
    have f10 := hR.free 10
    have r11 : wX.cell? ⟨w.heap.size + 1,11,none⟩ = some (.int .i64 0) := hR.cell 11
    have f11 := hR.free 11
    have r12 : wX.cell? ⟨w.heap.size + 1,12,none⟩ = some (.int .i64 0) := hR.cell 12
    have f12 := hR.free 12
    have lt_r := hR.lt
    go_wp2_with fail
    clear k0 k1 k2 k3 k4 lt_k
    clear r0 f0 r1 f1 r2 f2 r3 f3 r4 f4 r5 f5 r6 f6 r7 f7 r8 f8 r9 f9 r10 f10 r11 f11 r12 f12 lt_r
    have hF : Blok (((((((((((((wX.setCell ⟨(w.heap.size + 1),0,none⟩ (.int .i64 (1))).setCell ⟨(w.heap.size + 1),1,none⟩ (.int .i64 (2))).setCell ⟨(w.heap.size + 1),2,none⟩ (.int .i64 (0))).setCell ⟨(w.heap.size + 1),3,none⟩ (.int .i64 (0))).setCell ⟨(w.heap.size + 1),4,none⟩ (.int .i64 (0))).setCell ⟨(w.heap.size + 1),5,none⟩ (.int .i64 (0))).setCell ⟨(w.heap.size + 1),6,none⟩ (.int .i64 (0))).setCell ⟨(w.heap.size + 1),7,none⟩ (.int .i64 (0))).setCell ⟨(w.heap.size + 1),8,none⟩ (.int .i64 (1 + (q3 : Int)))).setCell ⟨(w.heap.size + 1),9,none⟩ (.int .i64 (1 + (q4 : Int)))).setCell ⟨(w.heap.size + 1),10,none⟩ (.int .i64 (0))).setCell ⟨(w.heap.size + 1),11,none⟩ (.int .i64 (1 + (b5 : Int)))).setCell ⟨(w.heap.size + 1),12,none⟩ (.int .i64 ((p6 : Nat)))) (w.heap.size + 1) 31 #[.int .i64 (1), .int .i64 (2), .int .i64 (0), .int .i64 (0), .int .i64 (0), .int .i64 (0), .int .i64 (0), .int .i64 (0), .int .i64 (1 + (q3 : Int)), .int .i64 (1 + (q4 : Int)), .int .i64 (0), .int .i64 (1 + (b5 : Int)), .int .i64 ((p6 : Nat))] := by have h := (((((((((((((hR.set_ 0 (.int .i64 (1))).set_ 1 (.int .i64 (2))).set_ 2 (.int .i64 (0))).set_ 3 (.int .i64 (0))).set_ 4 (.int .i64 (0))).set_ 5 (.int .i64 (0))).set_ 6 (.int .i64 (0))).set_ 7 (.int .i64 (0))).set_ 8 (.int .i64 (1 + (q3 : Int)))).set_ 9 (.int .i64 (1 + (q4 : Int)))).set_ 10 (.int .i64 (0))).set_ 11 (.int .i64 (1 + (b5 : Int)))).set_ 12 (.int .i64 ((p6 : Nat)))); simpa using h
    have hle0 : w.heap.size ≤ (w.heap.size + 1) := by first | exact Nat.le_refl _ | omega
    have hWf : Below w.heap.size w (((((((((((((wX.setCell ⟨(w.heap.size + 1),0,none⟩ (.int .i64 (1))).setCell ⟨(w.heap.size + 1),1,none⟩ (.int .i64 (2))).setCell ⟨(w.heap.size + 1),2,none⟩ (.int .i64 (0))).setCell ⟨(w.heap.size + 1),3,none⟩ (.int .i64 (0))).setCell ⟨(w.heap.size + 1),4,none⟩ (.int .i64 (0))).setCell ⟨(w.heap.size + 1),5,none⟩ (.int .i64 (0))).setCell ⟨(w.heap.size + 1),6,none⟩ (.int .i64 (0))).setCell ⟨(w.heap.size + 1),7,none⟩ (.int .i64 (0))).setCell ⟨(w.heap.size + 1),8,none⟩ (.int .i64 (1 + (q3 : Int)))).setCell ⟨(w.heap.size + 1),9,none⟩ (.int .i64 (1 + (q4 : Int)))).setCell ⟨(w.heap.size + 1),10,none⟩ (.int .i64 (0))).setCell ⟨(w.heap.size + 1),11,none⟩ (.int .i64 (1 + (b5 : Int)))).setCell ⟨(w.heap.size + 1),12,none⟩ (.int .i64 ((p6 : Nat)))) := (((((((((((((hB.setCell (p := ⟨(w.heap.size + 1),0,none⟩) hle0 (.int .i64 (1))).setCell (p := ⟨(w.heap.size + 1),1,none⟩) hle0 (.int .i64 (2))).setCell (p := ⟨(w.heap.size + 1),2,none⟩) hle0 (.int .i64 (0))).setCell (p := ⟨(w.heap.size + 1),3,none⟩) hle0 (.int .i64 (0))).setCell (p := ⟨(w.heap.size + 1),4,none⟩) hle0 (.int .i64 (0))).setCell (p := ⟨(w.heap.size + 1),5,none⟩) hle0 (.int .i64 (0))).setCell (p := ⟨(w.heap.size + 1),6,none⟩) hle0 (.int .i64 (0))).setCell (p := ⟨(w.heap.size + 1),7,none⟩) hle0 (.int .i64 (0))).setCell (p := ⟨(w.heap.size + 1),8,none⟩) hle0 (.int .i64 (1 + (q3 : Int)))).setCell (p := ⟨(w.heap.size + 1),9,none⟩) hle0 (.int .i64 (1 + (q4 : Int)))).setCell (p := ⟨(w.heap.size + 1),10,none⟩) hle0 (.int .i64 (0))).setCell (p := ⟨(w.heap.size + 1),11,none⟩) hle0 (.int .i64 (1 + (b5 : Int)))).setCell (p := ⟨(w.heap.size + 1),12,none⟩) hle0 (.int .i64 ((p6 : Nat))))
    have hlF := hF.lt
    have hgw : wX.grownBy (((((((((((((wX.setCell ⟨(w.heap.size + 1),0,none⟩ (.int .i64 (1))).setCell ⟨(w.heap.size + 1),1,none⟩ (.int .i64 (2))).setCell ⟨(w.heap.size + 1),2,none⟩ (.int .i64 (0))).setCell ⟨(w.heap.size + 1),3,none⟩ (.int .i64 (0))).setCell ⟨(w.heap.size + 1),4,none⟩ (.int .i64 (0))).setCell ⟨(w.heap.size + 1),5,none⟩ (.int .i64 (0))).setCell ⟨(w.heap.size + 1),6,none⟩ (.int .i64 (0))).setCell ⟨(w.heap.size + 1),7,none⟩ (.int .i64 (0))).setCell ⟨(w.heap.size + 1),8,none⟩ (.int .i64 (1 + (q3 : Int)))).setCell ⟨(w.heap.size + 1),9,none⟩ (.int .i64 (1 + (q4 : Int)))).setCell ⟨(w.heap.size + 1),10,none⟩ (.int .i64 (0))).setCell ⟨(w.heap.size + 1),11,none⟩ (.int .i64 (1 + (b5 : Int)))).setCell ⟨(w.heap.size + 1),12,none⟩ (.int .i64 ((p6 : Nat)))) (some (w.heap.size + 1)) := grown_trans (grown_trans (grown_trans (grown_trans (grown_trans (grown_trans (grown_trans (grown_trans (grown_trans (grown_trans (grown_trans (grown_trans (grown_set _ _ _) (grown_set _ _ _)) (grown_set _ _ _)) (grown_set _ _ _)) (grown_set _ _ _)) (grown_set _ _ _)) (grown_set _ _ _)) (grown_set _ _ _)) (grown_set _ _ _)) (grown_set _ _ _)) (grown_set _ _ _)) (grown_set _ _ _)) (grown_set _ _ _)
    generalize (((((((((((((wX.setCell ⟨(w.heap.size + 1),0,none⟩ (.int .i64 (1))).setCell ⟨(w.heap.size + 1),1,none⟩ (.int .i64 (2))).setCell ⟨(w.heap.size + 1),2,none⟩ (.int .i64 (0))).setCell ⟨(w.heap.size + 1),3,none⟩ (.int .i64 (0))).setCell ⟨(w.heap.size + 1),4,none⟩ (.int .i64 (0))).setCell ⟨(w.heap.size + 1),5,none⟩ (.int .i64 (0))).setCell ⟨(w.heap.size + 1),6,none⟩ (.int .i64 (0))).setCell ⟨(w.heap.size + 1),7,none⟩ (.int .i64 (0))).setCell ⟨(w.heap.size + 1),8,none⟩ (.int .i64 (1 + (q3 : Int)))).setCell ⟨(w.heap.size + 1),9,none⟩ (.int .i64 (1 + (q4 : Int)))).setCell ⟨(w.heap.size + 1),10,none⟩ (.int .i64 (0))).setCell ⟨(w.heap.size + 1),11,none⟩ (.int .i64 (1 + (b5 : Int)))).setCell ⟨(w.heap.size + 1),12,none⟩ (.int .i64 ((p6 : Nat)))) = wf at *
    have r0 : wf.cell? ⟨(w.heap.size + 1),0,none⟩ = some (.int .i64 (1)) := hF.cell 0
    have r1 : wf.cell? ⟨(w.heap.size + 1),1,none⟩ = some (.int .i64 (2)) := hF.cell 1
    have r2 : wf.cell? ⟨(w.heap.size + 1),2,none⟩ = some (.int .i64 (0)) := hF.cell 2
    have r3 : wf.cell? ⟨(w.heap.size + 1),3,none⟩ = some (.int .i64 (0)) := hF.cell 3
    have r4 : wf.cell? ⟨(w.heap.size + 1),4,none⟩ = some (.int .i64 (0)) := hF.cell 4
    have r5 : wf.cell? ⟨(w.heap.size + 1),5,none⟩ = some (.int .i64 (0)) := hF.cell 5
    have r6 : wf.cell? ⟨(w.heap.size + 1),6,none⟩ = some (.int .i64 (0)) := hF.cell 6
    have r7 : wf.cell? ⟨(w.heap.size + 1),7,none⟩ = some (.int .i64 (0)) := hF.cell 7
    have r8 : wf.cell? ⟨(w.heap.size + 1),8,none⟩ = some (.int .i64 (1 + (q3 : Int))) := hF.cell 8
    have r9 : wf.cell? ⟨(w.heap.size + 1),9,none⟩ = some (.int .i64 (1 + (q4 : Int))) := hF.cell 9
    have r10 : wf.cell? ⟨(w.heap.size + 1),10,none⟩ = some (.int .i64 (0)) := hF.cell 10
    have r11 : wf.cell? ⟨(w.heap.size + 1),11,none⟩ = some (.int .i64 (1 + (b5 : Int))) := hF.cell 11
    have r12 : wf.cell? ⟨(w.heap.size + 1),12,none⟩ = some (.int .i64 ((p6 : Nat))) := hF.cell 12
    refine bodyPost_ret (v := .agg #[.int .i64 (1), .int .i64 (2), .int .i64 (0), .int .i64 (0), .int .i64 (0), .int .i64 (0), .int .i64 (0), .int .i64 (0), .int .i64 (1 + (q3 : Int)), .int .i64 (1 + (q4 : Int)), .int .i64 (0), .int .i64 (1 + (b5 : Int)), .int .i64 ((p6 : Nat))]) (by simp [results,Tryd.results10,go_sem,r0,r1,r2,r3,r4,r5,r6,r7,r8,r9,r10,r11,r12,hlF]) rfl ?_
    exact ⟨by rw [← HD.out]; rfl,hWf⟩
  · skip
    have r0 : w3.cell? ⟨w.heap.size + 1,0,none⟩ = some (.int .i64 0) := hR.cell 0
    have f0 := hR.free 0
    have r1 : w3.cell? ⟨w.heap.size + 1,1,none⟩ = some (.int .i64 0) := hR.cell 1
    have f1 := hR.free 1
    have r2 : w3.cell? ⟨w.heap.size + 1,2,none⟩ = some (.int .i64 0) := hR.cell 2
    have f2 := hR.free 2
    have r3 : w3.cell? ⟨w.heap.size + 1,3,none⟩ = some (.int .i64 0) := hR.cell 3
    have f3 := hR.free 3
    have r4 : w3.cell? ⟨w.heap.size + 1,4,none⟩ = some (.int .i64 0) := hR.cell 4
    have f4 := hR.free 4
    have r5 : w3.cell? ⟨w.heap.size + 1,5,none⟩ = some (.int .i64 0) := hR.cell 5
    have f5 := hR.free 5
    have r6 : w3.cell? ⟨w.heap.size + 1,6,none⟩ = some (.int .i64 0) := hR.cell 6
    have f6 := hR.free 6
    have r7 : w3.cell? ⟨w.heap.size + 1,7,none⟩ = some (.int .i64 0) := hR.cell 7
    have f7 := hR.free 7
    have r8 : w3.cell? ⟨w.heap.size + 1,8,none⟩ = some (.int .i64 0) := hR.cell 8
    have f8 := hR.free 8
    have r9 : w3.cell? ⟨w.heap.size + 1,9,none⟩ = some (.int .i64 0) := hR.cell 9
    have f9 := hR.free 9
    have r10 : w3.cell? ⟨w.heap.size + 1,10,none⟩ = some (.int .i64 0) := hR.cell 10
    have f10 := hR.free 10
    have r11 : w3.cell? ⟨w.heap.size + 1,11,none⟩ = some (.int .i64 0) := hR.cell 11
    have f11 := hR.free 11
    have r12 : w3.cell? ⟨w.heap.size + 1,12,none⟩ = some (.int .i64 0) := hR.cell 12
    have f12 := hR.free 12
    have lt_r := hR.lt
    go_wp2_with ((go_at_call 19; first | ((with_reducible refine Calls.mono (rest_any b1 6 _ 6 k6_ _ H1.out (by decide) (by decide) Eq1.out) ?_); rintro e9 w9 ⟨rfl,rfl⟩) | ((with_reducible refine Calls.mono (rest_any b2 16 q2 16 k16_ _ H2.out (by decide) (by decide) Eq2.out) ?_); rintro e9 w9 ⟨rfl,rfl⟩) | ((with_reducible refine Calls.mono (rest_any b3 4 q3 4 k4_ _ H3.out (by decide) (by decide) Eq3.out) ?_); rintro e9 w9 ⟨rfl,rfl⟩) | ((with_reducible refine Calls.mono (rest_any b4 4 q4 4 k4_ _ H4.out (by decide) (by decide) Eq4.out) ?_); rintro e9 w9 ⟨rfl,rfl⟩) | ((with_reducible refine Calls.mono (rest_any b5 64 q5 64 k64_ _ H5.out (by decide) (by decide) Eq5.out) ?_); rintro e9 w9 ⟨rfl,rfl⟩) | ((with_reducible refine Calls.mono (rest_any b7 4 q7 4 k4_ _ H7.out (by decide) (by decide) Eq7.out) ?_); rintro e9 w9 ⟨rfl,rfl⟩) | ((with_reducible refine Calls.mono (rest_any b6 8 p6 8 k8_ _ H6.out (by decide) (by decide) Ep6.out) ?_); rintro e9 w9 ⟨rfl,rfl⟩) | ((with_reducible refine Calls.mono (rest_any b6 64 s6 64 k64_ _ H6.out (by decide) (by decide) Es6.out) ?_); rintro e9 w9 ⟨rfl,rfl⟩)))
    clear r0 f0 r1 f1 r2 f2 r3 f3 r4 f4 r5 f5 r6 f6 r7 f7 r8 f8 r9 f9 r10 f10 r11 f11 r12 f12 lt_r
    have hF : Blok (((((((((((((w3.setCell ⟨(w.heap.size + 1),0,none⟩ (.int .i64 (2))).setCell ⟨(w.heap.size + 1),1,none⟩ (.int .i64 (1))).setCell ⟨(w.heap.size + 1),2,none⟩ (.int .i64 (1 + (q2 : Int)))).setCell ⟨(w.heap.size + 1),3,none⟩ (.int .i64 (0))).setCell ⟨(w.heap.size + 1),4,none⟩ (.int .i64 (0))).setCell ⟨(w.heap.size + 1),5,none⟩ (.int .i64 (0))).setCell ⟨(w.heap.size + 1),6,none⟩ (.int .i64 (0))).setCell ⟨(w.heap.size + 1),7,none⟩ (.int .i64 (0))).setCell ⟨(w.heap.size + 1),8,none⟩ (.int .i64 (0))).setCell ⟨(w.heap.size + 1),9,none⟩ (.int .i64 (0))).setCell ⟨(w.heap.size + 1),10,none⟩ (.int .i64 (0))).setCell ⟨(w.heap.size + 1),11,none⟩ (.int .i64 (0))).setCell ⟨(w.heap.size + 1),12,none⟩ (.int .i64 (0))) (w.heap.size + 1) 31 #[.int .i64 (2), .int .i64 (1), .int .i64 (1 + (q2 : Int)), .int .i64 (0), .int .i64 (0), .int .i64 (0), .int .i64 (0), .int .i64 (0), .int .i64 (0), .int .i64 (0), .int .i64 (0), .int .i64 (0), .int .i64 (0)] := by have h := (((((((((((((hR.set_ 0 (.int .i64 (2))).set_ 1 (.int .i64 (1))).set_ 2 (.int .i64 (1 + (q2 : Int)))).set_ 3 (.int .i64 (0))).set_ 4 (.int .i64 (0))).set_ 5 (.int .i64 (0))).set_ 6 (.int .i64 (0))).set_ 7 (.int .i64 (0))).set_ 8 (.int .i64 (0))).set_ 9 (.int .i64 (0))).set_ 10 (.int .i64 (0))).set_ 11 (.int .i64 (0))).set_ 12 (.int .i64 (0))); simpa using h
    have hle0 : w.heap.size ≤ (w.heap.size + 1) := by first | exact Nat.le_refl _ | omega
    have hWf : Below w.heap.size w (((((((((((((w3.setCell ⟨(w.heap.size + 1),0,none⟩ (.int .i64 (2))).setCell ⟨(w.heap.size + 1),1,none⟩ (.int .i64 (1))).setCell ⟨(w.heap.size + 1),2,none⟩ (.int .i64 (1 + (q2 : Int)))).setCell ⟨(w.heap.size + 1),3,none⟩ (.int .i64 (0))).setCell ⟨(w.heap.size + 1),4,none⟩ (.int .i64 (0))).setCell ⟨(w.heap.size + 1),5,none⟩ (.int .i64 (0))).setCell ⟨(w.heap.size + 1),6,none⟩ (.int .i64 (0))).setCell ⟨(w.heap.size + 1),7,none⟩ (.int .i64 (0))).setCell ⟨(w.heap.size + 1),8,none⟩ (.int .i64 (0))).setCell ⟨(w.heap.size + 1),9,none⟩ (.int .i64 (0))).setCell ⟨(w.heap.size + 1),10,none⟩ (.int .i64 (0))).setCell ⟨(w.heap.size + 1),11,none⟩ (.int .i64 (0))).setCell ⟨(w.heap.size + 1),12,none⟩ (.int .i64 (0))) := (((((((((((((hB.setCell (p := ⟨(w.heap.size + 1),0,none⟩) hle0 (.int .i64 (2))).setCell (p := ⟨(w.heap.size + 1),1,none⟩) hle0 (.int .i64 (1))).setCell (p := ⟨(w.heap.size + 1),2,none⟩) hle0 (.int .i64 (1 + (q2 : Int)))).setCell (p := ⟨(w.heap.size + 1),3,none⟩) hle0 (.int .i64 (0))).setCell (p := ⟨(w.heap.size + 1),4,none⟩) hle0 (.int .i64 (0))).setCell (p := ⟨(w.heap.size + 1),5,none⟩) hle0 (.int .i64 (0))).setCell (p := ⟨(w.heap.size + 1),6,none⟩) hle0 (.int .i64 (0))).setCell (p := ⟨(w.heap.size + 1),7,none⟩) hle0 (.int .i64 (0))).setCell (p := ⟨(w.heap.size + 1),8,none⟩) hle0 (.int .i64 (0))).setCell (p := ⟨(w.heap.size + 1),9,none⟩) hle0 (.int .i64 (0))).setCell (p := ⟨(w.heap.size + 1),10,none⟩) hle0 (.int .i64 (0))).setCell (p := ⟨(w.heap.size + 1),11,none⟩) hle0 (.int .i64 (0))).setCell (p := ⟨(w.heap.size + 1),12,none⟩) hle0 (.int .i64 (0)))
    have hlF := hF.lt
    have hgw : w3.grownBy (((((((((((((w3.setCell ⟨(w.heap.size + 1),0,none⟩ (.int .i64 (2))).setCell ⟨(w.heap.size + 1),1,none⟩ (.int .i64 (1))).setCell ⟨(w.heap.size + 1),2,none⟩ (.int .i64 (1 + (q2 : Int)))).setCell ⟨(w.heap.size + 1),3,none⟩ (.int .i64 (0))).setCell ⟨(w.heap.size + 1),4,none⟩ (.int .i64 (0))).setCell ⟨(w.heap.size + 1),5,none⟩ (.int .i64 (0))).setCell ⟨(w.heap.size + 1),6,none⟩ (.int .i64 (0))).setCell ⟨(w.heap.size + 1),7,none⟩ (.int .i64 (0))).setCell ⟨(w.heap.size + 1),8,none⟩ (.int .i64 (0))).setCell ⟨(w.heap.size + 1),9,none⟩ (.int .i64 (0))).setCell ⟨(w.heap.size + 1),10,none⟩ (.int .i64 (0))).setCell ⟨(w.heap.size + 1),11,none⟩ (.int .i64 (0))).setCell ⟨(w.heap.size + 1),12,none⟩ (.int .i64 (0))) (some (w.heap.size + 1)) := grown_trans (grown_trans (grown_trans (grown_trans (grown_trans (grown_trans (grown_trans (grown_trans (grown_trans (grown_trans (grown_trans (grown_trans (grown_set _ _ _) (grown_set _ _ _)) (grown_set _ _ _)) (grown_set _ _ _)) (grown_set _ _ _)) (grown_set _ _ _)) (grown_set _ _ _)) (grown_set _ _ _)) (grown_set _ _ _)) (grown_set _ _ _)) (grown_set _ _ _)) (grown_set _ _ _)) (grown_set _ _ _)
    generalize (((((((((((((w3.setCell ⟨(w.heap.size + 1),0,none⟩ (.int .i64 (2))).setCell ⟨(w.heap.size + 1),1,none⟩ (.int .i64 (1))).setCell ⟨(w.heap.size + 1),2,none⟩ (.int .i64 (1 + (q2 : Int)))).setCell ⟨(w.heap.size + 1),3,none⟩ (.int .i64 (0))).setCell ⟨(w.heap.size + 1),4,none⟩ (.int .i64 (0))).setCell ⟨(w.heap.size + 1),5,none⟩ (.int .i64 (0))).setCell ⟨(w.heap.size + 1),6,none⟩ (.int .i64 (0))).setCell ⟨(w.heap.size + 1),7,none⟩ (.int .i64 (0))).setCell ⟨(w.heap.size + 1),8,none⟩ (.int .i64 (0))).setCell ⟨(w.heap.size + 1),9,none⟩ (.int .i64 (0))).setCell ⟨(w.heap.size + 1),10,none⟩ (.int .i64 (0))).setCell ⟨(w.heap.size + 1),11,none⟩ (.int .i64 (0))).setCell ⟨(w.heap.size + 1),12,none⟩ (.int .i64 (0))) = wf at *
    have r0 : wf.cell? ⟨(w.heap.size + 1),0,none⟩ = some (.int .i64 (2)) := hF.cell 0
    have r1 : wf.cell? ⟨(w.heap.size + 1),1,none⟩ = some (.int .i64 (1)) := hF.cell 1
    have r2 : wf.cell? ⟨(w.heap.size + 1),2,none⟩ = some (.int .i64 (1 + (q2 : Int))) := hF.cell 2
    have r3 : wf.cell? ⟨(w.heap.size + 1),3,none⟩ = some (.int .i64 (0)) := hF.cell 3
    have r4 : wf.cell? ⟨(w.heap.size + 1),4,none⟩ = some (.int .i64 (0)) := hF.cell 4
    have r5 : wf.cell? ⟨(w.heap.size + 1),5,none⟩ = some (.int .i64 (0)) := hF.cell 5
    have r6 : wf.cell? ⟨(w.heap.size + 1),6,none⟩ = some (.int .i64 (0)) := hF.cell 6
    have r7 : wf.cell? ⟨(w.heap.size + 1),7,none⟩ = some (.int .i64 (0)) := hF.cell 7
    have r8 : wf.cell? ⟨(w.heap.size + 1),8,none⟩ = some (.int .i64 (0)) := hF.cell 8
    have r9 : wf.cell? ⟨(w.heap.size + 1),9,none⟩ = some (.int .i64 (0)) := hF.cell 9
    have r10 : wf.cell? ⟨(w.heap.size + 1),10,none⟩ = some (.int .i64 (0)) := hF.cell 10
    have r11 : wf.cell? ⟨(w.heap.size + 1),11,none⟩ = some (.int .i64 (0)) := hF.cell 11
    have r12 : wf.cell? ⟨(w.heap.size + 1),12,none⟩ = some (.int .i64 (0)) := hF.cell 12
    refine bodyPost_ret (v := .agg #[.int .i64 (2), .int .i64 (1), .int .i64 (1 + (q2 : Int)), .int .i64 (0), .int .i64 (0), .int .i64 (0), .int .i64 (0), .int .i64 (0), .int .i64 (0), .int .i64 (0), .int .i64 (0), .int .i64 (0), .int .i64 (0)]) (by simp [results,Tryd.results10,go_sem,r0,r1,r2,r3,r4,r5,r6,r7,r8,r9,r10,r11,r12,hlF]) rfl ?_
    exact ⟨by rw [← HD.out]; rfl,hWf⟩
  · skip
    have r0 : w3.cell? ⟨w.heap.size + 1,0,none⟩ = some (.int .i64 0) := hR.cell 0
    have f0 := hR.free 0
    have r1 : w3.cell? ⟨w.heap.size + 1,1,none⟩ = some (.int .i64 0) := hR.cell 1
    have f1 := hR.free 1
    have r2 : w3.cell? ⟨w.heap.size + 1,2,none⟩ = some (.int .i64 0) := hR.cell 2
    have f2 := hR.free 2
    have r3 : w3.cell? ⟨w.heap.size + 1,3,none⟩ = some (.int .i64 0) := hR.cell 3
    have f3 := hR.free 3
    have r4 : w3.cell? ⟨w.heap.size + 1,4,none⟩ = some (.int .i64 0) := hR.cell 4
    have f4 := hR.free 4
    have r5 : w3.cell? ⟨w.heap.size + 1,5,none⟩ = some (.int .i64 0) := hR.cell 5
    have f5 := hR.free 5
    have r6 : w3.cell? ⟨w.heap.size + 1,6,none⟩ = some (.int .i64 0) := hR.cell 6
    have f6 := hR.free 6
    have r7 : w3.cell? ⟨w.heap.size + 1,7,none⟩ = some (.int .i64 0) := hR.cell 7
    have f7 := hR.free 7
    have r8 : w3.cell? ⟨w.heap.size + 1,8,none⟩ = some (.int .i64 0) := hR.cell 8
    have f8 := hR.free 8
    have r9 : w3.cell? ⟨w.heap.size + 1,9,none⟩ = some (.int .i64 0) := hR.cell 9
    have f9 := hR.free 9
    have r10 : w3.cell? ⟨w.heap.size + 1,10,none⟩ = some (.int .i64 0) := hR.cell 10
    have f10 := hR.free 10
    have r11 : w3.cell? ⟨w.heap.size + 1,11,none⟩ = some (.int .i64 0) := hR.cell 11
    have f11 := hR.free 11
    have r12 : w3.cell? ⟨w.heap.size + 1,12,none⟩ = some (.int .i64 0) := hR.cell 12
    have f12 := hR.free 12
    have lt_r := hR.lt
    go_wp2_with ((go_at_call 19; first | ((with_reducible refine Calls.mono (rest_any b1 6 _ 6 k6_ _ H1.out (by decide) (by decide) Eq1.out) ?_); rintro e9 w9 ⟨rfl,rfl⟩) | ((with_reducible refine Calls.mono (rest_any b2 16 q2 16 k16_ _ H2.out (by decide) (by decide) Eq2.out) ?_); rintro e9 w9 ⟨rfl,rfl⟩) | ((with_reducible refine Calls.mono (rest_any b3 4 q3 4 k4_ _ H3.out (by decide) (by decide) Eq3.out) ?_); rintro e9 w9 ⟨rfl,rfl⟩) | ((with_reducible refine Calls.mono (rest_any b4 4 q4 4 k4_ _ H4.out (by decide) (by decide) Eq4.out) ?_); rintro e9 w9 ⟨rfl,rfl⟩) | ((with_reducible refine Calls.mono (rest_any b5 64 q5 64 k64_ _ H5.out (by decide) (by decide) Eq5.out) ?_); rintro e9 w9 ⟨rfl,rfl⟩) | ((with_reducible refine Calls.mono (rest_any b7 4 q7 4 k4_ _ H7.out (by decide) (by decide) Eq7.out) ?_); rintro e9 w9 ⟨rfl,rfl⟩) | ((with_reducible refine Calls.mono (rest_any b6 8 p6 8 k8_ _ H6.out (by decide) (by decide) Ep6.out) ?_); rintro e9 w9 ⟨rfl,rfl⟩) | ((with_reducible refine Calls.mono (rest_any b6 64 s6 64 k64_ _ H6.out (by decide) (by decide) Es6.out) ?_); rintro e9 w9 ⟨rfl,rfl⟩)))
    clear r0 f0 r1 f1 r2 f2 r3 f3 r4 f4 r5 f5 r6 f6 r7 f7 r8 f8 r9 f9 r10 f10 r11 f11 r12 f12 lt_r
    have hF : Blok (((((((((((((w3.setCell ⟨(w.heap.size + 1),0,none⟩ (.int .i64 (3))).setCell ⟨(w.heap.size + 1),1,none⟩ (.int .i64 (1))).setCell ⟨(w.heap.size + 1),2,none⟩ (.int .i64 (1 + (q2 : Int)))).setCell ⟨(w.heap.size + 1),3,none⟩ (.int .i64 (0))).setCell ⟨(w.heap.size + 1),4,none⟩ (.int .i64 (0))).setCell ⟨(w.heap.size + 1),5,none⟩ (.int .i64 (0))).setCell ⟨(w.heap.size + 1),6,none⟩ (.int .i64 (0))).setCell ⟨(w.heap.size + 1),7,none⟩ (.int .i64 (1 + (q7 : Int)))).setCell ⟨(w.heap.size + 1),8,none⟩ (.int .i64 (0))).setCell ⟨(w.heap.size + 1),9,none⟩ (.int .i64 (0))).setCell ⟨(w.heap.size + 1),10,none⟩ (.int .i64 (0))).setCell ⟨(w.heap.size + 1),11,none⟩ (.int .i64 (0))).setCell ⟨(w.heap.size + 1),12,none⟩ (.int .i64 (0))) (w.heap.size + 1) 31 #[.int .i64 (3), .int .i64 (1), .int .i64 (1 + (q2 : Int)), .int .i64 (0), .int .i64 (0), .int .i64 (0), .int .i64 (0), .int .i64 (1 + (q7 : Int)), .int .i64 (0), .int .i64 (0), .int .i64 (0), .int .i64 (0), .int .i64 (0)] := by have h := (((((((((((((hR.set_ 0 (.int .i64 (3))).set_ 1 (.int .i64 (1))).set_ 2 (.int .i64 (1 + (q2 : Int)))).set_ 3 (.int .i64 (0))).set_ 4 (.int .i64 (0))).set_ 5 (.int .i64 (0))).set_ 6 (.int .i64 (0))).set_ 7 (.int .i64 (1 + (q7 : Int)))).set_ 8 (.int .i64 (0))).set_ 9 (.int .i64 (0))).set_ 10 (.int .i64 (0))).set_ 11 (.int .i64 (0))).set_ 12 (.int .i64 (0))); simpa using h
    have hle0 : w.heap.size ≤ (w.heap.size + 1) := by first | exact Nat.le_refl _ | omega
    have hWf : Below w.heap.size w (((((((((((((w3.setCell ⟨(w.heap.size + 1),0,none⟩ (.int .i64 (3))).setCell ⟨(w.heap.size + 1),1,none⟩ (.int .i64 (1))).setCell ⟨(w.heap.size + 1),2,none⟩ (.int .i64 (1 + (q2 : Int)))).setCell ⟨(w.heap.size + 1),3,none⟩ (.int .i64 (0))).setCell ⟨(w.heap.size + 1),4,none⟩ (.int .i64 (0))).setCell ⟨(w.heap.size + 1),5,none⟩ (.int .i64 (0))).setCell ⟨(w.heap.size + 1),6,none⟩ (.int .i64 (0))).setCell ⟨(w.heap.size + 1),7,none⟩ (.int .i64 (1 + (q7 : Int)))).setCell ⟨(w.heap.size + 1),8,none⟩ (.int .i64 (0))).setCell ⟨(w.heap.size + 1),9,none⟩ (.int .i64 (0))).setCell ⟨(w.heap.size + 1),10,none⟩ (.int .i64 (0))).setCell ⟨(w.heap.size + 1),11,none⟩ (.int .i64 (0))).setCell ⟨(w.heap.size + 1),12,none⟩ (.int .i64 (0))) := (((((((((((((hB.setCell (p := ⟨(w.heap.size + 1),0,none⟩) hle0 (.int .i64 (3))).setCell (p := ⟨(w.heap.size + 1),1,none⟩) hle0 (.int .i64 (1))).setCell (p := ⟨(w.heap.size + 1),2,none⟩) hle0 (.int .i64 (1 + (q2 : Int)))).setCell (p := ⟨(w.heap.size + 1),3,none⟩) hle0 (.int .i64 (0))).setCell (p := ⟨(w.heap.size + 1),4,none⟩) hle0 (.int .i64 (0))).setCell (p := ⟨(w.heap.size + 1),5,none⟩) hle0 (.int .i64 (0))).setCell (p := ⟨(w.heap.size + 1),6,none⟩) hle0 (.int .i64 (0))).setCell (p := ⟨(w.heap.size + 1),7,none⟩) hle0 (.int .i64 (1 + (q7 : Int)))).setCell (p := ⟨(w.heap.size + 1),8,none⟩) hle0 (.int .i64 (0))).setCell (p := ⟨(w.heap.size + 1),9,none⟩) hle0 (.int .i64 (0))).setCell (p := ⟨(w.heap.size + 1),10,none⟩) hle0 (.int .i64 (0))).setCell (p := ⟨(w.heap.size + 1),11,none⟩) hle0 (.int .i64 (0))).setCell (p := ⟨(w.heap.size + 1),12,none⟩) hle0 (.int .i64 (0)))
    have hlF := hF.lt
    have hgw : w3.grownBy (((((((((((((w3.setCell ⟨(w.heap.size + 1),0,none⟩ (.int .i64 (3))).setCell ⟨(w.heap.size + 1),1,none⟩ (.int .i64 (1))).setCell ⟨(w.heap.size + 1),2,none⟩ (.int .i64 (1 + (q2 : Int)))).setCell ⟨(w.heap.size + 1),3,none⟩ (.int .i64 (0))).setCell ⟨(w.heap.size + 1),4,none⟩ (.int .i64 (0))).setCell ⟨(w.heap.size + 1),5,none⟩ (.int .i64 (0))).setCell ⟨(w.heap.size + 1),6,none⟩ (.int .i64 (0))).setCell ⟨(w.heap.size + 1),7,none⟩ (.int .i64 (1 + (q7 : Int)))).setCell ⟨(w.heap.size + 1),8,none⟩ (.int .i64 (0))).setCell ⟨(w.heap.size + 1),9,none⟩ (.int .i64 (0))).setCell ⟨(w.heap.size + 1),10,none⟩ (.int .i64 (0))).setCell ⟨(w.heap.size + 1),11,none⟩ (.int .i64 (0))).setCell ⟨(w.heap.size + 1),12,none⟩ (.int .i64 (0))) (some (w.heap.size + 1)) := grown_trans (grown_trans (grown_trans (grown_trans (grown_trans (grown_trans (grown_trans (grown_trans (grown_trans (grown_trans (grown_trans (grown_trans (grown_set _ _ _) (grown_set _ _ _)) (grown_set _ _ _)) (grown_set _ _ _)) (grown_set _ _ _)) (grown_set _ _ _)) (grown_set _ _ _)) (grown_set _ _ _)) (grown_set _ _ _)) (grown_set _ _ _)) (grown_set _ _ _)) (grown_set _ _ _)) (grown_set _ _ _)
    generalize (((((((((((((w3.setCell ⟨(w.heap.size + 1),0,none⟩ (.int .i64 (3))).setCell ⟨(w.heap.size + 1),1,none⟩ (.int .i64 (1))).setCell ⟨(w.heap.size + 1),2,none⟩ (.int .i64 (1 + (q2 : Int)))).setCell ⟨(w.heap.size + 1),3,none⟩ (.int .i64 (0))).setCell ⟨(w.heap.size + 1),4,none⟩ (.int .i64 (0))).setCell ⟨(w.heap.size + 1),5,none⟩ (.int .i64 (0))).setCell ⟨(w.heap.size + 1),6,none⟩ (.int .i64 (0))).setCell ⟨(w.heap.size + 1),7,none⟩ (.int .i64 (1 + (q7 : Int)))).setCell ⟨(w.heap.size + 1),8,none⟩ (.int .i64 (0))).setCell ⟨(w.heap.size + 1),9,none⟩ (.int .i64 (0))).setCell ⟨(w.heap.size + 1),10,none⟩ (.int .i64 (0))).setCell ⟨(w.heap.size + 1),11,none⟩ (.int .i64 (0))).setCell ⟨(w.heap.size + 1),12,none⟩ (.int .i64 (0))) = wf at *
    have r0 : wf.cell? ⟨(w.heap.size + 1),0,none⟩ = some (.int .i64 (3)) := hF.cell 0
    have r1 : wf.cell? ⟨(w.heap.size + 1),1,none⟩ = some (.int .i64 (1)) := hF.cell 1
    have r2 : wf.cell? ⟨(w.heap.size + 1),2,none⟩ = some (.int .i64 (1 + (q2 : Int))) := hF.cell 2
    have r3 : wf.cell? ⟨(w.heap.size + 1),3,none⟩ = some (.int .i64 (0)) := hF.cell 3
    have r4 : wf.cell? ⟨(w.heap.size + 1),4,none⟩ = some (.int .i64 (0)) := hF.cell 4
    have r5 : wf.cell? ⟨(w.heap.size + 1),5,none⟩ = some (.int .i64 (0)) := hF.cell 5
    have r6 : wf.cell? ⟨(w.heap.size + 1),6,none⟩ = some (.int .i64 (0)) := hF.cell 6
    have r7 : wf.cell? ⟨(w.heap.size + 1),7,none⟩ = some (.int .i64 (1 + (q7 : Int))) := hF.cell 7
    have r8 : wf.cell? ⟨(w.heap.size + 1),8,none⟩ = some (.int .i64 (0)) := hF.cell 8
    have r9 : wf.cell? ⟨(w.heap.size + 1),9,none⟩ = some (.int .i64 (0)) := hF.cell 9
    have r10 : wf.cell? ⟨(w.heap.size + 1),10,none⟩ = some (.int .i64 (0)) := hF.cell 10
    have r11 : wf.cell? ⟨(w.heap.size + 1),11,none⟩ = some (.int .i64 (0)) := hF.cell 11
    have r12 : wf.cell? ⟨(w.heap.size + 1),12,none⟩ = some (.int .i64 (0)) := hF.cell 12
    refine bodyPost_ret (v := .agg #[.int .i64 (3), .int .i64 (1), .int .i64 (1 + (q2 : Int)), .int .i64 (0), .int .i64 (0), .int .i64 (0), .int .i64 (0), .int .i64 (1 + (q7 : Int)), .int .i64 (0), .int .i64 (0), .int .i64 (0), .int .i64 (0), .int .i64 (0)]) (by simp [results,Tryd.results10,go_sem,r0,r1,r2,r3,r4,r5,r6,r7,r8,r9,r10,r11,r12,hlF]) rfl ?_
    exact ⟨by rw [← HD.out]; rfl,hWf⟩
  · skip
    have r0 : w3.cell? ⟨w.heap.size + 1,0,none⟩ = some (.int .i64 0) := hR.cell 0
    have f0 := hR.free 0
    have r1 : w3.cell? ⟨w.heap.size + 1,1,none⟩ = some (.int .i64 0) := hR.cell 1
    have f1 := hR.free 1
    have r2 : w3.cell? ⟨w.heap.size + 1,2,none⟩ = some (.int .i64 0) := hR.cell 2
    have f2 := hR.free 2
    have r3 : w3.cell? ⟨w.heap.size + 1,3,none⟩ = some (.int .i64 0) := hR.cell 3
    have f3 := hR.free 3
    have r4 : w3.cell? ⟨w.heap.size + 1,4,none⟩ = some (.int .i64 0) := hR.cell 4
    have f4 := hR.free 4
    have r5 : w3.cell? ⟨w.heap.size + 1,5,none⟩ = some (.int .i64 0) := hR.cell 5
    have f5 := hR.free 5
    have r6 : w3.cell? ⟨w.heap.size + 1,6,none⟩ = some (.int .i64 0) := hR.cell 6
    have f6 := hR.free 6
    have r7 : w3.cell? ⟨w.heap.size + 1,7,none⟩ = some (.int .i64 0) := hR.cell 7
    have f7 := hR.free 7
    have r8 : w3.cell? ⟨w.heap.size + 1,8,none⟩ = some (.int .i64 0) := hR.cell 8
    have f8 := hR.free 8
    have r9 : w3.cell? ⟨w.heap.size + 1,9,none⟩ = some (.int .i64 0) := hR.cell 9
    have f9 := hR.free 9
    have r10 : w3.cell? ⟨w.heap.size + 1,10,none⟩ = some (.int .i64 0) := hR.cell 10
    have f10 := hR.free 10
    have r11 : w3.cell? ⟨w.heap.size + 1,11,none⟩ = some (.int .i64 0) := hR.cell 11
    have f11 := hR.free 11
    have r12 : w3.cell? ⟨w.heap.size + 1,12,none⟩ = some (.int .i64 0) := hR.cell 12
    have f12 := hR.free 12
    have lt_r := hR.lt
    go_wp2_with ((go_at_call 19; first | ((with_reducible refine Calls.mono (rest_any b1 6 _ 6 k6_ _ H1.out (by decide) (by decide) Eq1.out) ?_); rintro e9 w9 ⟨rfl,rfl⟩) | ((with_reducible refine Calls.mono (rest_any b2 16 q2 16 k16_ _ H2.out (by decide) (by decide) Eq2.out) ?_); rintro e9 w9 ⟨rfl,rfl⟩) | ((with_reducible refine Calls.mono (rest_any b3 4 q3 4 k4_ _ H3.out (by decide) (by decide) Eq3.out) ?_); rintro e9 w9 ⟨rfl,rfl⟩) | ((with_reducible refine Calls.mono (rest_any b4 4 q4 4 k4_ _ H4.out (by decide) (by decide) Eq4.out) ?_); rintro e9 w9 ⟨rfl,rfl⟩) | ((with_reducible refine Calls.mono (rest_any b5 64 q5 64 k64_ _ H5.out (by decide) (by decide) Eq5.out) ?_); rintro e9 w9 ⟨rfl,rfl⟩) | ((with_reducible refine Calls.mono (rest_any b7 4 q7 4 k4_ _ H7.out (by decide) (by decide) Eq7.out) ?_); rintro e9 w9 ⟨rfl,rfl⟩) | ((with_reducible refine Calls.mono (rest_any b6 8 p6 8 k8_ _ H6.out (by decide) (by decide) Ep6.out) ?_); rintro e9 w9 ⟨rfl,rfl⟩) | ((with_reducible refine Calls.mono (rest_any b6 64 s6 64 k64_ _ H6.out (by decide) (by decide) Es6.out) ?_); rintro e9 w9 ⟨rfl,rfl⟩)))
    clear r0 f0 r1 f1 r2 f2 r3 f3 r4 f4 r5 f5 r6 f6 r7 f7 r8 f8 r9 f9 r10 f10 r11 f11 r12 f12 lt_r
    have hF : Blok (((((((((((((w3.setCell ⟨(w.heap.size + 1),0,none⟩ (.int .i64 (2))).setCell ⟨(w.heap.size + 1),1,none⟩ (.int .i64 (2))).setCell ⟨(w.heap.size + 1),2,none⟩ (.int .i64 (0))).setCell ⟨(w.heap.size + 1),3,none⟩ (.int .i64 (0))).setCell ⟨(w.heap.size + 1),4,none⟩ (.int .i64 (0))).setCell ⟨(w.heap.size + 1),5,none⟩ (.int .i64 (0))).setCell ⟨(w.heap.size + 1),6,none⟩ (.int .i64 (0))).setCell ⟨(w.heap.size + 1),7,none⟩ (.int .i64 (0))).setCell ⟨(w.heap.size + 1),8,none⟩ (.int .i64 (1 + (q3 : Int)))).setCell ⟨(w.heap.size + 1),9,none⟩ (.int .i64 (1 + (q4 : Int)))).setCell ⟨(w.heap.size + 1),10,none⟩ (.int .i64 (0))).setCell ⟨(w.heap.size + 1),11,none⟩ (.int .i64 (0))).setCell ⟨(w.heap.size + 1),12,none⟩ (.int .i64 (0))) (w.heap.size + 1) 31 #[.int .i64 (2), .int .i64 (2), .int .i64 (0), .int .i64 (0), .int .i64 (0), .int .i64 (0), .int .i64 (0), .int .i64 (0), .int .i64 (1 + (q3 : Int)), .int .i64 (1 + (q4 : Int)), .int .i64 (0), .int .i64 (0), .int .i64 (0)] := by have h := (((((((((((((hR.set_ 0 (.int .i64 (2))).set_ 1 (.int .i64 (2))).set_ 2 (.int .i64 (0))).set_ 3 (.int .i64 (0))).set_ 4 (.int .i64 (0))).set_ 5 (.int .i64 (0))).set_ 6 (.int .i64 (0))).set_ 7 (.int .i64 (0))).set_ 8 (.int .i64 (1 + (q3 : Int)))).set_ 9 (.int .i64 (1 + (q4 : Int)))).set_ 10 (.int .i64 (0))).set_ 11 (.int .i64 (0))).set_ 12 (.int .i64 (0))); simpa using h
    have hle0 : w.heap.size ≤ (w.heap.size + 1) := by first | exact Nat.le_refl _ | omega
    have hWf : Below w.heap.size w (((((((((((((w3.setCell ⟨(w.heap.size + 1),0,none⟩ (.int .i64 (2))).setCell ⟨(w.heap.size + 1),1,none⟩ (.int .i64 (2))).setCell ⟨(w.heap.size + 1),2,none⟩ (.int .i64 (0))).setCell ⟨(w.heap.size + 1),3,none⟩ (.int .i64 (0))).setCell ⟨(w.heap.size + 1),4,none⟩ (.int .i64 (0))).setCell ⟨(w.heap.size + 1),5,none⟩ (.int .i64 (0))).setCell ⟨(w.heap.size + 1),6,none⟩ (.int .i64 (0))).setCell ⟨(w.heap.size + 1),7,none⟩ (.int .i64 (0))).setCell ⟨(w.heap.size + 1),8,none⟩ (.int .i64 (1 + (q3 : Int)))).setCell ⟨(w.heap.size + 1),9,none⟩ (.int .i64 (1 + (q4 : Int)))).setCell ⟨(w.heap.size + 1),10,none⟩ (.int .i64 (0))).setCell ⟨(w.heap.size + 1),11,none⟩ (.int .i64 (0))).setCell ⟨(w.heap.size + 1),12,none⟩ (.int .i64 (0))) := (((((((((((((hB.setCell (p := ⟨(w.heap.size + 1),0,none⟩) hle0 (.int .i64 (2))).setCell (p := ⟨(w.heap.size + 1),1,none⟩) hle0 (.int .i64 (2))).setCell (p := ⟨(w.heap.size + 1),2,none⟩) hle0 (.int .i64 (0))).setCell (p := ⟨(w.heap.size + 1),3,none⟩) hle0 (.int .i64 (0))).setCell (p := ⟨(w.heap.size + 1),4,none⟩) hle0 (.int .i64 (0))).setCell (p := ⟨(w.heap.size + 1),5,none⟩) hle0 (.int .i64 (0))).setCell (p := ⟨(w.heap.size + 1),6,none⟩) hle0 (.int .i64 (0))).setCell (p := ⟨(w.heap.size + 1),7,none⟩) hle0 (.int .i64 (0))).setCell (p := ⟨(w.heap.size + 1),8,none⟩) hle0 (.int .i64 (1 + (q3 : Int)))).setCell (p := ⟨(w.heap.size + 1),9,none⟩) hle0 (.int .i64 (1 + (q4 : Int)))).setCell (p := ⟨(w.heap.size + 1),10,none⟩) hle0 (.int .i64 (0))).setCell (p := ⟨(w.heap.size + 1),11,none⟩) hle0 (.int .i64 (0))).setCell (p := ⟨(w.heap.size + 1),12,none⟩) hle0 (.int .i64 (0)))
    have hlF := hF.lt
    have hgw : w3.grownBy (((((((((((((w3.setCell ⟨(w.heap.size + 1),0,none⟩ (.int .i64 (2))).setCell ⟨(w.heap.size + 1),1,none⟩ (.int .i64 (2))).setCell ⟨(w.heap.size + 1),2,none⟩ (.int .i64 (0))).setCell ⟨(w.heap.size + 1),3,none⟩ (.int .i64 (0))).setCell ⟨(w.heap.size + 1),4,none⟩ (.int .i64 (0))).setCell ⟨(w.heap.size + 1),5,none⟩ (.int .i64 (0))).setCell ⟨(w.heap.size + 1),6,none⟩ (.int .i64 (0))).setCell ⟨(w.heap.size + 1),7,none⟩ (.int .i64 (0))).setCell ⟨(w.heap.size + 1),8,none⟩ (.int .i64 (1 + (q3 : Int)))).setCell ⟨(w.heap.size + 1),9,none⟩ (.int .i64 (1 + (q4 : Int)))).setCell ⟨(w.heap.size + 1),10,none⟩ (.int .i64 (0))).setCell ⟨(w.heap.size + 1),11,none⟩ (.int .i64 (0))).setCell ⟨(w.heap.size + 1),12,none⟩ (.int .i64 (0))) (some (w.heap.size + 1)) := grown_trans (grown_trans (grown_trans (grown_trans (grown_trans (grown_trans (grown_trans (grown_trans (grown_trans (grown_trans (grown_trans (grown_trans (grown_set _ _ _) (grown_set _ _ _)) (grown_set _ _ _)) (grown_set _ _ _)) (grown_set _ _ _)) (grown_set _ _ _)) (grown_set _ _ _)) (grown_set _ _ _)) (grown_set _ _ _)) (grown_set _ _ _)) (grown_set _ _ _)) (grown_set _ _ _)) (grown_set _ _ _)
    generalize (((((((((((((w3.setCell ⟨(w.heap.size + 1),0,none⟩ (.int .i64 (2))).setCell ⟨(w.heap.size + 1),1,none⟩ (.int .i64 (2))).setCell ⟨(w.heap.size + 1),2,none⟩ (.int .i64 (0))).setCell ⟨(w.heap.size + 1),3,none⟩ (.int .i64 (0))).setCell ⟨(w.heap.size + 1),4,none⟩ (.int .i64 (0))).setCell ⟨(w.heap.size + 1),5,none⟩ (.int .i64 (0))).setCell ⟨(w.heap.size + 1),6,none⟩ (.int .i64 (0))).setCell ⟨(w.heap.size + 1),7,none⟩ (.int .i64 (0))).setCell ⟨(w.heap.size + 1),8,none⟩ (.int .i64 (1 + (q3 : Int)))).setCell ⟨(w.heap.size + 1),9,none⟩ (.int .i64 (1 + (q4 : Int)))).setCell ⟨(w.heap.size + 1),10,none⟩ (.int .i64 (0))).setCell ⟨(w.heap.size + 1),11,none⟩ (.int .i64 (0))).setCell ⟨(w.heap.size + 1),12,none⟩ (.int .i64 (0))) = wf at *
    have r0 : wf.cell? ⟨(w.heap.size + 1),0,none⟩ = some (.int .i64 (2)) := hF.cell 0
    have r1 : wf.cell? ⟨(w.heap.size + 1),1,none⟩ = some (.int .i64 (2)) := hF.cell 1
    have r2 : wf.cell? ⟨(w.heap.size + 1),2,none⟩ = some (.int .i64 (0)) := hF.cell 2
    have r3 : wf.cell? ⟨(w.heap.size + 1),3,none⟩ = some (.int .i64 (0)) := hF.cell 3
    have r4 : wf.cell? ⟨(w.heap.size + 1),4,none⟩ = some (.int .i64 (0)) := hF.cell 4
    have r5 : wf.cell? ⟨(w.heap.size + 1),5,none⟩ = some (.int .i64 (0)) := hF.cell 5
    have r6 : wf.cell? ⟨(w.heap.size + 1),6,none⟩ = some (.int .i64 (0)) := hF.cell 6
    have r7 : wf.cell? ⟨(w.heap.size + 1),7,none⟩ = some (.int .i64 (0)) := hF.cell 7
    have r8 : wf.cell? ⟨(w.heap.size + 1),8,none⟩ = some (.int .i64 (1 + (q3 : Int))) := hF.cell 8
    have r9 : wf.cell? ⟨(w.heap.size + 1),9,none⟩ = some (.int .i64 (1 + (q4 : Int))) := hF.cell 9
    have r10 : wf.cell? ⟨(w.heap.size + 1),10,none⟩ = some (.int .i64 (0)) := hF.cell 10
    have r11 : wf.cell? ⟨(w.heap.size + 1),11,none⟩ = some (.int .i64 (0)) := hF.cell 11
    have r12 : wf.cell? ⟨(w.heap.size + 1),12,none⟩ = some (.int .i64 (0)) := hF.cell 12
    refine bodyPost_ret (v := .agg #[.int .i64 (2), .int .i64 (2), .int .i64 (0), .int .i64 (0), .int .i64 (0), .int .i64 (0), .int .i64 (0), .int .i64 (0), .int .i64 (1 + (q3 : Int)), .int .i64 (1 + (q4 : Int)), .int .i64 (0), .int .i64 (0), .int .i64 (0)]) (by simp [results,Tryd.results10,go_sem,r0,r1,r2,r3,r4,r5,r6,r7,r8,r9,r10,r11,r12,hlF]) rfl ?_
    exact ⟨by rw [← HD.out]; rfl,hWf⟩
end Go.Proofs.YtggdomeeienjbaaDoor

/- Package script: ids, lines. No condition but that bytes are bytes. -/
namespace Go.Proofs.YtggdomeeienjbaaDoor
open Go.ChangeShapes Go.WideShapes Go.ChangeAt Go.RowKit Go.Sort
set_option linter.unusedSimpArgs false
set_option linter.unusedVariables false
def idsF (b1 b2 b3 : Nat) : List Int := if b2 % 2 = 1 then [(1 + b1 % 16 : Nat),(1 + b3 % 16 : Nat)] else [((1 + b1 % 16 : Nat) : Int)]
theorem idsF_len (b1 b2 b3 : Nat) : (idsF b1 b2 b3).length ≤ 2 := by unfold idsF; split <;> simp
set_option maxHeartbeats 4000000 in
set_option maxRecDepth 100000 in
theorem sids_any (b0 b1 b2 b3 b4 b5 b6 b7 b8 b9 : Nat) (w : World) (h0 : b0 < 256) (h1 : b1 < 256) (h2 : b2 < 256) (h3 : b3 < 256) (h4 : b4 < 256) (h5 : b5 < 256) (h6 : b6 < 256) (h7 : b7 < 256) (h8 : b8 < 256) (h9 : b9 < 256) (l : List Int) (hl : idsF b1 b2 b3 = l) :
    Calls Tryd.prog 28 #[.agg #[.int .u8 (b0 : Nat), .int .u8 (b1 : Nat), .int .u8 (b2 : Nat), .int .u8 (b3 : Nat), .int .u8 (b4 : Nat), .int .u8 (b5 : Nat), .int .u8 (b6 : Nat), .int .u8 (b7 : Nat), .int .u8 (b8 : Nat), .int .u8 (b9 : Nat)]] w fun e w' => ∃ v,e = .returned v ∧ w'.ownsRow w.heap.size 3 1 v l.length (l.map (Value.int .i64)) ∧ Below w.heap.size w w' := by
  obtain ⟨i0,hi0,hz0,hz1,hz2⟩ := info_parts infoI04
  obtain ⟨q1,e1⟩ : ∃ q,b1 % 16 = q := ⟨_,rfl⟩
  obtain ⟨q3,e3⟩ : ∃ q,b3 % 16 = q := ⟨_,rfl⟩
  have l1 : q1 < 16 := by rw [← e1]; exact Nat.mod_lt _ (by omega)
  have l3 : q3 < 16 := by rw [← e3]; exact Nat.mod_lt _ (by omega)
  obtain ⟨od,eo⟩ : ∃ r,decide (b2 % 2 = 1) = r := ⟨_,rfl⟩
  have HL := Lib.hid (show l = if od = true then [((1 + q1 : Nat) : Int),((1 + q3 : Nat) : Int)] else [((1 + q1 : Nat) : Int)] by rw [← hl,← eo,← e1,← e3]; unfold idsF; simp)
  have E1 := Lib.hid e1
  have E3 := Lib.hid e3
  have EO := Lib.hid eo
  clear e1 e3 eo hl
  have w1_ : IntKind.i64.wrap (1 + (q1 : Int)) = 1 + (q1 : Int) := IntWalk.i64_in _ (by omega)
  have w3_ : IntKind.i64.wrap (1 + (q3 : Int)) = 1 + (q3 : Int) := IntWalk.i64_in _ (by omega)
  have H0 := Lib.hid h0
  have H1 := Lib.hid h1
  have H2 := Lib.hid h2
  have H3 := Lib.hid h3
  have H4 := Lib.hid h4
  have H5 := Lib.hid h5
  have H6 := Lib.hid h6
  have H7 := Lib.hid h7
  have H8 := Lib.hid h8
  have H9 := Lib.hid h9
  clear h0 h1 h2 h3 h4 h5 h6 h7 h8 h9 l1 l3
  have hB : Below w.heap.size w (w.alloc (.cells #[.int .u8 (b0 : Nat), .int .u8 (b1 : Nat), .int .u8 (b2 : Nat), .int .u8 (b3 : Nat), .int .u8 (b4 : Nat), .int .u8 (b5 : Nat), .int .u8 (b6 : Nat), .int .u8 (b7 : Nat), .int .u8 (b8 : Nat), .int .u8 (b9 : Nat)] 23)) := by (repeat (first | exact Below.refl _ _ | refine Below.alloc ?_ (by first | omega | (simp; done) | (simp; omega)) _ | refine Below.setCell ?_ (by first | omega | (simp; done) | (simp; omega)) _ | refine Below.drew ?_))
  have hX := Blok.new w 23 #[.int .u8 (b0 : Nat), .int .u8 (b1 : Nat), .int .u8 (b2 : Nat), .int .u8 (b3 : Nat), .int .u8 (b4 : Nat), .int .u8 (b5 : Nat), .int .u8 (b6 : Nat), .int .u8 (b7 : Nat), .int .u8 (b8 : Nat), .int .u8 (b9 : Nat)]
  have hs := hB.size
  go_enter Tryd.func28,Tryd.ntmps28
  go_upto_region 1 with fail
  generalize w.alloc (.cells #[.int .u8 (b0 : Nat), .int .u8 (b1 : Nat), .int .u8 (b2 : Nat), .int .u8 (b3 : Nat), .int .u8 (b4 : Nat), .int .u8 (b5 : Nat), .int .u8 (b6 : Nat), .int .u8 (b7 : Nat), .int .u8 (b8 : Nat), .int .u8 (b9 : Nat)] 23) = w1 at *
  have x1 : w1.cell? ⟨w.heap.size,1,none⟩ = some (.int .u8 (b1 : Nat)) := hX.cell 1
  have x2 : w1.cell? ⟨w.heap.size,2,none⟩ = some (.int .u8 (b2 : Nat)) := hX.cell 2
  have x3 : w1.cell? ⟨w.heap.size,3,none⟩ = some (.int .u8 (b3 : Nat)) := hX.cell 3
  have lt_x := hX.lt
  go_upto_region 2 with (first | (go_at_call 19; first | ((with_reducible refine Calls.mono (rest_any b1 16 q1 16 k16_ _ H1.out (by decide) (by decide) E1.out) ?_); rintro e9 w9 ⟨rfl,rfl⟩) | ((with_reducible refine Calls.mono (rest_any b3 16 q3 16 k16_ _ H3.out (by decide) (by decide) E3.out) ?_); rintro e9 w9 ⟨rfl,rfl⟩)) | (go_at_call 37; (with_reducible refine Calls.mono (odd_any b2 _ H2.out _ EO.out) ?_); rintro e9 w9 ⟨rfl,rfl⟩))
  have ho := own_lit w1 w.heap.size 3 1 1 #[.int .i64 (1 + (q1 : Int))] hs rfl (by simp [maxLen])
  have hb1 : Below w1.heap.size w1 (w1.alloc (.cells #[.int .i64 (1 + (q1 : Int))] 3)) := by (repeat (first | exact Below.refl _ _ | refine Below.alloc ?_ (by first | omega | (simp; done) | (simp; omega)) _ | refine Below.setCell ?_ (by first | omega | (simp; done) | (simp; omega)) _ | refine Below.drew ?_))
  clear x1 x2 x3 lt_x
  replace hX := hX.below hb1 hX.lt
  replace hB := hB.trans (hb1.mono hs)
  replace hs := hB.size
  clear hb1
  generalize w1.alloc (.cells #[.int .i64 (1 + (q1 : Int))] 3) = w2 at *
  have x1 : w2.cell? ⟨w.heap.size,1,none⟩ = some (.int .u8 (b1 : Nat)) := hX.cell 1
  have x2 : w2.cell? ⟨w.heap.size,2,none⟩ = some (.int .u8 (b2 : Nat)) := hX.cell 2
  have x3 : w2.cell? ⟨w.heap.size,3,none⟩ = some (.int .u8 (b3 : Nat)) := hX.cell 3
  have lt_x := hX.lt
  generalize w1.heap.size = g1 at *
  cases od
  · go_wp2_with (first | (go_at_call 19; first | ((with_reducible refine Calls.mono (rest_any b1 16 q1 16 k16_ _ H1.out (by decide) (by decide) E1.out) ?_); rintro e9 w9 ⟨rfl,rfl⟩) | ((with_reducible refine Calls.mono (rest_any b3 16 q3 16 k16_ _ H3.out (by decide) (by decide) E3.out) ?_); rintro e9 w9 ⟨rfl,rfl⟩)) | (go_at_call 37; (with_reducible refine Calls.mono (odd_any b2 _ H2.out _ EO.out) ?_); rintro e9 w9 ⟨rfl,rfl⟩))
    go_ret
    have hl : l = [((1 + q1 : Nat) : Int)] := by rw [HL.out]; simp
    exact ⟨_,rfl,by rw [hl]; simpa using ho,hB⟩
  · go_upto_region 3 with (first | (go_at_call 19; first | ((with_reducible refine Calls.mono (rest_any b1 16 q1 16 k16_ _ H1.out (by decide) (by decide) E1.out) ?_); rintro e9 w9 ⟨rfl,rfl⟩) | ((with_reducible refine Calls.mono (rest_any b3 16 q3 16 k16_ _ H3.out (by decide) (by decide) E3.out) ?_); rintro e9 w9 ⟨rfl,rfl⟩)) | (go_at_call 37; (with_reducible refine Calls.mono (odd_any b2 _ H2.out _ EO.out) ?_); rintro e9 w9 ⟨rfl,rfl⟩))
    clear x1 x2 x3 lt_x
    have hl : Hid (l = [((1 + q1 : Nat) : Int),((1 + q3 : Nat) : Int)]) := by have h := HL.out; simp at h; exact h
    have x3 : w2.cell? ⟨w.heap.size,3,none⟩ = some (.int .u8 (b3 : Nat)) := hX.cell 3
    have lt_x := hX.lt
    have hm := ho
    go_wp2_with (first | (at_builtin; refine wpList_append_own _ rfl _ _ 32 rfl w.heap.size 3 i0 _ 1 8 Tryd.underlying32 hi0 hz0 hz1 hz2 rfl (by decide) _ _ _ rfl (ho.alloc _) ⟨w2.heap.size,0,none⟩ 1 1 [.int .i64 (1 + (q3 : Int))] rfl rfl (by exact lit_cells w2 #[.int .i64 (1 + (q3 : Int))] _ _ rfl) (by simp [Value.oneCell']) (by unfold maxLen; omega) (by omega) (by simp; omega) ?_; intro v' w3 hown' hgrow3 hnil3) | (first | (go_at_call 19; first | ((with_reducible refine Calls.mono (rest_any b1 16 q1 16 k16_ _ H1.out (by decide) (by decide) E1.out) ?_); rintro e9 w9 ⟨rfl,rfl⟩) | ((with_reducible refine Calls.mono (rest_any b3 16 q3 16 k16_ _ H3.out (by decide) (by decide) E3.out) ?_); rintro e9 w9 ⟨rfl,rfl⟩)) | (go_at_call 37; (with_reducible refine Calls.mono (odd_any b2 _ H2.out _ EO.out) ?_); rintro e9 w9 ⟨rfl,rfl⟩)))
    have hbN : Below w.heap.size w w3 := (hB.alloc hs _).grown hgrow3 (by simp; omega) (fun q hq => (ho.lt q hq).1)
    go_wp2_with fail
    go_ret
    exact ⟨_,rfl,by rw [hl.out]; simpa using hown',hbN⟩
/-- The text of the directive that bytes make. -/
def linesF (d : Dr) (b8 : Nat) : Bytes := ((printF (if b8 % 2 = 1 then [d,d] else [d])).getD [120,10])
set_option maxHeartbeats 4000000 in
set_option maxRecDepth 100000 in
theorem slines_any (b0 b1 b2 b3 b4 b5 b6 b7 b8 b9 : Nat) (w : World) (ht : TenTab w) (h0 : b0 < 256) (h1 : b1 < 256) (h2 : b2 < 256) (h3 : b3 < 256) (h4 : b4 < 256) (h5 : b5 < 256) (h6 : b6 < 256) (h7 : b7 < 256) (h8 : b8 < 256) (h9 : b9 < 256) (D : Dr) (hD : dirF b1 b2 b3 b4 b5 b6 b7 = D) (t : Bytes) (hT : linesF D b8 = t) :
    Calls Tryd.prog 27 #[.agg #[.int .u8 (b0 : Nat), .int .u8 (b1 : Nat), .int .u8 (b2 : Nat), .int .u8 (b3 : Nat), .int .u8 (b4 : Nat), .int .u8 (b5 : Nat), .int .u8 (b6 : Nat), .int .u8 (b7 : Nat), .int .u8 (b8 : Nat), .int .u8 (b9 : Nat)]] w fun e w' => e = .returned (.string (bs t)) ∧ Below w.heap.size w w' := by
  obtain ⟨i0,hi0,hz0,hz1,hz2⟩ := info_parts infoDr
  have hwf : (Lit.int .i64 D.op).wf = true ∧ (Lit.int .i64 D.kd).wf = true := by
    rw [← hD]; unfold dirF; split
    · exact ⟨rfl,rfl⟩
    · split
      · exact ⟨rfl,rfl⟩
      · split
        · exact ⟨rfl,rfl⟩
        · split <;> exact ⟨rfl,rfl⟩
  have HWF := Lib.hid hwf
  obtain ⟨od,eo⟩ : ∃ r,decide (b8 % 2 = 1) = r := ⟨_,rfl⟩
  have HT := Lib.hid (show (printF (if od = true then [D,D] else [D])).getD [120,10] = t by rw [← hT,← eo]; unfold linesF; simp)
  have HD := Lib.hid hD
  have EO := Lib.hid eo
  have TT := Lib.hid ht
  clear eo hT hD hwf ht
  have H0 := Lib.hid h0
  have H1 := Lib.hid h1
  have H2 := Lib.hid h2
  have H3 := Lib.hid h3
  have H4 := Lib.hid h4
  have H5 := Lib.hid h5
  have H6 := Lib.hid h6
  have H7 := Lib.hid h7
  have H8 := Lib.hid h8
  have H9 := Lib.hid h9
  clear h0 h1 h2 h3 h4 h5 h6 h7 h8 h9
  have hB : Below w.heap.size w (w.alloc (.cells #[.int .u8 (b0 : Nat), .int .u8 (b1 : Nat), .int .u8 (b2 : Nat), .int .u8 (b3 : Nat), .int .u8 (b4 : Nat), .int .u8 (b5 : Nat), .int .u8 (b6 : Nat), .int .u8 (b7 : Nat), .int .u8 (b8 : Nat), .int .u8 (b9 : Nat)] 23)) := by (repeat (first | exact Below.refl _ _ | refine Below.alloc ?_ (by first | omega | (simp; done) | (simp; omega)) _ | refine Below.setCell ?_ (by first | omega | (simp; done) | (simp; omega)) _ | refine Below.drew ?_))
  have hX := Blok.new w 23 #[.int .u8 (b0 : Nat), .int .u8 (b1 : Nat), .int .u8 (b2 : Nat), .int .u8 (b3 : Nat), .int .u8 (b4 : Nat), .int .u8 (b5 : Nat), .int .u8 (b6 : Nat), .int .u8 (b7 : Nat), .int .u8 (b8 : Nat), .int .u8 (b9 : Nat)]
  have hs := hB.size
  go_enter Tryd.func27,Tryd.ntmps27
  go_upto_region 1 with fail
  generalize w.alloc (.cells #[.int .u8 (b0 : Nat), .int .u8 (b1 : Nat), .int .u8 (b2 : Nat), .int .u8 (b3 : Nat), .int .u8 (b4 : Nat), .int .u8 (b5 : Nat), .int .u8 (b6 : Nat), .int .u8 (b7 : Nat), .int .u8 (b8 : Nat), .int .u8 (b9 : Nat)] 23) = w1 at *
  have x0 : w1.cell? ⟨w.heap.size,0,none⟩ = some (.int .u8 (b0 : Nat)) := hX.cell 0
  have x1 : w1.cell? ⟨w.heap.size,1,none⟩ = some (.int .u8 (b1 : Nat)) := hX.cell 1
  have x2 : w1.cell? ⟨w.heap.size,2,none⟩ = some (.int .u8 (b2 : Nat)) := hX.cell 2
  have x3 : w1.cell? ⟨w.heap.size,3,none⟩ = some (.int .u8 (b3 : Nat)) := hX.cell 3
  have x4 : w1.cell? ⟨w.heap.size,4,none⟩ = some (.int .u8 (b4 : Nat)) := hX.cell 4
  have x5 : w1.cell? ⟨w.heap.size,5,none⟩ = some (.int .u8 (b5 : Nat)) := hX.cell 5
  have x6 : w1.cell? ⟨w.heap.size,6,none⟩ = some (.int .u8 (b6 : Nat)) := hX.cell 6
  have x7 : w1.cell? ⟨w.heap.size,7,none⟩ = some (.int .u8 (b7 : Nat)) := hX.cell 7
  have x8 : w1.cell? ⟨w.heap.size,8,none⟩ = some (.int .u8 (b8 : Nat)) := hX.cell 8
  have x9 : w1.cell? ⟨w.heap.size,9,none⟩ = some (.int .u8 (b9 : Nat)) := hX.cell 9
  have lt_x := hX.lt
  go_wp2_with fail
  refine (sdir_any b0 b1 b2 b3 b4 b5 b6 b7 b8 b9 w1 H0.out H1.out H2.out H3.out H4.out H5.out H6.out H7.out H8.out H9.out D HD.out).mono ?_
  rintro e w2 ⟨rfl,hb⟩
  replace hX := hX.below hb hX.lt
  replace hB := hB.trans (hb.mono hs)
  replace hs := hB.size
  clear hb x0 x1 x2 x3 x4 x5 x6 x7 x8 x9 lt_x
  go_upto_region 2 with fail
  have hY := Blok.new w2 31 #[.int .i64 D.op, .int .i64 D.kd, .int .i64 D.id, .int .i64 D.fr, .int .i64 D.tn, .int .i64 D.st, .int .i64 D.en, .int .i64 D.rt, .int .i64 D.rf, .int .i64 D.rn, .int .i64 D.rs, .int .i64 D.re, .int .i64 D.ro]
  have hb : Below w2.heap.size w2 (w2.alloc (.cells #[.int .i64 D.op, .int .i64 D.kd, .int .i64 D.id, .int .i64 D.fr, .int .i64 D.tn, .int .i64 D.st, .int .i64 D.en, .int .i64 D.rt, .int .i64 D.rf, .int .i64 D.rn, .int .i64 D.rs, .int .i64 D.re, .int .i64 D.ro] 31)) := by (repeat (first | exact Below.refl _ _ | refine Below.alloc ?_ (by first | omega | (simp; done) | (simp; omega)) _ | refine Below.setCell ?_ (by first | omega | (simp; done) | (simp; omega)) _ | refine Below.drew ?_))
  replace hX := hX.below hb hX.lt
  replace hB := hB.trans (hb.mono hs)
  replace hs := hB.size
  clear hb
  generalize w2.alloc (.cells #[.int .i64 D.op, .int .i64 D.kd, .int .i64 D.id, .int .i64 D.fr, .int .i64 D.tn, .int .i64 D.st, .int .i64 D.en, .int .i64 D.rt, .int .i64 D.rf, .int .i64 D.rn, .int .i64 D.rs, .int .i64 D.re, .int .i64 D.ro] 31) = w3 at *
  generalize w2.heap.size = bD at *
  have y0 : w3.cell? ⟨bD,0,none⟩ = some (.int .i64 D.op) := hY.cell 0
  have y1 : w3.cell? ⟨bD,1,none⟩ = some (.int .i64 D.kd) := hY.cell 1
  have y2 : w3.cell? ⟨bD,2,none⟩ = some (.int .i64 D.id) := hY.cell 2
  have y3 : w3.cell? ⟨bD,3,none⟩ = some (.int .i64 D.fr) := hY.cell 3
  have y4 : w3.cell? ⟨bD,4,none⟩ = some (.int .i64 D.tn) := hY.cell 4
  have y5 : w3.cell? ⟨bD,5,none⟩ = some (.int .i64 D.st) := hY.cell 5
  have y6 : w3.cell? ⟨bD,6,none⟩ = some (.int .i64 D.en) := hY.cell 6
  have y7 : w3.cell? ⟨bD,7,none⟩ = some (.int .i64 D.rt) := hY.cell 7
  have y8 : w3.cell? ⟨bD,8,none⟩ = some (.int .i64 D.rf) := hY.cell 8
  have y9 : w3.cell? ⟨bD,9,none⟩ = some (.int .i64 D.rn) := hY.cell 9
  have y10 : w3.cell? ⟨bD,10,none⟩ = some (.int .i64 D.rs) := hY.cell 10
  have y11 : w3.cell? ⟨bD,11,none⟩ = some (.int .i64 D.re) := hY.cell 11
  have y12 : w3.cell? ⟨bD,12,none⟩ = some (.int .i64 D.ro) := hY.cell 12
  have lt_y := hY.lt
  go_upto_region 3 with fail
  clear y0 y1 y2 y3 y4 y5 y6 y7 y8 y9 y10 y11 y12 lt_y
  have ho := own_lit w3 w.heap.size 31 13 1 #[.int .i64 D.op, .int .i64 D.kd, .int .i64 D.id, .int .i64 D.fr, .int .i64 D.tn, .int .i64 D.st, .int .i64 D.en, .int .i64 D.rt, .int .i64 D.rf, .int .i64 D.rn, .int .i64 D.rs, .int .i64 D.re, .int .i64 D.ro] hs rfl (by simp [maxLen])
  have hb : Below w3.heap.size w3 (w3.alloc (.cells #[.int .i64 D.op, .int .i64 D.kd, .int .i64 D.id, .int .i64 D.fr, .int .i64 D.tn, .int .i64 D.st, .int .i64 D.en, .int .i64 D.rt, .int .i64 D.rf, .int .i64 D.rn, .int .i64 D.rs, .int .i64 D.re, .int .i64 D.ro] 31)) := by (repeat (first | exact Below.refl _ _ | refine Below.alloc ?_ (by first | omega | (simp; done) | (simp; omega)) _ | refine Below.setCell ?_ (by first | omega | (simp; done) | (simp; omega)) _ | refine Below.drew ?_))
  replace hX := hX.below hb hX.lt
  replace hY := hY.below hb hY.lt
  replace hB := hB.trans (hb.mono hs)
  replace hs := hB.size
  clear hb
  generalize w3.alloc (.cells #[.int .i64 D.op, .int .i64 D.kd, .int .i64 D.id, .int .i64 D.fr, .int .i64 D.tn, .int .i64 D.st, .int .i64 D.en, .int .i64 D.rt, .int .i64 D.rf, .int .i64 D.rn, .int .i64 D.rs, .int .i64 D.re, .int .i64 D.ro] 31) = w4 at *
  generalize w3.heap.size = g1 at *
  have x8 : w4.cell? ⟨w.heap.size,8,none⟩ = some (.int .u8 (b8 : Nat)) := hX.cell 8
  have lt_x := hX.lt
  cases od
  · go_wp2_with (go_at_call 37; (with_reducible refine Calls.mono (odd_any b8 _ H8.out _ EO.out) ?_); rintro e9 w9 ⟨rfl,rfl⟩)
    clear x8 lt_x
    obtain ⟨p,hp⟩ : ∃ p,printF [D] = p := ⟨_,rfl⟩
    have hpt : p.getD [120,10] = t := by rw [← hp]; have h := HT.out; simpa using h
    have HPT := Lib.hid hpt
    clear hpt
    refine (tprint_any _ _ _ [D] rfl (by simp) (fun x hx => by simp at hx; rw [hx]; exact HWF.out) w4 (TT.out.below hB) (Sl.of_own ho) p hp).mono ?_
    rintro e w8 ⟨rfl,hb⟩
    have hB8 := hB.trans (hb.mono hs)
    clear hb hB hs hX hY ho hp
    cases p with
    | none =>
      obtain rfl : [120,10] = t := HPT.out
      simp only [printV]
      go_wp2_with fail
      go_ret
      exact ⟨rfl,hB8⟩
    | some s =>
      obtain rfl : s = t := HPT.out
      simp only [printV]
      go_wp2_with fail
      go_ret
      exact ⟨rfl,hB8⟩
  · go_upto_region 4 with (go_at_call 37; (with_reducible refine Calls.mono (odd_any b8 _ H8.out _ EO.out) ?_); rintro e9 w9 ⟨rfl,rfl⟩)
    clear x8 lt_x
    have y0 : w4.cell? ⟨bD,0,none⟩ = some (.int .i64 D.op) := hY.cell 0
    have y1 : w4.cell? ⟨bD,1,none⟩ = some (.int .i64 D.kd) := hY.cell 1
    have y2 : w4.cell? ⟨bD,2,none⟩ = some (.int .i64 D.id) := hY.cell 2
    have y3 : w4.cell? ⟨bD,3,none⟩ = some (.int .i64 D.fr) := hY.cell 3
    have y4 : w4.cell? ⟨bD,4,none⟩ = some (.int .i64 D.tn) := hY.cell 4
    have y5 : w4.cell? ⟨bD,5,none⟩ = some (.int .i64 D.st) := hY.cell 5
    have y6 : w4.cell? ⟨bD,6,none⟩ = some (.int .i64 D.en) := hY.cell 6
    have y7 : w4.cell? ⟨bD,7,none⟩ = some (.int .i64 D.rt) := hY.cell 7
    have y8 : w4.cell? ⟨bD,8,none⟩ = some (.int .i64 D.rf) := hY.cell 8
    have y9 : w4.cell? ⟨bD,9,none⟩ = some (.int .i64 D.rn) := hY.cell 9
    have y10 : w4.cell? ⟨bD,10,none⟩ = some (.int .i64 D.rs) := hY.cell 10
    have y11 : w4.cell? ⟨bD,11,none⟩ = some (.int .i64 D.re) := hY.cell 11
    have y12 : w4.cell? ⟨bD,12,none⟩ = some (.int .i64 D.ro) := hY.cell 12
    have lt_y := hY.lt
    go_wp2_with (at_builtin; refine wpList_append_own _ rfl _ _ 46 rfl w.heap.size 31 i0 _ 13 104 Tryd.underlying46 hi0 hz0 hz1 hz2 rfl (by decide) _ _ _ rfl (ho.alloc _) ⟨w4.heap.size,0,none⟩ 1 1 [.int .i64 D.op, .int .i64 D.kd, .int .i64 D.id, .int .i64 D.fr, .int .i64 D.tn, .int .i64 D.st, .int .i64 D.en, .int .i64 D.rt, .int .i64 D.rf, .int .i64 D.rn, .int .i64 D.rs, .int .i64 D.re, .int .i64 D.ro] rfl rfl (by exact lit_cells w4 #[.int .i64 D.op, .int .i64 D.kd, .int .i64 D.id, .int .i64 D.fr, .int .i64 D.tn, .int .i64 D.st, .int .i64 D.en, .int .i64 D.rt, .int .i64 D.rf, .int .i64 D.rn, .int .i64 D.rs, .int .i64 D.re, .int .i64 D.ro] _ _ rfl) (by simp [Value.oneCell']) (by unfold maxLen; omega) (by omega) (by simp; omega) ?_; intro v' w5 hown' hgrow5 hnil5)
    have hB5 : Below w.heap.size w w5 := (hB.alloc hs _).grown hgrow5 (by simp; omega) (fun q hq => (ho.lt q hq).1)
    clear y0 y1 y2 y3 y4 y5 y6 y7 y8 y9 y10 y11 y12 lt_y
    clear hB hs ho
    have hB := hB5
    have hs := hB.size
    have ho : w5.ownsRow w.heap.size 31 13 v' 2 (flatDr [D,D]) := by exact hown'
    obtain ⟨A5,c5,rfl⟩ := slice_of_own ho
    clear hown' hgrow5 hnil5 hB5
    go_wp2_with fail
    obtain ⟨p,hp⟩ : ∃ p,printF [D,D] = p := ⟨_,rfl⟩
    have hpt : p.getD [120,10] = t := by rw [← hp]; have h := HT.out; simpa using h
    have HPT := Lib.hid hpt
    clear hpt
    refine (tprint_any _ _ _ [D,D] rfl (by simp) (fun x hx => by simp at hx; rw [hx]; exact HWF.out) w5 (TT.out.below hB) (Sl.of_own ho) p hp).mono ?_
    rintro e w8 ⟨rfl,hb⟩
    have hB8 := hB.trans (hb.mono hs)
    clear hb hB hs ho hp
    cases p with
    | none =>
      obtain rfl : [120,10] = t := HPT.out
      simp only [printV]
      go_wp2_with fail
      go_ret
      exact ⟨rfl,hB8⟩
    | some s =>
      obtain rfl : s = t := HPT.out
      simp only [printV]
      go_wp2_with fail
      go_ret
      exact ⟨rfl,hB8⟩
end Go.Proofs.YtggdomeeienjbaaDoor

/- Package script: act. No condition but that bytes are bytes. -/
namespace Go.Proofs.YtggdomeeienjbaaDoor
open Go.ChangeShapes Go.WideShapes Go.ChangeAt Go.RowKit Go.Sort
set_option linter.unusedSimpArgs false
set_option linter.unusedVariables false
/-- An act: what it tells. -/
structure Pa where
  dk : Int
  tx : Bytes
  D : Dr
  n : Int
  ids : List Int
  cl : Int
  sz : Int
  bf : Int
  bt : Int
  bs_ : Int
  bc : Int
  bd : Int
deriving DecidableEq
/-- Its cells, its IDs wherever they lie. -/
def Pa.cs (p : Pa) (A : Option Addr) (k c : Nat) : List Value := [.int .i64 p.dk, .string (bs p.tx), .int .i64 p.D.op, .int .i64 p.D.kd, .int .i64 p.D.id, .int .i64 p.D.fr, .int .i64 p.D.tn, .int .i64 p.D.st, .int .i64 p.D.en, .int .i64 p.D.rt, .int .i64 p.D.rf, .int .i64 p.D.rn, .int .i64 p.D.rs, .int .i64 p.D.re, .int .i64 p.D.ro, .int .i64 p.n, .slice A k c, .int .i64 p.cl, .int .i64 p.sz, .int .i64 p.bf, .int .i64 p.bt, .int .i64 p.bs_, .int .i64 p.bc, .int .i64 p.bd]
/-- The act that bytes make. -/
def actF (b0 b1 b2 b3 b4 b5 b6 b7 b8 : Nat) : Pa :=
  if b0 % 7 = 0 then ⟨1,linesF (dirF b1 b2 b3 b4 b5 b6 b7) b8,zeroDr,0,[],0,0,0,0,0,0,0⟩
  else if b0 % 7 = 1 then ⟨2,[],dirF b1 b2 b3 b4 b5 b6 b7,0,[],0,0,0,0,0,0,0⟩
  else if b0 % 7 = 2 then ⟨3,[],zeroDr,(b1 : Nat),[],0,0,0,0,0,0,0⟩
  else if b0 % 7 = 3 then ⟨4,[],zeroDr,0,idsF b1 b2 b3,(b4 % 4 : Nat),(b5 : Nat),0,0,0,0,0⟩
  else if b0 % 7 = 4 then ⟨5,[],zeroDr,0,idsF b1 b2 b3,(b4 % 4 : Nat),(b5 : Nat),0,0,0,0,0⟩
  else if b0 % 7 = 5 then ⟨6,[],zeroDr,0,[],0,0,(1 + b1 % 4 : Nat),(1 + b2 % 4 : Nat),(b3 : Nat),(b4 % 3 : Nat),(4 * b5 : Nat)⟩
  else ⟨7,[],zeroDr,(b3 % 10 : Nat),[],0,0,(1 + b1 % 4 : Nat),(1 + b2 % 4 : Nat),0,0,0⟩
theorem actF_ids (b0 b1 b2 b3 b4 b5 b6 b7 b8 : Nat) : (actF b0 b1 b2 b3 b4 b5 b6 b7 b8).ids.length ≤ 2 := by
  have := idsF_len b1 b2 b3
  unfold actF
  repeat' split
  all_goals first | exact Nat.zero_le _ | exact this
/-- The value is that act, in that world; its IDs lie behind base. -/
def AV (base : Nat) (w : World) (v : Value) (p : Pa) : Prop := ∃ A k c,v = .agg (p.cs A k c).toArray ∧ w.ownsRow base 3 1 (.slice A k c) p.ids.length (p.ids.map (Value.int .i64)) ∧ p.ids.length = k
theorem own_none (w : World) (base : Nat) (e : TypeId) (k : Nat) : w.ownsRow base e k (.slice none 0 0) 0 [] := ⟨by simp, .inl ⟨rfl,rfl⟩⟩
theorem own_kept {S : Nat → Prop} {w w' : World} {base : Nat} {e : TypeId} {size n : Nat} {v : Value} {xs : List Value} (h : w.ownsRow base e size v n xs) (hk : Kept S w w') (hn : ∀ g,v.ownBlock = some g → ¬ S g) : w'.ownsRow base e size v n xs := by
  refine ⟨h.1,?_⟩
  rcases h.2 with h0 | ⟨g,cap,cur,rfl,hb,hg,rest⟩
  · exact .inl h0
  · refine .inr ⟨g,cap,cur,rfl,hb,?_,rest⟩
    exact hk.blok (g := g) hg (hn g rfl)
/-- A struct's literal, where its run is known by an equation. -/
theorem wp_build_run {P : Program} (w : World) {o : Oper} {a : Act} {K : Act → World → Prop} {Q : Exit → Act → World → Prop} (t : TypeId) (parts : Array (Nat × Operand)) (ho : o.op = .build t parts) (vals : Array (Nat × Value)) (hv : parts.map (fun p => (p.1,a.eval p.2)) = vals) {v : Value}
    (hr : (Instr.build t vals).run P w = .ok v w) (h : K (a.put o.dst v) w) : o.wp P a w K Q := by
  unfold Oper.wp execOp
  have hv' : parts.map (fun x : Nat × Operand => match x with | (i,x) => (i,a.eval x)) = vals := hv
  simp only [ho,hv',Sem.run_bind,Sem.run_pure,hr,Result.andThen_ok]
  exact h
theorem wpList_build_run {P : Program} (w : World) {ops : Array Oper} {rest : List Oper} {o : Oper} {a : Act} {Q : Exit → Act → World → Prop} (hgd : o.guard = none) (t : TypeId) (parts : Array (Nat × Operand)) (ho : o.op = .build t parts) (vals : Array (Nat × Value)) (hv : parts.map (fun p => (p.1,a.eval p.2)) = vals) {v : Value}
    (hr : (Instr.build t vals).run P w = .ok v w) (h : wpList P ops Q rest (a.put o.dst v) w) : wpList P ops Q (o :: rest) a w :=
  wpList_plain hgd fun _ hK => wp_build_run w t parts ho vals hv hr (hK _ _ h)
set_option maxRecDepth 100000 in
theorem bact (n : Int) (w : World) : (Instr.build 36 #[(0, .int .i64 n)]).run Tryd.prog w = .ok (.agg #[.int .i64 n, .string ⟨#[]⟩, .int .i64 0, .int .i64 0, .int .i64 0, .int .i64 0, .int .i64 0, .int .i64 0, .int .i64 0, .int .i64 0, .int .i64 0, .int .i64 0, .int .i64 0, .int .i64 0, .int .i64 0, .int .i64 0, .slice none 0 0, .int .i64 0, .int .i64 0, .int .i64 0, .int .i64 0, .int .i64 0, .int .i64 0, .int .i64 0]) w := by kernel_rfl
theorem grown_setRow (w : World) (g : Nat) (cs : Array Value) : w.grownBy (w.setRow g cs) (some g) :=
  ⟨rfl,rfl,rfl,by simp,fun k hk hne => setRow_other w g k cs (fun e => hne (by rw [e]))⟩
theorem Blok.there_ {w : World} {b : Nat} {T : TypeId} {cs : Array Value} (h : Blok w b T cs) (o n : Nat) (hn : o + n ≤ cs.size) : w.there b o n := fun j hj => by
  refine ⟨?_,h.free _⟩
  rw [h.cell,Array.getElem?_eq_getElem (by omega)]
  rfl
theorem Blok.sets {b : Nat} {T : TypeId} : ∀ (l : List Value) (o : Nat) (w : World) (cs : List Value),Blok w b T cs.toArray → o + l.length ≤ cs.length → Blok (w.setCells b o l) b T (cs.take o ++ l ++ cs.drop (o + l.length)).toArray
  | [],o,w,cs,h,_ => by simpa [World.setCells] using h
  | v :: l,o,w,cs,h,hl => by
    have hl' : o + (l.length + 1) ≤ cs.length := by simpa using hl
    have h1 := h.set_ o v
    have h2 : Blok (w.setCell ⟨b,o,none⟩ v) b T (cs.set o v).toArray := by simpa using h1
    have h3 := Blok.sets l (o + 1) _ _ h2 (by simp; omega)
    have hs : cs.set o v = cs.take o ++ v :: cs.drop (o + 1) := by rw [List.set_eq_take_append_cons_drop,if_pos (by omega)]
    have ht : (cs.take o).length = o := by simp; omega
    have t1 : (cs.set o v).take (o + 1) = cs.take o ++ [v] := by rw [hs,List.take_append,ht]; simp [List.take_take]
    have t2 : (cs.set o v).drop (o + 1 + l.length) = cs.drop (o + (l.length + 1)) := by
      rw [hs,List.drop_append,ht,List.drop_eq_nil_of_le (by omega),show o + 1 + l.length - o = l.length + 1 by omega,List.drop_succ_cons,List.drop_drop,List.nil_append]
      congr 1
      omega
    rw [t1,t2] at h3
    have e : cs.take o ++ [v] ++ l = cs.take o ++ v :: l := by simp
    rw [e] at h3
    exact h3
/-- Two cells of a variable are stored, in whatever order; all other blocks stay. -/
structure BM (W : World) (b : Nat) (T : TypeId) (mk : Value → Value → Array Value) (v5 v6 : Value) (V : Array Bool) (w' : World) : Prop where
  kept : Kept (fun k => k = b) W w'
  box : ∃ u5 u6,Blok w' b T (mk u5 u6) ∧ (V.getD 7 true = true → u5 = v5) ∧ (V.getD 9 true = true → u6 = v6)
theorem getD_me (V : Array Bool) (i : Nat) : (V.setIfInBounds i true).getD i true = true := by
  by_cases hs : i < V.size
  · simp [hs]
  · simp [Array.getD,hs]
theorem BM.other {W w' : World} {b : Nat} {T : TypeId} {mk : Value → Value → Array Value} {v5 v6 : Value} {V : Array Bool} (h : BM W b T mk v5 v6 V w') (i : Nat) (h7 : i ≠ 7) (h9 : i ≠ 9) : BM W b T mk v5 v6 (V.setIfInBounds i true) w' := by
  obtain ⟨hk,u5,u6,hb,a,c⟩ := h
  exact ⟨hk,u5,u6,hb,by rw [getD_set_ne true h7]; exact a,by rw [getD_set_ne true h9]; exact c⟩
theorem BM.store7 {W w' : World} {b : Nat} {T : TypeId} {mk : Value → Value → Array Value} {v5 v6 : Value} {V : Array Bool} (h : BM W b T mk v5 v6 V w') (o : Nat) (hs : ∀ u5 u6 x,(mk u5 u6).setIfInBounds o x = mk x u6) : BM W b T mk v5 v6 (V.setIfInBounds 7 true) (w'.setCell ⟨b,o,none⟩ v5) := by
  obtain ⟨hk,u5,u6,hb,a,c⟩ := h
  refine ⟨hk.set (fun _ => rfl) _ _,v5,u6,?_,fun _ => rfl,by rw [getD_set_ne true (by decide)]; exact c⟩
  have := hb.set_ o v5
  rw [hs] at this
  exact this
theorem BM.store9 {W w' : World} {b : Nat} {T : TypeId} {mk : Value → Value → Array Value} {v5 v6 : Value} {V : Array Bool} (h : BM W b T mk v5 v6 V w') (o : Nat) (hs : ∀ u5 u6 x,(mk u5 u6).setIfInBounds o x = mk u5 x) : BM W b T mk v5 v6 (V.setIfInBounds 9 true) (w'.setCell ⟨b,o,none⟩ v6) := by
  obtain ⟨hk,u5,u6,hb,a,c⟩ := h
  refine ⟨hk.set (fun _ => rfl) _ _,u5,v6,?_,by rw [getD_set_ne true (by decide)]; exact a,fun _ => rfl⟩
  have := hb.set_ o v6
  rw [hs] at this
  exact this
theorem wpOp_skips' {P : Program} {ops : Array Oper} {Q : Exit → Act → World → Prop} {i : Nat} {o : Oper} {K : Act → World → Prop} {a : Act} {w w' : World} (ho : ops[i]? = some o) (hg : o.guard = none) (hr : (execOp a.eval o).run P w = .ok .skip w') (hK : K (a.put o.dst undef) w') : wpOp P ops Q i K a w := by
  refine wpOp_of ho ?_
  rw [if_pos (by simp [Region.wanted,hg])]
  unfold Oper.wp
  rw [hr]
  exact hK
theorem below_kept {W w' : World} {b B : Nat} {w : World} (hB : Below B w W) (hk : Kept (fun k => k = b) W w') (hb : B ≤ b) (hs : B ≤ W.heap.size) : Below B w w' := by
  refine hB.trans ⟨hk.os,hk.tape,hk.output,hk.size,fun k hk2 => hk.block k (by omega) (by show k ≠ b; omega)⟩

end Go.Proofs.YtggdomeeienjbaaDoor

/- Package script: act, kind 0. No condition but that bytes are bytes. -/
namespace Go.Proofs.YtggdomeeienjbaaDoor
open Go.ChangeShapes Go.WideShapes Go.ChangeAt Go.RowKit Go.Sort
set_option linter.unusedSimpArgs false
set_option linter.unusedVariables false
set_option maxHeartbeats 16000000 in
set_option maxRecDepth 100000 in
theorem sact_0 (b0 b1 b2 b3 b4 b5 b6 b7 b8 b9 : Nat) (w : World) (ht : TenTab w) (h0 : b0 < 256) (h1 : b1 < 256) (h2 : b2 < 256) (h3 : b3 < 256) (h4 : b4 < 256) (h5 : b5 < 256) (h6 : b6 < 256) (h7 : b7 < 256) (h8 : b8 < 256) (h9 : b9 < 256) (P : Pa) (hq : b0 % 7 = 0) (hP : (⟨1,linesF (dirF b1 b2 b3 b4 b5 b6 b7) b8,zeroDr,0,[],0,0,0,0,0,0,0⟩ : Pa) = P) :
    Calls Tryd.prog 16 #[.agg #[.int .u8 (b0 : Nat), .int .u8 (b1 : Nat), .int .u8 (b2 : Nat), .int .u8 (b3 : Nat), .int .u8 (b4 : Nat), .int .u8 (b5 : Nat), .int .u8 (b6 : Nat), .int .u8 (b7 : Nat), .int .u8 (b8 : Nat), .int .u8 (b9 : Nat)]] w fun e w' => ∃ v,e = .returned v ∧ AV w.heap.size w' v P ∧ Below w.heap.size w w' := by
  have Eq0 : Hid (b0 % 7 = 0) := hq
  obtain ⟨D,eD⟩ : ∃ D,dirF b1 b2 b3 b4 b5 b6 b7 = D := ⟨_,rfl⟩
  obtain ⟨T,eT⟩ : ∃ T,linesF D b8 = T := ⟨_,rfl⟩
  rw [eD,eT] at hP
  have ED := Lib.hid eD
  have ET := Lib.hid eT
  clear eD eT
  have HP := Lib.hid hP
  have TT := Lib.hid ht
  have H0 := Lib.hid h0
  have H1 := Lib.hid h1
  have H2 := Lib.hid h2
  have H3 := Lib.hid h3
  have H4 := Lib.hid h4
  have H5 := Lib.hid h5
  have H6 := Lib.hid h6
  have H7 := Lib.hid h7
  have H8 := Lib.hid h8
  have H9 := Lib.hid h9
  have vb1 : IntKind.i64.wrap (b1 : Int) = (b1 : Int) := IntWalk.i64_in _ (by omega)
  have vb3 : IntKind.i64.wrap (b3 : Int) = (b3 : Int) := IntWalk.i64_in _ (by omega)
  have vb5 : IntKind.i64.wrap (b5 : Int) = (b5 : Int) := IntWalk.i64_in _ (by omega)
  have v45 : IntKind.i64.wrap (4 * (b5 : Int)) = 4 * (b5 : Int) := IntWalk.i64_in _ (by omega)
  clear hP ht hq  h0 h1 h2 h3 h4 h5 h6 h7 h8 h9
  have hB : Below w.heap.size w ((w.alloc (.cells #[.int .u8 (b0 : Nat), .int .u8 (b1 : Nat), .int .u8 (b2 : Nat), .int .u8 (b3 : Nat), .int .u8 (b4 : Nat), .int .u8 (b5 : Nat), .int .u8 (b6 : Nat), .int .u8 (b7 : Nat), .int .u8 (b8 : Nat), .int .u8 (b9 : Nat)] 23)).alloc (.cells #[.int .i64 0, .string ⟨#[]⟩, .int .i64 0, .int .i64 0, .int .i64 0, .int .i64 0, .int .i64 0, .int .i64 0, .int .i64 0, .int .i64 0, .int .i64 0, .int .i64 0, .int .i64 0, .int .i64 0, .int .i64 0, .int .i64 0, .slice none 0 0, .int .i64 0, .int .i64 0, .int .i64 0, .int .i64 0, .int .i64 0, .int .i64 0, .int .i64 0] 36)) := by (repeat (first | exact Below.refl _ _ | refine Below.alloc ?_ (by first | omega | (simp; done) | (simp; omega)) _ | refine Below.setCell ?_ (by first | omega | (simp; done) | (simp; omega)) _ | refine Below.drew ?_))
  have hX := (Blok.new w 23 #[.int .u8 (b0 : Nat), .int .u8 (b1 : Nat), .int .u8 (b2 : Nat), .int .u8 (b3 : Nat), .int .u8 (b4 : Nat), .int .u8 (b5 : Nat), .int .u8 (b6 : Nat), .int .u8 (b7 : Nat), .int .u8 (b8 : Nat), .int .u8 (b9 : Nat)]).alloc (.cells #[.int .i64 0, .string ⟨#[]⟩, .int .i64 0, .int .i64 0, .int .i64 0, .int .i64 0, .int .i64 0, .int .i64 0, .int .i64 0, .int .i64 0, .int .i64 0, .int .i64 0, .int .i64 0, .int .i64 0, .int .i64 0, .int .i64 0, .slice none 0 0, .int .i64 0, .int .i64 0, .int .i64 0, .int .i64 0, .int .i64 0, .int .i64 0, .int .i64 0] 36)
  have hR := Blok.new (w.alloc (.cells #[.int .u8 (b0 : Nat), .int .u8 (b1 : Nat), .int .u8 (b2 : Nat), .int .u8 (b3 : Nat), .int .u8 (b4 : Nat), .int .u8 (b5 : Nat), .int .u8 (b6 : Nat), .int .u8 (b7 : Nat), .int .u8 (b8 : Nat), .int .u8 (b9 : Nat)] 23)) 36 #[.int .i64 0, .string ⟨#[]⟩, .int .i64 0, .int .i64 0, .int .i64 0, .int .i64 0, .int .i64 0, .int .i64 0, .int .i64 0, .int .i64 0, .int .i64 0, .int .i64 0, .int .i64 0, .int .i64 0, .int .i64 0, .int .i64 0, .slice none 0 0, .int .i64 0, .int .i64 0, .int .i64 0, .int .i64 0, .int .i64 0, .int .i64 0, .int .i64 0]
  rw [World.size_alloc] at hR
  have hs := hB.size
  go_enter Tryd.func16,Tryd.ntmps16
  go_upto_region 1 with fail
  generalize ((w.alloc (.cells #[.int .u8 (b0 : Nat), .int .u8 (b1 : Nat), .int .u8 (b2 : Nat), .int .u8 (b3 : Nat), .int .u8 (b4 : Nat), .int .u8 (b5 : Nat), .int .u8 (b6 : Nat), .int .u8 (b7 : Nat), .int .u8 (b8 : Nat), .int .u8 (b9 : Nat)] 23)).alloc (.cells #[.int .i64 0, .string ⟨#[]⟩, .int .i64 0, .int .i64 0, .int .i64 0, .int .i64 0, .int .i64 0, .int .i64 0, .int .i64 0, .int .i64 0, .int .i64 0, .int .i64 0, .int .i64 0, .int .i64 0, .int .i64 0, .int .i64 0, .slice none 0 0, .int .i64 0, .int .i64 0, .int .i64 0, .int .i64 0, .int .i64 0, .int .i64 0, .int .i64 0] 36)) = w1 at *
  have x0 : w1.cell? ⟨w.heap.size,0,none⟩ = some (.int .u8 (b0 : Nat)) := hX.cell 0
  have lt_x := hX.lt
  go_upto_region 2 with (first | (refine wpList_store_row (by rfl) 36 (.tmp 3) (.tmp 8) (by rfl) w1.heap.size #[.int .i64 1, .string ⟨#[]⟩, .int .i64 0, .int .i64 0, .int .i64 0, .int .i64 0, .int .i64 0, .int .i64 0, .int .i64 0, .int .i64 0, .int .i64 0, .int .i64 0, .int .i64 0, .int .i64 0, .int .i64 0, .int .i64 0, .slice none 0 0, .int .i64 0, .int .i64 0, .int .i64 0, .int .i64 0, .int .i64 0, .int .i64 0, .int .i64 0] (by rfl) (by rfl) 36 #[.int .i64 0, .string ⟨#[]⟩, .int .i64 0, .int .i64 0, .int .i64 0, .int .i64 0, .int .i64 0, .int .i64 0, .int .i64 0, .int .i64 0, .int .i64 0, .int .i64 0, .int .i64 0, .int .i64 0, .int .i64 0, .int .i64 0, .slice none 0 0, .int .i64 0, .int .i64 0, .int .i64 0, .int .i64 0, .int .i64 0, .int .i64 0, .int .i64 0] (heap_alloc_new _ _) (by kernel_rfl) rfl (by simp [Value.oneCell']) ?_; rw [World.setRow_alloc_new]) | (refine wpList_build_run _ (by rfl) 36 #[(0, .tmp 7)] (by rfl) #[(0, .int .i64 1)] (by rfl) (bact 1 _) ?_) | (go_at_call 19; first | ((with_reducible refine Calls.mono (rest_any b0 7 _ 7 k7_ _ H0.out (by decide) (by decide) Eq0.out) ?_); rintro e9 w9 ⟨rfl,rfl⟩)))
  clear x0 lt_x
  have hA := Blok.new w1 36 #[.int .i64 1, .string ⟨#[]⟩, .int .i64 0, .int .i64 0, .int .i64 0, .int .i64 0, .int .i64 0, .int .i64 0, .int .i64 0, .int .i64 0, .int .i64 0, .int .i64 0, .int .i64 0, .int .i64 0, .int .i64 0, .int .i64 0, .slice none 0 0, .int .i64 0, .int .i64 0, .int .i64 0, .int .i64 0, .int .i64 0, .int .i64 0, .int .i64 0]
  have hb : Below w1.heap.size w1 (w1.alloc (.cells #[.int .i64 1, .string ⟨#[]⟩, .int .i64 0, .int .i64 0, .int .i64 0, .int .i64 0, .int .i64 0, .int .i64 0, .int .i64 0, .int .i64 0, .int .i64 0, .int .i64 0, .int .i64 0, .int .i64 0, .int .i64 0, .int .i64 0, .slice none 0 0, .int .i64 0, .int .i64 0, .int .i64 0, .int .i64 0, .int .i64 0, .int .i64 0, .int .i64 0] 36)) := by (repeat (first | exact Below.refl _ _ | refine Below.alloc ?_ (by first | omega | (simp; done) | (simp; omega)) _ | refine Below.setCell ?_ (by first | omega | (simp; done) | (simp; omega)) _ | refine Below.drew ?_))
  have lR := hR.lt
  replace hX := hX.below hb hX.lt
  replace hR := hR.below hb hR.lt
  replace hB := hB.trans (hb.mono hs)
  replace hs := hB.size
  clear hb
  generalize w1.alloc (.cells #[.int .i64 1, .string ⟨#[]⟩, .int .i64 0, .int .i64 0, .int .i64 0, .int .i64 0, .int .i64 0, .int .i64 0, .int .i64 0, .int .i64 0, .int .i64 0, .int .i64 0, .int .i64 0, .int .i64 0, .int .i64 0, .int .i64 0, .slice none 0 0, .int .i64 0, .int .i64 0, .int .i64 0, .int .i64 0, .int .i64 0, .int .i64 0, .int .i64 0] 36) = w2 at *
  generalize w1.heap.size = bA at *
  have k0 : w2.cell? ⟨bA,0,none⟩ = some (.int .i64 1) := hA.cell 0
  have k1 : w2.cell? ⟨bA,1,none⟩ = some (.string ⟨#[]⟩) := hA.cell 1
  have k2 : w2.cell? ⟨bA,2,none⟩ = some (.int .i64 0) := hA.cell 2
  have k3 : w2.cell? ⟨bA,3,none⟩ = some (.int .i64 0) := hA.cell 3
  have k4 : w2.cell? ⟨bA,4,none⟩ = some (.int .i64 0) := hA.cell 4
  have k5 : w2.cell? ⟨bA,5,none⟩ = some (.int .i64 0) := hA.cell 5
  have k6 : w2.cell? ⟨bA,6,none⟩ = some (.int .i64 0) := hA.cell 6
  have k7 : w2.cell? ⟨bA,7,none⟩ = some (.int .i64 0) := hA.cell 7
  have k8 : w2.cell? ⟨bA,8,none⟩ = some (.int .i64 0) := hA.cell 8
  have k9 : w2.cell? ⟨bA,9,none⟩ = some (.int .i64 0) := hA.cell 9
  have k10 : w2.cell? ⟨bA,10,none⟩ = some (.int .i64 0) := hA.cell 10
  have k11 : w2.cell? ⟨bA,11,none⟩ = some (.int .i64 0) := hA.cell 11
  have k12 : w2.cell? ⟨bA,12,none⟩ = some (.int .i64 0) := hA.cell 12
  have k13 : w2.cell? ⟨bA,13,none⟩ = some (.int .i64 0) := hA.cell 13
  have k14 : w2.cell? ⟨bA,14,none⟩ = some (.int .i64 0) := hA.cell 14
  have k15 : w2.cell? ⟨bA,15,none⟩ = some (.int .i64 0) := hA.cell 15
  have k16 : w2.cell? ⟨bA,16,none⟩ = some (.slice none 0 0) := hA.cell 16
  have k17 : w2.cell? ⟨bA,17,none⟩ = some (.int .i64 0) := hA.cell 17
  have k18 : w2.cell? ⟨bA,18,none⟩ = some (.int .i64 0) := hA.cell 18
  have k19 : w2.cell? ⟨bA,19,none⟩ = some (.int .i64 0) := hA.cell 19
  have k20 : w2.cell? ⟨bA,20,none⟩ = some (.int .i64 0) := hA.cell 20
  have k21 : w2.cell? ⟨bA,21,none⟩ = some (.int .i64 0) := hA.cell 21
  have k22 : w2.cell? ⟨bA,22,none⟩ = some (.int .i64 0) := hA.cell 22
  have k23 : w2.cell? ⟨bA,23,none⟩ = some (.int .i64 0) := hA.cell 23
  have lt_k := hA.lt
  go_upto_region 4 with fail
  clear k0 k1 k2 k3 k4 k5 k6 k7 k8 k9 k10 k11 k12 k13 k14 k15 k16 k17 k18 k19 k20 k21 k22 k23 lt_k
  have x0 : w2.cell? ⟨w.heap.size,0,none⟩ = some (.int .u8 (b0 : Nat)) := hX.cell 0
  have x1 : w2.cell? ⟨w.heap.size,1,none⟩ = some (.int .u8 (b1 : Nat)) := hX.cell 1
  have x2 : w2.cell? ⟨w.heap.size,2,none⟩ = some (.int .u8 (b2 : Nat)) := hX.cell 2
  have x3 : w2.cell? ⟨w.heap.size,3,none⟩ = some (.int .u8 (b3 : Nat)) := hX.cell 3
  have x4 : w2.cell? ⟨w.heap.size,4,none⟩ = some (.int .u8 (b4 : Nat)) := hX.cell 4
  have x5 : w2.cell? ⟨w.heap.size,5,none⟩ = some (.int .u8 (b5 : Nat)) := hX.cell 5
  have x6 : w2.cell? ⟨w.heap.size,6,none⟩ = some (.int .u8 (b6 : Nat)) := hX.cell 6
  have x7 : w2.cell? ⟨w.heap.size,7,none⟩ = some (.int .u8 (b7 : Nat)) := hX.cell 7
  have x8 : w2.cell? ⟨w.heap.size,8,none⟩ = some (.int .u8 (b8 : Nat)) := hX.cell 8
  have x9 : w2.cell? ⟨w.heap.size,9,none⟩ = some (.int .u8 (b9 : Nat)) := hX.cell 9
  have lt_x := hX.lt
  go_wp2_with fail
  refine (slines_any b0 b1 b2 b3 b4 b5 b6 b7 b8 b9 w2 (TT.out.below hB) H0.out H1.out H2.out H3.out H4.out H5.out H6.out H7.out H8.out H9.out D ED.out T ET.out).mono ?_
  rintro e w3 ⟨rfl,hb⟩
  clear x0 x1 x2 x3 x4 x5 x6 x7 x8 x9 lt_x
  replace hX := hX.below hb hX.lt
  replace hR := hR.below hb hR.lt
  replace hA := hA.below hb hA.lt
  replace hB := hB.trans (hb.mono hs)
  replace hs := hB.size
  clear hb
  have k0 : w3.cell? ⟨bA,0,none⟩ = some (.int .i64 1) := hA.cell 0
  have g0 := hA.free 0
  have k1 : w3.cell? ⟨bA,1,none⟩ = some (.string ⟨#[]⟩) := hA.cell 1
  have g1 := hA.free 1
  have k2 : w3.cell? ⟨bA,2,none⟩ = some (.int .i64 0) := hA.cell 2
  have g2 := hA.free 2
  have k3 : w3.cell? ⟨bA,3,none⟩ = some (.int .i64 0) := hA.cell 3
  have g3 := hA.free 3
  have k4 : w3.cell? ⟨bA,4,none⟩ = some (.int .i64 0) := hA.cell 4
  have g4 := hA.free 4
  have k5 : w3.cell? ⟨bA,5,none⟩ = some (.int .i64 0) := hA.cell 5
  have g5 := hA.free 5
  have k6 : w3.cell? ⟨bA,6,none⟩ = some (.int .i64 0) := hA.cell 6
  have g6 := hA.free 6
  have k7 : w3.cell? ⟨bA,7,none⟩ = some (.int .i64 0) := hA.cell 7
  have g7 := hA.free 7
  have k8 : w3.cell? ⟨bA,8,none⟩ = some (.int .i64 0) := hA.cell 8
  have g8 := hA.free 8
  have k9 : w3.cell? ⟨bA,9,none⟩ = some (.int .i64 0) := hA.cell 9
  have g9 := hA.free 9
  have k10 : w3.cell? ⟨bA,10,none⟩ = some (.int .i64 0) := hA.cell 10
  have g10 := hA.free 10
  have k11 : w3.cell? ⟨bA,11,none⟩ = some (.int .i64 0) := hA.cell 11
  have g11 := hA.free 11
  have k12 : w3.cell? ⟨bA,12,none⟩ = some (.int .i64 0) := hA.cell 12
  have g12 := hA.free 12
  have k13 : w3.cell? ⟨bA,13,none⟩ = some (.int .i64 0) := hA.cell 13
  have g13 := hA.free 13
  have k14 : w3.cell? ⟨bA,14,none⟩ = some (.int .i64 0) := hA.cell 14
  have g14 := hA.free 14
  have k15 : w3.cell? ⟨bA,15,none⟩ = some (.int .i64 0) := hA.cell 15
  have g15 := hA.free 15
  have k16 : w3.cell? ⟨bA,16,none⟩ = some (.slice none 0 0) := hA.cell 16
  have g16 := hA.free 16
  have k17 : w3.cell? ⟨bA,17,none⟩ = some (.int .i64 0) := hA.cell 17
  have g17 := hA.free 17
  have k18 : w3.cell? ⟨bA,18,none⟩ = some (.int .i64 0) := hA.cell 18
  have g18 := hA.free 18
  have k19 : w3.cell? ⟨bA,19,none⟩ = some (.int .i64 0) := hA.cell 19
  have g19 := hA.free 19
  have k20 : w3.cell? ⟨bA,20,none⟩ = some (.int .i64 0) := hA.cell 20
  have g20 := hA.free 20
  have k21 : w3.cell? ⟨bA,21,none⟩ = some (.int .i64 0) := hA.cell 21
  have g21 := hA.free 21
  have k22 : w3.cell? ⟨bA,22,none⟩ = some (.int .i64 0) := hA.cell 22
  have g22 := hA.free 22
  have k23 : w3.cell? ⟨bA,23,none⟩ = some (.int .i64 0) := hA.cell 23
  have g23 := hA.free 23
  have lt_k := hA.lt
  go_upto_region 18 with fail
  clear k0 g0 k1 g1 k2 g2 k3 g3 k4 g4 k5 g5 k6 g6 k7 g7 k8 g8 k9 g9 k10 g10 k11 g11 k12 g12 k13 g13 k14 g14 k15 g15 k16 g16 k17 g17 k18 g18 k19 g19 k20 g20 k21 g21 k22 g22 k23 g23 lt_k
  have hA2 : Blok (w3.setCell ⟨bA,1,none⟩ (.string (bs T))) bA 36 #[.int .i64 1, .string (bs T), .int .i64 0, .int .i64 0, .int .i64 0, .int .i64 0, .int .i64 0, .int .i64 0, .int .i64 0, .int .i64 0, .int .i64 0, .int .i64 0, .int .i64 0, .int .i64 0, .int .i64 0, .int .i64 0, .slice none 0 0, .int .i64 0, .int .i64 0, .int .i64 0, .int .i64 0, .int .i64 0, .int .i64 0, .int .i64 0] := by exact (hA.set_ 1 (.string (bs T)))
  replace hX := (hX.far (p := ⟨bA,1,none⟩) (by simp only; omega) (.string (bs T)))
  replace hR := (hR.far (p := ⟨bA,1,none⟩) (by simp only; omega) (.string (bs T)))
  replace hB := (hB.setCell (p := ⟨bA,1,none⟩) (by simp only; omega) (.string (bs T)))
  replace hs := hB.size
  clear hA
  have hA := hA2
  clear hA2
  generalize (w3.setCell ⟨bA,1,none⟩ (.string (bs T))) = w4 at *
  have hF := setRow_heap w4 (w.heap.size + 1) #[.int .i64 0, .string ⟨#[]⟩, .int .i64 0, .int .i64 0, .int .i64 0, .int .i64 0, .int .i64 0, .int .i64 0, .int .i64 0, .int .i64 0, .int .i64 0, .int .i64 0, .int .i64 0, .int .i64 0, .int .i64 0, .int .i64 0, .slice none 0 0, .int .i64 0, .int .i64 0, .int .i64 0, .int .i64 0, .int .i64 0, .int .i64 0, .int .i64 0] #[.int .i64 1, .string (bs T), .int .i64 0, .int .i64 0, .int .i64 0, .int .i64 0, .int .i64 0, .int .i64 0, .int .i64 0, .int .i64 0, .int .i64 0, .int .i64 0, .int .i64 0, .int .i64 0, .int .i64 0, .int .i64 0, .slice none 0 0, .int .i64 0, .int .i64 0, .int .i64 0, .int .i64 0, .int .i64 0, .int .i64 0, .int .i64 0] 36 (0,0) hR
  have hWf := below_setRow hB (g := w.heap.size + 1) (by omega) #[.int .i64 1, .string (bs T), .int .i64 0, .int .i64 0, .int .i64 0, .int .i64 0, .int .i64 0, .int .i64 0, .int .i64 0, .int .i64 0, .int .i64 0, .int .i64 0, .int .i64 0, .int .i64 0, .int .i64 0, .int .i64 0, .slice none 0 0, .int .i64 0, .int .i64 0, .int .i64 0, .int .i64 0, .int .i64 0, .int .i64 0, .int .i64 0]
  have hgw := grown_setRow w4 (w.heap.size + 1) #[.int .i64 1, .string (bs T), .int .i64 0, .int .i64 0, .int .i64 0, .int .i64 0, .int .i64 0, .int .i64 0, .int .i64 0, .int .i64 0, .int .i64 0, .int .i64 0, .int .i64 0, .int .i64 0, .int .i64 0, .int .i64 0, .slice none 0 0, .int .i64 0, .int .i64 0, .int .i64 0, .int .i64 0, .int .i64 0, .int .i64 0, .int .i64 0]
  have hA' := hA
  have hR' := hR
  go_wp2_with (first | (refine wpList_load_row (by rfl) 36 (.tmp 3) (by rfl) bA (by rfl) 36 #[.int .i64 1, .string (bs T), .int .i64 0, .int .i64 0, .int .i64 0, .int .i64 0, .int .i64 0, .int .i64 0, .int .i64 0, .int .i64 0, .int .i64 0, .int .i64 0, .int .i64 0, .int .i64 0, .int .i64 0, .int .i64 0, .slice none 0 0, .int .i64 0, .int .i64 0, .int .i64 0, .int .i64 0, .int .i64 0, .int .i64 0, .int .i64 0] (0,0) _ hA' Tryd.underlying36 rfl (by kernel_rfl) ?_) | (refine wpList_store_row (by rfl) 36 (.tmp 2) (.tmp 79) (by rfl) (w.heap.size + 1) #[.int .i64 1, .string (bs T), .int .i64 0, .int .i64 0, .int .i64 0, .int .i64 0, .int .i64 0, .int .i64 0, .int .i64 0, .int .i64 0, .int .i64 0, .int .i64 0, .int .i64 0, .int .i64 0, .int .i64 0, .int .i64 0, .slice none 0 0, .int .i64 0, .int .i64 0, .int .i64 0, .int .i64 0, .int .i64 0, .int .i64 0, .int .i64 0] (by rfl) (by rfl) 36 #[.int .i64 0, .string ⟨#[]⟩, .int .i64 0, .int .i64 0, .int .i64 0, .int .i64 0, .int .i64 0, .int .i64 0, .int .i64 0, .int .i64 0, .int .i64 0, .int .i64 0, .int .i64 0, .int .i64 0, .int .i64 0, .int .i64 0, .slice none 0 0, .int .i64 0, .int .i64 0, .int .i64 0, .int .i64 0, .int .i64 0, .int .i64 0, .int .i64 0] hR' (by kernel_rfl) rfl (by simp [Value.oneCell']) ?_))
  refine bodyPost_ret (results_cell_row Tryd.results16 _ _ (w.heap.size + 1) 36 #[.int .i64 1, .string (bs T), .int .i64 0, .int .i64 0, .int .i64 0, .int .i64 0, .int .i64 0, .int .i64 0, .int .i64 0, .int .i64 0, .int .i64 0, .int .i64 0, .int .i64 0, .int .i64 0, .int .i64 0, .int .i64 0, .slice none 0 0, .int .i64 0, .int .i64 0, .int .i64 0, .int .i64 0, .int .i64 0, .int .i64 0, .int .i64 0] (0,0) _ (by rfl) hF Tryd.underlying36 rfl (by kernel_rfl)) rfl ?_
  exact ⟨_,rfl,⟨none,0,0,by rw [← HP.out]; rfl,by rw [← HP.out]; exact own_none _ _ _ _,by rw [← HP.out]; rfl⟩,hWf⟩
end Go.Proofs.YtggdomeeienjbaaDoor

/- Package script: act, kind 1. No condition but that bytes are bytes. -/
namespace Go.Proofs.YtggdomeeienjbaaDoor
open Go.ChangeShapes Go.WideShapes Go.ChangeAt Go.RowKit Go.Sort
set_option linter.unusedSimpArgs false
set_option linter.unusedVariables false
set_option maxHeartbeats 16000000 in
set_option maxRecDepth 100000 in
theorem sact_1 (b0 b1 b2 b3 b4 b5 b6 b7 b8 b9 : Nat) (w : World) (ht : TenTab w) (h0 : b0 < 256) (h1 : b1 < 256) (h2 : b2 < 256) (h3 : b3 < 256) (h4 : b4 < 256) (h5 : b5 < 256) (h6 : b6 < 256) (h7 : b7 < 256) (h8 : b8 < 256) (h9 : b9 < 256) (P : Pa) (hq : b0 % 7 = 1) (hP : (⟨2,[],dirF b1 b2 b3 b4 b5 b6 b7,0,[],0,0,0,0,0,0,0⟩ : Pa) = P) :
    Calls Tryd.prog 16 #[.agg #[.int .u8 (b0 : Nat), .int .u8 (b1 : Nat), .int .u8 (b2 : Nat), .int .u8 (b3 : Nat), .int .u8 (b4 : Nat), .int .u8 (b5 : Nat), .int .u8 (b6 : Nat), .int .u8 (b7 : Nat), .int .u8 (b8 : Nat), .int .u8 (b9 : Nat)]] w fun e w' => ∃ v,e = .returned v ∧ AV w.heap.size w' v P ∧ Below w.heap.size w w' := by
  have Eq0 : Hid (b0 % 7 = 1) := hq
  obtain ⟨D,eD⟩ : ∃ D,dirF b1 b2 b3 b4 b5 b6 b7 = D := ⟨_,rfl⟩
  rw [eD] at hP
  have ED := Lib.hid eD
  clear eD
  have HP := Lib.hid hP
  have TT := Lib.hid ht
  have H0 := Lib.hid h0
  have H1 := Lib.hid h1
  have H2 := Lib.hid h2
  have H3 := Lib.hid h3
  have H4 := Lib.hid h4
  have H5 := Lib.hid h5
  have H6 := Lib.hid h6
  have H7 := Lib.hid h7
  have H8 := Lib.hid h8
  have H9 := Lib.hid h9
  have vb1 : IntKind.i64.wrap (b1 : Int) = (b1 : Int) := IntWalk.i64_in _ (by omega)
  have vb3 : IntKind.i64.wrap (b3 : Int) = (b3 : Int) := IntWalk.i64_in _ (by omega)
  have vb5 : IntKind.i64.wrap (b5 : Int) = (b5 : Int) := IntWalk.i64_in _ (by omega)
  have v45 : IntKind.i64.wrap (4 * (b5 : Int)) = 4 * (b5 : Int) := IntWalk.i64_in _ (by omega)
  clear hP ht hq  h0 h1 h2 h3 h4 h5 h6 h7 h8 h9
  have hB : Below w.heap.size w ((w.alloc (.cells #[.int .u8 (b0 : Nat), .int .u8 (b1 : Nat), .int .u8 (b2 : Nat), .int .u8 (b3 : Nat), .int .u8 (b4 : Nat), .int .u8 (b5 : Nat), .int .u8 (b6 : Nat), .int .u8 (b7 : Nat), .int .u8 (b8 : Nat), .int .u8 (b9 : Nat)] 23)).alloc (.cells #[.int .i64 0, .string ⟨#[]⟩, .int .i64 0, .int .i64 0, .int .i64 0, .int .i64 0, .int .i64 0, .int .i64 0, .int .i64 0, .int .i64 0, .int .i64 0, .int .i64 0, .int .i64 0, .int .i64 0, .int .i64 0, .int .i64 0, .slice none 0 0, .int .i64 0, .int .i64 0, .int .i64 0, .int .i64 0, .int .i64 0, .int .i64 0, .int .i64 0] 36)) := by (repeat (first | exact Below.refl _ _ | refine Below.alloc ?_ (by first | omega | (simp; done) | (simp; omega)) _ | refine Below.setCell ?_ (by first | omega | (simp; done) | (simp; omega)) _ | refine Below.drew ?_))
  have hX := (Blok.new w 23 #[.int .u8 (b0 : Nat), .int .u8 (b1 : Nat), .int .u8 (b2 : Nat), .int .u8 (b3 : Nat), .int .u8 (b4 : Nat), .int .u8 (b5 : Nat), .int .u8 (b6 : Nat), .int .u8 (b7 : Nat), .int .u8 (b8 : Nat), .int .u8 (b9 : Nat)]).alloc (.cells #[.int .i64 0, .string ⟨#[]⟩, .int .i64 0, .int .i64 0, .int .i64 0, .int .i64 0, .int .i64 0, .int .i64 0, .int .i64 0, .int .i64 0, .int .i64 0, .int .i64 0, .int .i64 0, .int .i64 0, .int .i64 0, .int .i64 0, .slice none 0 0, .int .i64 0, .int .i64 0, .int .i64 0, .int .i64 0, .int .i64 0, .int .i64 0, .int .i64 0] 36)
  have hR := Blok.new (w.alloc (.cells #[.int .u8 (b0 : Nat), .int .u8 (b1 : Nat), .int .u8 (b2 : Nat), .int .u8 (b3 : Nat), .int .u8 (b4 : Nat), .int .u8 (b5 : Nat), .int .u8 (b6 : Nat), .int .u8 (b7 : Nat), .int .u8 (b8 : Nat), .int .u8 (b9 : Nat)] 23)) 36 #[.int .i64 0, .string ⟨#[]⟩, .int .i64 0, .int .i64 0, .int .i64 0, .int .i64 0, .int .i64 0, .int .i64 0, .int .i64 0, .int .i64 0, .int .i64 0, .int .i64 0, .int .i64 0, .int .i64 0, .int .i64 0, .int .i64 0, .slice none 0 0, .int .i64 0, .int .i64 0, .int .i64 0, .int .i64 0, .int .i64 0, .int .i64 0, .int .i64 0]
  rw [World.size_alloc] at hR
  have hs := hB.size
  go_enter Tryd.func16,Tryd.ntmps16
  go_upto_region 1 with fail
  generalize ((w.alloc (.cells #[.int .u8 (b0 : Nat), .int .u8 (b1 : Nat), .int .u8 (b2 : Nat), .int .u8 (b3 : Nat), .int .u8 (b4 : Nat), .int .u8 (b5 : Nat), .int .u8 (b6 : Nat), .int .u8 (b7 : Nat), .int .u8 (b8 : Nat), .int .u8 (b9 : Nat)] 23)).alloc (.cells #[.int .i64 0, .string ⟨#[]⟩, .int .i64 0, .int .i64 0, .int .i64 0, .int .i64 0, .int .i64 0, .int .i64 0, .int .i64 0, .int .i64 0, .int .i64 0, .int .i64 0, .int .i64 0, .int .i64 0, .int .i64 0, .int .i64 0, .slice none 0 0, .int .i64 0, .int .i64 0, .int .i64 0, .int .i64 0, .int .i64 0, .int .i64 0, .int .i64 0] 36)) = w1 at *
  have x0 : w1.cell? ⟨w.heap.size,0,none⟩ = some (.int .u8 (b0 : Nat)) := hX.cell 0
  have lt_x := hX.lt
  go_upto_region 2 with (first | (refine wpList_store_row (by rfl) 36 (.tmp 3) (.tmp 8) (by rfl) w1.heap.size #[.int .i64 2, .string ⟨#[]⟩, .int .i64 0, .int .i64 0, .int .i64 0, .int .i64 0, .int .i64 0, .int .i64 0, .int .i64 0, .int .i64 0, .int .i64 0, .int .i64 0, .int .i64 0, .int .i64 0, .int .i64 0, .int .i64 0, .slice none 0 0, .int .i64 0, .int .i64 0, .int .i64 0, .int .i64 0, .int .i64 0, .int .i64 0, .int .i64 0] (by rfl) (by rfl) 36 #[.int .i64 0, .string ⟨#[]⟩, .int .i64 0, .int .i64 0, .int .i64 0, .int .i64 0, .int .i64 0, .int .i64 0, .int .i64 0, .int .i64 0, .int .i64 0, .int .i64 0, .int .i64 0, .int .i64 0, .int .i64 0, .int .i64 0, .slice none 0 0, .int .i64 0, .int .i64 0, .int .i64 0, .int .i64 0, .int .i64 0, .int .i64 0, .int .i64 0] (heap_alloc_new _ _) (by kernel_rfl) rfl (by simp [Value.oneCell']) ?_; rw [World.setRow_alloc_new]) | (refine wpList_build_run _ (by rfl) 36 #[(0, .tmp 7)] (by rfl) #[(0, .int .i64 2)] (by rfl) (bact 2 _) ?_) | (go_at_call 19; first | ((with_reducible refine Calls.mono (rest_any b0 7 _ 7 k7_ _ H0.out (by decide) (by decide) Eq0.out) ?_); rintro e9 w9 ⟨rfl,rfl⟩)))
  clear x0 lt_x
  have hA := Blok.new w1 36 #[.int .i64 2, .string ⟨#[]⟩, .int .i64 0, .int .i64 0, .int .i64 0, .int .i64 0, .int .i64 0, .int .i64 0, .int .i64 0, .int .i64 0, .int .i64 0, .int .i64 0, .int .i64 0, .int .i64 0, .int .i64 0, .int .i64 0, .slice none 0 0, .int .i64 0, .int .i64 0, .int .i64 0, .int .i64 0, .int .i64 0, .int .i64 0, .int .i64 0]
  have hb : Below w1.heap.size w1 (w1.alloc (.cells #[.int .i64 2, .string ⟨#[]⟩, .int .i64 0, .int .i64 0, .int .i64 0, .int .i64 0, .int .i64 0, .int .i64 0, .int .i64 0, .int .i64 0, .int .i64 0, .int .i64 0, .int .i64 0, .int .i64 0, .int .i64 0, .int .i64 0, .slice none 0 0, .int .i64 0, .int .i64 0, .int .i64 0, .int .i64 0, .int .i64 0, .int .i64 0, .int .i64 0] 36)) := by (repeat (first | exact Below.refl _ _ | refine Below.alloc ?_ (by first | omega | (simp; done) | (simp; omega)) _ | refine Below.setCell ?_ (by first | omega | (simp; done) | (simp; omega)) _ | refine Below.drew ?_))
  have lR := hR.lt
  replace hX := hX.below hb hX.lt
  replace hR := hR.below hb hR.lt
  replace hB := hB.trans (hb.mono hs)
  replace hs := hB.size
  clear hb
  generalize w1.alloc (.cells #[.int .i64 2, .string ⟨#[]⟩, .int .i64 0, .int .i64 0, .int .i64 0, .int .i64 0, .int .i64 0, .int .i64 0, .int .i64 0, .int .i64 0, .int .i64 0, .int .i64 0, .int .i64 0, .int .i64 0, .int .i64 0, .int .i64 0, .slice none 0 0, .int .i64 0, .int .i64 0, .int .i64 0, .int .i64 0, .int .i64 0, .int .i64 0, .int .i64 0] 36) = w2 at *
  generalize w1.heap.size = bA at *
  have k0 : w2.cell? ⟨bA,0,none⟩ = some (.int .i64 2) := hA.cell 0
  have k1 : w2.cell? ⟨bA,1,none⟩ = some (.string ⟨#[]⟩) := hA.cell 1
  have k2 : w2.cell? ⟨bA,2,none⟩ = some (.int .i64 0) := hA.cell 2
  have k3 : w2.cell? ⟨bA,3,none⟩ = some (.int .i64 0) := hA.cell 3
  have k4 : w2.cell? ⟨bA,4,none⟩ = some (.int .i64 0) := hA.cell 4
  have k5 : w2.cell? ⟨bA,5,none⟩ = some (.int .i64 0) := hA.cell 5
  have k6 : w2.cell? ⟨bA,6,none⟩ = some (.int .i64 0) := hA.cell 6
  have k7 : w2.cell? ⟨bA,7,none⟩ = some (.int .i64 0) := hA.cell 7
  have k8 : w2.cell? ⟨bA,8,none⟩ = some (.int .i64 0) := hA.cell 8
  have k9 : w2.cell? ⟨bA,9,none⟩ = some (.int .i64 0) := hA.cell 9
  have k10 : w2.cell? ⟨bA,10,none⟩ = some (.int .i64 0) := hA.cell 10
  have k11 : w2.cell? ⟨bA,11,none⟩ = some (.int .i64 0) := hA.cell 11
  have k12 : w2.cell? ⟨bA,12,none⟩ = some (.int .i64 0) := hA.cell 12
  have k13 : w2.cell? ⟨bA,13,none⟩ = some (.int .i64 0) := hA.cell 13
  have k14 : w2.cell? ⟨bA,14,none⟩ = some (.int .i64 0) := hA.cell 14
  have k15 : w2.cell? ⟨bA,15,none⟩ = some (.int .i64 0) := hA.cell 15
  have k16 : w2.cell? ⟨bA,16,none⟩ = some (.slice none 0 0) := hA.cell 16
  have k17 : w2.cell? ⟨bA,17,none⟩ = some (.int .i64 0) := hA.cell 17
  have k18 : w2.cell? ⟨bA,18,none⟩ = some (.int .i64 0) := hA.cell 18
  have k19 : w2.cell? ⟨bA,19,none⟩ = some (.int .i64 0) := hA.cell 19
  have k20 : w2.cell? ⟨bA,20,none⟩ = some (.int .i64 0) := hA.cell 20
  have k21 : w2.cell? ⟨bA,21,none⟩ = some (.int .i64 0) := hA.cell 21
  have k22 : w2.cell? ⟨bA,22,none⟩ = some (.int .i64 0) := hA.cell 22
  have k23 : w2.cell? ⟨bA,23,none⟩ = some (.int .i64 0) := hA.cell 23
  have lt_k := hA.lt
  go_upto_region 6 with fail
  clear k0 k1 k2 k3 k4 k5 k6 k7 k8 k9 k10 k11 k12 k13 k14 k15 k16 k17 k18 k19 k20 k21 k22 k23 lt_k
  have x0 : w2.cell? ⟨w.heap.size,0,none⟩ = some (.int .u8 (b0 : Nat)) := hX.cell 0
  have x1 : w2.cell? ⟨w.heap.size,1,none⟩ = some (.int .u8 (b1 : Nat)) := hX.cell 1
  have x2 : w2.cell? ⟨w.heap.size,2,none⟩ = some (.int .u8 (b2 : Nat)) := hX.cell 2
  have x3 : w2.cell? ⟨w.heap.size,3,none⟩ = some (.int .u8 (b3 : Nat)) := hX.cell 3
  have x4 : w2.cell? ⟨w.heap.size,4,none⟩ = some (.int .u8 (b4 : Nat)) := hX.cell 4
  have x5 : w2.cell? ⟨w.heap.size,5,none⟩ = some (.int .u8 (b5 : Nat)) := hX.cell 5
  have x6 : w2.cell? ⟨w.heap.size,6,none⟩ = some (.int .u8 (b6 : Nat)) := hX.cell 6
  have x7 : w2.cell? ⟨w.heap.size,7,none⟩ = some (.int .u8 (b7 : Nat)) := hX.cell 7
  have x8 : w2.cell? ⟨w.heap.size,8,none⟩ = some (.int .u8 (b8 : Nat)) := hX.cell 8
  have x9 : w2.cell? ⟨w.heap.size,9,none⟩ = some (.int .u8 (b9 : Nat)) := hX.cell 9
  have lt_x := hX.lt
  go_wp2_with fail
  refine (sdir_any b0 b1 b2 b3 b4 b5 b6 b7 b8 b9 w2 H0.out H1.out H2.out H3.out H4.out H5.out H6.out H7.out H8.out H9.out D ED.out).mono ?_
  rintro e w3 ⟨rfl,hb⟩
  clear x0 x1 x2 x3 x4 x5 x6 x7 x8 x9 lt_x
  replace hX := hX.below hb hX.lt
  replace hR := hR.below hb hR.lt
  replace hA := hA.below hb hA.lt
  replace hB := hB.trans (hb.mono hs)
  replace hs := hB.size
  clear hb
  have hth := hA.there_ 2 13 (by simp)
  go_upto_region 18 with (refine wpList_store_mid (by rfl) 31 (.tmp 20) (.tmp 19) (by rfl) bA 2 #[.int .i64 D.op, .int .i64 D.kd, .int .i64 D.id, .int .i64 D.fr, .int .i64 D.tn, .int .i64 D.st, .int .i64 D.en, .int .i64 D.rt, .int .i64 D.rf, .int .i64 D.rn, .int .i64 D.rs, .int .i64 D.re, .int .i64 D.ro] (by rfl) (by rfl) hth (by kernel_rfl) (by simp [Value.oneCell']) ?_; obtain ⟨w4,hw4⟩ : ∃ x,x = w3.setCells bA 2 (#[.int .i64 D.op, .int .i64 D.kd, .int .i64 D.id, .int .i64 D.fr, .int .i64 D.tn, .int .i64 D.st, .int .i64 D.en, .int .i64 D.rt, .int .i64 D.rf, .int .i64 D.rn, .int .i64 D.rs, .int .i64 D.re, .int .i64 D.ro] : Array Value).toList := ⟨_,rfl⟩; rw [← hw4])
  have hgs := grown_sets (b := bA) [.int .i64 D.op, .int .i64 D.kd, .int .i64 D.id, .int .i64 D.fr, .int .i64 D.tn, .int .i64 D.st, .int .i64 D.en, .int .i64 D.rt, .int .i64 D.rf, .int .i64 D.rn, .int .i64 D.rs, .int .i64 D.re, .int .i64 D.ro] 2 w3
  have hA2 : Blok w4 bA 36 #[.int .i64 2, .string ⟨#[]⟩, .int .i64 D.op, .int .i64 D.kd, .int .i64 D.id, .int .i64 D.fr, .int .i64 D.tn, .int .i64 D.st, .int .i64 D.en, .int .i64 D.rt, .int .i64 D.rf, .int .i64 D.rn, .int .i64 D.rs, .int .i64 D.re, .int .i64 D.ro, .int .i64 0, .slice none 0 0, .int .i64 0, .int .i64 0, .int .i64 0, .int .i64 0, .int .i64 0, .int .i64 0, .int .i64 0] := by rw [hw4]; exact Blok.sets [.int .i64 D.op, .int .i64 D.kd, .int .i64 D.id, .int .i64 D.fr, .int .i64 D.tn, .int .i64 D.st, .int .i64 D.en, .int .i64 D.rt, .int .i64 D.rf, .int .i64 D.rn, .int .i64 D.rs, .int .i64 D.re, .int .i64 D.ro] 2 w3 [.int .i64 2, .string ⟨#[]⟩, .int .i64 0, .int .i64 0, .int .i64 0, .int .i64 0, .int .i64 0, .int .i64 0, .int .i64 0, .int .i64 0, .int .i64 0, .int .i64 0, .int .i64 0, .int .i64 0, .int .i64 0, .int .i64 0, .slice none 0 0, .int .i64 0, .int .i64 0, .int .i64 0, .int .i64 0, .int .i64 0, .int .i64 0, .int .i64 0] hA (by simp)
  have hX2 : Blok w4 w.heap.size 23 #[.int .u8 (b0 : Nat), .int .u8 (b1 : Nat), .int .u8 (b2 : Nat), .int .u8 (b3 : Nat), .int .u8 (b4 : Nat), .int .u8 (b5 : Nat), .int .u8 (b6 : Nat), .int .u8 (b7 : Nat), .int .u8 (b8 : Nat), .int .u8 (b9 : Nat)] := by rw [hw4]; exact hX.grown hgs (by simp only [ne_eq,Option.some.injEq]; omega)
  have hR2 : Blok w4 (w.heap.size + 1) 36 #[.int .i64 0, .string ⟨#[]⟩, .int .i64 0, .int .i64 0, .int .i64 0, .int .i64 0, .int .i64 0, .int .i64 0, .int .i64 0, .int .i64 0, .int .i64 0, .int .i64 0, .int .i64 0, .int .i64 0, .int .i64 0, .int .i64 0, .slice none 0 0, .int .i64 0, .int .i64 0, .int .i64 0, .int .i64 0, .int .i64 0, .int .i64 0, .int .i64 0] := by rw [hw4]; exact hR.grown hgs (by simp only [ne_eq,Option.some.injEq]; omega)
  have hB2 : Below w.heap.size w w4 := by rw [hw4]; exact hB.grown hgs hs (fun k hk => by injection hk with hk; omega)
  clear hgs
  clear hA hX hR hB hs hth hw4
  have hA := hA2
  have hX := hX2
  have hR := hR2
  have hB := hB2
  have hs := hB.size
  clear hA2 hX2 hR2 hB2
  have hF := setRow_heap w4 (w.heap.size + 1) #[.int .i64 0, .string ⟨#[]⟩, .int .i64 0, .int .i64 0, .int .i64 0, .int .i64 0, .int .i64 0, .int .i64 0, .int .i64 0, .int .i64 0, .int .i64 0, .int .i64 0, .int .i64 0, .int .i64 0, .int .i64 0, .int .i64 0, .slice none 0 0, .int .i64 0, .int .i64 0, .int .i64 0, .int .i64 0, .int .i64 0, .int .i64 0, .int .i64 0] #[.int .i64 2, .string ⟨#[]⟩, .int .i64 D.op, .int .i64 D.kd, .int .i64 D.id, .int .i64 D.fr, .int .i64 D.tn, .int .i64 D.st, .int .i64 D.en, .int .i64 D.rt, .int .i64 D.rf, .int .i64 D.rn, .int .i64 D.rs, .int .i64 D.re, .int .i64 D.ro, .int .i64 0, .slice none 0 0, .int .i64 0, .int .i64 0, .int .i64 0, .int .i64 0, .int .i64 0, .int .i64 0, .int .i64 0] 36 (0,0) hR
  have hWf := below_setRow hB (g := w.heap.size + 1) (by omega) #[.int .i64 2, .string ⟨#[]⟩, .int .i64 D.op, .int .i64 D.kd, .int .i64 D.id, .int .i64 D.fr, .int .i64 D.tn, .int .i64 D.st, .int .i64 D.en, .int .i64 D.rt, .int .i64 D.rf, .int .i64 D.rn, .int .i64 D.rs, .int .i64 D.re, .int .i64 D.ro, .int .i64 0, .slice none 0 0, .int .i64 0, .int .i64 0, .int .i64 0, .int .i64 0, .int .i64 0, .int .i64 0, .int .i64 0]
  have hgw := grown_setRow w4 (w.heap.size + 1) #[.int .i64 2, .string ⟨#[]⟩, .int .i64 D.op, .int .i64 D.kd, .int .i64 D.id, .int .i64 D.fr, .int .i64 D.tn, .int .i64 D.st, .int .i64 D.en, .int .i64 D.rt, .int .i64 D.rf, .int .i64 D.rn, .int .i64 D.rs, .int .i64 D.re, .int .i64 D.ro, .int .i64 0, .slice none 0 0, .int .i64 0, .int .i64 0, .int .i64 0, .int .i64 0, .int .i64 0, .int .i64 0, .int .i64 0]
  have hA' := hA
  have hR' := hR
  go_wp2_with (first | (refine wpList_load_row (by rfl) 36 (.tmp 3) (by rfl) bA (by rfl) 36 #[.int .i64 2, .string ⟨#[]⟩, .int .i64 D.op, .int .i64 D.kd, .int .i64 D.id, .int .i64 D.fr, .int .i64 D.tn, .int .i64 D.st, .int .i64 D.en, .int .i64 D.rt, .int .i64 D.rf, .int .i64 D.rn, .int .i64 D.rs, .int .i64 D.re, .int .i64 D.ro, .int .i64 0, .slice none 0 0, .int .i64 0, .int .i64 0, .int .i64 0, .int .i64 0, .int .i64 0, .int .i64 0, .int .i64 0] (0,0) _ hA' Tryd.underlying36 rfl (by kernel_rfl) ?_) | (refine wpList_store_row (by rfl) 36 (.tmp 2) (.tmp 79) (by rfl) (w.heap.size + 1) #[.int .i64 2, .string ⟨#[]⟩, .int .i64 D.op, .int .i64 D.kd, .int .i64 D.id, .int .i64 D.fr, .int .i64 D.tn, .int .i64 D.st, .int .i64 D.en, .int .i64 D.rt, .int .i64 D.rf, .int .i64 D.rn, .int .i64 D.rs, .int .i64 D.re, .int .i64 D.ro, .int .i64 0, .slice none 0 0, .int .i64 0, .int .i64 0, .int .i64 0, .int .i64 0, .int .i64 0, .int .i64 0, .int .i64 0] (by rfl) (by rfl) 36 #[.int .i64 0, .string ⟨#[]⟩, .int .i64 0, .int .i64 0, .int .i64 0, .int .i64 0, .int .i64 0, .int .i64 0, .int .i64 0, .int .i64 0, .int .i64 0, .int .i64 0, .int .i64 0, .int .i64 0, .int .i64 0, .int .i64 0, .slice none 0 0, .int .i64 0, .int .i64 0, .int .i64 0, .int .i64 0, .int .i64 0, .int .i64 0, .int .i64 0] hR' (by kernel_rfl) rfl (by simp [Value.oneCell']) ?_))
  refine bodyPost_ret (results_cell_row Tryd.results16 _ _ (w.heap.size + 1) 36 #[.int .i64 2, .string ⟨#[]⟩, .int .i64 D.op, .int .i64 D.kd, .int .i64 D.id, .int .i64 D.fr, .int .i64 D.tn, .int .i64 D.st, .int .i64 D.en, .int .i64 D.rt, .int .i64 D.rf, .int .i64 D.rn, .int .i64 D.rs, .int .i64 D.re, .int .i64 D.ro, .int .i64 0, .slice none 0 0, .int .i64 0, .int .i64 0, .int .i64 0, .int .i64 0, .int .i64 0, .int .i64 0, .int .i64 0] (0,0) _ (by rfl) hF Tryd.underlying36 rfl (by kernel_rfl)) rfl ?_
  exact ⟨_,rfl,⟨none,0,0,by rw [← HP.out]; rfl,by rw [← HP.out]; exact own_none _ _ _ _,by rw [← HP.out]; rfl⟩,hWf⟩
end Go.Proofs.YtggdomeeienjbaaDoor

/- Package script: act, kind 2. No condition but that bytes are bytes. -/
namespace Go.Proofs.YtggdomeeienjbaaDoor
open Go.ChangeShapes Go.WideShapes Go.ChangeAt Go.RowKit Go.Sort
set_option linter.unusedSimpArgs false
set_option linter.unusedVariables false
set_option maxHeartbeats 16000000 in
set_option maxRecDepth 100000 in
theorem sact_2 (b0 b1 b2 b3 b4 b5 b6 b7 b8 b9 : Nat) (w : World) (ht : TenTab w) (h0 : b0 < 256) (h1 : b1 < 256) (h2 : b2 < 256) (h3 : b3 < 256) (h4 : b4 < 256) (h5 : b5 < 256) (h6 : b6 < 256) (h7 : b7 < 256) (h8 : b8 < 256) (h9 : b9 < 256) (P : Pa) (hq : b0 % 7 = 2) (hP : (⟨3,[],zeroDr,(b1 : Nat),[],0,0,0,0,0,0,0⟩ : Pa) = P) :
    Calls Tryd.prog 16 #[.agg #[.int .u8 (b0 : Nat), .int .u8 (b1 : Nat), .int .u8 (b2 : Nat), .int .u8 (b3 : Nat), .int .u8 (b4 : Nat), .int .u8 (b5 : Nat), .int .u8 (b6 : Nat), .int .u8 (b7 : Nat), .int .u8 (b8 : Nat), .int .u8 (b9 : Nat)]] w fun e w' => ∃ v,e = .returned v ∧ AV w.heap.size w' v P ∧ Below w.heap.size w w' := by
  have Eq0 : Hid (b0 % 7 = 2) := hq
  have HP := Lib.hid hP
  have TT := Lib.hid ht
  have H0 := Lib.hid h0
  have H1 := Lib.hid h1
  have H2 := Lib.hid h2
  have H3 := Lib.hid h3
  have H4 := Lib.hid h4
  have H5 := Lib.hid h5
  have H6 := Lib.hid h6
  have H7 := Lib.hid h7
  have H8 := Lib.hid h8
  have H9 := Lib.hid h9
  have vb1 : IntKind.i64.wrap (b1 : Int) = (b1 : Int) := IntWalk.i64_in _ (by omega)
  have vb3 : IntKind.i64.wrap (b3 : Int) = (b3 : Int) := IntWalk.i64_in _ (by omega)
  have vb5 : IntKind.i64.wrap (b5 : Int) = (b5 : Int) := IntWalk.i64_in _ (by omega)
  have v45 : IntKind.i64.wrap (4 * (b5 : Int)) = 4 * (b5 : Int) := IntWalk.i64_in _ (by omega)
  clear hP ht hq  h0 h1 h2 h3 h4 h5 h6 h7 h8 h9
  have hB : Below w.heap.size w ((w.alloc (.cells #[.int .u8 (b0 : Nat), .int .u8 (b1 : Nat), .int .u8 (b2 : Nat), .int .u8 (b3 : Nat), .int .u8 (b4 : Nat), .int .u8 (b5 : Nat), .int .u8 (b6 : Nat), .int .u8 (b7 : Nat), .int .u8 (b8 : Nat), .int .u8 (b9 : Nat)] 23)).alloc (.cells #[.int .i64 0, .string ⟨#[]⟩, .int .i64 0, .int .i64 0, .int .i64 0, .int .i64 0, .int .i64 0, .int .i64 0, .int .i64 0, .int .i64 0, .int .i64 0, .int .i64 0, .int .i64 0, .int .i64 0, .int .i64 0, .int .i64 0, .slice none 0 0, .int .i64 0, .int .i64 0, .int .i64 0, .int .i64 0, .int .i64 0, .int .i64 0, .int .i64 0] 36)) := by (repeat (first | exact Below.refl _ _ | refine Below.alloc ?_ (by first | omega | (simp; done) | (simp; omega)) _ | refine Below.setCell ?_ (by first | omega | (simp; done) | (simp; omega)) _ | refine Below.drew ?_))
  have hX := (Blok.new w 23 #[.int .u8 (b0 : Nat), .int .u8 (b1 : Nat), .int .u8 (b2 : Nat), .int .u8 (b3 : Nat), .int .u8 (b4 : Nat), .int .u8 (b5 : Nat), .int .u8 (b6 : Nat), .int .u8 (b7 : Nat), .int .u8 (b8 : Nat), .int .u8 (b9 : Nat)]).alloc (.cells #[.int .i64 0, .string ⟨#[]⟩, .int .i64 0, .int .i64 0, .int .i64 0, .int .i64 0, .int .i64 0, .int .i64 0, .int .i64 0, .int .i64 0, .int .i64 0, .int .i64 0, .int .i64 0, .int .i64 0, .int .i64 0, .int .i64 0, .slice none 0 0, .int .i64 0, .int .i64 0, .int .i64 0, .int .i64 0, .int .i64 0, .int .i64 0, .int .i64 0] 36)
  have hR := Blok.new (w.alloc (.cells #[.int .u8 (b0 : Nat), .int .u8 (b1 : Nat), .int .u8 (b2 : Nat), .int .u8 (b3 : Nat), .int .u8 (b4 : Nat), .int .u8 (b5 : Nat), .int .u8 (b6 : Nat), .int .u8 (b7 : Nat), .int .u8 (b8 : Nat), .int .u8 (b9 : Nat)] 23)) 36 #[.int .i64 0, .string ⟨#[]⟩, .int .i64 0, .int .i64 0, .int .i64 0, .int .i64 0, .int .i64 0, .int .i64 0, .int .i64 0, .int .i64 0, .int .i64 0, .int .i64 0, .int .i64 0, .int .i64 0, .int .i64 0, .int .i64 0, .slice none 0 0, .int .i64 0, .int .i64 0, .int .i64 0, .int .i64 0, .int .i64 0, .int .i64 0, .int .i64 0]
  rw [World.size_alloc] at hR
  have hs := hB.size
  go_enter Tryd.func16,Tryd.ntmps16
  go_upto_region 1 with fail
  generalize ((w.alloc (.cells #[.int .u8 (b0 : Nat), .int .u8 (b1 : Nat), .int .u8 (b2 : Nat), .int .u8 (b3 : Nat), .int .u8 (b4 : Nat), .int .u8 (b5 : Nat), .int .u8 (b6 : Nat), .int .u8 (b7 : Nat), .int .u8 (b8 : Nat), .int .u8 (b9 : Nat)] 23)).alloc (.cells #[.int .i64 0, .string ⟨#[]⟩, .int .i64 0, .int .i64 0, .int .i64 0, .int .i64 0, .int .i64 0, .int .i64 0, .int .i64 0, .int .i64 0, .int .i64 0, .int .i64 0, .int .i64 0, .int .i64 0, .int .i64 0, .int .i64 0, .slice none 0 0, .int .i64 0, .int .i64 0, .int .i64 0, .int .i64 0, .int .i64 0, .int .i64 0, .int .i64 0] 36)) = w1 at *
  have x0 : w1.cell? ⟨w.heap.size,0,none⟩ = some (.int .u8 (b0 : Nat)) := hX.cell 0
  have lt_x := hX.lt
  go_upto_region 2 with (first | (refine wpList_store_row (by rfl) 36 (.tmp 3) (.tmp 8) (by rfl) w1.heap.size #[.int .i64 3, .string ⟨#[]⟩, .int .i64 0, .int .i64 0, .int .i64 0, .int .i64 0, .int .i64 0, .int .i64 0, .int .i64 0, .int .i64 0, .int .i64 0, .int .i64 0, .int .i64 0, .int .i64 0, .int .i64 0, .int .i64 0, .slice none 0 0, .int .i64 0, .int .i64 0, .int .i64 0, .int .i64 0, .int .i64 0, .int .i64 0, .int .i64 0] (by rfl) (by rfl) 36 #[.int .i64 0, .string ⟨#[]⟩, .int .i64 0, .int .i64 0, .int .i64 0, .int .i64 0, .int .i64 0, .int .i64 0, .int .i64 0, .int .i64 0, .int .i64 0, .int .i64 0, .int .i64 0, .int .i64 0, .int .i64 0, .int .i64 0, .slice none 0 0, .int .i64 0, .int .i64 0, .int .i64 0, .int .i64 0, .int .i64 0, .int .i64 0, .int .i64 0] (heap_alloc_new _ _) (by kernel_rfl) rfl (by simp [Value.oneCell']) ?_; rw [World.setRow_alloc_new]) | (refine wpList_build_run _ (by rfl) 36 #[(0, .tmp 7)] (by rfl) #[(0, .int .i64 3)] (by rfl) (bact 3 _) ?_) | (go_at_call 19; first | ((with_reducible refine Calls.mono (rest_any b0 7 _ 7 k7_ _ H0.out (by decide) (by decide) Eq0.out) ?_); rintro e9 w9 ⟨rfl,rfl⟩)))
  clear x0 lt_x
  have hA := Blok.new w1 36 #[.int .i64 3, .string ⟨#[]⟩, .int .i64 0, .int .i64 0, .int .i64 0, .int .i64 0, .int .i64 0, .int .i64 0, .int .i64 0, .int .i64 0, .int .i64 0, .int .i64 0, .int .i64 0, .int .i64 0, .int .i64 0, .int .i64 0, .slice none 0 0, .int .i64 0, .int .i64 0, .int .i64 0, .int .i64 0, .int .i64 0, .int .i64 0, .int .i64 0]
  have hb : Below w1.heap.size w1 (w1.alloc (.cells #[.int .i64 3, .string ⟨#[]⟩, .int .i64 0, .int .i64 0, .int .i64 0, .int .i64 0, .int .i64 0, .int .i64 0, .int .i64 0, .int .i64 0, .int .i64 0, .int .i64 0, .int .i64 0, .int .i64 0, .int .i64 0, .int .i64 0, .slice none 0 0, .int .i64 0, .int .i64 0, .int .i64 0, .int .i64 0, .int .i64 0, .int .i64 0, .int .i64 0] 36)) := by (repeat (first | exact Below.refl _ _ | refine Below.alloc ?_ (by first | omega | (simp; done) | (simp; omega)) _ | refine Below.setCell ?_ (by first | omega | (simp; done) | (simp; omega)) _ | refine Below.drew ?_))
  have lR := hR.lt
  replace hX := hX.below hb hX.lt
  replace hR := hR.below hb hR.lt
  replace hB := hB.trans (hb.mono hs)
  replace hs := hB.size
  clear hb
  generalize w1.alloc (.cells #[.int .i64 3, .string ⟨#[]⟩, .int .i64 0, .int .i64 0, .int .i64 0, .int .i64 0, .int .i64 0, .int .i64 0, .int .i64 0, .int .i64 0, .int .i64 0, .int .i64 0, .int .i64 0, .int .i64 0, .int .i64 0, .int .i64 0, .slice none 0 0, .int .i64 0, .int .i64 0, .int .i64 0, .int .i64 0, .int .i64 0, .int .i64 0, .int .i64 0] 36) = w2 at *
  generalize w1.heap.size = bA at *
  have k0 : w2.cell? ⟨bA,0,none⟩ = some (.int .i64 3) := hA.cell 0
  have k1 : w2.cell? ⟨bA,1,none⟩ = some (.string ⟨#[]⟩) := hA.cell 1
  have k2 : w2.cell? ⟨bA,2,none⟩ = some (.int .i64 0) := hA.cell 2
  have k3 : w2.cell? ⟨bA,3,none⟩ = some (.int .i64 0) := hA.cell 3
  have k4 : w2.cell? ⟨bA,4,none⟩ = some (.int .i64 0) := hA.cell 4
  have k5 : w2.cell? ⟨bA,5,none⟩ = some (.int .i64 0) := hA.cell 5
  have k6 : w2.cell? ⟨bA,6,none⟩ = some (.int .i64 0) := hA.cell 6
  have k7 : w2.cell? ⟨bA,7,none⟩ = some (.int .i64 0) := hA.cell 7
  have k8 : w2.cell? ⟨bA,8,none⟩ = some (.int .i64 0) := hA.cell 8
  have k9 : w2.cell? ⟨bA,9,none⟩ = some (.int .i64 0) := hA.cell 9
  have k10 : w2.cell? ⟨bA,10,none⟩ = some (.int .i64 0) := hA.cell 10
  have k11 : w2.cell? ⟨bA,11,none⟩ = some (.int .i64 0) := hA.cell 11
  have k12 : w2.cell? ⟨bA,12,none⟩ = some (.int .i64 0) := hA.cell 12
  have k13 : w2.cell? ⟨bA,13,none⟩ = some (.int .i64 0) := hA.cell 13
  have k14 : w2.cell? ⟨bA,14,none⟩ = some (.int .i64 0) := hA.cell 14
  have k15 : w2.cell? ⟨bA,15,none⟩ = some (.int .i64 0) := hA.cell 15
  have k16 : w2.cell? ⟨bA,16,none⟩ = some (.slice none 0 0) := hA.cell 16
  have k17 : w2.cell? ⟨bA,17,none⟩ = some (.int .i64 0) := hA.cell 17
  have k18 : w2.cell? ⟨bA,18,none⟩ = some (.int .i64 0) := hA.cell 18
  have k19 : w2.cell? ⟨bA,19,none⟩ = some (.int .i64 0) := hA.cell 19
  have k20 : w2.cell? ⟨bA,20,none⟩ = some (.int .i64 0) := hA.cell 20
  have k21 : w2.cell? ⟨bA,21,none⟩ = some (.int .i64 0) := hA.cell 21
  have k22 : w2.cell? ⟨bA,22,none⟩ = some (.int .i64 0) := hA.cell 22
  have k23 : w2.cell? ⟨bA,23,none⟩ = some (.int .i64 0) := hA.cell 23
  have lt_k := hA.lt
  go_upto_region 8 with fail
  clear k0 k1 k2 k3 k4 k5 k6 k7 k8 k9 k10 k11 k12 k13 k14 k15 k16 k17 k18 k19 k20 k21 k22 k23 lt_k
  have x1 : w2.cell? ⟨w.heap.size,1,none⟩ = some (.int .u8 (b1 : Nat)) := hX.cell 1
  have lt_x := hX.lt
  have k0 : w2.cell? ⟨bA,0,none⟩ = some (.int .i64 3) := hA.cell 0
  have g0 := hA.free 0
  have k1 : w2.cell? ⟨bA,1,none⟩ = some (.string ⟨#[]⟩) := hA.cell 1
  have g1 := hA.free 1
  have k2 : w2.cell? ⟨bA,2,none⟩ = some (.int .i64 0) := hA.cell 2
  have g2 := hA.free 2
  have k3 : w2.cell? ⟨bA,3,none⟩ = some (.int .i64 0) := hA.cell 3
  have g3 := hA.free 3
  have k4 : w2.cell? ⟨bA,4,none⟩ = some (.int .i64 0) := hA.cell 4
  have g4 := hA.free 4
  have k5 : w2.cell? ⟨bA,5,none⟩ = some (.int .i64 0) := hA.cell 5
  have g5 := hA.free 5
  have k6 : w2.cell? ⟨bA,6,none⟩ = some (.int .i64 0) := hA.cell 6
  have g6 := hA.free 6
  have k7 : w2.cell? ⟨bA,7,none⟩ = some (.int .i64 0) := hA.cell 7
  have g7 := hA.free 7
  have k8 : w2.cell? ⟨bA,8,none⟩ = some (.int .i64 0) := hA.cell 8
  have g8 := hA.free 8
  have k9 : w2.cell? ⟨bA,9,none⟩ = some (.int .i64 0) := hA.cell 9
  have g9 := hA.free 9
  have k10 : w2.cell? ⟨bA,10,none⟩ = some (.int .i64 0) := hA.cell 10
  have g10 := hA.free 10
  have k11 : w2.cell? ⟨bA,11,none⟩ = some (.int .i64 0) := hA.cell 11
  have g11 := hA.free 11
  have k12 : w2.cell? ⟨bA,12,none⟩ = some (.int .i64 0) := hA.cell 12
  have g12 := hA.free 12
  have k13 : w2.cell? ⟨bA,13,none⟩ = some (.int .i64 0) := hA.cell 13
  have g13 := hA.free 13
  have k14 : w2.cell? ⟨bA,14,none⟩ = some (.int .i64 0) := hA.cell 14
  have g14 := hA.free 14
  have k15 : w2.cell? ⟨bA,15,none⟩ = some (.int .i64 0) := hA.cell 15
  have g15 := hA.free 15
  have k16 : w2.cell? ⟨bA,16,none⟩ = some (.slice none 0 0) := hA.cell 16
  have g16 := hA.free 16
  have k17 : w2.cell? ⟨bA,17,none⟩ = some (.int .i64 0) := hA.cell 17
  have g17 := hA.free 17
  have k18 : w2.cell? ⟨bA,18,none⟩ = some (.int .i64 0) := hA.cell 18
  have g18 := hA.free 18
  have k19 : w2.cell? ⟨bA,19,none⟩ = some (.int .i64 0) := hA.cell 19
  have g19 := hA.free 19
  have k20 : w2.cell? ⟨bA,20,none⟩ = some (.int .i64 0) := hA.cell 20
  have g20 := hA.free 20
  have k21 : w2.cell? ⟨bA,21,none⟩ = some (.int .i64 0) := hA.cell 21
  have g21 := hA.free 21
  have k22 : w2.cell? ⟨bA,22,none⟩ = some (.int .i64 0) := hA.cell 22
  have g22 := hA.free 22
  have k23 : w2.cell? ⟨bA,23,none⟩ = some (.int .i64 0) := hA.cell 23
  have g23 := hA.free 23
  have lt_k := hA.lt
  go_upto_region 18 with fail
  clear k0 g0 k1 g1 k2 g2 k3 g3 k4 g4 k5 g5 k6 g6 k7 g7 k8 g8 k9 g9 k10 g10 k11 g11 k12 g12 k13 g13 k14 g14 k15 g15 k16 g16 k17 g17 k18 g18 k19 g19 k20 g20 k21 g21 k22 g22 k23 g23 lt_k
  clear x1 lt_x
  have hA2 : Blok (w2.setCell ⟨bA,15,none⟩ (.int .i64 (b1 : Int))) bA 36 #[.int .i64 3, .string ⟨#[]⟩, .int .i64 0, .int .i64 0, .int .i64 0, .int .i64 0, .int .i64 0, .int .i64 0, .int .i64 0, .int .i64 0, .int .i64 0, .int .i64 0, .int .i64 0, .int .i64 0, .int .i64 0, .int .i64 (b1 : Int), .slice none 0 0, .int .i64 0, .int .i64 0, .int .i64 0, .int .i64 0, .int .i64 0, .int .i64 0, .int .i64 0] := by exact (hA.set_ 15 (.int .i64 (b1 : Int)))
  replace hX := (hX.far (p := ⟨bA,15,none⟩) (by simp only; omega) (.int .i64 (b1 : Int)))
  replace hR := (hR.far (p := ⟨bA,15,none⟩) (by simp only; omega) (.int .i64 (b1 : Int)))
  replace hB := (hB.setCell (p := ⟨bA,15,none⟩) (by simp only; omega) (.int .i64 (b1 : Int)))
  replace hs := hB.size
  clear hA
  have hA := hA2
  clear hA2
  generalize (w2.setCell ⟨bA,15,none⟩ (.int .i64 (b1 : Int))) = w4 at *
  have hF := setRow_heap w4 (w.heap.size + 1) #[.int .i64 0, .string ⟨#[]⟩, .int .i64 0, .int .i64 0, .int .i64 0, .int .i64 0, .int .i64 0, .int .i64 0, .int .i64 0, .int .i64 0, .int .i64 0, .int .i64 0, .int .i64 0, .int .i64 0, .int .i64 0, .int .i64 0, .slice none 0 0, .int .i64 0, .int .i64 0, .int .i64 0, .int .i64 0, .int .i64 0, .int .i64 0, .int .i64 0] #[.int .i64 3, .string ⟨#[]⟩, .int .i64 0, .int .i64 0, .int .i64 0, .int .i64 0, .int .i64 0, .int .i64 0, .int .i64 0, .int .i64 0, .int .i64 0, .int .i64 0, .int .i64 0, .int .i64 0, .int .i64 0, .int .i64 (b1 : Int), .slice none 0 0, .int .i64 0, .int .i64 0, .int .i64 0, .int .i64 0, .int .i64 0, .int .i64 0, .int .i64 0] 36 (0,0) hR
  have hWf := below_setRow hB (g := w.heap.size + 1) (by omega) #[.int .i64 3, .string ⟨#[]⟩, .int .i64 0, .int .i64 0, .int .i64 0, .int .i64 0, .int .i64 0, .int .i64 0, .int .i64 0, .int .i64 0, .int .i64 0, .int .i64 0, .int .i64 0, .int .i64 0, .int .i64 0, .int .i64 (b1 : Int), .slice none 0 0, .int .i64 0, .int .i64 0, .int .i64 0, .int .i64 0, .int .i64 0, .int .i64 0, .int .i64 0]
  have hgw := grown_setRow w4 (w.heap.size + 1) #[.int .i64 3, .string ⟨#[]⟩, .int .i64 0, .int .i64 0, .int .i64 0, .int .i64 0, .int .i64 0, .int .i64 0, .int .i64 0, .int .i64 0, .int .i64 0, .int .i64 0, .int .i64 0, .int .i64 0, .int .i64 0, .int .i64 (b1 : Int), .slice none 0 0, .int .i64 0, .int .i64 0, .int .i64 0, .int .i64 0, .int .i64 0, .int .i64 0, .int .i64 0]
  have hA' := hA
  have hR' := hR
  go_wp2_with (first | (refine wpList_load_row (by rfl) 36 (.tmp 3) (by rfl) bA (by rfl) 36 #[.int .i64 3, .string ⟨#[]⟩, .int .i64 0, .int .i64 0, .int .i64 0, .int .i64 0, .int .i64 0, .int .i64 0, .int .i64 0, .int .i64 0, .int .i64 0, .int .i64 0, .int .i64 0, .int .i64 0, .int .i64 0, .int .i64 (b1 : Int), .slice none 0 0, .int .i64 0, .int .i64 0, .int .i64 0, .int .i64 0, .int .i64 0, .int .i64 0, .int .i64 0] (0,0) _ hA' Tryd.underlying36 rfl (by kernel_rfl) ?_) | (refine wpList_store_row (by rfl) 36 (.tmp 2) (.tmp 79) (by rfl) (w.heap.size + 1) #[.int .i64 3, .string ⟨#[]⟩, .int .i64 0, .int .i64 0, .int .i64 0, .int .i64 0, .int .i64 0, .int .i64 0, .int .i64 0, .int .i64 0, .int .i64 0, .int .i64 0, .int .i64 0, .int .i64 0, .int .i64 0, .int .i64 (b1 : Int), .slice none 0 0, .int .i64 0, .int .i64 0, .int .i64 0, .int .i64 0, .int .i64 0, .int .i64 0, .int .i64 0] (by rfl) (by rfl) 36 #[.int .i64 0, .string ⟨#[]⟩, .int .i64 0, .int .i64 0, .int .i64 0, .int .i64 0, .int .i64 0, .int .i64 0, .int .i64 0, .int .i64 0, .int .i64 0, .int .i64 0, .int .i64 0, .int .i64 0, .int .i64 0, .int .i64 0, .slice none 0 0, .int .i64 0, .int .i64 0, .int .i64 0, .int .i64 0, .int .i64 0, .int .i64 0, .int .i64 0] hR' (by kernel_rfl) rfl (by simp [Value.oneCell']) ?_))
  refine bodyPost_ret (results_cell_row Tryd.results16 _ _ (w.heap.size + 1) 36 #[.int .i64 3, .string ⟨#[]⟩, .int .i64 0, .int .i64 0, .int .i64 0, .int .i64 0, .int .i64 0, .int .i64 0, .int .i64 0, .int .i64 0, .int .i64 0, .int .i64 0, .int .i64 0, .int .i64 0, .int .i64 0, .int .i64 (b1 : Int), .slice none 0 0, .int .i64 0, .int .i64 0, .int .i64 0, .int .i64 0, .int .i64 0, .int .i64 0, .int .i64 0] (0,0) _ (by rfl) hF Tryd.underlying36 rfl (by kernel_rfl)) rfl ?_
  exact ⟨_,rfl,⟨none,0,0,by rw [← HP.out]; rfl,by rw [← HP.out]; exact own_none _ _ _ _,by rw [← HP.out]; rfl⟩,hWf⟩
end Go.Proofs.YtggdomeeienjbaaDoor

/- Package script: act, kind 3. No condition but that bytes are bytes. -/
namespace Go.Proofs.YtggdomeeienjbaaDoor
open Go.ChangeShapes Go.WideShapes Go.ChangeAt Go.RowKit Go.Sort
set_option linter.unusedSimpArgs false
set_option linter.unusedVariables false
set_option maxHeartbeats 16000000 in
set_option maxRecDepth 100000 in
theorem sact_3 (b0 b1 b2 b3 b4 b5 b6 b7 b8 b9 : Nat) (w : World) (ht : TenTab w) (h0 : b0 < 256) (h1 : b1 < 256) (h2 : b2 < 256) (h3 : b3 < 256) (h4 : b4 < 256) (h5 : b5 < 256) (h6 : b6 < 256) (h7 : b7 < 256) (h8 : b8 < 256) (h9 : b9 < 256) (P : Pa) (hq : b0 % 7 = 3) (hP : (⟨4,[],zeroDr,0,idsF b1 b2 b3,(b4 % 4 : Nat),(b5 : Nat),0,0,0,0,0⟩ : Pa) = P) :
    Calls Tryd.prog 16 #[.agg #[.int .u8 (b0 : Nat), .int .u8 (b1 : Nat), .int .u8 (b2 : Nat), .int .u8 (b3 : Nat), .int .u8 (b4 : Nat), .int .u8 (b5 : Nat), .int .u8 (b6 : Nat), .int .u8 (b7 : Nat), .int .u8 (b8 : Nat), .int .u8 (b9 : Nat)]] w fun e w' => ∃ v,e = .returned v ∧ AV w.heap.size w' v P ∧ Below w.heap.size w w' := by
  have Eq0 : Hid (b0 % 7 = 3) := hq
  obtain ⟨q4,eq4⟩ : ∃ q,b4 % 4 = q := ⟨_,rfl⟩
  have lq4 : q4 < 4 := by rw [← eq4]; exact Nat.mod_lt _ (by omega)
  rw [eq4] at hP
  have Eq4 := Lib.hid eq4
  obtain ⟨L,eL⟩ : ∃ L,idsF b1 b2 b3 = L := ⟨_,rfl⟩
  rw [eL] at hP
  have EL := Lib.hid eL
  have hLL : Hid (L.length ≤ 2) := by have h := idsF_len b1 b2 b3; rw [eL] at h; exact h
  clear eL
  have HP := Lib.hid hP
  have TT := Lib.hid ht
  have H0 := Lib.hid h0
  have H1 := Lib.hid h1
  have H2 := Lib.hid h2
  have H3 := Lib.hid h3
  have H4 := Lib.hid h4
  have H5 := Lib.hid h5
  have H6 := Lib.hid h6
  have H7 := Lib.hid h7
  have H8 := Lib.hid h8
  have H9 := Lib.hid h9
  have vb1 : IntKind.i64.wrap (b1 : Int) = (b1 : Int) := IntWalk.i64_in _ (by omega)
  have vb3 : IntKind.i64.wrap (b3 : Int) = (b3 : Int) := IntWalk.i64_in _ (by omega)
  have vb5 : IntKind.i64.wrap (b5 : Int) = (b5 : Int) := IntWalk.i64_in _ (by omega)
  have v45 : IntKind.i64.wrap (4 * (b5 : Int)) = 4 * (b5 : Int) := IntWalk.i64_in _ (by omega)
  clear hP ht hq eq4 lq4 h0 h1 h2 h3 h4 h5 h6 h7 h8 h9
  have hB : Below w.heap.size w ((w.alloc (.cells #[.int .u8 (b0 : Nat), .int .u8 (b1 : Nat), .int .u8 (b2 : Nat), .int .u8 (b3 : Nat), .int .u8 (b4 : Nat), .int .u8 (b5 : Nat), .int .u8 (b6 : Nat), .int .u8 (b7 : Nat), .int .u8 (b8 : Nat), .int .u8 (b9 : Nat)] 23)).alloc (.cells #[.int .i64 0, .string ⟨#[]⟩, .int .i64 0, .int .i64 0, .int .i64 0, .int .i64 0, .int .i64 0, .int .i64 0, .int .i64 0, .int .i64 0, .int .i64 0, .int .i64 0, .int .i64 0, .int .i64 0, .int .i64 0, .int .i64 0, .slice none 0 0, .int .i64 0, .int .i64 0, .int .i64 0, .int .i64 0, .int .i64 0, .int .i64 0, .int .i64 0] 36)) := by (repeat (first | exact Below.refl _ _ | refine Below.alloc ?_ (by first | omega | (simp; done) | (simp; omega)) _ | refine Below.setCell ?_ (by first | omega | (simp; done) | (simp; omega)) _ | refine Below.drew ?_))
  have hX := (Blok.new w 23 #[.int .u8 (b0 : Nat), .int .u8 (b1 : Nat), .int .u8 (b2 : Nat), .int .u8 (b3 : Nat), .int .u8 (b4 : Nat), .int .u8 (b5 : Nat), .int .u8 (b6 : Nat), .int .u8 (b7 : Nat), .int .u8 (b8 : Nat), .int .u8 (b9 : Nat)]).alloc (.cells #[.int .i64 0, .string ⟨#[]⟩, .int .i64 0, .int .i64 0, .int .i64 0, .int .i64 0, .int .i64 0, .int .i64 0, .int .i64 0, .int .i64 0, .int .i64 0, .int .i64 0, .int .i64 0, .int .i64 0, .int .i64 0, .int .i64 0, .slice none 0 0, .int .i64 0, .int .i64 0, .int .i64 0, .int .i64 0, .int .i64 0, .int .i64 0, .int .i64 0] 36)
  have hR := Blok.new (w.alloc (.cells #[.int .u8 (b0 : Nat), .int .u8 (b1 : Nat), .int .u8 (b2 : Nat), .int .u8 (b3 : Nat), .int .u8 (b4 : Nat), .int .u8 (b5 : Nat), .int .u8 (b6 : Nat), .int .u8 (b7 : Nat), .int .u8 (b8 : Nat), .int .u8 (b9 : Nat)] 23)) 36 #[.int .i64 0, .string ⟨#[]⟩, .int .i64 0, .int .i64 0, .int .i64 0, .int .i64 0, .int .i64 0, .int .i64 0, .int .i64 0, .int .i64 0, .int .i64 0, .int .i64 0, .int .i64 0, .int .i64 0, .int .i64 0, .int .i64 0, .slice none 0 0, .int .i64 0, .int .i64 0, .int .i64 0, .int .i64 0, .int .i64 0, .int .i64 0, .int .i64 0]
  rw [World.size_alloc] at hR
  have hs := hB.size
  go_enter Tryd.func16,Tryd.ntmps16
  go_upto_region 1 with fail
  generalize ((w.alloc (.cells #[.int .u8 (b0 : Nat), .int .u8 (b1 : Nat), .int .u8 (b2 : Nat), .int .u8 (b3 : Nat), .int .u8 (b4 : Nat), .int .u8 (b5 : Nat), .int .u8 (b6 : Nat), .int .u8 (b7 : Nat), .int .u8 (b8 : Nat), .int .u8 (b9 : Nat)] 23)).alloc (.cells #[.int .i64 0, .string ⟨#[]⟩, .int .i64 0, .int .i64 0, .int .i64 0, .int .i64 0, .int .i64 0, .int .i64 0, .int .i64 0, .int .i64 0, .int .i64 0, .int .i64 0, .int .i64 0, .int .i64 0, .int .i64 0, .int .i64 0, .slice none 0 0, .int .i64 0, .int .i64 0, .int .i64 0, .int .i64 0, .int .i64 0, .int .i64 0, .int .i64 0] 36)) = w1 at *
  have x0 : w1.cell? ⟨w.heap.size,0,none⟩ = some (.int .u8 (b0 : Nat)) := hX.cell 0
  have lt_x := hX.lt
  go_upto_region 2 with (first | (refine wpList_store_row (by rfl) 36 (.tmp 3) (.tmp 8) (by rfl) w1.heap.size #[.int .i64 4, .string ⟨#[]⟩, .int .i64 0, .int .i64 0, .int .i64 0, .int .i64 0, .int .i64 0, .int .i64 0, .int .i64 0, .int .i64 0, .int .i64 0, .int .i64 0, .int .i64 0, .int .i64 0, .int .i64 0, .int .i64 0, .slice none 0 0, .int .i64 0, .int .i64 0, .int .i64 0, .int .i64 0, .int .i64 0, .int .i64 0, .int .i64 0] (by rfl) (by rfl) 36 #[.int .i64 0, .string ⟨#[]⟩, .int .i64 0, .int .i64 0, .int .i64 0, .int .i64 0, .int .i64 0, .int .i64 0, .int .i64 0, .int .i64 0, .int .i64 0, .int .i64 0, .int .i64 0, .int .i64 0, .int .i64 0, .int .i64 0, .slice none 0 0, .int .i64 0, .int .i64 0, .int .i64 0, .int .i64 0, .int .i64 0, .int .i64 0, .int .i64 0] (heap_alloc_new _ _) (by kernel_rfl) rfl (by simp [Value.oneCell']) ?_; rw [World.setRow_alloc_new]) | (refine wpList_build_run _ (by rfl) 36 #[(0, .tmp 7)] (by rfl) #[(0, .int .i64 4)] (by rfl) (bact 4 _) ?_) | (go_at_call 19; first | ((with_reducible refine Calls.mono (rest_any b0 7 _ 7 k7_ _ H0.out (by decide) (by decide) Eq0.out) ?_); rintro e9 w9 ⟨rfl,rfl⟩) | ((with_reducible refine Calls.mono (rest_any b4 4 _ 4 k4_ _ H4.out (by decide) (by decide) Eq4.out) ?_); rintro e9 w9 ⟨rfl,rfl⟩)))
  clear x0 lt_x
  have hA := Blok.new w1 36 #[.int .i64 4, .string ⟨#[]⟩, .int .i64 0, .int .i64 0, .int .i64 0, .int .i64 0, .int .i64 0, .int .i64 0, .int .i64 0, .int .i64 0, .int .i64 0, .int .i64 0, .int .i64 0, .int .i64 0, .int .i64 0, .int .i64 0, .slice none 0 0, .int .i64 0, .int .i64 0, .int .i64 0, .int .i64 0, .int .i64 0, .int .i64 0, .int .i64 0]
  have hb : Below w1.heap.size w1 (w1.alloc (.cells #[.int .i64 4, .string ⟨#[]⟩, .int .i64 0, .int .i64 0, .int .i64 0, .int .i64 0, .int .i64 0, .int .i64 0, .int .i64 0, .int .i64 0, .int .i64 0, .int .i64 0, .int .i64 0, .int .i64 0, .int .i64 0, .int .i64 0, .slice none 0 0, .int .i64 0, .int .i64 0, .int .i64 0, .int .i64 0, .int .i64 0, .int .i64 0, .int .i64 0] 36)) := by (repeat (first | exact Below.refl _ _ | refine Below.alloc ?_ (by first | omega | (simp; done) | (simp; omega)) _ | refine Below.setCell ?_ (by first | omega | (simp; done) | (simp; omega)) _ | refine Below.drew ?_))
  have lR := hR.lt
  replace hX := hX.below hb hX.lt
  replace hR := hR.below hb hR.lt
  replace hB := hB.trans (hb.mono hs)
  replace hs := hB.size
  clear hb
  generalize w1.alloc (.cells #[.int .i64 4, .string ⟨#[]⟩, .int .i64 0, .int .i64 0, .int .i64 0, .int .i64 0, .int .i64 0, .int .i64 0, .int .i64 0, .int .i64 0, .int .i64 0, .int .i64 0, .int .i64 0, .int .i64 0, .int .i64 0, .int .i64 0, .slice none 0 0, .int .i64 0, .int .i64 0, .int .i64 0, .int .i64 0, .int .i64 0, .int .i64 0, .int .i64 0] 36) = w2 at *
  generalize w1.heap.size = bA at *
  have k0 : w2.cell? ⟨bA,0,none⟩ = some (.int .i64 4) := hA.cell 0
  have k1 : w2.cell? ⟨bA,1,none⟩ = some (.string ⟨#[]⟩) := hA.cell 1
  have k2 : w2.cell? ⟨bA,2,none⟩ = some (.int .i64 0) := hA.cell 2
  have k3 : w2.cell? ⟨bA,3,none⟩ = some (.int .i64 0) := hA.cell 3
  have k4 : w2.cell? ⟨bA,4,none⟩ = some (.int .i64 0) := hA.cell 4
  have k5 : w2.cell? ⟨bA,5,none⟩ = some (.int .i64 0) := hA.cell 5
  have k6 : w2.cell? ⟨bA,6,none⟩ = some (.int .i64 0) := hA.cell 6
  have k7 : w2.cell? ⟨bA,7,none⟩ = some (.int .i64 0) := hA.cell 7
  have k8 : w2.cell? ⟨bA,8,none⟩ = some (.int .i64 0) := hA.cell 8
  have k9 : w2.cell? ⟨bA,9,none⟩ = some (.int .i64 0) := hA.cell 9
  have k10 : w2.cell? ⟨bA,10,none⟩ = some (.int .i64 0) := hA.cell 10
  have k11 : w2.cell? ⟨bA,11,none⟩ = some (.int .i64 0) := hA.cell 11
  have k12 : w2.cell? ⟨bA,12,none⟩ = some (.int .i64 0) := hA.cell 12
  have k13 : w2.cell? ⟨bA,13,none⟩ = some (.int .i64 0) := hA.cell 13
  have k14 : w2.cell? ⟨bA,14,none⟩ = some (.int .i64 0) := hA.cell 14
  have k15 : w2.cell? ⟨bA,15,none⟩ = some (.int .i64 0) := hA.cell 15
  have k16 : w2.cell? ⟨bA,16,none⟩ = some (.slice none 0 0) := hA.cell 16
  have k17 : w2.cell? ⟨bA,17,none⟩ = some (.int .i64 0) := hA.cell 17
  have k18 : w2.cell? ⟨bA,18,none⟩ = some (.int .i64 0) := hA.cell 18
  have k19 : w2.cell? ⟨bA,19,none⟩ = some (.int .i64 0) := hA.cell 19
  have k20 : w2.cell? ⟨bA,20,none⟩ = some (.int .i64 0) := hA.cell 20
  have k21 : w2.cell? ⟨bA,21,none⟩ = some (.int .i64 0) := hA.cell 21
  have k22 : w2.cell? ⟨bA,22,none⟩ = some (.int .i64 0) := hA.cell 22
  have k23 : w2.cell? ⟨bA,23,none⟩ = some (.int .i64 0) := hA.cell 23
  have lt_k := hA.lt
  go_upto_region 11 with fail
  clear k0 k1 k2 k3 k4 k5 k6 k7 k8 k9 k10 k11 k12 k13 k14 k15 k16 k17 k18 k19 k20 k21 k22 k23 lt_k
  have x0 : w2.cell? ⟨w.heap.size,0,none⟩ = some (.int .u8 (b0 : Nat)) := hX.cell 0
  have x1 : w2.cell? ⟨w.heap.size,1,none⟩ = some (.int .u8 (b1 : Nat)) := hX.cell 1
  have x2 : w2.cell? ⟨w.heap.size,2,none⟩ = some (.int .u8 (b2 : Nat)) := hX.cell 2
  have x3 : w2.cell? ⟨w.heap.size,3,none⟩ = some (.int .u8 (b3 : Nat)) := hX.cell 3
  have x4 : w2.cell? ⟨w.heap.size,4,none⟩ = some (.int .u8 (b4 : Nat)) := hX.cell 4
  have x5 : w2.cell? ⟨w.heap.size,5,none⟩ = some (.int .u8 (b5 : Nat)) := hX.cell 5
  have x6 : w2.cell? ⟨w.heap.size,6,none⟩ = some (.int .u8 (b6 : Nat)) := hX.cell 6
  have x7 : w2.cell? ⟨w.heap.size,7,none⟩ = some (.int .u8 (b7 : Nat)) := hX.cell 7
  have x8 : w2.cell? ⟨w.heap.size,8,none⟩ = some (.int .u8 (b8 : Nat)) := hX.cell 8
  have x9 : w2.cell? ⟨w.heap.size,9,none⟩ = some (.int .u8 (b9 : Nat)) := hX.cell 9
  have lt_x := hX.lt
  go_wp2_with fail
  refine (sids_any b0 b1 b2 b3 b4 b5 b6 b7 b8 b9 w2 H0.out H1.out H2.out H3.out H4.out H5.out H6.out H7.out H8.out H9.out L EL.out).mono ?_
  rintro e w3 ⟨v,rfl,hown,hb⟩
  clear x0 x1 x2 x3 x4 x5 x6 x7 x8 x9 lt_x
  have hown := own_down (base' := w.heap.size) hown hs
  replace hX := hX.below hb hX.lt
  replace hR := hR.below hb hR.lt
  replace hA := hA.below hb hA.lt
  replace hB := hB.trans (hb.mono hs)
  replace hs := hB.size
  clear hb
  obtain ⟨A5,c5,rfl⟩ := slice_of_own hown
  obtain ⟨n5,hn5⟩ : ∃ n,L.length = n := ⟨_,rfl⟩
  rw [hn5] at hown
  simp only [hn5]
  have HN5 := Lib.hid hn5
  clear hn5
  have hne := Blok.ne_own hown hA (by decide)
  have hne2 := Blok.ne_own hown hR (by decide)
  have k0 : w3.cell? ⟨bA,0,none⟩ = some (.int .i64 4) := hA.cell 0
  have g0 := hA.free 0
  have k1 : w3.cell? ⟨bA,1,none⟩ = some (.string ⟨#[]⟩) := hA.cell 1
  have g1 := hA.free 1
  have k2 : w3.cell? ⟨bA,2,none⟩ = some (.int .i64 0) := hA.cell 2
  have g2 := hA.free 2
  have k3 : w3.cell? ⟨bA,3,none⟩ = some (.int .i64 0) := hA.cell 3
  have g3 := hA.free 3
  have k4 : w3.cell? ⟨bA,4,none⟩ = some (.int .i64 0) := hA.cell 4
  have g4 := hA.free 4
  have k5 : w3.cell? ⟨bA,5,none⟩ = some (.int .i64 0) := hA.cell 5
  have g5 := hA.free 5
  have k6 : w3.cell? ⟨bA,6,none⟩ = some (.int .i64 0) := hA.cell 6
  have g6 := hA.free 6
  have k7 : w3.cell? ⟨bA,7,none⟩ = some (.int .i64 0) := hA.cell 7
  have g7 := hA.free 7
  have k8 : w3.cell? ⟨bA,8,none⟩ = some (.int .i64 0) := hA.cell 8
  have g8 := hA.free 8
  have k9 : w3.cell? ⟨bA,9,none⟩ = some (.int .i64 0) := hA.cell 9
  have g9 := hA.free 9
  have k10 : w3.cell? ⟨bA,10,none⟩ = some (.int .i64 0) := hA.cell 10
  have g10 := hA.free 10
  have k11 : w3.cell? ⟨bA,11,none⟩ = some (.int .i64 0) := hA.cell 11
  have g11 := hA.free 11
  have k12 : w3.cell? ⟨bA,12,none⟩ = some (.int .i64 0) := hA.cell 12
  have g12 := hA.free 12
  have k13 : w3.cell? ⟨bA,13,none⟩ = some (.int .i64 0) := hA.cell 13
  have g13 := hA.free 13
  have k14 : w3.cell? ⟨bA,14,none⟩ = some (.int .i64 0) := hA.cell 14
  have g14 := hA.free 14
  have k15 : w3.cell? ⟨bA,15,none⟩ = some (.int .i64 0) := hA.cell 15
  have g15 := hA.free 15
  have k16 : w3.cell? ⟨bA,16,none⟩ = some (.slice none 0 0) := hA.cell 16
  have g16 := hA.free 16
  have k17 : w3.cell? ⟨bA,17,none⟩ = some (.int .i64 0) := hA.cell 17
  have g17 := hA.free 17
  have k18 : w3.cell? ⟨bA,18,none⟩ = some (.int .i64 0) := hA.cell 18
  have g18 := hA.free 18
  have k19 : w3.cell? ⟨bA,19,none⟩ = some (.int .i64 0) := hA.cell 19
  have g19 := hA.free 19
  have k20 : w3.cell? ⟨bA,20,none⟩ = some (.int .i64 0) := hA.cell 20
  have g20 := hA.free 20
  have k21 : w3.cell? ⟨bA,21,none⟩ = some (.int .i64 0) := hA.cell 21
  have g21 := hA.free 21
  have k22 : w3.cell? ⟨bA,22,none⟩ = some (.int .i64 0) := hA.cell 22
  have g22 := hA.free 22
  have k23 : w3.cell? ⟨bA,23,none⟩ = some (.int .i64 0) := hA.cell 23
  have g23 := hA.free 23
  have lt_k := hA.lt
  go_upto_region 12 with fail
  clear k0 g0 k1 g1 k2 g2 k3 g3 k4 g4 k5 g5 k6 g6 k7 g7 k8 g8 k9 g9 k10 g10 k11 g11 k12 g12 k13 g13 k14 g14 k15 g15 k16 g16 k17 g17 k18 g18 k19 g19 k20 g20 k21 g21 k22 g22 k23 g23 lt_k
  have hown4 := ownsRow_setCell_other hown (a := ⟨bA,16,none⟩) hne (.slice A5 n5 c5)
  clear hown
  have hown := hown4
  clear hown4
  have hA2 : Blok (w3.setCell ⟨bA,16,none⟩ (.slice A5 n5 c5)) bA 36 #[.int .i64 4, .string ⟨#[]⟩, .int .i64 0, .int .i64 0, .int .i64 0, .int .i64 0, .int .i64 0, .int .i64 0, .int .i64 0, .int .i64 0, .int .i64 0, .int .i64 0, .int .i64 0, .int .i64 0, .int .i64 0, .int .i64 0, .slice A5 n5 c5, .int .i64 0, .int .i64 0, .int .i64 0, .int .i64 0, .int .i64 0, .int .i64 0, .int .i64 0] := by exact (hA.set_ 16 (.slice A5 n5 c5))
  replace hX := (hX.far (p := ⟨bA,16,none⟩) (by simp only; omega) (.slice A5 n5 c5))
  replace hR := (hR.far (p := ⟨bA,16,none⟩) (by simp only; omega) (.slice A5 n5 c5))
  replace hB := (hB.setCell (p := ⟨bA,16,none⟩) (by simp only; omega) (.slice A5 n5 c5))
  replace hs := hB.size
  clear hA
  have hA := hA2
  clear hA2
  generalize (w3.setCell ⟨bA,16,none⟩ (.slice A5 n5 c5)) = w4 at *
  refine gen_frame ?_
  intro a0 ha0
  try simp only [List.append]
  refine wp_region_frames rfl (by kernel_rfl) (by kernel_rfl) (fun V x w' => BM w4 bA 36 (fun u5 u6 => #[.int .i64 4, .string ⟨#[]⟩, .int .i64 0, .int .i64 0, .int .i64 0, .int .i64 0, .int .i64 0, .int .i64 0, .int .i64 0, .int .i64 0, .int .i64 0, .int .i64 0, .int .i64 0, .int .i64 0, .int .i64 0, .int .i64 0, .slice A5 n5 c5,u5,u6, .int .i64 0, .int .i64 0, .int .i64 0, .int .i64 0, .int .i64 0]) (.int .i64 (q4 : Nat)) (.int .i64 (b5 : Nat)) V w' ∧ (V.getD 0 true = true → x 0 = .pointer (some ⟨w.heap.size,4,none⟩)) ∧ (V.getD 1 true = true → x 1 = .int .u8 (b4 : Nat)) ∧ (V.getD 2 true = true → x 2 = .int .i64 (q4 : Nat)) ∧ (V.getD 3 true = true → x 3 = .pointer (some ⟨w.heap.size,5,none⟩)) ∧ (V.getD 4 true = true → x 4 = .int .u8 (b5 : Nat)) ∧ (V.getD 5 true = true → x 5 = .int .i64 (b5 : Nat)) ∧ (V.getD 6 true = true → x 6 = .pointer (some ⟨bA,17,none⟩)) ∧ (V.getD 8 true = true → x 8 = .pointer (some ⟨bA,18,none⟩))) ?_ ?_ ?_
  · intro x
    refine ⟨⟨Kept.of_below (Below.refl _ _).drew,_,_,hA,fun h => by simp at h,fun h => by simp at h⟩,?_,?_,?_,?_,?_,?_,?_,?_⟩ <;> exact fun h => by simp at h
  · intro V x b w' hbq hsz hF i hi hun haf hcl
    obtain ⟨hM,f0,f1,f2,f3,f4,f5,f6,f8⟩ := hF
    have hbe : b = putAll a0 [some 33,some 34,some 35,some 36,some 37,some 38,some 39,none,some 40,none] x 0 := hbq
    have hz0 : a0.tmps.size = 80 := by rw [ha0]; rfl
    have e1 : b.eval (.tmp 1) = .pointer (some ⟨w.heap.size,0,none⟩) := by rw [hbe,eval_out _ _ _ (by decide),ha0]; rfl
    have t1 : b.tmps[1]?.getD undef = .pointer (some ⟨w.heap.size,0,none⟩) := by simpa [Act.eval] using e1
    have e3 : b.eval (.tmp 3) = .pointer (some ⟨bA,0,none⟩) := by rw [hbe,eval_out _ _ _ (by decide),ha0]; rfl
    have t3 : b.tmps[3]?.getD undef = .pointer (some ⟨bA,0,none⟩) := by simpa [Act.eval] using e3
    have evc : ∀ v,b.eval (.const v) = v := fun _ => rfl
    clear hbq
    have hi' : i < 10 := hi
    clear hi
    obtain rfl | rfl | rfl | rfl | rfl | rfl | rfl | rfl | rfl | rfl : i = 0 ∨ i = 1 ∨ i = 2 ∨ i = 3 ∨ i = 4 ∨ i = 5 ∨ i = 6 ∨ i = 7 ∨ i = 8 ∨ i = 9 := by omega
    · refine wpOp_runs (v := .pointer (some ⟨w.heap.size,4,none⟩)) rfl rfl (by simp [execOp,go_sem,t1]) ⟨_,_,rfl,rfl,⟨hM.other 0 (by decide) (by decide),fun _ => upd_same _ _ _,kE f1 rfl,kE f2 rfl,kE f3 rfl,kE f4 rfl,kE f5 rfl,kE f6 rfl,kE f8 rfl⟩⟩
    · have d0 := getD_ft (haf _ rfl ⟨0, .data⟩ (by simp) rfl)
      have e33 : b.eval (.tmp 33) = .pointer (some ⟨w.heap.size,4,none⟩) := by rw [hbe,eval_in _ _ _ 0 (by decide) rfl (by rw [hz0]; decide)]; exact f0 d0
      have t33 : b.tmps[33]?.getD undef = .pointer (some ⟨w.heap.size,4,none⟩) := by have tv := e33; simpa only [Act.eval,Array.getD_eq_getD_getElem?] using tv
      have bq := hX.kept hM.kept (by show ¬ (w.heap.size = bA); omega)
      have n_0 : w'.cell? ⟨w.heap.size,4,none⟩ = some (.int .u8 (b4 : Nat)) := bq.cell 4
      have lt_n := bq.lt
      refine wpOp_runs (v := .int .u8 (b4 : Nat)) rfl rfl (by simp [execOp,go_sem,t33,n_0]) ⟨_,_,rfl,rfl,⟨hM.other 1 (by decide) (by decide),kE f0 rfl,fun _ => upd_same _ _ _,kE f2 rfl,kE f3 rfl,kE f4 rfl,kE f5 rfl,kE f6 rfl,kE f8 rfl⟩⟩
    · have d1 := getD_ft (haf _ rfl ⟨1, .data⟩ (by simp) rfl)
      have e34 : b.eval (.tmp 34) = .int .u8 (b4 : Nat) := by rw [hbe,eval_in _ _ _ 1 (by decide) rfl (by rw [hz0]; decide)]; exact f1 d1
      have t34 : b.tmps[34]?.getD undef = .int .u8 (b4 : Nat) := by have tv := e34; simpa only [Act.eval,Array.getD_eq_getD_getElem?] using tv
      refine wpOp_call_on rfl (by simp [Region.wanted]) 19 #[.tmp 34, .const (.int .i64 4)] _ rfl #[.int .u8 (b4 : Nat), .int .i64 4] (by simp [e34,evc]) Tryd.func19 rfl rfl ?_
      refine (rest_any b4 4 _ 4 k4_ _ H4.out (by decide) (by decide) Eq4.out).mono ?_
      rintro e9 w9 ⟨rfl,rfl⟩
      exact ⟨_,rfl,_,_,rfl,rfl,⟨hM.other 2 (by decide) (by decide),kE f0 rfl,kE f1 rfl,fun _ => upd_same _ _ _,kE f3 rfl,kE f4 rfl,kE f5 rfl,kE f6 rfl,kE f8 rfl⟩⟩
    · refine wpOp_runs (v := .pointer (some ⟨w.heap.size,5,none⟩)) rfl rfl (by simp [execOp,go_sem,t1]) ⟨_,_,rfl,rfl,⟨hM.other 3 (by decide) (by decide),kE f0 rfl,kE f1 rfl,kE f2 rfl,fun _ => upd_same _ _ _,kE f4 rfl,kE f5 rfl,kE f6 rfl,kE f8 rfl⟩⟩
    · have d3 := getD_ft (haf _ rfl ⟨3, .data⟩ (by simp) rfl)
      have e36 : b.eval (.tmp 36) = .pointer (some ⟨w.heap.size,5,none⟩) := by rw [hbe,eval_in _ _ _ 3 (by decide) rfl (by rw [hz0]; decide)]; exact f3 d3
      have t36 : b.tmps[36]?.getD undef = .pointer (some ⟨w.heap.size,5,none⟩) := by have tv := e36; simpa only [Act.eval,Array.getD_eq_getD_getElem?] using tv
      have bq := hX.kept hM.kept (by show ¬ (w.heap.size = bA); omega)
      have n_0 : w'.cell? ⟨w.heap.size,5,none⟩ = some (.int .u8 (b5 : Nat)) := bq.cell 5
      have lt_n := bq.lt
      refine wpOp_runs (v := .int .u8 (b5 : Nat)) rfl rfl (by simp [execOp,go_sem,t36,n_0]) ⟨_,_,rfl,rfl,⟨hM.other 4 (by decide) (by decide),kE f0 rfl,kE f1 rfl,kE f2 rfl,kE f3 rfl,fun _ => upd_same _ _ _,kE f5 rfl,kE f6 rfl,kE f8 rfl⟩⟩
    · have d4 := getD_ft (haf _ rfl ⟨4, .data⟩ (by simp) rfl)
      have e37 : b.eval (.tmp 37) = .int .u8 (b5 : Nat) := by rw [hbe,eval_in _ _ _ 4 (by decide) rfl (by rw [hz0]; decide)]; exact f4 d4
      have t37 : b.tmps[37]?.getD undef = .int .u8 (b5 : Nat) := by have tv := e37; simpa only [Act.eval,Array.getD_eq_getD_getElem?] using tv
      refine wpOp_runs (v := .int .i64 (b5 : Nat)) rfl rfl (by simp [execOp,go_sem,t37,vb5]) ⟨_,_,rfl,rfl,⟨hM.other 5 (by decide) (by decide),kE f0 rfl,kE f1 rfl,kE f2 rfl,kE f3 rfl,kE f4 rfl,fun _ => upd_same _ _ _,kE f6 rfl,kE f8 rfl⟩⟩
    · refine wpOp_runs (v := .pointer (some ⟨bA,17,none⟩)) rfl rfl (by simp [execOp,go_sem,t3]) ⟨_,_,rfl,rfl,⟨hM.other 6 (by decide) (by decide),kE f0 rfl,kE f1 rfl,kE f2 rfl,kE f3 rfl,kE f4 rfl,kE f5 rfl,fun _ => upd_same _ _ _,kE f8 rfl⟩⟩
    · have d6 := getD_ft (haf _ rfl ⟨6, .data⟩ (by simp) rfl)
      have e39 : b.eval (.tmp 39) = .pointer (some ⟨bA,17,none⟩) := by rw [hbe,eval_in _ _ _ 6 (by decide) rfl (by rw [hz0]; decide)]; exact f6 d6
      have t39 : b.tmps[39]?.getD undef = .pointer (some ⟨bA,17,none⟩) := by have tv := e39; simpa only [Act.eval,Array.getD_eq_getD_getElem?] using tv
      have d2 := getD_ft (haf _ rfl ⟨2, .data⟩ (by simp) rfl)
      have e35 : b.eval (.tmp 35) = .int .i64 (q4 : Nat) := by rw [hbe,eval_in _ _ _ 2 (by decide) rfl (by rw [hz0]; decide)]; exact f2 d2
      have t35 : b.tmps[35]?.getD undef = .int .i64 (q4 : Nat) := by have tv := e35; simpa only [Act.eval,Array.getD_eq_getD_getElem?] using tv
      obtain ⟨u5,u6,hbb,_,_⟩ := hM.box
      have n_0 : w'.cell? ⟨bA,17,none⟩ = some u5 := hbb.cell 17
      have nf_0 := hbb.free 17
      have lt_n := hbb.lt
      refine wpOp_skips' (w' := w'.setCell ⟨bA,17,none⟩ (.int .i64 (q4 : Nat))) rfl rfl (by simp [execOp,go_sem,t39,t35,n_0,nf_0,lt_n]) ⟨_,undef,rfl,rfl,⟨hM.store7 17 (fun _ _ _ => rfl),kE f0 rfl,kE f1 rfl,kE f2 rfl,kE f3 rfl,kE f4 rfl,kE f5 rfl,kE f6 rfl,kE f8 rfl⟩⟩
    · refine wpOp_runs (v := .pointer (some ⟨bA,18,none⟩)) rfl rfl (by simp [execOp,go_sem,t3]) ⟨_,_,rfl,rfl,⟨hM.other 8 (by decide) (by decide),kE f0 rfl,kE f1 rfl,kE f2 rfl,kE f3 rfl,kE f4 rfl,kE f5 rfl,kE f6 rfl,fun _ => upd_same _ _ _⟩⟩
    · have d8 := getD_ft (haf _ rfl ⟨8, .data⟩ (by simp) rfl)
      have e40 : b.eval (.tmp 40) = .pointer (some ⟨bA,18,none⟩) := by rw [hbe,eval_in _ _ _ 8 (by decide) rfl (by rw [hz0]; decide)]; exact f8 d8
      have t40 : b.tmps[40]?.getD undef = .pointer (some ⟨bA,18,none⟩) := by have tv := e40; simpa only [Act.eval,Array.getD_eq_getD_getElem?] using tv
      have d5 := getD_ft (haf _ rfl ⟨5, .data⟩ (by simp) rfl)
      have e38 : b.eval (.tmp 38) = .int .i64 (b5 : Nat) := by rw [hbe,eval_in _ _ _ 5 (by decide) rfl (by rw [hz0]; decide)]; exact f5 d5
      have t38 : b.tmps[38]?.getD undef = .int .i64 (b5 : Nat) := by have tv := e38; simpa only [Act.eval,Array.getD_eq_getD_getElem?] using tv
      obtain ⟨u5,u6,hbb,_,_⟩ := hM.box
      have n_0 : w'.cell? ⟨bA,18,none⟩ = some u6 := hbb.cell 18
      have nf_0 := hbb.free 18
      have lt_n := hbb.lt
      refine wpOp_skips' (w' := w'.setCell ⟨bA,18,none⟩ (.int .i64 (b5 : Nat))) rfl rfl (by simp [execOp,go_sem,t40,t38,n_0,nf_0,lt_n]) ⟨_,undef,rfl,rfl,⟨hM.store9 18 (fun _ _ _ => rfl),kE f0 rfl,kE f1 rfl,kE f2 rfl,kE f3 rfl,kE f4 rfl,kE f5 rfl,kE f6 rfl,kE f8 rfl⟩⟩
  intro V x w' hall hF
  obtain ⟨hM,f0,f1,f2,f3,f4,f5,f6,f8⟩ := hF
  obtain ⟨u5,u6,hA2,hu5,hu6⟩ := hM.box
  obtain rfl := hu5 (hall 7 (by decide))
  obtain rfl := hu6 (hall 9 (by decide))
  have hK := hM.kept
  clear f0 f1 f2 f3 f4 f5 f6 f8 hall hM hu5 hu6
  subst ha0
  simp only [List.map_cons,List.map_nil,putAll]
  go_simp
  replace hX := hX.kept hK (by show ¬ (w.heap.size = bA); omega)
  replace hR := hR.kept hK (by show ¬ (w.heap.size + 1 = bA); omega)
  replace hown := own_kept hown hK (fun g hg => by show ¬ (g = bA); intro e; rw [e] at hg; exact hne hg)
  replace hB := below_kept hB hK (by omega) hs
  replace hs := hB.size
  clear hA hK
  have hA := hA2
  clear hA2
  have hF := setRow_heap w' (w.heap.size + 1) #[.int .i64 0, .string ⟨#[]⟩, .int .i64 0, .int .i64 0, .int .i64 0, .int .i64 0, .int .i64 0, .int .i64 0, .int .i64 0, .int .i64 0, .int .i64 0, .int .i64 0, .int .i64 0, .int .i64 0, .int .i64 0, .int .i64 0, .slice none 0 0, .int .i64 0, .int .i64 0, .int .i64 0, .int .i64 0, .int .i64 0, .int .i64 0, .int .i64 0] #[.int .i64 4, .string ⟨#[]⟩, .int .i64 0, .int .i64 0, .int .i64 0, .int .i64 0, .int .i64 0, .int .i64 0, .int .i64 0, .int .i64 0, .int .i64 0, .int .i64 0, .int .i64 0, .int .i64 0, .int .i64 0, .int .i64 0, .slice A5 n5 c5, .int .i64 (q4 : Nat), .int .i64 (b5 : Nat), .int .i64 0, .int .i64 0, .int .i64 0, .int .i64 0, .int .i64 0] 36 (0,0) hR
  have hWf := below_setRow hB (g := w.heap.size + 1) (by omega) #[.int .i64 4, .string ⟨#[]⟩, .int .i64 0, .int .i64 0, .int .i64 0, .int .i64 0, .int .i64 0, .int .i64 0, .int .i64 0, .int .i64 0, .int .i64 0, .int .i64 0, .int .i64 0, .int .i64 0, .int .i64 0, .int .i64 0, .slice A5 n5 c5, .int .i64 (q4 : Nat), .int .i64 (b5 : Nat), .int .i64 0, .int .i64 0, .int .i64 0, .int .i64 0, .int .i64 0]
  have hgw := grown_setRow w' (w.heap.size + 1) #[.int .i64 4, .string ⟨#[]⟩, .int .i64 0, .int .i64 0, .int .i64 0, .int .i64 0, .int .i64 0, .int .i64 0, .int .i64 0, .int .i64 0, .int .i64 0, .int .i64 0, .int .i64 0, .int .i64 0, .int .i64 0, .int .i64 0, .slice A5 n5 c5, .int .i64 (q4 : Nat), .int .i64 (b5 : Nat), .int .i64 0, .int .i64 0, .int .i64 0, .int .i64 0, .int .i64 0]
  have hA' := hA
  have hR' := hR
  go_wp2_with (first | (refine wpList_load_row (by rfl) 36 (.tmp 3) (by rfl) bA (by rfl) 36 #[.int .i64 4, .string ⟨#[]⟩, .int .i64 0, .int .i64 0, .int .i64 0, .int .i64 0, .int .i64 0, .int .i64 0, .int .i64 0, .int .i64 0, .int .i64 0, .int .i64 0, .int .i64 0, .int .i64 0, .int .i64 0, .int .i64 0, .slice A5 n5 c5, .int .i64 (q4 : Nat), .int .i64 (b5 : Nat), .int .i64 0, .int .i64 0, .int .i64 0, .int .i64 0, .int .i64 0] (0,0) _ hA' Tryd.underlying36 rfl (by kernel_rfl) ?_) | (refine wpList_store_row (by rfl) 36 (.tmp 2) (.tmp 79) (by rfl) (w.heap.size + 1) #[.int .i64 4, .string ⟨#[]⟩, .int .i64 0, .int .i64 0, .int .i64 0, .int .i64 0, .int .i64 0, .int .i64 0, .int .i64 0, .int .i64 0, .int .i64 0, .int .i64 0, .int .i64 0, .int .i64 0, .int .i64 0, .int .i64 0, .slice A5 n5 c5, .int .i64 (q4 : Nat), .int .i64 (b5 : Nat), .int .i64 0, .int .i64 0, .int .i64 0, .int .i64 0, .int .i64 0] (by rfl) (by rfl) 36 #[.int .i64 0, .string ⟨#[]⟩, .int .i64 0, .int .i64 0, .int .i64 0, .int .i64 0, .int .i64 0, .int .i64 0, .int .i64 0, .int .i64 0, .int .i64 0, .int .i64 0, .int .i64 0, .int .i64 0, .int .i64 0, .int .i64 0, .slice none 0 0, .int .i64 0, .int .i64 0, .int .i64 0, .int .i64 0, .int .i64 0, .int .i64 0, .int .i64 0] hR' (by kernel_rfl) rfl (by simp [Value.oneCell']) ?_))
  refine bodyPost_ret (results_cell_row Tryd.results16 _ _ (w.heap.size + 1) 36 #[.int .i64 4, .string ⟨#[]⟩, .int .i64 0, .int .i64 0, .int .i64 0, .int .i64 0, .int .i64 0, .int .i64 0, .int .i64 0, .int .i64 0, .int .i64 0, .int .i64 0, .int .i64 0, .int .i64 0, .int .i64 0, .int .i64 0, .slice A5 n5 c5, .int .i64 (q4 : Nat), .int .i64 (b5 : Nat), .int .i64 0, .int .i64 0, .int .i64 0, .int .i64 0, .int .i64 0] (0,0) _ (by rfl) hF Tryd.underlying36 rfl (by kernel_rfl)) rfl ?_
  have hwf := hown.kept hgw (.inr hne2)
  exact ⟨_,rfl,⟨A5,n5,c5,by rw [← HP.out]; rfl,by rw [← HP.out]; rw [← HN5.out] at hwf ⊢; exact hwf,by rw [← HP.out]; exact HN5.out⟩,hWf⟩
end Go.Proofs.YtggdomeeienjbaaDoor

/- Package script: act, kind 4. No condition but that bytes are bytes. -/
namespace Go.Proofs.YtggdomeeienjbaaDoor
open Go.ChangeShapes Go.WideShapes Go.ChangeAt Go.RowKit Go.Sort
set_option linter.unusedSimpArgs false
set_option linter.unusedVariables false
set_option maxHeartbeats 16000000 in
set_option maxRecDepth 100000 in
theorem sact_4 (b0 b1 b2 b3 b4 b5 b6 b7 b8 b9 : Nat) (w : World) (ht : TenTab w) (h0 : b0 < 256) (h1 : b1 < 256) (h2 : b2 < 256) (h3 : b3 < 256) (h4 : b4 < 256) (h5 : b5 < 256) (h6 : b6 < 256) (h7 : b7 < 256) (h8 : b8 < 256) (h9 : b9 < 256) (P : Pa) (hq : b0 % 7 = 4) (hP : (⟨5,[],zeroDr,0,idsF b1 b2 b3,(b4 % 4 : Nat),(b5 : Nat),0,0,0,0,0⟩ : Pa) = P) :
    Calls Tryd.prog 16 #[.agg #[.int .u8 (b0 : Nat), .int .u8 (b1 : Nat), .int .u8 (b2 : Nat), .int .u8 (b3 : Nat), .int .u8 (b4 : Nat), .int .u8 (b5 : Nat), .int .u8 (b6 : Nat), .int .u8 (b7 : Nat), .int .u8 (b8 : Nat), .int .u8 (b9 : Nat)]] w fun e w' => ∃ v,e = .returned v ∧ AV w.heap.size w' v P ∧ Below w.heap.size w w' := by
  have Eq0 : Hid (b0 % 7 = 4) := hq
  obtain ⟨q4,eq4⟩ : ∃ q,b4 % 4 = q := ⟨_,rfl⟩
  have lq4 : q4 < 4 := by rw [← eq4]; exact Nat.mod_lt _ (by omega)
  rw [eq4] at hP
  have Eq4 := Lib.hid eq4
  obtain ⟨L,eL⟩ : ∃ L,idsF b1 b2 b3 = L := ⟨_,rfl⟩
  rw [eL] at hP
  have EL := Lib.hid eL
  have hLL : Hid (L.length ≤ 2) := by have h := idsF_len b1 b2 b3; rw [eL] at h; exact h
  clear eL
  have HP := Lib.hid hP
  have TT := Lib.hid ht
  have H0 := Lib.hid h0
  have H1 := Lib.hid h1
  have H2 := Lib.hid h2
  have H3 := Lib.hid h3
  have H4 := Lib.hid h4
  have H5 := Lib.hid h5
  have H6 := Lib.hid h6
  have H7 := Lib.hid h7
  have H8 := Lib.hid h8
  have H9 := Lib.hid h9
  have vb1 : IntKind.i64.wrap (b1 : Int) = (b1 : Int) := IntWalk.i64_in _ (by omega)
  have vb3 : IntKind.i64.wrap (b3 : Int) = (b3 : Int) := IntWalk.i64_in _ (by omega)
  have vb5 : IntKind.i64.wrap (b5 : Int) = (b5 : Int) := IntWalk.i64_in _ (by omega)
  have v45 : IntKind.i64.wrap (4 * (b5 : Int)) = 4 * (b5 : Int) := IntWalk.i64_in _ (by omega)
  clear hP ht hq eq4 lq4 h0 h1 h2 h3 h4 h5 h6 h7 h8 h9
  have hB : Below w.heap.size w ((w.alloc (.cells #[.int .u8 (b0 : Nat), .int .u8 (b1 : Nat), .int .u8 (b2 : Nat), .int .u8 (b3 : Nat), .int .u8 (b4 : Nat), .int .u8 (b5 : Nat), .int .u8 (b6 : Nat), .int .u8 (b7 : Nat), .int .u8 (b8 : Nat), .int .u8 (b9 : Nat)] 23)).alloc (.cells #[.int .i64 0, .string ⟨#[]⟩, .int .i64 0, .int .i64 0, .int .i64 0, .int .i64 0, .int .i64 0, .int .i64 0, .int .i64 0, .int .i64 0, .int .i64 0, .int .i64 0, .int .i64 0, .int .i64 0, .int .i64 0, .int .i64 0, .slice none 0 0, .int .i64 0, .int .i64 0, .int .i64 0, .int .i64 0, .int .i64 0, .int .i64 0, .int .i64 0] 36)) := by (repeat (first | exact Below.refl _ _ | refine Below.alloc ?_ (by first | omega | (simp; done) | (simp; omega)) _ | refine Below.setCell ?_ (by first | omega | (simp; done) | (simp; omega)) _ | refine Below.drew ?_))
  have hX := (Blok.new w 23 #[.int .u8 (b0 : Nat), .int .u8 (b1 : Nat), .int .u8 (b2 : Nat), .int .u8 (b3 : Nat), .int .u8 (b4 : Nat), .int .u8 (b5 : Nat), .int .u8 (b6 : Nat), .int .u8 (b7 : Nat), .int .u8 (b8 : Nat), .int .u8 (b9 : Nat)]).alloc (.cells #[.int .i64 0, .string ⟨#[]⟩, .int .i64 0, .int .i64 0, .int .i64 0, .int .i64 0, .int .i64 0, .int .i64 0, .int .i64 0, .int .i64 0, .int .i64 0, .int .i64 0, .int .i64 0, .int .i64 0, .int .i64 0, .int .i64 0, .slice none 0 0, .int .i64 0, .int .i64 0, .int .i64 0, .int .i64 0, .int .i64 0, .int .i64 0, .int .i64 0] 36)
  have hR := Blok.new (w.alloc (.cells #[.int .u8 (b0 : Nat), .int .u8 (b1 : Nat), .int .u8 (b2 : Nat), .int .u8 (b3 : Nat), .int .u8 (b4 : Nat), .int .u8 (b5 : Nat), .int .u8 (b6 : Nat), .int .u8 (b7 : Nat), .int .u8 (b8 : Nat), .int .u8 (b9 : Nat)] 23)) 36 #[.int .i64 0, .string ⟨#[]⟩, .int .i64 0, .int .i64 0, .int .i64 0, .int .i64 0, .int .i64 0, .int .i64 0, .int .i64 0, .int .i64 0, .int .i64 0, .int .i64 0, .int .i64 0, .int .i64 0, .int .i64 0, .int .i64 0, .slice none 0 0, .int .i64 0, .int .i64 0, .int .i64 0, .int .i64 0, .int .i64 0, .int .i64 0, .int .i64 0]
  rw [World.size_alloc] at hR
  have hs := hB.size
  go_enter Tryd.func16,Tryd.ntmps16
  go_upto_region 1 with fail
  generalize ((w.alloc (.cells #[.int .u8 (b0 : Nat), .int .u8 (b1 : Nat), .int .u8 (b2 : Nat), .int .u8 (b3 : Nat), .int .u8 (b4 : Nat), .int .u8 (b5 : Nat), .int .u8 (b6 : Nat), .int .u8 (b7 : Nat), .int .u8 (b8 : Nat), .int .u8 (b9 : Nat)] 23)).alloc (.cells #[.int .i64 0, .string ⟨#[]⟩, .int .i64 0, .int .i64 0, .int .i64 0, .int .i64 0, .int .i64 0, .int .i64 0, .int .i64 0, .int .i64 0, .int .i64 0, .int .i64 0, .int .i64 0, .int .i64 0, .int .i64 0, .int .i64 0, .slice none 0 0, .int .i64 0, .int .i64 0, .int .i64 0, .int .i64 0, .int .i64 0, .int .i64 0, .int .i64 0] 36)) = w1 at *
  have x0 : w1.cell? ⟨w.heap.size,0,none⟩ = some (.int .u8 (b0 : Nat)) := hX.cell 0
  have lt_x := hX.lt
  go_upto_region 2 with (first | (refine wpList_store_row (by rfl) 36 (.tmp 3) (.tmp 8) (by rfl) w1.heap.size #[.int .i64 5, .string ⟨#[]⟩, .int .i64 0, .int .i64 0, .int .i64 0, .int .i64 0, .int .i64 0, .int .i64 0, .int .i64 0, .int .i64 0, .int .i64 0, .int .i64 0, .int .i64 0, .int .i64 0, .int .i64 0, .int .i64 0, .slice none 0 0, .int .i64 0, .int .i64 0, .int .i64 0, .int .i64 0, .int .i64 0, .int .i64 0, .int .i64 0] (by rfl) (by rfl) 36 #[.int .i64 0, .string ⟨#[]⟩, .int .i64 0, .int .i64 0, .int .i64 0, .int .i64 0, .int .i64 0, .int .i64 0, .int .i64 0, .int .i64 0, .int .i64 0, .int .i64 0, .int .i64 0, .int .i64 0, .int .i64 0, .int .i64 0, .slice none 0 0, .int .i64 0, .int .i64 0, .int .i64 0, .int .i64 0, .int .i64 0, .int .i64 0, .int .i64 0] (heap_alloc_new _ _) (by kernel_rfl) rfl (by simp [Value.oneCell']) ?_; rw [World.setRow_alloc_new]) | (refine wpList_build_run _ (by rfl) 36 #[(0, .tmp 7)] (by rfl) #[(0, .int .i64 5)] (by rfl) (bact 5 _) ?_) | (go_at_call 19; first | ((with_reducible refine Calls.mono (rest_any b0 7 _ 7 k7_ _ H0.out (by decide) (by decide) Eq0.out) ?_); rintro e9 w9 ⟨rfl,rfl⟩) | ((with_reducible refine Calls.mono (rest_any b4 4 _ 4 k4_ _ H4.out (by decide) (by decide) Eq4.out) ?_); rintro e9 w9 ⟨rfl,rfl⟩)))
  clear x0 lt_x
  have hA := Blok.new w1 36 #[.int .i64 5, .string ⟨#[]⟩, .int .i64 0, .int .i64 0, .int .i64 0, .int .i64 0, .int .i64 0, .int .i64 0, .int .i64 0, .int .i64 0, .int .i64 0, .int .i64 0, .int .i64 0, .int .i64 0, .int .i64 0, .int .i64 0, .slice none 0 0, .int .i64 0, .int .i64 0, .int .i64 0, .int .i64 0, .int .i64 0, .int .i64 0, .int .i64 0]
  have hb : Below w1.heap.size w1 (w1.alloc (.cells #[.int .i64 5, .string ⟨#[]⟩, .int .i64 0, .int .i64 0, .int .i64 0, .int .i64 0, .int .i64 0, .int .i64 0, .int .i64 0, .int .i64 0, .int .i64 0, .int .i64 0, .int .i64 0, .int .i64 0, .int .i64 0, .int .i64 0, .slice none 0 0, .int .i64 0, .int .i64 0, .int .i64 0, .int .i64 0, .int .i64 0, .int .i64 0, .int .i64 0] 36)) := by (repeat (first | exact Below.refl _ _ | refine Below.alloc ?_ (by first | omega | (simp; done) | (simp; omega)) _ | refine Below.setCell ?_ (by first | omega | (simp; done) | (simp; omega)) _ | refine Below.drew ?_))
  have lR := hR.lt
  replace hX := hX.below hb hX.lt
  replace hR := hR.below hb hR.lt
  replace hB := hB.trans (hb.mono hs)
  replace hs := hB.size
  clear hb
  generalize w1.alloc (.cells #[.int .i64 5, .string ⟨#[]⟩, .int .i64 0, .int .i64 0, .int .i64 0, .int .i64 0, .int .i64 0, .int .i64 0, .int .i64 0, .int .i64 0, .int .i64 0, .int .i64 0, .int .i64 0, .int .i64 0, .int .i64 0, .int .i64 0, .slice none 0 0, .int .i64 0, .int .i64 0, .int .i64 0, .int .i64 0, .int .i64 0, .int .i64 0, .int .i64 0] 36) = w2 at *
  generalize w1.heap.size = bA at *
  have k0 : w2.cell? ⟨bA,0,none⟩ = some (.int .i64 5) := hA.cell 0
  have k1 : w2.cell? ⟨bA,1,none⟩ = some (.string ⟨#[]⟩) := hA.cell 1
  have k2 : w2.cell? ⟨bA,2,none⟩ = some (.int .i64 0) := hA.cell 2
  have k3 : w2.cell? ⟨bA,3,none⟩ = some (.int .i64 0) := hA.cell 3
  have k4 : w2.cell? ⟨bA,4,none⟩ = some (.int .i64 0) := hA.cell 4
  have k5 : w2.cell? ⟨bA,5,none⟩ = some (.int .i64 0) := hA.cell 5
  have k6 : w2.cell? ⟨bA,6,none⟩ = some (.int .i64 0) := hA.cell 6
  have k7 : w2.cell? ⟨bA,7,none⟩ = some (.int .i64 0) := hA.cell 7
  have k8 : w2.cell? ⟨bA,8,none⟩ = some (.int .i64 0) := hA.cell 8
  have k9 : w2.cell? ⟨bA,9,none⟩ = some (.int .i64 0) := hA.cell 9
  have k10 : w2.cell? ⟨bA,10,none⟩ = some (.int .i64 0) := hA.cell 10
  have k11 : w2.cell? ⟨bA,11,none⟩ = some (.int .i64 0) := hA.cell 11
  have k12 : w2.cell? ⟨bA,12,none⟩ = some (.int .i64 0) := hA.cell 12
  have k13 : w2.cell? ⟨bA,13,none⟩ = some (.int .i64 0) := hA.cell 13
  have k14 : w2.cell? ⟨bA,14,none⟩ = some (.int .i64 0) := hA.cell 14
  have k15 : w2.cell? ⟨bA,15,none⟩ = some (.int .i64 0) := hA.cell 15
  have k16 : w2.cell? ⟨bA,16,none⟩ = some (.slice none 0 0) := hA.cell 16
  have k17 : w2.cell? ⟨bA,17,none⟩ = some (.int .i64 0) := hA.cell 17
  have k18 : w2.cell? ⟨bA,18,none⟩ = some (.int .i64 0) := hA.cell 18
  have k19 : w2.cell? ⟨bA,19,none⟩ = some (.int .i64 0) := hA.cell 19
  have k20 : w2.cell? ⟨bA,20,none⟩ = some (.int .i64 0) := hA.cell 20
  have k21 : w2.cell? ⟨bA,21,none⟩ = some (.int .i64 0) := hA.cell 21
  have k22 : w2.cell? ⟨bA,22,none⟩ = some (.int .i64 0) := hA.cell 22
  have k23 : w2.cell? ⟨bA,23,none⟩ = some (.int .i64 0) := hA.cell 23
  have lt_k := hA.lt
  go_upto_region 11 with fail
  clear k0 k1 k2 k3 k4 k5 k6 k7 k8 k9 k10 k11 k12 k13 k14 k15 k16 k17 k18 k19 k20 k21 k22 k23 lt_k
  have x0 : w2.cell? ⟨w.heap.size,0,none⟩ = some (.int .u8 (b0 : Nat)) := hX.cell 0
  have x1 : w2.cell? ⟨w.heap.size,1,none⟩ = some (.int .u8 (b1 : Nat)) := hX.cell 1
  have x2 : w2.cell? ⟨w.heap.size,2,none⟩ = some (.int .u8 (b2 : Nat)) := hX.cell 2
  have x3 : w2.cell? ⟨w.heap.size,3,none⟩ = some (.int .u8 (b3 : Nat)) := hX.cell 3
  have x4 : w2.cell? ⟨w.heap.size,4,none⟩ = some (.int .u8 (b4 : Nat)) := hX.cell 4
  have x5 : w2.cell? ⟨w.heap.size,5,none⟩ = some (.int .u8 (b5 : Nat)) := hX.cell 5
  have x6 : w2.cell? ⟨w.heap.size,6,none⟩ = some (.int .u8 (b6 : Nat)) := hX.cell 6
  have x7 : w2.cell? ⟨w.heap.size,7,none⟩ = some (.int .u8 (b7 : Nat)) := hX.cell 7
  have x8 : w2.cell? ⟨w.heap.size,8,none⟩ = some (.int .u8 (b8 : Nat)) := hX.cell 8
  have x9 : w2.cell? ⟨w.heap.size,9,none⟩ = some (.int .u8 (b9 : Nat)) := hX.cell 9
  have lt_x := hX.lt
  go_wp2_with fail
  refine (sids_any b0 b1 b2 b3 b4 b5 b6 b7 b8 b9 w2 H0.out H1.out H2.out H3.out H4.out H5.out H6.out H7.out H8.out H9.out L EL.out).mono ?_
  rintro e w3 ⟨v,rfl,hown,hb⟩
  clear x0 x1 x2 x3 x4 x5 x6 x7 x8 x9 lt_x
  have hown := own_down (base' := w.heap.size) hown hs
  replace hX := hX.below hb hX.lt
  replace hR := hR.below hb hR.lt
  replace hA := hA.below hb hA.lt
  replace hB := hB.trans (hb.mono hs)
  replace hs := hB.size
  clear hb
  obtain ⟨A5,c5,rfl⟩ := slice_of_own hown
  obtain ⟨n5,hn5⟩ : ∃ n,L.length = n := ⟨_,rfl⟩
  rw [hn5] at hown
  simp only [hn5]
  have HN5 := Lib.hid hn5
  clear hn5
  have hne := Blok.ne_own hown hA (by decide)
  have hne2 := Blok.ne_own hown hR (by decide)
  have k0 : w3.cell? ⟨bA,0,none⟩ = some (.int .i64 5) := hA.cell 0
  have g0 := hA.free 0
  have k1 : w3.cell? ⟨bA,1,none⟩ = some (.string ⟨#[]⟩) := hA.cell 1
  have g1 := hA.free 1
  have k2 : w3.cell? ⟨bA,2,none⟩ = some (.int .i64 0) := hA.cell 2
  have g2 := hA.free 2
  have k3 : w3.cell? ⟨bA,3,none⟩ = some (.int .i64 0) := hA.cell 3
  have g3 := hA.free 3
  have k4 : w3.cell? ⟨bA,4,none⟩ = some (.int .i64 0) := hA.cell 4
  have g4 := hA.free 4
  have k5 : w3.cell? ⟨bA,5,none⟩ = some (.int .i64 0) := hA.cell 5
  have g5 := hA.free 5
  have k6 : w3.cell? ⟨bA,6,none⟩ = some (.int .i64 0) := hA.cell 6
  have g6 := hA.free 6
  have k7 : w3.cell? ⟨bA,7,none⟩ = some (.int .i64 0) := hA.cell 7
  have g7 := hA.free 7
  have k8 : w3.cell? ⟨bA,8,none⟩ = some (.int .i64 0) := hA.cell 8
  have g8 := hA.free 8
  have k9 : w3.cell? ⟨bA,9,none⟩ = some (.int .i64 0) := hA.cell 9
  have g9 := hA.free 9
  have k10 : w3.cell? ⟨bA,10,none⟩ = some (.int .i64 0) := hA.cell 10
  have g10 := hA.free 10
  have k11 : w3.cell? ⟨bA,11,none⟩ = some (.int .i64 0) := hA.cell 11
  have g11 := hA.free 11
  have k12 : w3.cell? ⟨bA,12,none⟩ = some (.int .i64 0) := hA.cell 12
  have g12 := hA.free 12
  have k13 : w3.cell? ⟨bA,13,none⟩ = some (.int .i64 0) := hA.cell 13
  have g13 := hA.free 13
  have k14 : w3.cell? ⟨bA,14,none⟩ = some (.int .i64 0) := hA.cell 14
  have g14 := hA.free 14
  have k15 : w3.cell? ⟨bA,15,none⟩ = some (.int .i64 0) := hA.cell 15
  have g15 := hA.free 15
  have k16 : w3.cell? ⟨bA,16,none⟩ = some (.slice none 0 0) := hA.cell 16
  have g16 := hA.free 16
  have k17 : w3.cell? ⟨bA,17,none⟩ = some (.int .i64 0) := hA.cell 17
  have g17 := hA.free 17
  have k18 : w3.cell? ⟨bA,18,none⟩ = some (.int .i64 0) := hA.cell 18
  have g18 := hA.free 18
  have k19 : w3.cell? ⟨bA,19,none⟩ = some (.int .i64 0) := hA.cell 19
  have g19 := hA.free 19
  have k20 : w3.cell? ⟨bA,20,none⟩ = some (.int .i64 0) := hA.cell 20
  have g20 := hA.free 20
  have k21 : w3.cell? ⟨bA,21,none⟩ = some (.int .i64 0) := hA.cell 21
  have g21 := hA.free 21
  have k22 : w3.cell? ⟨bA,22,none⟩ = some (.int .i64 0) := hA.cell 22
  have g22 := hA.free 22
  have k23 : w3.cell? ⟨bA,23,none⟩ = some (.int .i64 0) := hA.cell 23
  have g23 := hA.free 23
  have lt_k := hA.lt
  go_upto_region 12 with fail
  clear k0 g0 k1 g1 k2 g2 k3 g3 k4 g4 k5 g5 k6 g6 k7 g7 k8 g8 k9 g9 k10 g10 k11 g11 k12 g12 k13 g13 k14 g14 k15 g15 k16 g16 k17 g17 k18 g18 k19 g19 k20 g20 k21 g21 k22 g22 k23 g23 lt_k
  have hown4 := ownsRow_setCell_other hown (a := ⟨bA,16,none⟩) hne (.slice A5 n5 c5)
  clear hown
  have hown := hown4
  clear hown4
  have hA2 : Blok (w3.setCell ⟨bA,16,none⟩ (.slice A5 n5 c5)) bA 36 #[.int .i64 5, .string ⟨#[]⟩, .int .i64 0, .int .i64 0, .int .i64 0, .int .i64 0, .int .i64 0, .int .i64 0, .int .i64 0, .int .i64 0, .int .i64 0, .int .i64 0, .int .i64 0, .int .i64 0, .int .i64 0, .int .i64 0, .slice A5 n5 c5, .int .i64 0, .int .i64 0, .int .i64 0, .int .i64 0, .int .i64 0, .int .i64 0, .int .i64 0] := by exact (hA.set_ 16 (.slice A5 n5 c5))
  replace hX := (hX.far (p := ⟨bA,16,none⟩) (by simp only; omega) (.slice A5 n5 c5))
  replace hR := (hR.far (p := ⟨bA,16,none⟩) (by simp only; omega) (.slice A5 n5 c5))
  replace hB := (hB.setCell (p := ⟨bA,16,none⟩) (by simp only; omega) (.slice A5 n5 c5))
  replace hs := hB.size
  clear hA
  have hA := hA2
  clear hA2
  generalize (w3.setCell ⟨bA,16,none⟩ (.slice A5 n5 c5)) = w4 at *
  refine gen_frame ?_
  intro a0 ha0
  try simp only [List.append]
  refine wp_region_frames rfl (by kernel_rfl) (by kernel_rfl) (fun V x w' => BM w4 bA 36 (fun u5 u6 => #[.int .i64 5, .string ⟨#[]⟩, .int .i64 0, .int .i64 0, .int .i64 0, .int .i64 0, .int .i64 0, .int .i64 0, .int .i64 0, .int .i64 0, .int .i64 0, .int .i64 0, .int .i64 0, .int .i64 0, .int .i64 0, .int .i64 0, .slice A5 n5 c5,u5,u6, .int .i64 0, .int .i64 0, .int .i64 0, .int .i64 0, .int .i64 0]) (.int .i64 (q4 : Nat)) (.int .i64 (b5 : Nat)) V w' ∧ (V.getD 0 true = true → x 0 = .pointer (some ⟨w.heap.size,4,none⟩)) ∧ (V.getD 1 true = true → x 1 = .int .u8 (b4 : Nat)) ∧ (V.getD 2 true = true → x 2 = .int .i64 (q4 : Nat)) ∧ (V.getD 3 true = true → x 3 = .pointer (some ⟨w.heap.size,5,none⟩)) ∧ (V.getD 4 true = true → x 4 = .int .u8 (b5 : Nat)) ∧ (V.getD 5 true = true → x 5 = .int .i64 (b5 : Nat)) ∧ (V.getD 6 true = true → x 6 = .pointer (some ⟨bA,17,none⟩)) ∧ (V.getD 8 true = true → x 8 = .pointer (some ⟨bA,18,none⟩))) ?_ ?_ ?_
  · intro x
    refine ⟨⟨Kept.of_below (Below.refl _ _).drew,_,_,hA,fun h => by simp at h,fun h => by simp at h⟩,?_,?_,?_,?_,?_,?_,?_,?_⟩ <;> exact fun h => by simp at h
  · intro V x b w' hbq hsz hF i hi hun haf hcl
    obtain ⟨hM,f0,f1,f2,f3,f4,f5,f6,f8⟩ := hF
    have hbe : b = putAll a0 [some 33,some 34,some 35,some 36,some 37,some 38,some 39,none,some 40,none] x 0 := hbq
    have hz0 : a0.tmps.size = 80 := by rw [ha0]; rfl
    have e1 : b.eval (.tmp 1) = .pointer (some ⟨w.heap.size,0,none⟩) := by rw [hbe,eval_out _ _ _ (by decide),ha0]; rfl
    have t1 : b.tmps[1]?.getD undef = .pointer (some ⟨w.heap.size,0,none⟩) := by simpa [Act.eval] using e1
    have e3 : b.eval (.tmp 3) = .pointer (some ⟨bA,0,none⟩) := by rw [hbe,eval_out _ _ _ (by decide),ha0]; rfl
    have t3 : b.tmps[3]?.getD undef = .pointer (some ⟨bA,0,none⟩) := by simpa [Act.eval] using e3
    have evc : ∀ v,b.eval (.const v) = v := fun _ => rfl
    clear hbq
    have hi' : i < 10 := hi
    clear hi
    obtain rfl | rfl | rfl | rfl | rfl | rfl | rfl | rfl | rfl | rfl : i = 0 ∨ i = 1 ∨ i = 2 ∨ i = 3 ∨ i = 4 ∨ i = 5 ∨ i = 6 ∨ i = 7 ∨ i = 8 ∨ i = 9 := by omega
    · refine wpOp_runs (v := .pointer (some ⟨w.heap.size,4,none⟩)) rfl rfl (by simp [execOp,go_sem,t1]) ⟨_,_,rfl,rfl,⟨hM.other 0 (by decide) (by decide),fun _ => upd_same _ _ _,kE f1 rfl,kE f2 rfl,kE f3 rfl,kE f4 rfl,kE f5 rfl,kE f6 rfl,kE f8 rfl⟩⟩
    · have d0 := getD_ft (haf _ rfl ⟨0, .data⟩ (by simp) rfl)
      have e33 : b.eval (.tmp 33) = .pointer (some ⟨w.heap.size,4,none⟩) := by rw [hbe,eval_in _ _ _ 0 (by decide) rfl (by rw [hz0]; decide)]; exact f0 d0
      have t33 : b.tmps[33]?.getD undef = .pointer (some ⟨w.heap.size,4,none⟩) := by have tv := e33; simpa only [Act.eval,Array.getD_eq_getD_getElem?] using tv
      have bq := hX.kept hM.kept (by show ¬ (w.heap.size = bA); omega)
      have n_0 : w'.cell? ⟨w.heap.size,4,none⟩ = some (.int .u8 (b4 : Nat)) := bq.cell 4
      have lt_n := bq.lt
      refine wpOp_runs (v := .int .u8 (b4 : Nat)) rfl rfl (by simp [execOp,go_sem,t33,n_0]) ⟨_,_,rfl,rfl,⟨hM.other 1 (by decide) (by decide),kE f0 rfl,fun _ => upd_same _ _ _,kE f2 rfl,kE f3 rfl,kE f4 rfl,kE f5 rfl,kE f6 rfl,kE f8 rfl⟩⟩
    · have d1 := getD_ft (haf _ rfl ⟨1, .data⟩ (by simp) rfl)
      have e34 : b.eval (.tmp 34) = .int .u8 (b4 : Nat) := by rw [hbe,eval_in _ _ _ 1 (by decide) rfl (by rw [hz0]; decide)]; exact f1 d1
      have t34 : b.tmps[34]?.getD undef = .int .u8 (b4 : Nat) := by have tv := e34; simpa only [Act.eval,Array.getD_eq_getD_getElem?] using tv
      refine wpOp_call_on rfl (by simp [Region.wanted]) 19 #[.tmp 34, .const (.int .i64 4)] _ rfl #[.int .u8 (b4 : Nat), .int .i64 4] (by simp [e34,evc]) Tryd.func19 rfl rfl ?_
      refine (rest_any b4 4 _ 4 k4_ _ H4.out (by decide) (by decide) Eq4.out).mono ?_
      rintro e9 w9 ⟨rfl,rfl⟩
      exact ⟨_,rfl,_,_,rfl,rfl,⟨hM.other 2 (by decide) (by decide),kE f0 rfl,kE f1 rfl,fun _ => upd_same _ _ _,kE f3 rfl,kE f4 rfl,kE f5 rfl,kE f6 rfl,kE f8 rfl⟩⟩
    · refine wpOp_runs (v := .pointer (some ⟨w.heap.size,5,none⟩)) rfl rfl (by simp [execOp,go_sem,t1]) ⟨_,_,rfl,rfl,⟨hM.other 3 (by decide) (by decide),kE f0 rfl,kE f1 rfl,kE f2 rfl,fun _ => upd_same _ _ _,kE f4 rfl,kE f5 rfl,kE f6 rfl,kE f8 rfl⟩⟩
    · have d3 := getD_ft (haf _ rfl ⟨3, .data⟩ (by simp) rfl)
      have e36 : b.eval (.tmp 36) = .pointer (some ⟨w.heap.size,5,none⟩) := by rw [hbe,eval_in _ _ _ 3 (by decide) rfl (by rw [hz0]; decide)]; exact f3 d3
      have t36 : b.tmps[36]?.getD undef = .pointer (some ⟨w.heap.size,5,none⟩) := by have tv := e36; simpa only [Act.eval,Array.getD_eq_getD_getElem?] using tv
      have bq := hX.kept hM.kept (by show ¬ (w.heap.size = bA); omega)
      have n_0 : w'.cell? ⟨w.heap.size,5,none⟩ = some (.int .u8 (b5 : Nat)) := bq.cell 5
      have lt_n := bq.lt
      refine wpOp_runs (v := .int .u8 (b5 : Nat)) rfl rfl (by simp [execOp,go_sem,t36,n_0]) ⟨_,_,rfl,rfl,⟨hM.other 4 (by decide) (by decide),kE f0 rfl,kE f1 rfl,kE f2 rfl,kE f3 rfl,fun _ => upd_same _ _ _,kE f5 rfl,kE f6 rfl,kE f8 rfl⟩⟩
    · have d4 := getD_ft (haf _ rfl ⟨4, .data⟩ (by simp) rfl)
      have e37 : b.eval (.tmp 37) = .int .u8 (b5 : Nat) := by rw [hbe,eval_in _ _ _ 4 (by decide) rfl (by rw [hz0]; decide)]; exact f4 d4
      have t37 : b.tmps[37]?.getD undef = .int .u8 (b5 : Nat) := by have tv := e37; simpa only [Act.eval,Array.getD_eq_getD_getElem?] using tv
      refine wpOp_runs (v := .int .i64 (b5 : Nat)) rfl rfl (by simp [execOp,go_sem,t37,vb5]) ⟨_,_,rfl,rfl,⟨hM.other 5 (by decide) (by decide),kE f0 rfl,kE f1 rfl,kE f2 rfl,kE f3 rfl,kE f4 rfl,fun _ => upd_same _ _ _,kE f6 rfl,kE f8 rfl⟩⟩
    · refine wpOp_runs (v := .pointer (some ⟨bA,17,none⟩)) rfl rfl (by simp [execOp,go_sem,t3]) ⟨_,_,rfl,rfl,⟨hM.other 6 (by decide) (by decide),kE f0 rfl,kE f1 rfl,kE f2 rfl,kE f3 rfl,kE f4 rfl,kE f5 rfl,fun _ => upd_same _ _ _,kE f8 rfl⟩⟩
    · have d6 := getD_ft (haf _ rfl ⟨6, .data⟩ (by simp) rfl)
      have e39 : b.eval (.tmp 39) = .pointer (some ⟨bA,17,none⟩) := by rw [hbe,eval_in _ _ _ 6 (by decide) rfl (by rw [hz0]; decide)]; exact f6 d6
      have t39 : b.tmps[39]?.getD undef = .pointer (some ⟨bA,17,none⟩) := by have tv := e39; simpa only [Act.eval,Array.getD_eq_getD_getElem?] using tv
      have d2 := getD_ft (haf _ rfl ⟨2, .data⟩ (by simp) rfl)
      have e35 : b.eval (.tmp 35) = .int .i64 (q4 : Nat) := by rw [hbe,eval_in _ _ _ 2 (by decide) rfl (by rw [hz0]; decide)]; exact f2 d2
      have t35 : b.tmps[35]?.getD undef = .int .i64 (q4 : Nat) := by have tv := e35; simpa only [Act.eval,Array.getD_eq_getD_getElem?] using tv
      obtain ⟨u5,u6,hbb,_,_⟩ := hM.box
      have n_0 : w'.cell? ⟨bA,17,none⟩ = some u5 := hbb.cell 17
      have nf_0 := hbb.free 17
      have lt_n := hbb.lt
      refine wpOp_skips' (w' := w'.setCell ⟨bA,17,none⟩ (.int .i64 (q4 : Nat))) rfl rfl (by simp [execOp,go_sem,t39,t35,n_0,nf_0,lt_n]) ⟨_,undef,rfl,rfl,⟨hM.store7 17 (fun _ _ _ => rfl),kE f0 rfl,kE f1 rfl,kE f2 rfl,kE f3 rfl,kE f4 rfl,kE f5 rfl,kE f6 rfl,kE f8 rfl⟩⟩
    · refine wpOp_runs (v := .pointer (some ⟨bA,18,none⟩)) rfl rfl (by simp [execOp,go_sem,t3]) ⟨_,_,rfl,rfl,⟨hM.other 8 (by decide) (by decide),kE f0 rfl,kE f1 rfl,kE f2 rfl,kE f3 rfl,kE f4 rfl,kE f5 rfl,kE f6 rfl,fun _ => upd_same _ _ _⟩⟩
    · have d8 := getD_ft (haf _ rfl ⟨8, .data⟩ (by simp) rfl)
      have e40 : b.eval (.tmp 40) = .pointer (some ⟨bA,18,none⟩) := by rw [hbe,eval_in _ _ _ 8 (by decide) rfl (by rw [hz0]; decide)]; exact f8 d8
      have t40 : b.tmps[40]?.getD undef = .pointer (some ⟨bA,18,none⟩) := by have tv := e40; simpa only [Act.eval,Array.getD_eq_getD_getElem?] using tv
      have d5 := getD_ft (haf _ rfl ⟨5, .data⟩ (by simp) rfl)
      have e38 : b.eval (.tmp 38) = .int .i64 (b5 : Nat) := by rw [hbe,eval_in _ _ _ 5 (by decide) rfl (by rw [hz0]; decide)]; exact f5 d5
      have t38 : b.tmps[38]?.getD undef = .int .i64 (b5 : Nat) := by have tv := e38; simpa only [Act.eval,Array.getD_eq_getD_getElem?] using tv
      obtain ⟨u5,u6,hbb,_,_⟩ := hM.box
      have n_0 : w'.cell? ⟨bA,18,none⟩ = some u6 := hbb.cell 18
      have nf_0 := hbb.free 18
      have lt_n := hbb.lt
      refine wpOp_skips' (w' := w'.setCell ⟨bA,18,none⟩ (.int .i64 (b5 : Nat))) rfl rfl (by simp [execOp,go_sem,t40,t38,n_0,nf_0,lt_n]) ⟨_,undef,rfl,rfl,⟨hM.store9 18 (fun _ _ _ => rfl),kE f0 rfl,kE f1 rfl,kE f2 rfl,kE f3 rfl,kE f4 rfl,kE f5 rfl,kE f6 rfl,kE f8 rfl⟩⟩
  intro V x w' hall hF
  obtain ⟨hM,f0,f1,f2,f3,f4,f5,f6,f8⟩ := hF
  obtain ⟨u5,u6,hA2,hu5,hu6⟩ := hM.box
  obtain rfl := hu5 (hall 7 (by decide))
  obtain rfl := hu6 (hall 9 (by decide))
  have hK := hM.kept
  clear f0 f1 f2 f3 f4 f5 f6 f8 hall hM hu5 hu6
  subst ha0
  simp only [List.map_cons,List.map_nil,putAll]
  go_simp
  replace hX := hX.kept hK (by show ¬ (w.heap.size = bA); omega)
  replace hR := hR.kept hK (by show ¬ (w.heap.size + 1 = bA); omega)
  replace hown := own_kept hown hK (fun g hg => by show ¬ (g = bA); intro e; rw [e] at hg; exact hne hg)
  replace hB := below_kept hB hK (by omega) hs
  replace hs := hB.size
  clear hA hK
  have hA := hA2
  clear hA2
  have hF := setRow_heap w' (w.heap.size + 1) #[.int .i64 0, .string ⟨#[]⟩, .int .i64 0, .int .i64 0, .int .i64 0, .int .i64 0, .int .i64 0, .int .i64 0, .int .i64 0, .int .i64 0, .int .i64 0, .int .i64 0, .int .i64 0, .int .i64 0, .int .i64 0, .int .i64 0, .slice none 0 0, .int .i64 0, .int .i64 0, .int .i64 0, .int .i64 0, .int .i64 0, .int .i64 0, .int .i64 0] #[.int .i64 5, .string ⟨#[]⟩, .int .i64 0, .int .i64 0, .int .i64 0, .int .i64 0, .int .i64 0, .int .i64 0, .int .i64 0, .int .i64 0, .int .i64 0, .int .i64 0, .int .i64 0, .int .i64 0, .int .i64 0, .int .i64 0, .slice A5 n5 c5, .int .i64 (q4 : Nat), .int .i64 (b5 : Nat), .int .i64 0, .int .i64 0, .int .i64 0, .int .i64 0, .int .i64 0] 36 (0,0) hR
  have hWf := below_setRow hB (g := w.heap.size + 1) (by omega) #[.int .i64 5, .string ⟨#[]⟩, .int .i64 0, .int .i64 0, .int .i64 0, .int .i64 0, .int .i64 0, .int .i64 0, .int .i64 0, .int .i64 0, .int .i64 0, .int .i64 0, .int .i64 0, .int .i64 0, .int .i64 0, .int .i64 0, .slice A5 n5 c5, .int .i64 (q4 : Nat), .int .i64 (b5 : Nat), .int .i64 0, .int .i64 0, .int .i64 0, .int .i64 0, .int .i64 0]
  have hgw := grown_setRow w' (w.heap.size + 1) #[.int .i64 5, .string ⟨#[]⟩, .int .i64 0, .int .i64 0, .int .i64 0, .int .i64 0, .int .i64 0, .int .i64 0, .int .i64 0, .int .i64 0, .int .i64 0, .int .i64 0, .int .i64 0, .int .i64 0, .int .i64 0, .int .i64 0, .slice A5 n5 c5, .int .i64 (q4 : Nat), .int .i64 (b5 : Nat), .int .i64 0, .int .i64 0, .int .i64 0, .int .i64 0, .int .i64 0]
  have hA' := hA
  have hR' := hR
  go_wp2_with (first | (refine wpList_load_row (by rfl) 36 (.tmp 3) (by rfl) bA (by rfl) 36 #[.int .i64 5, .string ⟨#[]⟩, .int .i64 0, .int .i64 0, .int .i64 0, .int .i64 0, .int .i64 0, .int .i64 0, .int .i64 0, .int .i64 0, .int .i64 0, .int .i64 0, .int .i64 0, .int .i64 0, .int .i64 0, .int .i64 0, .slice A5 n5 c5, .int .i64 (q4 : Nat), .int .i64 (b5 : Nat), .int .i64 0, .int .i64 0, .int .i64 0, .int .i64 0, .int .i64 0] (0,0) _ hA' Tryd.underlying36 rfl (by kernel_rfl) ?_) | (refine wpList_store_row (by rfl) 36 (.tmp 2) (.tmp 79) (by rfl) (w.heap.size + 1) #[.int .i64 5, .string ⟨#[]⟩, .int .i64 0, .int .i64 0, .int .i64 0, .int .i64 0, .int .i64 0, .int .i64 0, .int .i64 0, .int .i64 0, .int .i64 0, .int .i64 0, .int .i64 0, .int .i64 0, .int .i64 0, .int .i64 0, .slice A5 n5 c5, .int .i64 (q4 : Nat), .int .i64 (b5 : Nat), .int .i64 0, .int .i64 0, .int .i64 0, .int .i64 0, .int .i64 0] (by rfl) (by rfl) 36 #[.int .i64 0, .string ⟨#[]⟩, .int .i64 0, .int .i64 0, .int .i64 0, .int .i64 0, .int .i64 0, .int .i64 0, .int .i64 0, .int .i64 0, .int .i64 0, .int .i64 0, .int .i64 0, .int .i64 0, .int .i64 0, .int .i64 0, .slice none 0 0, .int .i64 0, .int .i64 0, .int .i64 0, .int .i64 0, .int .i64 0, .int .i64 0, .int .i64 0] hR' (by kernel_rfl) rfl (by simp [Value.oneCell']) ?_))
  refine bodyPost_ret (results_cell_row Tryd.results16 _ _ (w.heap.size + 1) 36 #[.int .i64 5, .string ⟨#[]⟩, .int .i64 0, .int .i64 0, .int .i64 0, .int .i64 0, .int .i64 0, .int .i64 0, .int .i64 0, .int .i64 0, .int .i64 0, .int .i64 0, .int .i64 0, .int .i64 0, .int .i64 0, .int .i64 0, .slice A5 n5 c5, .int .i64 (q4 : Nat), .int .i64 (b5 : Nat), .int .i64 0, .int .i64 0, .int .i64 0, .int .i64 0, .int .i64 0] (0,0) _ (by rfl) hF Tryd.underlying36 rfl (by kernel_rfl)) rfl ?_
  have hwf := hown.kept hgw (.inr hne2)
  exact ⟨_,rfl,⟨A5,n5,c5,by rw [← HP.out]; rfl,by rw [← HP.out]; rw [← HN5.out] at hwf ⊢; exact hwf,by rw [← HP.out]; exact HN5.out⟩,hWf⟩
end Go.Proofs.YtggdomeeienjbaaDoor
