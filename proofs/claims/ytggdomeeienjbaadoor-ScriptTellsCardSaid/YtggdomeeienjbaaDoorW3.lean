/- Contracts and plain facts, several texts of mine in one: Scr3q5, Scr3q6, Scr4, Scr5, EqI, Scr6, Scr6c0, Scr6c1, Scr6c2, Scr6c3, Scr6c4, Scr6c5, Scr6c6, Scr6c7, Scr6c8, ScrL, Scr7, Scr8. No condition. -/
import Derived.Test.YtggdomeeienjbaaDoorW2
import Derived.Test.YtggdomeeienjbaaDoorInts

/- Package script: act, kind 5. No condition but that bytes are bytes. -/
namespace Go.Proofs.YtggdomeeienjbaaDoor
open Go.ChangeShapes Go.WideShapes Go.ChangeAt Go.RowKit Go.Sort
set_option linter.unusedSimpArgs false
set_option linter.unusedVariables false
set_option maxHeartbeats 16000000 in
set_option maxRecDepth 100000 in
theorem sact_5 (b0 b1 b2 b3 b4 b5 b6 b7 b8 b9 : Nat) (w : World) (ht : TenTab w) (h0 : b0 < 256) (h1 : b1 < 256) (h2 : b2 < 256) (h3 : b3 < 256) (h4 : b4 < 256) (h5 : b5 < 256) (h6 : b6 < 256) (h7 : b7 < 256) (h8 : b8 < 256) (h9 : b9 < 256) (P : Pa) (hq : b0 % 7 = 5) (hP : (⟨6,[],zeroDr,0,[],0,0,(1 + b1 % 4 : Nat),(1 + b2 % 4 : Nat),(b3 : Nat),(b4 % 3 : Nat),(4 * b5 : Nat)⟩ : Pa) = P) :
    Calls Tryd.prog 16 #[.agg #[.int .u8 (b0 : Nat), .int .u8 (b1 : Nat), .int .u8 (b2 : Nat), .int .u8 (b3 : Nat), .int .u8 (b4 : Nat), .int .u8 (b5 : Nat), .int .u8 (b6 : Nat), .int .u8 (b7 : Nat), .int .u8 (b8 : Nat), .int .u8 (b9 : Nat)]] w fun e w' => ∃ v,e = .returned v ∧ AV w.heap.size w' v P ∧ Below w.heap.size w w' := by
  have Eq0 : Hid (b0 % 7 = 5) := hq
  obtain ⟨q1,eq1⟩ : ∃ q,b1 % 4 = q := ⟨_,rfl⟩
  have lq1 : q1 < 4 := by rw [← eq1]; exact Nat.mod_lt _ (by omega)
  rw [eq1] at hP
  have Eq1 := Lib.hid eq1
  obtain ⟨q2,eq2⟩ : ∃ q,b2 % 4 = q := ⟨_,rfl⟩
  have lq2 : q2 < 4 := by rw [← eq2]; exact Nat.mod_lt _ (by omega)
  rw [eq2] at hP
  have Eq2 := Lib.hid eq2
  obtain ⟨p4,ep4⟩ : ∃ q,b4 % 3 = q := ⟨_,rfl⟩
  have lp4 : p4 < 3 := by rw [← ep4]; exact Nat.mod_lt _ (by omega)
  rw [ep4] at hP
  have Ep4 := Lib.hid ep4
  have HP := Lib.hid hP
  have TT := Lib.hid ht
  have H0 := Lib.hid h0
  have H1 := Lib.hid h1
  have H2 := Lib.hid h2
  have H3 := Lib.hid h3
  have H4 := Lib.hid h4
  have H5 := Lib.hid h5
  have H6 := Lib.hid h6
  have H7 := Lib.hid h7
  have H8 := Lib.hid h8
  have H9 := Lib.hid h9
  have wq1 : IntKind.i64.wrap (1 + (q1 : Int)) = 1 + (q1 : Int) := IntWalk.i64_in _ (by omega)
  have wq2 : IntKind.i64.wrap (1 + (q2 : Int)) = 1 + (q2 : Int) := IntWalk.i64_in _ (by omega)
  have vb1 : IntKind.i64.wrap (b1 : Int) = (b1 : Int) := IntWalk.i64_in _ (by omega)
  have vb3 : IntKind.i64.wrap (b3 : Int) = (b3 : Int) := IntWalk.i64_in _ (by omega)
  have vb5 : IntKind.i64.wrap (b5 : Int) = (b5 : Int) := IntWalk.i64_in _ (by omega)
  have v45 : IntKind.i64.wrap (4 * (b5 : Int)) = 4 * (b5 : Int) := IntWalk.i64_in _ (by omega)
  clear hP ht hq eq1 lq1 eq2 lq2 ep4 lp4 h0 h1 h2 h3 h4 h5 h6 h7 h8 h9
  have hB : Below w.heap.size w ((w.alloc (.cells #[.int .u8 (b0 : Nat), .int .u8 (b1 : Nat), .int .u8 (b2 : Nat), .int .u8 (b3 : Nat), .int .u8 (b4 : Nat), .int .u8 (b5 : Nat), .int .u8 (b6 : Nat), .int .u8 (b7 : Nat), .int .u8 (b8 : Nat), .int .u8 (b9 : Nat)] 23)).alloc (.cells #[.int .i64 0, .string ⟨#[]⟩, .int .i64 0, .int .i64 0, .int .i64 0, .int .i64 0, .int .i64 0, .int .i64 0, .int .i64 0, .int .i64 0, .int .i64 0, .int .i64 0, .int .i64 0, .int .i64 0, .int .i64 0, .int .i64 0, .slice none 0 0, .int .i64 0, .int .i64 0, .int .i64 0, .int .i64 0, .int .i64 0, .int .i64 0, .int .i64 0] 36)) := by (repeat (first | exact Below.refl _ _ | refine Below.alloc ?_ (by first | omega | (simp; done) | (simp; omega)) _ | refine Below.setCell ?_ (by first | omega | (simp; done) | (simp; omega)) _ | refine Below.drew ?_))
  have hX := (Blok.new w 23 #[.int .u8 (b0 : Nat), .int .u8 (b1 : Nat), .int .u8 (b2 : Nat), .int .u8 (b3 : Nat), .int .u8 (b4 : Nat), .int .u8 (b5 : Nat), .int .u8 (b6 : Nat), .int .u8 (b7 : Nat), .int .u8 (b8 : Nat), .int .u8 (b9 : Nat)]).alloc (.cells #[.int .i64 0, .string ⟨#[]⟩, .int .i64 0, .int .i64 0, .int .i64 0, .int .i64 0, .int .i64 0, .int .i64 0, .int .i64 0, .int .i64 0, .int .i64 0, .int .i64 0, .int .i64 0, .int .i64 0, .int .i64 0, .int .i64 0, .slice none 0 0, .int .i64 0, .int .i64 0, .int .i64 0, .int .i64 0, .int .i64 0, .int .i64 0, .int .i64 0] 36)
  have hR := Blok.new (w.alloc (.cells #[.int .u8 (b0 : Nat), .int .u8 (b1 : Nat), .int .u8 (b2 : Nat), .int .u8 (b3 : Nat), .int .u8 (b4 : Nat), .int .u8 (b5 : Nat), .int .u8 (b6 : Nat), .int .u8 (b7 : Nat), .int .u8 (b8 : Nat), .int .u8 (b9 : Nat)] 23)) 36 #[.int .i64 0, .string ⟨#[]⟩, .int .i64 0, .int .i64 0, .int .i64 0, .int .i64 0, .int .i64 0, .int .i64 0, .int .i64 0, .int .i64 0, .int .i64 0, .int .i64 0, .int .i64 0, .int .i64 0, .int .i64 0, .int .i64 0, .slice none 0 0, .int .i64 0, .int .i64 0, .int .i64 0, .int .i64 0, .int .i64 0, .int .i64 0, .int .i64 0]
  rw [World.size_alloc] at hR
  have hs := hB.size
  go_enter Tryd.func16,Tryd.ntmps16
  go_upto_region 1 with fail
  generalize ((w.alloc (.cells #[.int .u8 (b0 : Nat), .int .u8 (b1 : Nat), .int .u8 (b2 : Nat), .int .u8 (b3 : Nat), .int .u8 (b4 : Nat), .int .u8 (b5 : Nat), .int .u8 (b6 : Nat), .int .u8 (b7 : Nat), .int .u8 (b8 : Nat), .int .u8 (b9 : Nat)] 23)).alloc (.cells #[.int .i64 0, .string ⟨#[]⟩, .int .i64 0, .int .i64 0, .int .i64 0, .int .i64 0, .int .i64 0, .int .i64 0, .int .i64 0, .int .i64 0, .int .i64 0, .int .i64 0, .int .i64 0, .int .i64 0, .int .i64 0, .int .i64 0, .slice none 0 0, .int .i64 0, .int .i64 0, .int .i64 0, .int .i64 0, .int .i64 0, .int .i64 0, .int .i64 0] 36)) = w1 at *
  have x0 : w1.cell? ⟨w.heap.size,0,none⟩ = some (.int .u8 (b0 : Nat)) := hX.cell 0
  have lt_x := hX.lt
  go_upto_region 2 with (first | (refine wpList_store_row (by rfl) 36 (.tmp 3) (.tmp 8) (by rfl) w1.heap.size #[.int .i64 6, .string ⟨#[]⟩, .int .i64 0, .int .i64 0, .int .i64 0, .int .i64 0, .int .i64 0, .int .i64 0, .int .i64 0, .int .i64 0, .int .i64 0, .int .i64 0, .int .i64 0, .int .i64 0, .int .i64 0, .int .i64 0, .slice none 0 0, .int .i64 0, .int .i64 0, .int .i64 0, .int .i64 0, .int .i64 0, .int .i64 0, .int .i64 0] (by rfl) (by rfl) 36 #[.int .i64 0, .string ⟨#[]⟩, .int .i64 0, .int .i64 0, .int .i64 0, .int .i64 0, .int .i64 0, .int .i64 0, .int .i64 0, .int .i64 0, .int .i64 0, .int .i64 0, .int .i64 0, .int .i64 0, .int .i64 0, .int .i64 0, .slice none 0 0, .int .i64 0, .int .i64 0, .int .i64 0, .int .i64 0, .int .i64 0, .int .i64 0, .int .i64 0] (heap_alloc_new _ _) (by kernel_rfl) rfl (by simp [Value.oneCell']) ?_; rw [World.setRow_alloc_new]) | (refine wpList_build_run _ (by rfl) 36 #[(0, .tmp 7)] (by rfl) #[(0, .int .i64 6)] (by rfl) (bact 6 _) ?_) | (go_at_call 19; first | ((with_reducible refine Calls.mono (rest_any b0 7 _ 7 k7_ _ H0.out (by decide) (by decide) Eq0.out) ?_); rintro e9 w9 ⟨rfl,rfl⟩) | ((with_reducible refine Calls.mono (rest_any b1 4 _ 4 k4_ _ H1.out (by decide) (by decide) Eq1.out) ?_); rintro e9 w9 ⟨rfl,rfl⟩) | ((with_reducible refine Calls.mono (rest_any b2 4 _ 4 k4_ _ H2.out (by decide) (by decide) Eq2.out) ?_); rintro e9 w9 ⟨rfl,rfl⟩) | ((with_reducible refine Calls.mono (rest_any b4 3 _ 3 k3_ _ H4.out (by decide) (by decide) Ep4.out) ?_); rintro e9 w9 ⟨rfl,rfl⟩)))
  clear x0 lt_x
  have hA := Blok.new w1 36 #[.int .i64 6, .string ⟨#[]⟩, .int .i64 0, .int .i64 0, .int .i64 0, .int .i64 0, .int .i64 0, .int .i64 0, .int .i64 0, .int .i64 0, .int .i64 0, .int .i64 0, .int .i64 0, .int .i64 0, .int .i64 0, .int .i64 0, .slice none 0 0, .int .i64 0, .int .i64 0, .int .i64 0, .int .i64 0, .int .i64 0, .int .i64 0, .int .i64 0]
  have hb : Below w1.heap.size w1 (w1.alloc (.cells #[.int .i64 6, .string ⟨#[]⟩, .int .i64 0, .int .i64 0, .int .i64 0, .int .i64 0, .int .i64 0, .int .i64 0, .int .i64 0, .int .i64 0, .int .i64 0, .int .i64 0, .int .i64 0, .int .i64 0, .int .i64 0, .int .i64 0, .slice none 0 0, .int .i64 0, .int .i64 0, .int .i64 0, .int .i64 0, .int .i64 0, .int .i64 0, .int .i64 0] 36)) := by (repeat (first | exact Below.refl _ _ | refine Below.alloc ?_ (by first | omega | (simp; done) | (simp; omega)) _ | refine Below.setCell ?_ (by first | omega | (simp; done) | (simp; omega)) _ | refine Below.drew ?_))
  have lR := hR.lt
  replace hX := hX.below hb hX.lt
  replace hR := hR.below hb hR.lt
  replace hB := hB.trans (hb.mono hs)
  replace hs := hB.size
  clear hb
  generalize w1.alloc (.cells #[.int .i64 6, .string ⟨#[]⟩, .int .i64 0, .int .i64 0, .int .i64 0, .int .i64 0, .int .i64 0, .int .i64 0, .int .i64 0, .int .i64 0, .int .i64 0, .int .i64 0, .int .i64 0, .int .i64 0, .int .i64 0, .int .i64 0, .slice none 0 0, .int .i64 0, .int .i64 0, .int .i64 0, .int .i64 0, .int .i64 0, .int .i64 0, .int .i64 0] 36) = w2 at *
  generalize w1.heap.size = bA at *
  have k0 : w2.cell? ⟨bA,0,none⟩ = some (.int .i64 6) := hA.cell 0
  have k1 : w2.cell? ⟨bA,1,none⟩ = some (.string ⟨#[]⟩) := hA.cell 1
  have k2 : w2.cell? ⟨bA,2,none⟩ = some (.int .i64 0) := hA.cell 2
  have k3 : w2.cell? ⟨bA,3,none⟩ = some (.int .i64 0) := hA.cell 3
  have k4 : w2.cell? ⟨bA,4,none⟩ = some (.int .i64 0) := hA.cell 4
  have k5 : w2.cell? ⟨bA,5,none⟩ = some (.int .i64 0) := hA.cell 5
  have k6 : w2.cell? ⟨bA,6,none⟩ = some (.int .i64 0) := hA.cell 6
  have k7 : w2.cell? ⟨bA,7,none⟩ = some (.int .i64 0) := hA.cell 7
  have k8 : w2.cell? ⟨bA,8,none⟩ = some (.int .i64 0) := hA.cell 8
  have k9 : w2.cell? ⟨bA,9,none⟩ = some (.int .i64 0) := hA.cell 9
  have k10 : w2.cell? ⟨bA,10,none⟩ = some (.int .i64 0) := hA.cell 10
  have k11 : w2.cell? ⟨bA,11,none⟩ = some (.int .i64 0) := hA.cell 11
  have k12 : w2.cell? ⟨bA,12,none⟩ = some (.int .i64 0) := hA.cell 12
  have k13 : w2.cell? ⟨bA,13,none⟩ = some (.int .i64 0) := hA.cell 13
  have k14 : w2.cell? ⟨bA,14,none⟩ = some (.int .i64 0) := hA.cell 14
  have k15 : w2.cell? ⟨bA,15,none⟩ = some (.int .i64 0) := hA.cell 15
  have k16 : w2.cell? ⟨bA,16,none⟩ = some (.slice none 0 0) := hA.cell 16
  have k17 : w2.cell? ⟨bA,17,none⟩ = some (.int .i64 0) := hA.cell 17
  have k18 : w2.cell? ⟨bA,18,none⟩ = some (.int .i64 0) := hA.cell 18
  have k19 : w2.cell? ⟨bA,19,none⟩ = some (.int .i64 0) := hA.cell 19
  have k20 : w2.cell? ⟨bA,20,none⟩ = some (.int .i64 0) := hA.cell 20
  have k21 : w2.cell? ⟨bA,21,none⟩ = some (.int .i64 0) := hA.cell 21
  have k22 : w2.cell? ⟨bA,22,none⟩ = some (.int .i64 0) := hA.cell 22
  have k23 : w2.cell? ⟨bA,23,none⟩ = some (.int .i64 0) := hA.cell 23
  have lt_k := hA.lt
  go_upto_region 14 with fail
  clear k0 k1 k2 k3 k4 k5 k6 k7 k8 k9 k10 k11 k12 k13 k14 k15 k16 k17 k18 k19 k20 k21 k22 k23 lt_k
  have x1 : w2.cell? ⟨w.heap.size,1,none⟩ = some (.int .u8 (b1 : Nat)) := hX.cell 1
  have x2 : w2.cell? ⟨w.heap.size,2,none⟩ = some (.int .u8 (b2 : Nat)) := hX.cell 2
  have x3 : w2.cell? ⟨w.heap.size,3,none⟩ = some (.int .u8 (b3 : Nat)) := hX.cell 3
  have x4 : w2.cell? ⟨w.heap.size,4,none⟩ = some (.int .u8 (b4 : Nat)) := hX.cell 4
  have x5 : w2.cell? ⟨w.heap.size,5,none⟩ = some (.int .u8 (b5 : Nat)) := hX.cell 5
  have lt_x := hX.lt
  have q_x1 := fun d os => cell_regrown x1 d os
  have q_x2 := fun d os => cell_regrown x2 d os
  have q_x3 := fun d os => cell_regrown x3 d os
  have q_x4 := fun d os => cell_regrown x4 d os
  have q_x5 := fun d os => cell_regrown x5 d os
  try simp only [List.append]
  refine wp_region_grown_tail 20 (by kernel_rfl) (by kernel_rfl) ?_
  simp only [List.take_succ_cons,List.take_zero]
  repeat (go_big_quiet_step (((go_at_call 19; first | with_reducible exact Calls.regrown_same (rest_any b0 7 _ 7 k7_ _ H0.out (by decide) (by decide) Eq0.out) | with_reducible exact Calls.regrown_same (rest_any b1 4 _ 4 k4_ _ H1.out (by decide) (by decide) Eq1.out) | with_reducible exact Calls.regrown_same (rest_any b2 4 _ 4 k4_ _ H2.out (by decide) (by decide) Eq2.out) | with_reducible exact Calls.regrown_same (rest_any b4 3 _ 3 k3_ _ H4.out (by decide) (by decide) Ep4.out)))))
  refine wpQuiet_nil ?_
  intro w3 hw3
  obtain ⟨pq,hw3⟩ := hw3
  have hb := below_regrown w2 pq.d pq.os
  rw [← hw3] at hb
  clear hw3
  clear q_x1 q_x2 q_x3 q_x4 q_x5
  clear x1 x2 x3 x4 x5 lt_x
  replace hX := hX.below hb hX.lt
  replace hR := hR.below hb hR.lt
  replace hA := hA.below hb hA.lt
  replace hB := hB.trans (hb.mono hs)
  replace hs := hB.size
  clear hb
  simp only [List.drop_succ_cons,List.drop_zero]
  have hth := hA.there_ 19 5 (by simp)
  refine wpList_store_mid rfl 34 (.tmp 62) (.tmp 61) rfl bA 19 #[.int .i64 (1 + (q1 : Int)), .int .i64 (1 + (q2 : Int)), .int .i64 (b3 : Nat), .int .i64 (p4 : Nat), .int .i64 (4 * (b5 : Int))] rfl rfl hth (by kernel_rfl) (by simp [Value.oneCell']) ?_
  obtain ⟨w4,hw4⟩ : ∃ x,x = w3.setCells bA 19 (#[.int .i64 (1 + (q1 : Int)), .int .i64 (1 + (q2 : Int)), .int .i64 (b3 : Nat), .int .i64 (p4 : Nat), .int .i64 (4 * (b5 : Int))] : Array Value).toList := ⟨_,rfl⟩
  rw [← hw4]
  have hgs := grown_sets (b := bA) [.int .i64 (1 + (q1 : Int)), .int .i64 (1 + (q2 : Int)), .int .i64 (b3 : Nat), .int .i64 (p4 : Nat), .int .i64 (4 * (b5 : Int))] 19 w3
  have hA2 : Blok w4 bA 36 #[.int .i64 6, .string ⟨#[]⟩, .int .i64 0, .int .i64 0, .int .i64 0, .int .i64 0, .int .i64 0, .int .i64 0, .int .i64 0, .int .i64 0, .int .i64 0, .int .i64 0, .int .i64 0, .int .i64 0, .int .i64 0, .int .i64 0, .slice none 0 0, .int .i64 0, .int .i64 0, .int .i64 (1 + (q1 : Int)), .int .i64 (1 + (q2 : Int)), .int .i64 (b3 : Nat), .int .i64 (p4 : Nat), .int .i64 (4 * (b5 : Int))] := by rw [hw4]; exact Blok.sets [.int .i64 (1 + (q1 : Int)), .int .i64 (1 + (q2 : Int)), .int .i64 (b3 : Nat), .int .i64 (p4 : Nat), .int .i64 (4 * (b5 : Int))] 19 w3 [.int .i64 6, .string ⟨#[]⟩, .int .i64 0, .int .i64 0, .int .i64 0, .int .i64 0, .int .i64 0, .int .i64 0, .int .i64 0, .int .i64 0, .int .i64 0, .int .i64 0, .int .i64 0, .int .i64 0, .int .i64 0, .int .i64 0, .slice none 0 0, .int .i64 0, .int .i64 0, .int .i64 0, .int .i64 0, .int .i64 0, .int .i64 0, .int .i64 0] hA (by simp)
  have hX2 : Blok w4 w.heap.size 23 #[.int .u8 (b0 : Nat), .int .u8 (b1 : Nat), .int .u8 (b2 : Nat), .int .u8 (b3 : Nat), .int .u8 (b4 : Nat), .int .u8 (b5 : Nat), .int .u8 (b6 : Nat), .int .u8 (b7 : Nat), .int .u8 (b8 : Nat), .int .u8 (b9 : Nat)] := by rw [hw4]; exact hX.grown hgs (by simp only [ne_eq,Option.some.injEq]; omega)
  have hR2 : Blok w4 (w.heap.size + 1) 36 #[.int .i64 0, .string ⟨#[]⟩, .int .i64 0, .int .i64 0, .int .i64 0, .int .i64 0, .int .i64 0, .int .i64 0, .int .i64 0, .int .i64 0, .int .i64 0, .int .i64 0, .int .i64 0, .int .i64 0, .int .i64 0, .int .i64 0, .slice none 0 0, .int .i64 0, .int .i64 0, .int .i64 0, .int .i64 0, .int .i64 0, .int .i64 0, .int .i64 0] := by rw [hw4]; exact hR.grown hgs (by simp only [ne_eq,Option.some.injEq]; omega)
  have hB2 : Below w.heap.size w w4 := by rw [hw4]; exact hB.grown hgs hs (fun k hk => by injection hk with hk; omega)
  clear hgs
  clear hA hX hR hB hs hth hw4
  have hA := hA2
  have hX := hX2
  have hR := hR2
  have hB := hB2
  have hs := hB.size
  clear hA2 hX2 hR2 hB2
  go_upto_region 18 with fail
  have hF := setRow_heap w4 (w.heap.size + 1) #[.int .i64 0, .string ⟨#[]⟩, .int .i64 0, .int .i64 0, .int .i64 0, .int .i64 0, .int .i64 0, .int .i64 0, .int .i64 0, .int .i64 0, .int .i64 0, .int .i64 0, .int .i64 0, .int .i64 0, .int .i64 0, .int .i64 0, .slice none 0 0, .int .i64 0, .int .i64 0, .int .i64 0, .int .i64 0, .int .i64 0, .int .i64 0, .int .i64 0] #[.int .i64 6, .string ⟨#[]⟩, .int .i64 0, .int .i64 0, .int .i64 0, .int .i64 0, .int .i64 0, .int .i64 0, .int .i64 0, .int .i64 0, .int .i64 0, .int .i64 0, .int .i64 0, .int .i64 0, .int .i64 0, .int .i64 0, .slice none 0 0, .int .i64 0, .int .i64 0, .int .i64 (1 + (q1 : Int)), .int .i64 (1 + (q2 : Int)), .int .i64 (b3 : Nat), .int .i64 (p4 : Nat), .int .i64 (4 * (b5 : Int))] 36 (0,0) hR
  have hWf := below_setRow hB (g := w.heap.size + 1) (by omega) #[.int .i64 6, .string ⟨#[]⟩, .int .i64 0, .int .i64 0, .int .i64 0, .int .i64 0, .int .i64 0, .int .i64 0, .int .i64 0, .int .i64 0, .int .i64 0, .int .i64 0, .int .i64 0, .int .i64 0, .int .i64 0, .int .i64 0, .slice none 0 0, .int .i64 0, .int .i64 0, .int .i64 (1 + (q1 : Int)), .int .i64 (1 + (q2 : Int)), .int .i64 (b3 : Nat), .int .i64 (p4 : Nat), .int .i64 (4 * (b5 : Int))]
  have hgw := grown_setRow w4 (w.heap.size + 1) #[.int .i64 6, .string ⟨#[]⟩, .int .i64 0, .int .i64 0, .int .i64 0, .int .i64 0, .int .i64 0, .int .i64 0, .int .i64 0, .int .i64 0, .int .i64 0, .int .i64 0, .int .i64 0, .int .i64 0, .int .i64 0, .int .i64 0, .slice none 0 0, .int .i64 0, .int .i64 0, .int .i64 (1 + (q1 : Int)), .int .i64 (1 + (q2 : Int)), .int .i64 (b3 : Nat), .int .i64 (p4 : Nat), .int .i64 (4 * (b5 : Int))]
  have hA' := hA
  have hR' := hR
  go_wp2_with (first | (refine wpList_load_row (by rfl) 36 (.tmp 3) (by rfl) bA (by rfl) 36 #[.int .i64 6, .string ⟨#[]⟩, .int .i64 0, .int .i64 0, .int .i64 0, .int .i64 0, .int .i64 0, .int .i64 0, .int .i64 0, .int .i64 0, .int .i64 0, .int .i64 0, .int .i64 0, .int .i64 0, .int .i64 0, .int .i64 0, .slice none 0 0, .int .i64 0, .int .i64 0, .int .i64 (1 + (q1 : Int)), .int .i64 (1 + (q2 : Int)), .int .i64 (b3 : Nat), .int .i64 (p4 : Nat), .int .i64 (4 * (b5 : Int))] (0,0) _ hA' Tryd.underlying36 rfl (by kernel_rfl) ?_) | (refine wpList_store_row (by rfl) 36 (.tmp 2) (.tmp 79) (by rfl) (w.heap.size + 1) #[.int .i64 6, .string ⟨#[]⟩, .int .i64 0, .int .i64 0, .int .i64 0, .int .i64 0, .int .i64 0, .int .i64 0, .int .i64 0, .int .i64 0, .int .i64 0, .int .i64 0, .int .i64 0, .int .i64 0, .int .i64 0, .int .i64 0, .slice none 0 0, .int .i64 0, .int .i64 0, .int .i64 (1 + (q1 : Int)), .int .i64 (1 + (q2 : Int)), .int .i64 (b3 : Nat), .int .i64 (p4 : Nat), .int .i64 (4 * (b5 : Int))] (by rfl) (by rfl) 36 #[.int .i64 0, .string ⟨#[]⟩, .int .i64 0, .int .i64 0, .int .i64 0, .int .i64 0, .int .i64 0, .int .i64 0, .int .i64 0, .int .i64 0, .int .i64 0, .int .i64 0, .int .i64 0, .int .i64 0, .int .i64 0, .int .i64 0, .slice none 0 0, .int .i64 0, .int .i64 0, .int .i64 0, .int .i64 0, .int .i64 0, .int .i64 0, .int .i64 0] hR' (by kernel_rfl) rfl (by simp [Value.oneCell']) ?_))
  refine bodyPost_ret (results_cell_row Tryd.results16 _ _ (w.heap.size + 1) 36 #[.int .i64 6, .string ⟨#[]⟩, .int .i64 0, .int .i64 0, .int .i64 0, .int .i64 0, .int .i64 0, .int .i64 0, .int .i64 0, .int .i64 0, .int .i64 0, .int .i64 0, .int .i64 0, .int .i64 0, .int .i64 0, .int .i64 0, .slice none 0 0, .int .i64 0, .int .i64 0, .int .i64 (1 + (q1 : Int)), .int .i64 (1 + (q2 : Int)), .int .i64 (b3 : Nat), .int .i64 (p4 : Nat), .int .i64 (4 * (b5 : Int))] (0,0) _ (by rfl) hF Tryd.underlying36 rfl (by kernel_rfl)) rfl ?_
  exact ⟨_,rfl,⟨none,0,0,by rw [← HP.out]; rfl,by rw [← HP.out]; exact own_none _ _ _ _,by rw [← HP.out]; rfl⟩,hWf⟩
end Go.Proofs.YtggdomeeienjbaaDoor

/- Package script: act, kind 6. No condition but that bytes are bytes. -/
namespace Go.Proofs.YtggdomeeienjbaaDoor
open Go.ChangeShapes Go.WideShapes Go.ChangeAt Go.RowKit Go.Sort
set_option linter.unusedSimpArgs false
set_option linter.unusedVariables false
set_option maxHeartbeats 16000000 in
set_option maxRecDepth 100000 in
theorem sact_6 (b0 b1 b2 b3 b4 b5 b6 b7 b8 b9 : Nat) (w : World) (ht : TenTab w) (h0 : b0 < 256) (h1 : b1 < 256) (h2 : b2 < 256) (h3 : b3 < 256) (h4 : b4 < 256) (h5 : b5 < 256) (h6 : b6 < 256) (h7 : b7 < 256) (h8 : b8 < 256) (h9 : b9 < 256) (P : Pa) (hq : b0 % 7 = 6) (hP : (⟨7,[],zeroDr,(b3 % 10 : Nat),[],0,0,(1 + b1 % 4 : Nat),(1 + b2 % 4 : Nat),0,0,0⟩ : Pa) = P) :
    Calls Tryd.prog 16 #[.agg #[.int .u8 (b0 : Nat), .int .u8 (b1 : Nat), .int .u8 (b2 : Nat), .int .u8 (b3 : Nat), .int .u8 (b4 : Nat), .int .u8 (b5 : Nat), .int .u8 (b6 : Nat), .int .u8 (b7 : Nat), .int .u8 (b8 : Nat), .int .u8 (b9 : Nat)]] w fun e w' => ∃ v,e = .returned v ∧ AV w.heap.size w' v P ∧ Below w.heap.size w w' := by
  have Eq0 : Hid (b0 % 7 = 6) := hq
  obtain ⟨q1,eq1⟩ : ∃ q,b1 % 4 = q := ⟨_,rfl⟩
  have lq1 : q1 < 4 := by rw [← eq1]; exact Nat.mod_lt _ (by omega)
  rw [eq1] at hP
  have Eq1 := Lib.hid eq1
  obtain ⟨q2,eq2⟩ : ∃ q,b2 % 4 = q := ⟨_,rfl⟩
  have lq2 : q2 < 4 := by rw [← eq2]; exact Nat.mod_lt _ (by omega)
  rw [eq2] at hP
  have Eq2 := Lib.hid eq2
  obtain ⟨p3,ep3⟩ : ∃ q,b3 % 10 = q := ⟨_,rfl⟩
  have lp3 : p3 < 10 := by rw [← ep3]; exact Nat.mod_lt _ (by omega)
  rw [ep3] at hP
  have Ep3 := Lib.hid ep3
  have HP := Lib.hid hP
  have TT := Lib.hid ht
  have H0 := Lib.hid h0
  have H1 := Lib.hid h1
  have H2 := Lib.hid h2
  have H3 := Lib.hid h3
  have H4 := Lib.hid h4
  have H5 := Lib.hid h5
  have H6 := Lib.hid h6
  have H7 := Lib.hid h7
  have H8 := Lib.hid h8
  have H9 := Lib.hid h9
  have wq1 : IntKind.i64.wrap (1 + (q1 : Int)) = 1 + (q1 : Int) := IntWalk.i64_in _ (by omega)
  have wq2 : IntKind.i64.wrap (1 + (q2 : Int)) = 1 + (q2 : Int) := IntWalk.i64_in _ (by omega)
  have vb1 : IntKind.i64.wrap (b1 : Int) = (b1 : Int) := IntWalk.i64_in _ (by omega)
  have vb3 : IntKind.i64.wrap (b3 : Int) = (b3 : Int) := IntWalk.i64_in _ (by omega)
  have vb5 : IntKind.i64.wrap (b5 : Int) = (b5 : Int) := IntWalk.i64_in _ (by omega)
  have v45 : IntKind.i64.wrap (4 * (b5 : Int)) = 4 * (b5 : Int) := IntWalk.i64_in _ (by omega)
  clear hP ht hq eq1 lq1 eq2 lq2 ep3 lp3 h0 h1 h2 h3 h4 h5 h6 h7 h8 h9
  have hB : Below w.heap.size w ((w.alloc (.cells #[.int .u8 (b0 : Nat), .int .u8 (b1 : Nat), .int .u8 (b2 : Nat), .int .u8 (b3 : Nat), .int .u8 (b4 : Nat), .int .u8 (b5 : Nat), .int .u8 (b6 : Nat), .int .u8 (b7 : Nat), .int .u8 (b8 : Nat), .int .u8 (b9 : Nat)] 23)).alloc (.cells #[.int .i64 0, .string ⟨#[]⟩, .int .i64 0, .int .i64 0, .int .i64 0, .int .i64 0, .int .i64 0, .int .i64 0, .int .i64 0, .int .i64 0, .int .i64 0, .int .i64 0, .int .i64 0, .int .i64 0, .int .i64 0, .int .i64 0, .slice none 0 0, .int .i64 0, .int .i64 0, .int .i64 0, .int .i64 0, .int .i64 0, .int .i64 0, .int .i64 0] 36)) := by (repeat (first | exact Below.refl _ _ | refine Below.alloc ?_ (by first | omega | (simp; done) | (simp; omega)) _ | refine Below.setCell ?_ (by first | omega | (simp; done) | (simp; omega)) _ | refine Below.drew ?_))
  have hX := (Blok.new w 23 #[.int .u8 (b0 : Nat), .int .u8 (b1 : Nat), .int .u8 (b2 : Nat), .int .u8 (b3 : Nat), .int .u8 (b4 : Nat), .int .u8 (b5 : Nat), .int .u8 (b6 : Nat), .int .u8 (b7 : Nat), .int .u8 (b8 : Nat), .int .u8 (b9 : Nat)]).alloc (.cells #[.int .i64 0, .string ⟨#[]⟩, .int .i64 0, .int .i64 0, .int .i64 0, .int .i64 0, .int .i64 0, .int .i64 0, .int .i64 0, .int .i64 0, .int .i64 0, .int .i64 0, .int .i64 0, .int .i64 0, .int .i64 0, .int .i64 0, .slice none 0 0, .int .i64 0, .int .i64 0, .int .i64 0, .int .i64 0, .int .i64 0, .int .i64 0, .int .i64 0] 36)
  have hR := Blok.new (w.alloc (.cells #[.int .u8 (b0 : Nat), .int .u8 (b1 : Nat), .int .u8 (b2 : Nat), .int .u8 (b3 : Nat), .int .u8 (b4 : Nat), .int .u8 (b5 : Nat), .int .u8 (b6 : Nat), .int .u8 (b7 : Nat), .int .u8 (b8 : Nat), .int .u8 (b9 : Nat)] 23)) 36 #[.int .i64 0, .string ⟨#[]⟩, .int .i64 0, .int .i64 0, .int .i64 0, .int .i64 0, .int .i64 0, .int .i64 0, .int .i64 0, .int .i64 0, .int .i64 0, .int .i64 0, .int .i64 0, .int .i64 0, .int .i64 0, .int .i64 0, .slice none 0 0, .int .i64 0, .int .i64 0, .int .i64 0, .int .i64 0, .int .i64 0, .int .i64 0, .int .i64 0]
  rw [World.size_alloc] at hR
  have hs := hB.size
  go_enter Tryd.func16,Tryd.ntmps16
  go_upto_region 1 with fail
  generalize ((w.alloc (.cells #[.int .u8 (b0 : Nat), .int .u8 (b1 : Nat), .int .u8 (b2 : Nat), .int .u8 (b3 : Nat), .int .u8 (b4 : Nat), .int .u8 (b5 : Nat), .int .u8 (b6 : Nat), .int .u8 (b7 : Nat), .int .u8 (b8 : Nat), .int .u8 (b9 : Nat)] 23)).alloc (.cells #[.int .i64 0, .string ⟨#[]⟩, .int .i64 0, .int .i64 0, .int .i64 0, .int .i64 0, .int .i64 0, .int .i64 0, .int .i64 0, .int .i64 0, .int .i64 0, .int .i64 0, .int .i64 0, .int .i64 0, .int .i64 0, .int .i64 0, .slice none 0 0, .int .i64 0, .int .i64 0, .int .i64 0, .int .i64 0, .int .i64 0, .int .i64 0, .int .i64 0] 36)) = w1 at *
  have x0 : w1.cell? ⟨w.heap.size,0,none⟩ = some (.int .u8 (b0 : Nat)) := hX.cell 0
  have lt_x := hX.lt
  go_upto_region 2 with (first | (refine wpList_store_row (by rfl) 36 (.tmp 3) (.tmp 8) (by rfl) w1.heap.size #[.int .i64 7, .string ⟨#[]⟩, .int .i64 0, .int .i64 0, .int .i64 0, .int .i64 0, .int .i64 0, .int .i64 0, .int .i64 0, .int .i64 0, .int .i64 0, .int .i64 0, .int .i64 0, .int .i64 0, .int .i64 0, .int .i64 0, .slice none 0 0, .int .i64 0, .int .i64 0, .int .i64 0, .int .i64 0, .int .i64 0, .int .i64 0, .int .i64 0] (by rfl) (by rfl) 36 #[.int .i64 0, .string ⟨#[]⟩, .int .i64 0, .int .i64 0, .int .i64 0, .int .i64 0, .int .i64 0, .int .i64 0, .int .i64 0, .int .i64 0, .int .i64 0, .int .i64 0, .int .i64 0, .int .i64 0, .int .i64 0, .int .i64 0, .slice none 0 0, .int .i64 0, .int .i64 0, .int .i64 0, .int .i64 0, .int .i64 0, .int .i64 0, .int .i64 0] (heap_alloc_new _ _) (by kernel_rfl) rfl (by simp [Value.oneCell']) ?_; rw [World.setRow_alloc_new]) | (refine wpList_build_run _ (by rfl) 36 #[(0, .tmp 7)] (by rfl) #[(0, .int .i64 7)] (by rfl) (bact 7 _) ?_) | (go_at_call 19; first | ((with_reducible refine Calls.mono (rest_any b0 7 _ 7 k7_ _ H0.out (by decide) (by decide) Eq0.out) ?_); rintro e9 w9 ⟨rfl,rfl⟩) | ((with_reducible refine Calls.mono (rest_any b1 4 _ 4 k4_ _ H1.out (by decide) (by decide) Eq1.out) ?_); rintro e9 w9 ⟨rfl,rfl⟩) | ((with_reducible refine Calls.mono (rest_any b2 4 _ 4 k4_ _ H2.out (by decide) (by decide) Eq2.out) ?_); rintro e9 w9 ⟨rfl,rfl⟩) | ((with_reducible refine Calls.mono (rest_any b3 10 _ 10 k10_ _ H3.out (by decide) (by decide) Ep3.out) ?_); rintro e9 w9 ⟨rfl,rfl⟩)))
  clear x0 lt_x
  have hA := Blok.new w1 36 #[.int .i64 7, .string ⟨#[]⟩, .int .i64 0, .int .i64 0, .int .i64 0, .int .i64 0, .int .i64 0, .int .i64 0, .int .i64 0, .int .i64 0, .int .i64 0, .int .i64 0, .int .i64 0, .int .i64 0, .int .i64 0, .int .i64 0, .slice none 0 0, .int .i64 0, .int .i64 0, .int .i64 0, .int .i64 0, .int .i64 0, .int .i64 0, .int .i64 0]
  have hb : Below w1.heap.size w1 (w1.alloc (.cells #[.int .i64 7, .string ⟨#[]⟩, .int .i64 0, .int .i64 0, .int .i64 0, .int .i64 0, .int .i64 0, .int .i64 0, .int .i64 0, .int .i64 0, .int .i64 0, .int .i64 0, .int .i64 0, .int .i64 0, .int .i64 0, .int .i64 0, .slice none 0 0, .int .i64 0, .int .i64 0, .int .i64 0, .int .i64 0, .int .i64 0, .int .i64 0, .int .i64 0] 36)) := by (repeat (first | exact Below.refl _ _ | refine Below.alloc ?_ (by first | omega | (simp; done) | (simp; omega)) _ | refine Below.setCell ?_ (by first | omega | (simp; done) | (simp; omega)) _ | refine Below.drew ?_))
  have lR := hR.lt
  replace hX := hX.below hb hX.lt
  replace hR := hR.below hb hR.lt
  replace hB := hB.trans (hb.mono hs)
  replace hs := hB.size
  clear hb
  generalize w1.alloc (.cells #[.int .i64 7, .string ⟨#[]⟩, .int .i64 0, .int .i64 0, .int .i64 0, .int .i64 0, .int .i64 0, .int .i64 0, .int .i64 0, .int .i64 0, .int .i64 0, .int .i64 0, .int .i64 0, .int .i64 0, .int .i64 0, .int .i64 0, .slice none 0 0, .int .i64 0, .int .i64 0, .int .i64 0, .int .i64 0, .int .i64 0, .int .i64 0, .int .i64 0] 36) = w2 at *
  generalize w1.heap.size = bA at *
  have k0 : w2.cell? ⟨bA,0,none⟩ = some (.int .i64 7) := hA.cell 0
  have k1 : w2.cell? ⟨bA,1,none⟩ = some (.string ⟨#[]⟩) := hA.cell 1
  have k2 : w2.cell? ⟨bA,2,none⟩ = some (.int .i64 0) := hA.cell 2
  have k3 : w2.cell? ⟨bA,3,none⟩ = some (.int .i64 0) := hA.cell 3
  have k4 : w2.cell? ⟨bA,4,none⟩ = some (.int .i64 0) := hA.cell 4
  have k5 : w2.cell? ⟨bA,5,none⟩ = some (.int .i64 0) := hA.cell 5
  have k6 : w2.cell? ⟨bA,6,none⟩ = some (.int .i64 0) := hA.cell 6
  have k7 : w2.cell? ⟨bA,7,none⟩ = some (.int .i64 0) := hA.cell 7
  have k8 : w2.cell? ⟨bA,8,none⟩ = some (.int .i64 0) := hA.cell 8
  have k9 : w2.cell? ⟨bA,9,none⟩ = some (.int .i64 0) := hA.cell 9
  have k10 : w2.cell? ⟨bA,10,none⟩ = some (.int .i64 0) := hA.cell 10
  have k11 : w2.cell? ⟨bA,11,none⟩ = some (.int .i64 0) := hA.cell 11
  have k12 : w2.cell? ⟨bA,12,none⟩ = some (.int .i64 0) := hA.cell 12
  have k13 : w2.cell? ⟨bA,13,none⟩ = some (.int .i64 0) := hA.cell 13
  have k14 : w2.cell? ⟨bA,14,none⟩ = some (.int .i64 0) := hA.cell 14
  have k15 : w2.cell? ⟨bA,15,none⟩ = some (.int .i64 0) := hA.cell 15
  have k16 : w2.cell? ⟨bA,16,none⟩ = some (.slice none 0 0) := hA.cell 16
  have k17 : w2.cell? ⟨bA,17,none⟩ = some (.int .i64 0) := hA.cell 17
  have k18 : w2.cell? ⟨bA,18,none⟩ = some (.int .i64 0) := hA.cell 18
  have k19 : w2.cell? ⟨bA,19,none⟩ = some (.int .i64 0) := hA.cell 19
  have k20 : w2.cell? ⟨bA,20,none⟩ = some (.int .i64 0) := hA.cell 20
  have k21 : w2.cell? ⟨bA,21,none⟩ = some (.int .i64 0) := hA.cell 21
  have k22 : w2.cell? ⟨bA,22,none⟩ = some (.int .i64 0) := hA.cell 22
  have k23 : w2.cell? ⟨bA,23,none⟩ = some (.int .i64 0) := hA.cell 23
  have lt_k := hA.lt
  go_upto_region 16 with fail
  clear k0 k1 k2 k3 k4 k5 k6 k7 k8 k9 k10 k11 k12 k13 k14 k15 k16 k17 k18 k19 k20 k21 k22 k23 lt_k
  have x1 : w2.cell? ⟨w.heap.size,1,none⟩ = some (.int .u8 (b1 : Nat)) := hX.cell 1
  have x2 : w2.cell? ⟨w.heap.size,2,none⟩ = some (.int .u8 (b2 : Nat)) := hX.cell 2
  have x3 : w2.cell? ⟨w.heap.size,3,none⟩ = some (.int .u8 (b3 : Nat)) := hX.cell 3
  have x4 : w2.cell? ⟨w.heap.size,4,none⟩ = some (.int .u8 (b4 : Nat)) := hX.cell 4
  have x5 : w2.cell? ⟨w.heap.size,5,none⟩ = some (.int .u8 (b5 : Nat)) := hX.cell 5
  have lt_x := hX.lt
  have q_x1 := fun d os => cell_regrown x1 d os
  have q_x2 := fun d os => cell_regrown x2 d os
  have q_x3 := fun d os => cell_regrown x3 d os
  have q_x4 := fun d os => cell_regrown x4 d os
  have q_x5 := fun d os => cell_regrown x5 d os
  try simp only [List.append]
  refine wp_region_grown_tail 10 (by kernel_rfl) (by kernel_rfl) ?_
  simp only [List.take_succ_cons,List.take_zero]
  repeat (go_big_quiet_step (((go_at_call 19; first | with_reducible exact Calls.regrown_same (rest_any b0 7 _ 7 k7_ _ H0.out (by decide) (by decide) Eq0.out) | with_reducible exact Calls.regrown_same (rest_any b1 4 _ 4 k4_ _ H1.out (by decide) (by decide) Eq1.out) | with_reducible exact Calls.regrown_same (rest_any b2 4 _ 4 k4_ _ H2.out (by decide) (by decide) Eq2.out) | with_reducible exact Calls.regrown_same (rest_any b3 10 _ 10 k10_ _ H3.out (by decide) (by decide) Ep3.out)))))
  refine wpQuiet_nil ?_
  intro w3 hw3
  obtain ⟨pq,hw3⟩ := hw3
  have hb := below_regrown w2 pq.d pq.os
  rw [← hw3] at hb
  clear hw3
  clear q_x1 q_x2 q_x3 q_x4 q_x5
  clear x1 x2 x3 x4 x5 lt_x
  replace hX := hX.below hb hX.lt
  replace hR := hR.below hb hR.lt
  replace hA := hA.below hb hA.lt
  replace hB := hB.trans (hb.mono hs)
  replace hs := hB.size
  clear hb
  simp only [List.drop_succ_cons,List.drop_zero]
  have hth := hA.there_ 19 5 (by simp)
  refine wpList_store_mid rfl 34 (.tmp 74) (.tmp 73) rfl bA 19 #[.int .i64 (1 + (q1 : Int)), .int .i64 (1 + (q2 : Int)), .int .i64 0, .int .i64 0, .int .i64 0] rfl rfl hth (by kernel_rfl) (by simp [Value.oneCell']) ?_
  obtain ⟨w4,hw4⟩ : ∃ x,x = w3.setCells bA 19 (#[.int .i64 (1 + (q1 : Int)), .int .i64 (1 + (q2 : Int)), .int .i64 0, .int .i64 0, .int .i64 0] : Array Value).toList := ⟨_,rfl⟩
  rw [← hw4]
  have hgs := grown_sets (b := bA) [.int .i64 (1 + (q1 : Int)), .int .i64 (1 + (q2 : Int)), .int .i64 0, .int .i64 0, .int .i64 0] 19 w3
  have hA2 : Blok w4 bA 36 #[.int .i64 7, .string ⟨#[]⟩, .int .i64 0, .int .i64 0, .int .i64 0, .int .i64 0, .int .i64 0, .int .i64 0, .int .i64 0, .int .i64 0, .int .i64 0, .int .i64 0, .int .i64 0, .int .i64 0, .int .i64 0, .int .i64 0, .slice none 0 0, .int .i64 0, .int .i64 0, .int .i64 (1 + (q1 : Int)), .int .i64 (1 + (q2 : Int)), .int .i64 0, .int .i64 0, .int .i64 0] := by rw [hw4]; exact Blok.sets [.int .i64 (1 + (q1 : Int)), .int .i64 (1 + (q2 : Int)), .int .i64 0, .int .i64 0, .int .i64 0] 19 w3 [.int .i64 7, .string ⟨#[]⟩, .int .i64 0, .int .i64 0, .int .i64 0, .int .i64 0, .int .i64 0, .int .i64 0, .int .i64 0, .int .i64 0, .int .i64 0, .int .i64 0, .int .i64 0, .int .i64 0, .int .i64 0, .int .i64 0, .slice none 0 0, .int .i64 0, .int .i64 0, .int .i64 0, .int .i64 0, .int .i64 0, .int .i64 0, .int .i64 0] hA (by simp)
  have hX2 : Blok w4 w.heap.size 23 #[.int .u8 (b0 : Nat), .int .u8 (b1 : Nat), .int .u8 (b2 : Nat), .int .u8 (b3 : Nat), .int .u8 (b4 : Nat), .int .u8 (b5 : Nat), .int .u8 (b6 : Nat), .int .u8 (b7 : Nat), .int .u8 (b8 : Nat), .int .u8 (b9 : Nat)] := by rw [hw4]; exact hX.grown hgs (by simp only [ne_eq,Option.some.injEq]; omega)
  have hR2 : Blok w4 (w.heap.size + 1) 36 #[.int .i64 0, .string ⟨#[]⟩, .int .i64 0, .int .i64 0, .int .i64 0, .int .i64 0, .int .i64 0, .int .i64 0, .int .i64 0, .int .i64 0, .int .i64 0, .int .i64 0, .int .i64 0, .int .i64 0, .int .i64 0, .int .i64 0, .slice none 0 0, .int .i64 0, .int .i64 0, .int .i64 0, .int .i64 0, .int .i64 0, .int .i64 0, .int .i64 0] := by rw [hw4]; exact hR.grown hgs (by simp only [ne_eq,Option.some.injEq]; omega)
  have hB2 : Below w.heap.size w w4 := by rw [hw4]; exact hB.grown hgs hs (fun k hk => by injection hk with hk; omega)
  clear hgs
  clear hA hX hR hB hs hth hw4
  have hA := hA2
  have hX := hX2
  have hR := hR2
  have hB := hB2
  have hs := hB.size
  clear hA2 hX2 hR2 hB2
  go_upto_region 17 with fail
  have x3 : w4.cell? ⟨w.heap.size,3,none⟩ = some (.int .u8 (b3 : Nat)) := hX.cell 3
  have lt_x := hX.lt
  have k0 : w4.cell? ⟨bA,0,none⟩ = some (.int .i64 7) := hA.cell 0
  have g0 := hA.free 0
  have k1 : w4.cell? ⟨bA,1,none⟩ = some (.string ⟨#[]⟩) := hA.cell 1
  have g1 := hA.free 1
  have k2 : w4.cell? ⟨bA,2,none⟩ = some (.int .i64 0) := hA.cell 2
  have g2 := hA.free 2
  have k3 : w4.cell? ⟨bA,3,none⟩ = some (.int .i64 0) := hA.cell 3
  have g3 := hA.free 3
  have k4 : w4.cell? ⟨bA,4,none⟩ = some (.int .i64 0) := hA.cell 4
  have g4 := hA.free 4
  have k5 : w4.cell? ⟨bA,5,none⟩ = some (.int .i64 0) := hA.cell 5
  have g5 := hA.free 5
  have k6 : w4.cell? ⟨bA,6,none⟩ = some (.int .i64 0) := hA.cell 6
  have g6 := hA.free 6
  have k7 : w4.cell? ⟨bA,7,none⟩ = some (.int .i64 0) := hA.cell 7
  have g7 := hA.free 7
  have k8 : w4.cell? ⟨bA,8,none⟩ = some (.int .i64 0) := hA.cell 8
  have g8 := hA.free 8
  have k9 : w4.cell? ⟨bA,9,none⟩ = some (.int .i64 0) := hA.cell 9
  have g9 := hA.free 9
  have k10 : w4.cell? ⟨bA,10,none⟩ = some (.int .i64 0) := hA.cell 10
  have g10 := hA.free 10
  have k11 : w4.cell? ⟨bA,11,none⟩ = some (.int .i64 0) := hA.cell 11
  have g11 := hA.free 11
  have k12 : w4.cell? ⟨bA,12,none⟩ = some (.int .i64 0) := hA.cell 12
  have g12 := hA.free 12
  have k13 : w4.cell? ⟨bA,13,none⟩ = some (.int .i64 0) := hA.cell 13
  have g13 := hA.free 13
  have k14 : w4.cell? ⟨bA,14,none⟩ = some (.int .i64 0) := hA.cell 14
  have g14 := hA.free 14
  have k15 : w4.cell? ⟨bA,15,none⟩ = some (.int .i64 0) := hA.cell 15
  have g15 := hA.free 15
  have k16 : w4.cell? ⟨bA,16,none⟩ = some (.slice none 0 0) := hA.cell 16
  have g16 := hA.free 16
  have k17 : w4.cell? ⟨bA,17,none⟩ = some (.int .i64 0) := hA.cell 17
  have g17 := hA.free 17
  have k18 : w4.cell? ⟨bA,18,none⟩ = some (.int .i64 0) := hA.cell 18
  have g18 := hA.free 18
  have k19 : w4.cell? ⟨bA,19,none⟩ = some (.int .i64 (1 + (q1 : Int))) := hA.cell 19
  have g19 := hA.free 19
  have k20 : w4.cell? ⟨bA,20,none⟩ = some (.int .i64 (1 + (q2 : Int))) := hA.cell 20
  have g20 := hA.free 20
  have k21 : w4.cell? ⟨bA,21,none⟩ = some (.int .i64 0) := hA.cell 21
  have g21 := hA.free 21
  have k22 : w4.cell? ⟨bA,22,none⟩ = some (.int .i64 0) := hA.cell 22
  have g22 := hA.free 22
  have k23 : w4.cell? ⟨bA,23,none⟩ = some (.int .i64 0) := hA.cell 23
  have g23 := hA.free 23
  have lt_k := hA.lt
  go_upto_region 18 with (go_at_call 19; first | ((with_reducible refine Calls.mono (rest_any b0 7 _ 7 k7_ _ H0.out (by decide) (by decide) Eq0.out) ?_); rintro e9 w9 ⟨rfl,rfl⟩) | ((with_reducible refine Calls.mono (rest_any b1 4 _ 4 k4_ _ H1.out (by decide) (by decide) Eq1.out) ?_); rintro e9 w9 ⟨rfl,rfl⟩) | ((with_reducible refine Calls.mono (rest_any b2 4 _ 4 k4_ _ H2.out (by decide) (by decide) Eq2.out) ?_); rintro e9 w9 ⟨rfl,rfl⟩) | ((with_reducible refine Calls.mono (rest_any b3 10 _ 10 k10_ _ H3.out (by decide) (by decide) Ep3.out) ?_); rintro e9 w9 ⟨rfl,rfl⟩))
  clear k0 g0 k1 g1 k2 g2 k3 g3 k4 g4 k5 g5 k6 g6 k7 g7 k8 g8 k9 g9 k10 g10 k11 g11 k12 g12 k13 g13 k14 g14 k15 g15 k16 g16 k17 g17 k18 g18 k19 g19 k20 g20 k21 g21 k22 g22 k23 g23 lt_k
  clear x3 lt_x
  have hA2 : Blok (w4.setCell ⟨bA,15,none⟩ (.int .i64 (p3 : Nat))) bA 36 #[.int .i64 7, .string ⟨#[]⟩, .int .i64 0, .int .i64 0, .int .i64 0, .int .i64 0, .int .i64 0, .int .i64 0, .int .i64 0, .int .i64 0, .int .i64 0, .int .i64 0, .int .i64 0, .int .i64 0, .int .i64 0, .int .i64 (p3 : Nat), .slice none 0 0, .int .i64 0, .int .i64 0, .int .i64 (1 + (q1 : Int)), .int .i64 (1 + (q2 : Int)), .int .i64 0, .int .i64 0, .int .i64 0] := by exact (hA.set_ 15 (.int .i64 (p3 : Nat)))
  replace hX := (hX.far (p := ⟨bA,15,none⟩) (by simp only; omega) (.int .i64 (p3 : Nat)))
  replace hR := (hR.far (p := ⟨bA,15,none⟩) (by simp only; omega) (.int .i64 (p3 : Nat)))
  replace hB := (hB.setCell (p := ⟨bA,15,none⟩) (by simp only; omega) (.int .i64 (p3 : Nat)))
  replace hs := hB.size
  clear hA
  have hA := hA2
  clear hA2
  generalize (w4.setCell ⟨bA,15,none⟩ (.int .i64 (p3 : Nat))) = w5 at *
  have hF := setRow_heap w5 (w.heap.size + 1) #[.int .i64 0, .string ⟨#[]⟩, .int .i64 0, .int .i64 0, .int .i64 0, .int .i64 0, .int .i64 0, .int .i64 0, .int .i64 0, .int .i64 0, .int .i64 0, .int .i64 0, .int .i64 0, .int .i64 0, .int .i64 0, .int .i64 0, .slice none 0 0, .int .i64 0, .int .i64 0, .int .i64 0, .int .i64 0, .int .i64 0, .int .i64 0, .int .i64 0] #[.int .i64 7, .string ⟨#[]⟩, .int .i64 0, .int .i64 0, .int .i64 0, .int .i64 0, .int .i64 0, .int .i64 0, .int .i64 0, .int .i64 0, .int .i64 0, .int .i64 0, .int .i64 0, .int .i64 0, .int .i64 0, .int .i64 (p3 : Nat), .slice none 0 0, .int .i64 0, .int .i64 0, .int .i64 (1 + (q1 : Int)), .int .i64 (1 + (q2 : Int)), .int .i64 0, .int .i64 0, .int .i64 0] 36 (0,0) hR
  have hWf := below_setRow hB (g := w.heap.size + 1) (by omega) #[.int .i64 7, .string ⟨#[]⟩, .int .i64 0, .int .i64 0, .int .i64 0, .int .i64 0, .int .i64 0, .int .i64 0, .int .i64 0, .int .i64 0, .int .i64 0, .int .i64 0, .int .i64 0, .int .i64 0, .int .i64 0, .int .i64 (p3 : Nat), .slice none 0 0, .int .i64 0, .int .i64 0, .int .i64 (1 + (q1 : Int)), .int .i64 (1 + (q2 : Int)), .int .i64 0, .int .i64 0, .int .i64 0]
  have hgw := grown_setRow w5 (w.heap.size + 1) #[.int .i64 7, .string ⟨#[]⟩, .int .i64 0, .int .i64 0, .int .i64 0, .int .i64 0, .int .i64 0, .int .i64 0, .int .i64 0, .int .i64 0, .int .i64 0, .int .i64 0, .int .i64 0, .int .i64 0, .int .i64 0, .int .i64 (p3 : Nat), .slice none 0 0, .int .i64 0, .int .i64 0, .int .i64 (1 + (q1 : Int)), .int .i64 (1 + (q2 : Int)), .int .i64 0, .int .i64 0, .int .i64 0]
  have hA' := hA
  have hR' := hR
  go_wp2_with (first | (refine wpList_load_row (by rfl) 36 (.tmp 3) (by rfl) bA (by rfl) 36 #[.int .i64 7, .string ⟨#[]⟩, .int .i64 0, .int .i64 0, .int .i64 0, .int .i64 0, .int .i64 0, .int .i64 0, .int .i64 0, .int .i64 0, .int .i64 0, .int .i64 0, .int .i64 0, .int .i64 0, .int .i64 0, .int .i64 (p3 : Nat), .slice none 0 0, .int .i64 0, .int .i64 0, .int .i64 (1 + (q1 : Int)), .int .i64 (1 + (q2 : Int)), .int .i64 0, .int .i64 0, .int .i64 0] (0,0) _ hA' Tryd.underlying36 rfl (by kernel_rfl) ?_) | (refine wpList_store_row (by rfl) 36 (.tmp 2) (.tmp 79) (by rfl) (w.heap.size + 1) #[.int .i64 7, .string ⟨#[]⟩, .int .i64 0, .int .i64 0, .int .i64 0, .int .i64 0, .int .i64 0, .int .i64 0, .int .i64 0, .int .i64 0, .int .i64 0, .int .i64 0, .int .i64 0, .int .i64 0, .int .i64 0, .int .i64 (p3 : Nat), .slice none 0 0, .int .i64 0, .int .i64 0, .int .i64 (1 + (q1 : Int)), .int .i64 (1 + (q2 : Int)), .int .i64 0, .int .i64 0, .int .i64 0] (by rfl) (by rfl) 36 #[.int .i64 0, .string ⟨#[]⟩, .int .i64 0, .int .i64 0, .int .i64 0, .int .i64 0, .int .i64 0, .int .i64 0, .int .i64 0, .int .i64 0, .int .i64 0, .int .i64 0, .int .i64 0, .int .i64 0, .int .i64 0, .int .i64 0, .slice none 0 0, .int .i64 0, .int .i64 0, .int .i64 0, .int .i64 0, .int .i64 0, .int .i64 0, .int .i64 0] hR' (by kernel_rfl) rfl (by simp [Value.oneCell']) ?_))
  refine bodyPost_ret (results_cell_row Tryd.results16 _ _ (w.heap.size + 1) 36 #[.int .i64 7, .string ⟨#[]⟩, .int .i64 0, .int .i64 0, .int .i64 0, .int .i64 0, .int .i64 0, .int .i64 0, .int .i64 0, .int .i64 0, .int .i64 0, .int .i64 0, .int .i64 0, .int .i64 0, .int .i64 0, .int .i64 (p3 : Nat), .slice none 0 0, .int .i64 0, .int .i64 0, .int .i64 (1 + (q1 : Int)), .int .i64 (1 + (q2 : Int)), .int .i64 0, .int .i64 0, .int .i64 0] (0,0) _ (by rfl) hF Tryd.underlying36 rfl (by kernel_rfl)) rfl ?_
  exact ⟨_,rfl,⟨none,0,0,by rw [← HP.out]; rfl,by rw [← HP.out]; exact own_none _ _ _ _,by rw [← HP.out]; rfl⟩,hWf⟩
end Go.Proofs.YtggdomeeienjbaaDoor

/- Package script: act, whole; rows of acts. No condition but that bytes are bytes. -/
namespace Go.Proofs.YtggdomeeienjbaaDoor
open Go.ChangeShapes Go.WideShapes Go.ChangeAt Go.RowKit Go.Sort
set_option linter.unusedSimpArgs false
set_option linter.unusedVariables false
theorem sact_any (b0 b1 b2 b3 b4 b5 b6 b7 b8 b9 : Nat) (w : World) (ht : TenTab w) (h0 : b0 < 256) (h1 : b1 < 256) (h2 : b2 < 256) (h3 : b3 < 256) (h4 : b4 < 256) (h5 : b5 < 256) (h6 : b6 < 256) (h7 : b7 < 256) (h8 : b8 < 256) (h9 : b9 < 256) (P : Pa) (hP : actF b0 b1 b2 b3 b4 b5 b6 b7 b8 = P) :
    Calls Tryd.prog 16 #[.agg #[.int .u8 (b0 : Nat), .int .u8 (b1 : Nat), .int .u8 (b2 : Nat), .int .u8 (b3 : Nat), .int .u8 (b4 : Nat), .int .u8 (b5 : Nat), .int .u8 (b6 : Nat), .int .u8 (b7 : Nat), .int .u8 (b8 : Nat), .int .u8 (b9 : Nat)]] w fun e w' => ∃ v,e = .returned v ∧ AV w.heap.size w' v P ∧ Below w.heap.size w w' := by
  have hq : b0 % 7 = 0 ∨ b0 % 7 = 1 ∨ b0 % 7 = 2 ∨ b0 % 7 = 3 ∨ b0 % 7 = 4 ∨ b0 % 7 = 5 ∨ b0 % 7 = 6 := by omega
  rcases hq with hq | hq | hq | hq | hq | hq | hq
  · exact sact_0 b0 b1 b2 b3 b4 b5 b6 b7 b8 b9 w ht h0 h1 h2 h3 h4 h5 h6 h7 h8 h9 P hq (by rw [← hP]; simp [actF,hq])
  · exact sact_1 b0 b1 b2 b3 b4 b5 b6 b7 b8 b9 w ht h0 h1 h2 h3 h4 h5 h6 h7 h8 h9 P hq (by rw [← hP]; simp [actF,hq])
  · exact sact_2 b0 b1 b2 b3 b4 b5 b6 b7 b8 b9 w ht h0 h1 h2 h3 h4 h5 h6 h7 h8 h9 P hq (by rw [← hP]; simp [actF,hq])
  · exact sact_3 b0 b1 b2 b3 b4 b5 b6 b7 b8 b9 w ht h0 h1 h2 h3 h4 h5 h6 h7 h8 h9 P hq (by rw [← hP]; simp [actF,hq])
  · exact sact_4 b0 b1 b2 b3 b4 b5 b6 b7 b8 b9 w ht h0 h1 h2 h3 h4 h5 h6 h7 h8 h9 P hq (by rw [← hP]; simp [actF,hq])
  · exact sact_5 b0 b1 b2 b3 b4 b5 b6 b7 b8 b9 w ht h0 h1 h2 h3 h4 h5 h6 h7 h8 h9 P hq (by rw [← hP]; simp [actF,hq])
  · exact sact_6 b0 b1 b2 b3 b4 b5 b6 b7 b8 b9 w ht h0 h1 h2 h3 h4 h5 h6 h7 h8 h9 P hq (by rw [← hP]; simp [actF,hq])
/-- An act in memory: what it tells, where its IDs lie. -/
structure Ax where
  p : Pa
  A : Option Addr
  k : Nat
  c : Nat
def Ax.cs (x : Ax) : List Value := x.p.cs x.A x.k x.c
def flatAx (l : List Ax) : List Value := l.flatMap Ax.cs
def zeroAx : Ax := ⟨⟨0,[],zeroDr,0,[],0,0,0,0,0,0,0⟩,none,0,0⟩
def gAx (l : List Ax) (i : Nat) : Ax := l.getD i zeroAx
theorem Ax.cs_len (x : Ax) : x.cs.length = 24 := rfl
theorem flatAx_append (d e : List Ax) : flatAx (d ++ e) = flatAx d ++ flatAx e := by simp [flatAx]
theorem flatAx_length (d : List Ax) : (flatAx d).length = d.length * 24 := by
  induction d with
  | nil => rfl
  | cons p d ih => rw [show flatAx (p :: d) = p.cs ++ flatAx d from rfl,List.length_append,ih,Ax.cs_len,List.length_cons]; omega
theorem flatAx_at : ∀ (d : List Ax) (i j : Nat),i < d.length → j < 24 → (flatAx d)[i * 24 + j]? = (gAx d i).cs[j]?
  | p :: d,0,j,_,hj => by
    rw [show flatAx (p :: d) = p.cs ++ flatAx d from rfl,List.getElem?_append_left (by rw [Ax.cs_len]; omega)]
    simp [gAx]
  | p :: d,i + 1,j,h,hj => by
    rw [show flatAx (p :: d) = p.cs ++ flatAx d from rfl,List.getElem?_append_right (by rw [Ax.cs_len]; omega),Ax.cs_len,show (i + 1) * 24 + j - 24 = i * 24 + j by omega,flatAx_at d i j (by simpa using h) hj]
    simp [gAx]
theorem flatAx_one (l : List Ax) : ∀ u ∈ flatAx l,u.oneCell' = true := by
  intro u hu
  obtain ⟨x,_,hx⟩ := List.mem_flatMap.1 hu
  simp only [Ax.cs,Pa.cs,List.mem_cons,List.not_mem_nil,or_false] at hx
  rcases hx with rfl | rfl | rfl | rfl | rfl | rfl | rfl | rfl | rfl | rfl | rfl | rfl | rfl | rfl | rfl | rfl | rfl | rfl | rfl | rfl | rfl | rfl | rfl | rfl <;> rfl
theorem gAx_mem {d : List Ax} {i : Nat} (h : i < d.length) : gAx d i ∈ d := by
  unfold gAx; rw [List.getD_eq_getElem?_getD,List.getElem?_eq_getElem h]; simp
/-- Its IDs are in memory. -/
def Ax.ok (w : World) (x : Ax) : Prop := x.p.ids.length = x.k ∧ x.k ≤ 1000000 ∧ Sl w w.heap.size 1 x.A x.k x.c (x.p.ids.map (Value.int .i64))
theorem Ax.ok.below {w w' : World} {x : Ax} (h : x.ok w) (hb : Below w.heap.size w w') : x.ok w' := ⟨h.1,h.2.1,h.2.2.up hb⟩
theorem own_apart {w : World} {base base' : Nat} {e e' : TypeId} {k k' n n' : Nat} {v v' : Value} {xs xs' : List Value} (h : w.ownsRow base e k v n xs) (h' : w.ownsRow base' e' k' v' n' xs') (hne : e ≠ e') : v.ownBlock = none ∨ v.ownBlock ≠ v'.ownBlock := by
  rcases h.2 with ⟨rfl,_⟩ | ⟨g,cap,cur,rfl,_,hg,_⟩
  · exact .inl rfl
  · refine .inr fun he => ?_
    rcases h'.2 with ⟨rfl,_⟩ | ⟨g',cap',cur',rfl,_,hg',_⟩
    · simp [Value.ownBlock] at he
    · have e1 : g = g' := by simpa [Value.ownBlock] using he
      subst e1
      rw [hg] at hg'
      injection hg' with h1
      injection h1 with _ h2
      exact hne h2
/-- The IDs' row is the call's own. -/
def Ax.own (base : Nat) (w : World) (x : Ax) : Prop := x.p.ids.length = x.k ∧ x.k ≤ 1000000 ∧ w.ownsRow base 3 1 (.slice x.A x.k x.c) x.k (x.p.ids.map (Value.int .i64))
theorem Ax.own.ok {base : Nat} {w : World} {x : Ax} (h : x.own base w) : x.ok w := ⟨h.1,h.2.1,Sl.of_own h.2.2⟩
/-- The acts of bytes, ten by ten. -/
def actsF (l : List Nat) : List Pa :=
  if h : 10 ≤ l.length then actF (l.getD 0 0) (l.getD 1 0) (l.getD 2 0) (l.getD 3 0) (l.getD 4 0) (l.getD 5 0) (l.getD 6 0) (l.getD 7 0) (l.getD 8 0) :: actsF (l.drop 10) else []
termination_by l.length
decreasing_by simp; omega
def cB (l : List Nat) : List Value := l.map fun (b : Nat) => Value.int .u8 (b : Int)
theorem cB_length (l : List Nat) : (cB l).length = l.length := by simp [cB]
theorem cB_drop (l : List Nat) (k : Nat) : (cB l).drop k = cB (l.drop k) := by simp [cB]
theorem cB_take (l : List Nat) (k : Nat) : (cB l).take k = cB (l.take k) := by simp [cB]
theorem cB_at (l : List Nat) (i : Nat) (h : i < l.length) : (cB l)[i]? = some (.int .u8 ((l.getD i 0 : Nat) : Int)) := by
  simp [cB,List.getD_eq_getElem?_getD,List.getElem?_eq_getElem h]
set_option maxRecDepth 100000 in
theorem brow (u0 u1 u2 u3 u4 u5 u6 u7 u8 u9 u10 u11 u12 u13 u14 u15 u16 u17 u18 u19 u20 u21 u22 u23 : Value) (w : World) : (Instr.buildSlice 24 1 #[(0, .agg #[u0,u1,u2,u3,u4,u5,u6,u7,u8,u9,u10,u11,u12,u13,u14,u15,u16,u17,u18,u19,u20,u21,u22,u23])]).run Tryd.prog w = .ok (.slice (some ⟨w.heap.size,0,none⟩) 1 1) (w.alloc (.cells #[u0,u1,u2,u3,u4,u5,u6,u7,u8,u9,u10,u11,u12,u13,u14,u15,u16,u17,u18,u19,u20,u21,u22,u23] 36)) := by kernel_rfl
/-- An operation whose run is known. -/
theorem wpList_op_run {P : Program} {w w' : World} {ops : Array Oper} {rest : List Oper} {o : Oper} {a : Act} {Q : Exit → Act → World → Prop} (hgd : o.guard = none) {v : Value} (hr : (execOp a.eval o).run P w = .ok (.value v) w') (h : wpList P ops Q rest (a.put o.dst v) w') : wpList P ops Q (o :: rest) a w :=
  wpList_plain hgd fun _ hK => by
    unfold Oper.wp
    rw [hr]
    exact hK _ _ h
theorem buildSlice_run {P : Program} {w w' : World} {o : Oper} {ev : Operand → Value} {t : TypeId} {len : Nat} {parts : Array (Nat × Operand)} (ho : o.op = .buildSlice t len parts) {vals : Array (Nat × Value)} (hv : parts.map (fun p => (p.1,ev p.2)) = vals) {v : Value} (hr : (Instr.buildSlice t len vals).run P w = .ok v w') : (execOp ev o).run P w = .ok (.value v) w' := by
  unfold execOp
  have hv' : parts.map (fun x : Nat × Operand => match x with | (i,x) => (i,ev x)) = vals := hv
  simp only [ho,hv',Sem.run_bind,Sem.run_pure,hr,Result.andThen_ok]
theorem wpList_bs1 {w : World} {ops : Array Oper} {rest : List Oper} {o : Oper} {a : Act} {Q : Exit → Act → World → Prop} (hgd : o.guard = none) (x : Operand) (ho : o.op = .buildSlice 24 1 #[(0,x)]) (u0 u1 u2 u3 u4 u5 u6 u7 u8 u9 u10 u11 u12 u13 u14 u15 u16 u17 u18 u19 u20 u21 u22 u23 : Value) (hx : a.eval x = .agg #[u0,u1,u2,u3,u4,u5,u6,u7,u8,u9,u10,u11,u12,u13,u14,u15,u16,u17,u18,u19,u20,u21,u22,u23])
    (h : wpList Tryd.prog ops Q rest (a.put o.dst (.slice (some ⟨w.heap.size,0,none⟩) 1 1)) (w.alloc (.cells #[u0,u1,u2,u3,u4,u5,u6,u7,u8,u9,u10,u11,u12,u13,u14,u15,u16,u17,u18,u19,u20,u21,u22,u23] 36))) : wpList Tryd.prog ops Q (o :: rest) a w := by
  refine wpList_op_run hgd (buildSlice_run ho (vals := #[(0, .agg #[u0,u1,u2,u3,u4,u5,u6,u7,u8,u9,u10,u11,u12,u13,u14,u15,u16,u17,u18,u19,u20,u21,u22,u23])]) ?_ (brow u0 u1 u2 u3 u4 u5 u6 u7 u8 u9 u10 u11 u12 u13 u14 u15 u16 u17 u18 u19 u20 u21 u22 u23 w)) h
  simp [hx]
end Go.Proofs.YtggdomeeienjbaaDoor

/- Package script: Acts. No condition but that bytes are bytes. -/
namespace Go.Proofs.YtggdomeeienjbaaDoor
open Go.ChangeShapes Go.WideShapes Go.ChangeAt Go.RowKit Go.Sort
set_option linter.unusedSimpArgs false
set_option linter.unusedVariables false
theorem infoAx : (Tryd.prog.info? 36).map (fun i => (i.zero,i.size,i.bytes)) = some (some (.agg #[.int .i64 0, .string ByteArray.empty, .int .i64 0, .int .i64 0, .int .i64 0, .int .i64 0, .int .i64 0, .int .i64 0, .int .i64 0, .int .i64 0, .int .i64 0, .int .i64 0, .int .i64 0, .int .i64 0, .int .i64 0, .int .i64 0, .slice none 0 0, .int .i64 0, .int .i64 0, .int .i64 0, .int .i64 0, .int .i64 0, .int .i64 0, .int .i64 0]),24,216) := by kernel_rfl
theorem actsF_nil {l : List Nat} (h : l.length < 10) : actsF l = [] := by rw [actsF,dif_neg (by omega)]
theorem actsF_next {l : List Nat} (h : 10 ≤ l.length) : actsF l = actF (l.getD 0 0) (l.getD 1 0) (l.getD 2 0) (l.getD 3 0) (l.getD 4 0) (l.getD 5 0) (l.getD 6 0) (l.getD 7 0) (l.getD 8 0) :: actsF (l.drop 10) := by rw [actsF,dif_pos h]
theorem actsF_take : ∀ (k : Nat) (l : List Nat),10 * k + 10 ≤ l.length → actsF (l.take (10 * (k + 1))) = actsF (l.take (10 * k)) ++ [actF ((l.drop (10 * k)).getD 0 0) ((l.drop (10 * k)).getD 1 0) ((l.drop (10 * k)).getD 2 0) ((l.drop (10 * k)).getD 3 0) ((l.drop (10 * k)).getD 4 0) ((l.drop (10 * k)).getD 5 0) ((l.drop (10 * k)).getD 6 0) ((l.drop (10 * k)).getD 7 0) ((l.drop (10 * k)).getD 8 0)]
  | 0,l,h => by
    rw [actsF_next (by simp; omega),actsF_nil (l := l.take (10 * 0)) (by simp),actsF_nil (by simp)]
    simp [List.getD_eq_getElem?_getD,List.getElem?_take]
  | k + 1,l,h => by
    have e1 : 10 * (k + 1 + 1) = 10 * (k + 1) + 10 := by omega
    have e2 : 10 * (k + 1) = 10 * k + 10 := by omega
    rw [actsF_next (l := l.take (10 * (k + 1 + 1))) (by simp; omega),actsF_next (l := l.take (10 * (k + 1))) (by simp; omega)]
    have d1 : (l.take (10 * (k + 1 + 1))).drop 10 = (l.drop 10).take (10 * (k + 1)) := by rw [List.drop_take]; congr 1
    have d2 : (l.take (10 * (k + 1))).drop 10 = (l.drop 10).take (10 * k) := by rw [List.drop_take]; congr 1
    rw [d1,d2,actsF_take k (l.drop 10) (by simp; omega),List.drop_drop,show 10 + 10 * k = 10 * (k + 1) by omega]
    have g : ∀ j,j < 10 → (l.take (10 * (k + 1 + 1))).getD j 0 = (l.take (10 * (k + 1))).getD j 0 := fun j hj => by
      rw [List.getD_eq_getElem?_getD,List.getD_eq_getElem?_getD,List.getElem?_take,List.getElem?_take,if_pos (by omega),if_pos (by omega)]
    rw [g 0 (by omega),g 1 (by omega),g 2 (by omega),g 3 (by omega),g 4 (by omega),g 5 (by omega),g 6 (by omega),g 7 (by omega),g 8 (by omega)]
    rfl
theorem actsF_whole : ∀ (k : Nat) (l : List Nat),10 * k ≤ l.length → l.length < 10 * k + 10 → actsF (l.take (10 * k)) = actsF l
  | 0,l,_,h => by rw [actsF_nil (by simp),actsF_nil (by omega)]
  | k + 1,l,h1,h2 => by
    rw [actsF_next (l := l) (by omega),actsF_next (by simp; omega)]
    have d2 : (l.take (10 * (k + 1))).drop 10 = (l.drop 10).take (10 * k) := by rw [List.drop_take]; congr 1
    rw [d2,actsF_whole k (l.drop 10) (by simp; omega) (by simp; omega)]
    have g : ∀ j,j < 10 → (l.take (10 * (k + 1))).getD j 0 = l.getD j 0 := fun j hj => by
      rw [List.getD_eq_getElem?_getD,List.getD_eq_getElem?_getD,List.getElem?_take,if_pos (by omega)]
    rw [g 0 (by omega),g 1 (by omega),g 2 (by omega),g 3 (by omega),g 4 (by omega),g 5 (by omega),g 6 (by omega),g 7 (by omega),g 8 (by omega)]
theorem Sl.bt {w : World} {B n c : Nat} {A : Option Addr} {l : List Nat} (h : Sl w B 1 A n c (cB l)) (hl : l.length = n) {j : Nat} (hj : j < n) : ∃ ad,A = some ad ∧ ad.block < B ∧ w.cell? (ad.add j) = some (.int .u8 ((l.getD j 0 : Nat) : Int)) := by
  obtain ⟨ad,e,hb,hc⟩ := h.lst.at_ (by omega)
  exact ⟨ad,e,hb,hc j _ (cB_at l j (by omega))⟩
theorem ten_cells {w : World} {ad : Addr} {B n c : Nat} {l : List Nat} (h : Sl w B 1 (some ad) n c (cB l)) (hl : l.length = n) (hn : 10 ≤ n) : ∀ j v,([.int .u8 ((l.getD 0 0 : Nat) : Int), .int .u8 ((l.getD 1 0 : Nat) : Int), .int .u8 ((l.getD 2 0 : Nat) : Int), .int .u8 ((l.getD 3 0 : Nat) : Int), .int .u8 ((l.getD 4 0 : Nat) : Int), .int .u8 ((l.getD 5 0 : Nat) : Int), .int .u8 ((l.getD 6 0 : Nat) : Int), .int .u8 ((l.getD 7 0 : Nat) : Int), .int .u8 ((l.getD 8 0 : Nat) : Int), .int .u8 ((l.getD 9 0 : Nat) : Int)] : List Value)[j]? = some v → w.cell? (ad.add j) = some v := by
  intro j v hv
  have hj : j < 10 := by
    have := (List.getElem?_eq_some_iff.1 hv).1
    simpa using this
  obtain ⟨ad',e,_,hc⟩ := h.bt hl (j := j) (by omega)
  injection e with e
  subst e
  rw [hc]
  obtain rfl | rfl | rfl | rfl | rfl | rfl | rfl | rfl | rfl | rfl : j = 0 ∨ j = 1 ∨ j = 2 ∨ j = 3 ∨ j = 4 ∨ j = 5 ∨ j = 6 ∨ j = 7 ∨ j = 8 ∨ j = 9 := by omega
  all_goals simpa using hv
structure ActsI (w wr : World) (ps : List Pa) (v : Value) (k : Nat) (L : List Ax) : Prop where
  len : L.length = k
  rows : L.map Ax.p = ps
  own : wr.ownsRow w.heap.size 36 24 v k (flatAx L)
  ids : ∀ x ∈ L,x.own w.heap.size wr
theorem ActsI.below {w wr wr' : World} {ps : List Pa} {v : Value} {k : Nat} {L : List Ax} (h : ActsI w wr ps v k L) (hb : Below wr.heap.size wr wr') : ActsI w wr' ps v k L :=
  ⟨h.len,h.rows,own_below h.own hb,fun x hx => ⟨(h.ids x hx).1,(h.ids x hx).2.1,own_below (h.ids x hx).2.2 hb⟩⟩
theorem bs_nil : bs [] = ByteArray.empty := rfl
set_option maxHeartbeats 16000000 in
set_option maxRecDepth 100000 in
theorem sacts_any (A : Option Addr) (n c : Nat) (l : List Nat) (hl : l.length = n) (hn : n ≤ 100000) (hb : ∀ x ∈ l,x < 256) (w : World) (ht : TenTab w) (h : Sl w w.heap.size 1 A n c (cB l)) :
    Calls Tryd.prog 7 #[.slice A n c] w fun e w' => ∃ v L,e = .returned (.tuple #[v, .int .i64 (n % 10 : Nat)]) ∧ ActsI w w' (actsF l) v (n / 10) L ∧ Below w.heap.size w w' := by
  obtain ⟨i0,hi0,hz0,hz1,hz2⟩ := info_parts infoAx
  have HL := Lib.hid hl
  have HBY := Lib.hid hb
  have TT := Lib.hid ht
  have HH := Lib.hid h
  have HN := Lib.hid hn
  clear hl hb ht h hn
  go_enter Tryd.func7,Tryd.ntmps7
  go_wp2_with fail
  go_loopw [0,4] (fun bv lv wr => ∃ (k m c' : Nat) (A' : Option Addr),bv = .slice A' m c' ∧ m + 10 * k = n ∧ Hid (Sl wr w.heap.size 1 A' m c' (cB (l.drop (10 * k)))) ∧ Hid (∃ L,ActsI w wr (actsF (l.take (10 * k))) lv k L) ∧ Below w.heap.size w wr) (fun bv _ _ => match bv with | .slice _ m _ => m | _ => 0)
  case atStart => exact ⟨0,n,c,A,rfl,by omega,by simpa [Hid] using HH.out,⟨[],rfl,(actsF_nil (by simp)).symm,own_none _ _ _ _,fun x hx => by cases hx⟩,Below.refl _ _⟩
  case round =>
    obtain ⟨k,m,c',A',rfl,hmk,HS,HI,hB⟩ := hrel
    have hs := hB.size
    by_cases hm : 10 ≤ m
    · have g1 : decide ((m : Int) ≥ 10) = true := decide_eq_true (by omega)
      have hdl : (l.drop (10 * k)).length = m := by rw [List.length_drop,HL.out]; omega
      obtain ⟨ad,rfl,hab,_⟩ := HS.out.bt hdl (j := 0) (by omega)
      have hten := ten_cells HS.out hdl hm
      have hby : ∀ j,j < 10 → (l.drop (10 * k)).getD j 0 < 256 := fun j hj => by
        rw [List.getD_eq_getElem?_getD,List.getElem?_eq_getElem (by omega)]
        exact HBY.out _ (List.mem_of_mem_drop (List.getElem_mem _))
      obtain ⟨P,hP⟩ : ∃ P,actF ((l.drop (10 * k)).getD 0 0) ((l.drop (10 * k)).getD 1 0) ((l.drop (10 * k)).getD 2 0) ((l.drop (10 * k)).getD 3 0) ((l.drop (10 * k)).getD 4 0) ((l.drop (10 * k)).getD 5 0) ((l.drop (10 * k)).getD 6 0) ((l.drop (10 * k)).getD 7 0) ((l.drop (10 * k)).getD 8 0) = P := ⟨_,rfl⟩
      have hnx : actsF (l.take (10 * (k + 1))) = actsF (l.take (10 * k)) ++ [P] := by rw [actsF_take k l (by rw [HL.out]; omega),hP]
      have HNX := Lib.hid hnx
      have hpi : P.ids.length ≤ 2 := by rw [← hP]; exact actF_ids _ _ _ _ _ _ _ _ _
      have z0 := hby 0 (by omega)
      have z1 := hby 1 (by omega)
      have z2 := hby 2 (by omega)
      have z3 := hby 3 (by omega)
      have z4 := hby 4 (by omega)
      have z5 := hby 5 (by omega)
      have z6 := hby 6 (by omega)
      have z7 := hby 7 (by omega)
      have z8 := hby 8 (by omega)
      have z9 := hby 9 (by omega)
      obtain ⟨y0,y1,y2,y3,y4,y5,y6,y7,y8,y9,hys⟩ : ∃ y0 y1 y2 y3 y4 y5 y6 y7 y8 y9 : Nat,(l.drop (10 * k)).getD 0 0 = y0 ∧ (l.drop (10 * k)).getD 1 0 = y1 ∧ (l.drop (10 * k)).getD 2 0 = y2 ∧ (l.drop (10 * k)).getD 3 0 = y3 ∧ (l.drop (10 * k)).getD 4 0 = y4 ∧ (l.drop (10 * k)).getD 5 0 = y5 ∧ (l.drop (10 * k)).getD 6 0 = y6 ∧ (l.drop (10 * k)).getD 7 0 = y7 ∧ (l.drop (10 * k)).getD 8 0 = y8 ∧ (l.drop (10 * k)).getD 9 0 = y9 := ⟨_,_,_,_,_,_,_,_,_,_,rfl,rfl,rfl,rfl,rfl,rfl,rfl,rfl,rfl,rfl⟩
      obtain ⟨v0,v1,v2,v3,v4,v5,v6,v7,v8,v9⟩ := hys
      simp only [v0,v1,v2,v3,v4,v5,v6,v7,v8,v9] at hten hP z0 z1 z2 z3 z4 z5 z6 z7 z8 z9
      have HP := Lib.hid hP
      have HPI := Lib.hid hpi
      have HT := Lib.hid hten
      have HZ := Lib.hid (show y0 < 256 ∧ y1 < 256 ∧ y2 < 256 ∧ y3 < 256 ∧ y4 < 256 ∧ y5 < 256 ∧ y6 < 256 ∧ y7 < 256 ∧ y8 < 256 ∧ y9 < 256 from ⟨z0,z1,z2,z3,z4,z5,z6,z7,z8,z9⟩)
      clear v0 v1 v2 v3 v4 v5 v6 v7 v8 v9 z0 z1 z2 z3 z4 z5 z6 z7 z8 z9 hdl hby hnx hP hpi hten
      have hX0 := heap_alloc_new wr (.cells #[.int .u8 0, .int .u8 0, .int .u8 0, .int .u8 0, .int .u8 0, .int .u8 0, .int .u8 0, .int .u8 0, .int .u8 0, .int .u8 0] 23)
      have hb0 : Below wr.heap.size wr (wr.alloc (.cells #[.int .u8 0, .int .u8 0, .int .u8 0, .int .u8 0, .int .u8 0, .int .u8 0, .int .u8 0, .int .u8 0, .int .u8 0, .int .u8 0] 23)) := by (repeat (first | exact Below.refl _ _ | refine Below.alloc ?_ (by first | omega | (simp; done) | (simp; omega)) _ | refine Below.setCell ?_ (by first | omega | (simp; done) | (simp; omega)) _ | refine Below.drew ?_))
      have hsrc : ∀ j v,([.int .u8 (y0 : Nat), .int .u8 (y1 : Nat), .int .u8 (y2 : Nat), .int .u8 (y3 : Nat), .int .u8 (y4 : Nat), .int .u8 (y5 : Nat), .int .u8 (y6 : Nat), .int .u8 (y7 : Nat), .int .u8 (y8 : Nat), .int .u8 (y9 : Nat)] : List Value)[j]? = some v → (wr.alloc (.cells #[.int .u8 0, .int .u8 0, .int .u8 0, .int .u8 0, .int .u8 0, .int .u8 0, .int .u8 0, .int .u8 0, .int .u8 0, .int .u8 0] 23)).cell? (ad.add j) = some v := fun j v hv => (hb0.cell (p := ad.add j) (by rw [add_block]; omega)).trans (HT.out j v hv)
      have hrc := run_copy_row (P := Tryd.prog) (wr.alloc (.cells #[.int .u8 0, .int .u8 0, .int .u8 0, .int .u8 0, .int .u8 0, .int .u8 0, .int .u8 0, .int .u8 0, .int .u8 0, .int .u8 0] 23)) 22 22 3 5 wr.heap.size 0 10 10 ad m c' #[.int .u8 0, .int .u8 0, .int .u8 0, .int .u8 0, .int .u8 0, .int .u8 0, .int .u8 0, .int .u8 0, .int .u8 0, .int .u8 0] 23 [.int .u8 (y0 : Nat), .int .u8 (y1 : Nat), .int .u8 (y2 : Nat), .int .u8 (y3 : Nat), .int .u8 (y4 : Nat), .int .u8 (y5 : Nat), .int .u8 (y6 : Nat), .int .u8 (y7 : Nat), .int .u8 (y8 : Nat), .int .u8 (y9 : Nat)] Tryd.underlying22 (by kernel_rfl) hX0 (Nat.min_eq_right hm).symm hsrc (by simp) (by simp [Value.oneCell'])
      go_upto_region 5 with (at_builtin; refine Lib.wpList_copy_run _ rfl _ _ 22 22 rfl _ _ rfl rfl hrc ?_)
      have hcells : ((#[.int .u8 0, .int .u8 0, .int .u8 0, .int .u8 0, .int .u8 0, .int .u8 0, .int .u8 0, .int .u8 0, .int .u8 0, .int .u8 0] : Array Value).toList.take 0 ++ ([.int .u8 (y0 : Nat), .int .u8 (y1 : Nat), .int .u8 (y2 : Nat), .int .u8 (y3 : Nat), .int .u8 (y4 : Nat), .int .u8 (y5 : Nat), .int .u8 (y6 : Nat), .int .u8 (y7 : Nat), .int .u8 (y8 : Nat), .int .u8 (y9 : Nat)] : List Value) ++ (#[.int .u8 0, .int .u8 0, .int .u8 0, .int .u8 0, .int .u8 0, .int .u8 0, .int .u8 0, .int .u8 0, .int .u8 0, .int .u8 0] : Array Value).toList.drop (0 + ([.int .u8 (y0 : Nat), .int .u8 (y1 : Nat), .int .u8 (y2 : Nat), .int .u8 (y3 : Nat), .int .u8 (y4 : Nat), .int .u8 (y5 : Nat), .int .u8 (y6 : Nat), .int .u8 (y7 : Nat), .int .u8 (y8 : Nat), .int .u8 (y9 : Nat)] : List Value).length)).toArray = (#[.int .u8 (y0 : Nat), .int .u8 (y1 : Nat), .int .u8 (y2 : Nat), .int .u8 (y3 : Nat), .int .u8 (y4 : Nat), .int .u8 (y5 : Nat), .int .u8 (y6 : Nat), .int .u8 (y7 : Nat), .int .u8 (y8 : Nat), .int .u8 (y9 : Nat)] : Array Value) := rfl
      try rw [hcells]
      rw [World.setRow_alloc_new]
      clear hcells hrc hsrc hX0 hb0
      have hX := Blok.new wr 23 #[.int .u8 (y0 : Nat), .int .u8 (y1 : Nat), .int .u8 (y2 : Nat), .int .u8 (y3 : Nat), .int .u8 (y4 : Nat), .int .u8 (y5 : Nat), .int .u8 (y6 : Nat), .int .u8 (y7 : Nat), .int .u8 (y8 : Nat), .int .u8 (y9 : Nat)]
      have hb0 : Below wr.heap.size wr (wr.alloc (.cells #[.int .u8 (y0 : Nat), .int .u8 (y1 : Nat), .int .u8 (y2 : Nat), .int .u8 (y3 : Nat), .int .u8 (y4 : Nat), .int .u8 (y5 : Nat), .int .u8 (y6 : Nat), .int .u8 (y7 : Nat), .int .u8 (y8 : Nat), .int .u8 (y9 : Nat)] 23)) := by (repeat (first | exact Below.refl _ _ | refine Below.alloc ?_ (by first | omega | (simp; done) | (simp; omega)) _ | refine Below.setCell ?_ (by first | omega | (simp; done) | (simp; omega)) _ | refine Below.drew ?_))
      replace HS := Lib.hid (HS.out.below (B := w.heap.size) ⟨hb0.os,hb0.tape,hb0.output,hb0.size,fun q hq => hb0.block q (by omega)⟩)
      obtain ⟨L,hI⟩ := HI.out
      clear HI
      replace hI := hI.below hb0
      replace hB := hB.trans (hb0.mono hs)
      replace hs := hB.size
      clear hb0
      generalize wr.alloc (.cells #[.int .u8 (y0 : Nat), .int .u8 (y1 : Nat), .int .u8 (y2 : Nat), .int .u8 (y3 : Nat), .int .u8 (y4 : Nat), .int .u8 (y5 : Nat), .int .u8 (y6 : Nat), .int .u8 (y7 : Nat), .int .u8 (y8 : Nat), .int .u8 (y9 : Nat)] 23) = w2 at *
      generalize wr.heap.size = bX at *
      have x0 : w2.cell? ⟨bX,0,none⟩ = some (.int .u8 (y0 : Nat)) := hX.cell 0
      have x1 : w2.cell? ⟨bX,1,none⟩ = some (.int .u8 (y1 : Nat)) := hX.cell 1
      have x2 : w2.cell? ⟨bX,2,none⟩ = some (.int .u8 (y2 : Nat)) := hX.cell 2
      have x3 : w2.cell? ⟨bX,3,none⟩ = some (.int .u8 (y3 : Nat)) := hX.cell 3
      have x4 : w2.cell? ⟨bX,4,none⟩ = some (.int .u8 (y4 : Nat)) := hX.cell 4
      have x5 : w2.cell? ⟨bX,5,none⟩ = some (.int .u8 (y5 : Nat)) := hX.cell 5
      have x6 : w2.cell? ⟨bX,6,none⟩ = some (.int .u8 (y6 : Nat)) := hX.cell 6
      have x7 : w2.cell? ⟨bX,7,none⟩ = some (.int .u8 (y7 : Nat)) := hX.cell 7
      have x8 : w2.cell? ⟨bX,8,none⟩ = some (.int .u8 (y8 : Nat)) := hX.cell 8
      have x9 : w2.cell? ⟨bX,9,none⟩ = some (.int .u8 (y9 : Nat)) := hX.cell 9
      have lt_x := hX.lt
      have HI := Lib.hid hI
      clear hI
      go_wp2_with fail
      refine (sact_any y0 y1 y2 y3 y4 y5 y6 y7 y8 y9 w2 (TT.out.below hB) HZ.out.1 HZ.out.2.1 HZ.out.2.2.1 HZ.out.2.2.2.1 HZ.out.2.2.2.2.1 HZ.out.2.2.2.2.2.1 HZ.out.2.2.2.2.2.2.1 HZ.out.2.2.2.2.2.2.2.1 HZ.out.2.2.2.2.2.2.2.2.1 HZ.out.2.2.2.2.2.2.2.2.2 P HP.out).mono ?_
      rintro e w3 ⟨v,rfl,⟨A5,k5,c5,rfl,hids,hk5⟩,hb3⟩
      replace hids := own_down (base' := w.heap.size) hids hs
      rw [hk5] at hids
      have hI := HI.out.below hb3
      replace HS := Lib.hid (HS.out.below (B := w.heap.size) ⟨hb3.os,hb3.tape,hb3.output,hb3.size,fun q hq => hb3.block q (by omega)⟩)
      replace hB := hB.trans (hb3.mono hs)
      replace hs := hB.size
      clear hb3 HI hX x0 x1 x2 x3 x4 x5 x6 x7 x8 x9 lt_x
      have hown := hI.own
      obtain ⟨A6,c6,rfl⟩ := slice_of_own hown
      have hlits := own_lit w3 w.heap.size 36 24 1 #[.int .i64 P.dk, .string (bs P.tx), .int .i64 P.D.op, .int .i64 P.D.kd, .int .i64 P.D.id, .int .i64 P.D.fr, .int .i64 P.D.tn, .int .i64 P.D.st, .int .i64 P.D.en, .int .i64 P.D.rt, .int .i64 P.D.rf, .int .i64 P.D.rn, .int .i64 P.D.rs, .int .i64 P.D.re, .int .i64 P.D.ro, .int .i64 P.n, .slice A5 k5 c5, .int .i64 P.cl, .int .i64 P.sz, .int .i64 P.bf, .int .i64 P.bt, .int .i64 P.bs_, .int .i64 P.bc, .int .i64 P.bd] hs rfl (by simp [maxLen])
      have hb4 : Below w3.heap.size w3 (w3.alloc (.cells #[.int .i64 P.dk, .string (bs P.tx), .int .i64 P.D.op, .int .i64 P.D.kd, .int .i64 P.D.id, .int .i64 P.D.fr, .int .i64 P.D.tn, .int .i64 P.D.st, .int .i64 P.D.en, .int .i64 P.D.rt, .int .i64 P.D.rf, .int .i64 P.D.rn, .int .i64 P.D.rs, .int .i64 P.D.re, .int .i64 P.D.ro, .int .i64 P.n, .slice A5 k5 c5, .int .i64 P.cl, .int .i64 P.sz, .int .i64 P.bf, .int .i64 P.bt, .int .i64 P.bs_, .int .i64 P.bc, .int .i64 P.bd] 36)) := by (repeat (first | exact Below.refl _ _ | refine Below.alloc ?_ (by first | omega | (simp; done) | (simp; omega)) _ | refine Below.setCell ?_ (by first | omega | (simp; done) | (simp; omega)) _ | refine Below.drew ?_))
      have hown4 := own_below hown hb4
      have hnew : (w3.alloc (.cells #[.int .i64 P.dk, .string (bs P.tx), .int .i64 P.D.op, .int .i64 P.D.kd, .int .i64 P.D.id, .int .i64 P.D.fr, .int .i64 P.D.tn, .int .i64 P.D.st, .int .i64 P.D.en, .int .i64 P.D.rt, .int .i64 P.D.rf, .int .i64 P.D.rn, .int .i64 P.D.rs, .int .i64 P.D.re, .int .i64 P.D.ro, .int .i64 P.n, .slice A5 k5 c5, .int .i64 P.cl, .int .i64 P.sz, .int .i64 P.bf, .int .i64 P.bt, .int .i64 P.bs_, .int .i64 P.bc, .int .i64 P.bd] 36)).ownsRow w.heap.size 36 24 (.slice (some ⟨w3.heap.size,0,none⟩) 1 1) 1 [.int .i64 P.dk, .string (bs P.tx), .int .i64 P.D.op, .int .i64 P.D.kd, .int .i64 P.D.id, .int .i64 P.D.fr, .int .i64 P.D.tn, .int .i64 P.D.st, .int .i64 P.D.en, .int .i64 P.D.rt, .int .i64 P.D.rf, .int .i64 P.D.rn, .int .i64 P.D.rs, .int .i64 P.D.re, .int .i64 P.D.ro, .int .i64 P.n, .slice A5 k5 c5, .int .i64 P.cl, .int .i64 P.sz, .int .i64 P.bf, .int .i64 P.bt, .int .i64 P.bs_, .int .i64 P.bc, .int .i64 P.bd] := hlits
      have hsz4 : w.heap.size ≤ (w3.alloc (.cells #[.int .i64 P.dk, .string (bs P.tx), .int .i64 P.D.op, .int .i64 P.D.kd, .int .i64 P.D.id, .int .i64 P.D.fr, .int .i64 P.D.tn, .int .i64 P.D.st, .int .i64 P.D.en, .int .i64 P.D.rt, .int .i64 P.D.rf, .int .i64 P.D.rn, .int .i64 P.D.rs, .int .i64 P.D.re, .int .i64 P.D.ro, .int .i64 P.n, .slice A5 k5 c5, .int .i64 P.cl, .int .i64 P.sz, .int .i64 P.bf, .int .i64 P.bt, .int .i64 P.bs_, .int .i64 P.bc, .int .i64 P.bd] 36)).heap.size := by simp; omega
      have HIH := Lib.hid hI
      have HIDS := Lib.hid hids
      have HK5 := Lib.hid hk5
      clear hI hids hk5 hlits hown
      have hn9 := HN.out
      go_upto_region 6 with (first | (at_builtin; refine wpList_append_own _ rfl _ _ 24 rfl w.heap.size 36 i0 _ 24 216 Tryd.underlying24 hi0 hz0 hz1 hz2 rfl (by decide) _ _ _ rfl hown4 ⟨w3.heap.size,0,none⟩ 1 1 [.int .i64 P.dk, .string (bs P.tx), .int .i64 P.D.op, .int .i64 P.D.kd, .int .i64 P.D.id, .int .i64 P.D.fr, .int .i64 P.D.tn, .int .i64 P.D.st, .int .i64 P.D.en, .int .i64 P.D.rt, .int .i64 P.D.rf, .int .i64 P.D.rn, .int .i64 P.D.rs, .int .i64 P.D.re, .int .i64 P.D.ro, .int .i64 P.n, .slice A5 k5 c5, .int .i64 P.cl, .int .i64 P.sz, .int .i64 P.bf, .int .i64 P.bt, .int .i64 P.bs_, .int .i64 P.bc, .int .i64 P.bd] rfl rfl (by exact lit_cells w3 #[.int .i64 P.dk, .string (bs P.tx), .int .i64 P.D.op, .int .i64 P.D.kd, .int .i64 P.D.id, .int .i64 P.D.fr, .int .i64 P.D.tn, .int .i64 P.D.st, .int .i64 P.D.en, .int .i64 P.D.rt, .int .i64 P.D.rf, .int .i64 P.D.rn, .int .i64 P.D.rs, .int .i64 P.D.re, .int .i64 P.D.ro, .int .i64 P.n, .slice A5 k5 c5, .int .i64 P.cl, .int .i64 P.sz, .int .i64 P.bf, .int .i64 P.bt, .int .i64 P.bs_, .int .i64 P.bc, .int .i64 P.bd] _ _ rfl) (by simp [Value.oneCell']) (by unfold maxLen; omega) (by omega) hsz4 ?_; intro v' w5 hown' hgrow5 hnil5) | (refine wpList_bs1 (by rfl) (.tmp 14) (by rfl) (.int .i64 P.dk) (.string (bs P.tx)) (.int .i64 P.D.op) (.int .i64 P.D.kd) (.int .i64 P.D.id) (.int .i64 P.D.fr) (.int .i64 P.D.tn) (.int .i64 P.D.st) (.int .i64 P.D.en) (.int .i64 P.D.rt) (.int .i64 P.D.rf) (.int .i64 P.D.rn) (.int .i64 P.D.rs) (.int .i64 P.D.re) (.int .i64 P.D.ro) (.int .i64 P.n) (.slice A5 k5 c5) (.int .i64 P.cl) (.int .i64 P.sz) (.int .i64 P.bf) (.int .i64 P.bt) (.int .i64 P.bs_) (.int .i64 P.bc) (.int .i64 P.bd) (by rfl) ?_))
      have hB5 : Below w.heap.size w w5 := (hB.alloc hs _).grown hgrow5 (by simp; omega) (fun q hq => (hown4.lt q hq).1)
      have hk5' : Kept (fun g => (Value.slice A6 k c6).ownBlock = some g) w3 w5 := (Kept.of_below hb4).grow_ hgrow5 (fun i _ e => e)
      have hI' : ActsI w w5 (actsF (l.take (10 * (k + 1)))) v' (k + 1) (L ++ [⟨P,A5,k5,c5⟩]) := by
        have hI := HIH.out
        refine ⟨by simp [hI.len],by rw [List.map_append,hI.rows,HNX.out]; rfl,by rw [flatAx_append]; exact hown',fun x hx => ?_⟩
        have hap : ∀ {k9 : Nat} {v9 : Value} {xs9 : List Value},w3.ownsRow w.heap.size 3 1 v9 k9 xs9 → w5.ownsRow w.heap.size 3 1 v9 k9 xs9 := fun {k9 v9 xs9} h9 => own_kept h9 hk5' (fun g hg e => by
          rcases own_apart h9 hI.own (by decide) with h0 | h0
          · rw [h0] at hg; cases hg
          · rw [hg,e] at h0; exact h0 rfl)
        rcases List.mem_append.1 hx with hx | hx
        · exact ⟨(hI.ids x hx).1,(hI.ids x hx).2.1,hap (hI.ids x hx).2.2⟩
        · simp at hx
          subst hx
          have h2 := HPI.out
          have h3 := HK5.out
          exact ⟨h3,by show k5 ≤ 1000000; omega,hap HIDS.out⟩
      have hSl : Hid (Sl w5 w.heap.size 1 (some ad) m c' (cB (l.drop (10 * k)))) := HS.out.below ⟨hk5'.os,hk5'.tape,hk5'.output,hk5'.size,fun q hq => hk5'.block q (by omega) (fun e => by have := (hown4.lt q e).1; omega)⟩
      have HI2 := Lib.hid hI'
      clear hown4 hown' hgrow5 hnil5 hk5' hI' hnew hb4 hsz4 hB hs HIH HIDS HK5 HS
      have hs := hB5.size
      have hcm := hSl.out.cap
      have g2 : decide ((10 : Int) ≤ (c' : Int)) = true := decide_eq_true (by omega)
      have g3 : decide ((10 : Int) ≤ (m : Int)) = true := decide_eq_true (by omega)
      have g4 : (10 : Int) ≤ (c' : Int) := by omega
      have g5 : (10 : Int) ≤ (m : Int) := by omega
      have g6 : 10 ≤ c' := by omega
      have hfrom : Hid (Sl w5 w.heap.size 1 (if c' = 10 then some ad else some ⟨ad.block,ad.off + 10,none⟩) (m - 10) (c' - 10) (cB (l.drop (10 * (k + 1))))) := by
        have h := hSl.out.from_ (m := 10) hm
        rw [cB_drop,List.drop_drop,show 10 * k + 10 * 1 = 10 * (k + 1) by omega] at h
        exact h
      go_wp2_with fail
      go_roundw
      case rel => exact ⟨k + 1,m - 10,c' - 10,_,rfl,by omega,hfrom,⟨_,HI2.out⟩,hB5⟩
      case measure => simp; omega
    · have g1 : decide ((m : Int) ≥ 10) = false := decide_eq_false (by omega)
      go_wp2_with fail
      go_ret2
      obtain ⟨L,hI⟩ := HI.out
      have e1 : n / 10 = k := by omega
      have e2 : n % 10 = m := by omega
      rw [e1,e2]
      rw [actsF_whole k l (by rw [HL.out]; omega) (by rw [HL.out]; omega)] at hI
      exact ⟨_,L,rfl,hI,hB⟩
end Go.Proofs.YtggdomeeienjbaaDoor

/- slices.Equal at ints. No condition but on sizes. -/
namespace Go.Proofs.YtggdomeeienjbaaDoor
open Go.ChangeShapes Go.WideShapes Go.ChangeAt Go.RowKit Go.Sort
set_option linter.unusedSimpArgs false
set_option linter.unusedVariables false
set_option maxHeartbeats 1000000 in
set_option maxRecDepth 100000 in
theorem equalI_any (A A' : Option Addr) (n c n' c' : Nat) (d d' : List Int) (w : World) (hd : d.length = n) (hd' : d'.length = n') (hn : n ≤ 1000000) (hn' : n' ≤ 1000000) (h : Sl w w.heap.size 1 A n c (d.map (Value.int .i64))) (h' : Sl w w.heap.size 1 A' n' c' (d'.map (Value.int .i64))) :
    Calls Tryd.prog 22 #[.slice A n c, .slice A' n' c'] w fun e w' => e = .returned (.bool (decide (d = d'))) ∧ Below w.heap.size w w' := by
  by_cases hne : n = n'
  · subst hne
    have hz : ((n : Int) != (n : Int)) = false := by simp
    go_enter Tryd.func22,Tryd.ntmps22
    go_wp2
    go_loopw [13] (fun i wr => ∃ k : Nat,k ≤ n ∧ i = .int .i64 k ∧ Hid (∀ j,j < k → d.getD j 0 = d'.getD j 0) ∧ Below w.heap.size w wr) (fun i _ => n - (intOf i).toNat)
    case atStart => exact ⟨0,by omega,rfl,(fun j hj => by omega),Below.refl _ _⟩
    case round =>
      obtain ⟨k,hk,rfl,HQ,hB⟩ := hrel
      by_cases hkn : k < n
      · obtain ⟨ad,rfl,hab,c0⟩ := (h.below hB).lst.atI hd hkn
        obtain ⟨ad',rfl,hab',e0⟩ := (h'.below hB).lst.atI hd' hkn
        generalize hx : d.getD k 0 = x at *
        generalize hy : d'.getD k 0 = y at *
        have HX := Lib.hid hx
        have HY := Lib.hid hy
        clear hx hy
        go_wp2_with fail
        have q_c0 := fun d os => cell_regrown c0 d os
        have q_e0 := fun d os => cell_regrown e0 d os
        by_cases hxy : x = y
        · have HE := Lib.hid hxy
          have hb : (x != y) = false := by simp [hxy]
          clear hxy
          try simp only [List.append]
          first | refine wp_region_text_below ?_ | refine wp_region_quiet_below (by kernel_rfl) (by kernel_rfl) ?_
          repeat (go_big_quiet_step ((fail)))
          refine wpQuiet_nil ?_
          intro _ hqw
          obtain ⟨pq,hqw⟩ := hqw
          subst hqw
          clear q_c0 q_e0
          have hbel := below_regrown wr pq.d pq.os
          have hB2 := hB.trans (hbel.mono hB.size)
          clear hbel c0 e0 hB
          generalize grow (redrawn wr pq.d) pq.os = wq at *
          go_wp2
          go_roundw
          case rel => exact ⟨k + 1,by omega,by go_num,(fun j hj => by
            by_cases e : j = k
            · rw [e,HX.out,HY.out]; exact HE.out
            · exact HQ.out j (by omega)),hB2⟩
          case measure => simp [intOf]; omega
        · have hb : (x != y) = true := by simpa using hxy
          have hfin : decide (d = d') = false := by
            rw [decide_eq_false_iff_not]
            intro e
            have e1 := HX.out
            rw [e,HY.out] at e1
            exact hxy e1.symm
          have HF := Lib.hid hfin
          clear hxy hfin
          try simp only [List.append]
          first | refine wp_region_text_below ?_ | refine wp_region_quiet_below (by kernel_rfl) (by kernel_rfl) ?_
          repeat (go_big_quiet_step ((fail)))
          refine wpQuiet_nil ?_
          intro _ hqw
          obtain ⟨pq,hqw⟩ := hqw
          subst hqw
          clear q_c0 q_e0
          have hbel := below_regrown wr pq.d pq.os
          have hB2 := hB.trans (hbel.mono hB.size)
          clear hbel c0 e0 hB
          generalize grow (redrawn wr pq.d) pq.os = wq at *
          go_wp2
          go_ret
          exact ⟨by rw [HF.out]; rfl,hB2⟩
      · obtain rfl : k = n := by omega
        have hfin : decide (d = d') = true := by
          rw [decide_eq_true_eq]
          exact extI (by omega) (fun j hj => HQ.out j (by omega))
        have HF := Lib.hid hfin
        clear hfin
        go_wp2
        go_ret
        exact ⟨by rw [HF.out]; rfl,hB⟩
  · have hz : ((n : Int) != (n' : Int)) = true := by
      rw [bne_iff_ne]; omega
    have hfin : decide (d = d') = false := by
      rw [decide_eq_false_iff_not]
      intro e
      apply hne
      rw [← hd,← hd',e]
    have HF := Lib.hid hfin
    clear hfin
    go_enter Tryd.func22,Tryd.ntmps22
    go_wp2
    go_ret
    exact ⟨by rw [HF.out]; rfl,Below.refl _ _⟩

end Go.Proofs.YtggdomeeienjbaaDoor

/- Package script: Same's closure, part 0. No condition but on sizes. -/
namespace Go.Proofs.YtggdomeeienjbaaDoor
open Go.ChangeShapes Go.WideShapes Go.ChangeAt Go.RowKit Go.Sort
set_option linter.unusedSimpArgs false
set_option linter.unusedVariables false
def eqB (p q : Pa) : Bool := decide (p.bf = q.bf) && (decide (p.bt = q.bt) && (decide (p.bs_ = q.bs_) && (decide (p.bc = q.bc) && decide (p.bd = q.bd))))
theorem eqlBd (p q : Pa) (w : World) : (binOp .eql 34 (.agg #[.int .i64 p.bf, .int .i64 p.bt, .int .i64 p.bs_, .int .i64 p.bc, .int .i64 p.bd]) (.agg #[.int .i64 q.bf, .int .i64 q.bt, .int .i64 q.bs_, .int .i64 q.bc, .int .i64 q.bd])).run Tryd.prog w = .ok (.bool (eqB p q)) w := by
  have u3 := Tryd.underlying3
  have a3 := Tryd.isAgg3
  have z3 := Tryd.sizeOf3
  have hS : Tryd.prog.underlying 34 = some (.struct (Tryd.prog.fieldsOf 34)) := by kernel_rfl
  have hp : Tryd.prog.stoodInHeld 34 = false := by kernel_rfl
  rw [run_eql_struct,show (10000 : Nat) = 9999 + 1 from rfl,run_equalIn_agg w 9999 34 _ _ hS hp]
  simp only [Program.fieldsOf,Tryd.underlying34]
  go_simp
  unfold eqB
  by_cases h0 : p.bf = q.bf
  · by_cases h1 : p.bt = q.bt
    · by_cases h2 : p.bs_ = q.bs_
      · by_cases h3 : p.bc = q.bc
        · by_cases h4 : p.bd = q.bd <;> simp [h0,h1,h2,h3,h4]
        · simp [h0,h1,h2,h3]
      · simp [h0,h1,h2]
    · simp [h0,h1]
  · simp [h0]
theorem Pa.ext_ {p q : Pa} (h0 : p.dk = q.dk) (h1 : p.tx = q.tx) (h2 : p.D = q.D) (h3 : p.n = q.n) (h4 : p.ids = q.ids) (h5 : p.cl = q.cl) (h6 : p.sz = q.sz) (h7 : eqB p q = true) : p = q := by
  obtain ⟨⟩ := p
  obtain ⟨⟩ := q
  simp only [eqB,Bool.and_eq_true,decide_eq_true_eq] at h0 h1 h2 h3 h4 h5 h6 h7
  obtain ⟨a,b,c,d,e⟩ := h7
  subst h0 h1 h2 h3 h4 h5 h6 a b c d e
  rfl
theorem equalI_is (A A' : Option Addr) (n c n' c' : Nat) (d d' : List Int) (w : World) {r : Bool} (hr : decide (d = d') = r) (hd : d.length = n) (hd' : d'.length = n') (hn : n ≤ 1000000) (hn' : n' ≤ 1000000) (h : Sl w w.heap.size 1 A n c (d.map (Value.int .i64))) (h' : Sl w w.heap.size 1 A' n' c' (d'.map (Value.int .i64))) :
    Calls Tryd.prog 22 #[.slice A n c, .slice A' n' c'] w fun e w' => e = .returned (.bool r) ∧ Below w.heap.size w w' := by
  subst hr
  exact equalI_any A A' n c n' c' d d' w hd hd' hn hn' h h'
theorem bs_iff {s t : Bytes} : bs s = bs t ↔ s = t := ⟨fun h => by
  have := congrArg (fun x : ByteArray => x.data.toList) h
  simpa [bs] using this,fun h => by rw [h]⟩
end Go.Proofs.YtggdomeeienjbaaDoor

/- Package script: Same's closure, part 1. No condition but on sizes. -/
namespace Go.Proofs.YtggdomeeienjbaaDoor
open Go.ChangeShapes Go.WideShapes Go.ChangeAt Go.RowKit Go.Sort
set_option linter.unusedSimpArgs false
set_option linter.unusedVariables false
set_option maxHeartbeats 8000000 in
set_option maxRecDepth 100000 in
theorem same1_0 (p q : Pa) (A A' : Option Addr) (k c k' c' : Nat) (w : World) (hk : p.ids.length = k) (hk' : q.ids.length = k') (hkm : k ≤ 1000000) (hkm' : k' ≤ 1000000) (h : Sl w w.heap.size 1 A k c (p.ids.map (Value.int .i64))) (h' : Sl w w.heap.size 1 A' k' c' (q.ids.map (Value.int .i64)))  (c0 : ¬ (p.dk = q.dk)) :
    Calls Tryd.prog 21 #[.agg #[.int .i64 p.dk, .string (bs p.tx), .int .i64 p.D.op, .int .i64 p.D.kd, .int .i64 p.D.id, .int .i64 p.D.fr, .int .i64 p.D.tn, .int .i64 p.D.st, .int .i64 p.D.en, .int .i64 p.D.rt, .int .i64 p.D.rf, .int .i64 p.D.rn, .int .i64 p.D.rs, .int .i64 p.D.re, .int .i64 p.D.ro, .int .i64 p.n, .slice A k c, .int .i64 p.cl, .int .i64 p.sz, .int .i64 p.bf, .int .i64 p.bt, .int .i64 p.bs_, .int .i64 p.bc, .int .i64 p.bd], .agg #[.int .i64 q.dk, .string (bs q.tx), .int .i64 q.D.op, .int .i64 q.D.kd, .int .i64 q.D.id, .int .i64 q.D.fr, .int .i64 q.D.tn, .int .i64 q.D.st, .int .i64 q.D.en, .int .i64 q.D.rt, .int .i64 q.D.rf, .int .i64 q.D.rn, .int .i64 q.D.rs, .int .i64 q.D.re, .int .i64 q.D.ro, .int .i64 q.n, .slice A' k' c', .int .i64 q.cl, .int .i64 q.sz, .int .i64 q.bf, .int .i64 q.bt, .int .i64 q.bs_, .int .i64 q.bc, .int .i64 q.bd]] w fun e w' => e = .returned (.bool false) ∧ Below w.heap.size w w' := by
  have g0 : (p.dk == q.dk) = false := by simp [c0]
  clear c0
  have hB : Below w.heap.size w ((w.alloc (.cells #[.int .i64 p.dk, .string (bs p.tx), .int .i64 p.D.op, .int .i64 p.D.kd, .int .i64 p.D.id, .int .i64 p.D.fr, .int .i64 p.D.tn, .int .i64 p.D.st, .int .i64 p.D.en, .int .i64 p.D.rt, .int .i64 p.D.rf, .int .i64 p.D.rn, .int .i64 p.D.rs, .int .i64 p.D.re, .int .i64 p.D.ro, .int .i64 p.n, .slice A k c, .int .i64 p.cl, .int .i64 p.sz, .int .i64 p.bf, .int .i64 p.bt, .int .i64 p.bs_, .int .i64 p.bc, .int .i64 p.bd] 36)).alloc (.cells #[.int .i64 q.dk, .string (bs q.tx), .int .i64 q.D.op, .int .i64 q.D.kd, .int .i64 q.D.id, .int .i64 q.D.fr, .int .i64 q.D.tn, .int .i64 q.D.st, .int .i64 q.D.en, .int .i64 q.D.rt, .int .i64 q.D.rf, .int .i64 q.D.rn, .int .i64 q.D.rs, .int .i64 q.D.re, .int .i64 q.D.ro, .int .i64 q.n, .slice A' k' c', .int .i64 q.cl, .int .i64 q.sz, .int .i64 q.bf, .int .i64 q.bt, .int .i64 q.bs_, .int .i64 q.bc, .int .i64 q.bd] 36)) := by (repeat (first | exact Below.refl _ _ | refine Below.alloc ?_ (by first | omega | (simp; done) | (simp; omega)) _ | refine Below.setCell ?_ (by first | omega | (simp; done) | (simp; omega)) _ | refine Below.drew ?_))
  have hX := (Blok.new w 36 #[.int .i64 p.dk, .string (bs p.tx), .int .i64 p.D.op, .int .i64 p.D.kd, .int .i64 p.D.id, .int .i64 p.D.fr, .int .i64 p.D.tn, .int .i64 p.D.st, .int .i64 p.D.en, .int .i64 p.D.rt, .int .i64 p.D.rf, .int .i64 p.D.rn, .int .i64 p.D.rs, .int .i64 p.D.re, .int .i64 p.D.ro, .int .i64 p.n, .slice A k c, .int .i64 p.cl, .int .i64 p.sz, .int .i64 p.bf, .int .i64 p.bt, .int .i64 p.bs_, .int .i64 p.bc, .int .i64 p.bd]).alloc (.cells #[.int .i64 q.dk, .string (bs q.tx), .int .i64 q.D.op, .int .i64 q.D.kd, .int .i64 q.D.id, .int .i64 q.D.fr, .int .i64 q.D.tn, .int .i64 q.D.st, .int .i64 q.D.en, .int .i64 q.D.rt, .int .i64 q.D.rf, .int .i64 q.D.rn, .int .i64 q.D.rs, .int .i64 q.D.re, .int .i64 q.D.ro, .int .i64 q.n, .slice A' k' c', .int .i64 q.cl, .int .i64 q.sz, .int .i64 q.bf, .int .i64 q.bt, .int .i64 q.bs_, .int .i64 q.bc, .int .i64 q.bd] 36)
  have hY := Blok.new (w.alloc (.cells #[.int .i64 p.dk, .string (bs p.tx), .int .i64 p.D.op, .int .i64 p.D.kd, .int .i64 p.D.id, .int .i64 p.D.fr, .int .i64 p.D.tn, .int .i64 p.D.st, .int .i64 p.D.en, .int .i64 p.D.rt, .int .i64 p.D.rf, .int .i64 p.D.rn, .int .i64 p.D.rs, .int .i64 p.D.re, .int .i64 p.D.ro, .int .i64 p.n, .slice A k c, .int .i64 p.cl, .int .i64 p.sz, .int .i64 p.bf, .int .i64 p.bt, .int .i64 p.bs_, .int .i64 p.bc, .int .i64 p.bd] 36)) 36 #[.int .i64 q.dk, .string (bs q.tx), .int .i64 q.D.op, .int .i64 q.D.kd, .int .i64 q.D.id, .int .i64 q.D.fr, .int .i64 q.D.tn, .int .i64 q.D.st, .int .i64 q.D.en, .int .i64 q.D.rt, .int .i64 q.D.rf, .int .i64 q.D.rn, .int .i64 q.D.rs, .int .i64 q.D.re, .int .i64 q.D.ro, .int .i64 q.n, .slice A' k' c', .int .i64 q.cl, .int .i64 q.sz, .int .i64 q.bf, .int .i64 q.bt, .int .i64 q.bs_, .int .i64 q.bc, .int .i64 q.bd]
  rw [World.size_alloc] at hY
  replace h := h.up hB
  replace h' := h'.up hB
  have hs := hB.size
  have HK := Lib.hid (⟨hk,hk',hkm,hkm'⟩ : _ ∧ _ ∧ _ ∧ _)
  have HH := Lib.hid h
  have HH' := Lib.hid h'
  clear hk hk' hkm hkm' h h'
  go_enter Tryd.func21,Tryd.ntmps21
  go_upto_region 1 with fail
  generalize (w.alloc (.cells #[.int .i64 p.dk, .string (bs p.tx), .int .i64 p.D.op, .int .i64 p.D.kd, .int .i64 p.D.id, .int .i64 p.D.fr, .int .i64 p.D.tn, .int .i64 p.D.st, .int .i64 p.D.en, .int .i64 p.D.rt, .int .i64 p.D.rf, .int .i64 p.D.rn, .int .i64 p.D.rs, .int .i64 p.D.re, .int .i64 p.D.ro, .int .i64 p.n, .slice A k c, .int .i64 p.cl, .int .i64 p.sz, .int .i64 p.bf, .int .i64 p.bt, .int .i64 p.bs_, .int .i64 p.bc, .int .i64 p.bd] 36)).alloc (.cells #[.int .i64 q.dk, .string (bs q.tx), .int .i64 q.D.op, .int .i64 q.D.kd, .int .i64 q.D.id, .int .i64 q.D.fr, .int .i64 q.D.tn, .int .i64 q.D.st, .int .i64 q.D.en, .int .i64 q.D.rt, .int .i64 q.D.rf, .int .i64 q.D.rn, .int .i64 q.D.rs, .int .i64 q.D.re, .int .i64 q.D.ro, .int .i64 q.n, .slice A' k' c', .int .i64 q.cl, .int .i64 q.sz, .int .i64 q.bf, .int .i64 q.bt, .int .i64 q.bs_, .int .i64 q.bc, .int .i64 q.bd] 36) = w1 at *
  have x0 : w1.cell? ⟨w.heap.size,0,none⟩ = some (.int .i64 p.dk) := hX.cell 0
  have x1 : w1.cell? ⟨w.heap.size,1,none⟩ = some (.string (bs p.tx)) := hX.cell 1
  have x2 : w1.cell? ⟨w.heap.size,2,none⟩ = some (.int .i64 p.D.op) := hX.cell 2
  have x3 : w1.cell? ⟨w.heap.size,3,none⟩ = some (.int .i64 p.D.kd) := hX.cell 3
  have x4 : w1.cell? ⟨w.heap.size,4,none⟩ = some (.int .i64 p.D.id) := hX.cell 4
  have x5 : w1.cell? ⟨w.heap.size,5,none⟩ = some (.int .i64 p.D.fr) := hX.cell 5
  have x6 : w1.cell? ⟨w.heap.size,6,none⟩ = some (.int .i64 p.D.tn) := hX.cell 6
  have x7 : w1.cell? ⟨w.heap.size,7,none⟩ = some (.int .i64 p.D.st) := hX.cell 7
  have x8 : w1.cell? ⟨w.heap.size,8,none⟩ = some (.int .i64 p.D.en) := hX.cell 8
  have x9 : w1.cell? ⟨w.heap.size,9,none⟩ = some (.int .i64 p.D.rt) := hX.cell 9
  have x10 : w1.cell? ⟨w.heap.size,10,none⟩ = some (.int .i64 p.D.rf) := hX.cell 10
  have x11 : w1.cell? ⟨w.heap.size,11,none⟩ = some (.int .i64 p.D.rn) := hX.cell 11
  have x12 : w1.cell? ⟨w.heap.size,12,none⟩ = some (.int .i64 p.D.rs) := hX.cell 12
  have x13 : w1.cell? ⟨w.heap.size,13,none⟩ = some (.int .i64 p.D.re) := hX.cell 13
  have x14 : w1.cell? ⟨w.heap.size,14,none⟩ = some (.int .i64 p.D.ro) := hX.cell 14
  have x15 : w1.cell? ⟨w.heap.size,15,none⟩ = some (.int .i64 p.n) := hX.cell 15
  have x16 : w1.cell? ⟨w.heap.size,16,none⟩ = some (.slice A k c) := hX.cell 16
  have x17 : w1.cell? ⟨w.heap.size,17,none⟩ = some (.int .i64 p.cl) := hX.cell 17
  have x18 : w1.cell? ⟨w.heap.size,18,none⟩ = some (.int .i64 p.sz) := hX.cell 18
  have x19 : w1.cell? ⟨w.heap.size,19,none⟩ = some (.int .i64 p.bf) := hX.cell 19
  have x20 : w1.cell? ⟨w.heap.size,20,none⟩ = some (.int .i64 p.bt) := hX.cell 20
  have x21 : w1.cell? ⟨w.heap.size,21,none⟩ = some (.int .i64 p.bs_) := hX.cell 21
  have x22 : w1.cell? ⟨w.heap.size,22,none⟩ = some (.int .i64 p.bc) := hX.cell 22
  have x23 : w1.cell? ⟨w.heap.size,23,none⟩ = some (.int .i64 p.bd) := hX.cell 23
  have y0 : w1.cell? ⟨w.heap.size + 1,0,none⟩ = some (.int .i64 q.dk) := hY.cell 0
  have y1 : w1.cell? ⟨w.heap.size + 1,1,none⟩ = some (.string (bs q.tx)) := hY.cell 1
  have y2 : w1.cell? ⟨w.heap.size + 1,2,none⟩ = some (.int .i64 q.D.op) := hY.cell 2
  have y3 : w1.cell? ⟨w.heap.size + 1,3,none⟩ = some (.int .i64 q.D.kd) := hY.cell 3
  have y4 : w1.cell? ⟨w.heap.size + 1,4,none⟩ = some (.int .i64 q.D.id) := hY.cell 4
  have y5 : w1.cell? ⟨w.heap.size + 1,5,none⟩ = some (.int .i64 q.D.fr) := hY.cell 5
  have y6 : w1.cell? ⟨w.heap.size + 1,6,none⟩ = some (.int .i64 q.D.tn) := hY.cell 6
  have y7 : w1.cell? ⟨w.heap.size + 1,7,none⟩ = some (.int .i64 q.D.st) := hY.cell 7
  have y8 : w1.cell? ⟨w.heap.size + 1,8,none⟩ = some (.int .i64 q.D.en) := hY.cell 8
  have y9 : w1.cell? ⟨w.heap.size + 1,9,none⟩ = some (.int .i64 q.D.rt) := hY.cell 9
  have y10 : w1.cell? ⟨w.heap.size + 1,10,none⟩ = some (.int .i64 q.D.rf) := hY.cell 10
  have y11 : w1.cell? ⟨w.heap.size + 1,11,none⟩ = some (.int .i64 q.D.rn) := hY.cell 11
  have y12 : w1.cell? ⟨w.heap.size + 1,12,none⟩ = some (.int .i64 q.D.rs) := hY.cell 12
  have y13 : w1.cell? ⟨w.heap.size + 1,13,none⟩ = some (.int .i64 q.D.re) := hY.cell 13
  have y14 : w1.cell? ⟨w.heap.size + 1,14,none⟩ = some (.int .i64 q.D.ro) := hY.cell 14
  have y15 : w1.cell? ⟨w.heap.size + 1,15,none⟩ = some (.int .i64 q.n) := hY.cell 15
  have y16 : w1.cell? ⟨w.heap.size + 1,16,none⟩ = some (.slice A' k' c') := hY.cell 16
  have y17 : w1.cell? ⟨w.heap.size + 1,17,none⟩ = some (.int .i64 q.cl) := hY.cell 17
  have y18 : w1.cell? ⟨w.heap.size + 1,18,none⟩ = some (.int .i64 q.sz) := hY.cell 18
  have y19 : w1.cell? ⟨w.heap.size + 1,19,none⟩ = some (.int .i64 q.bf) := hY.cell 19
  have y20 : w1.cell? ⟨w.heap.size + 1,20,none⟩ = some (.int .i64 q.bt) := hY.cell 20
  have y21 : w1.cell? ⟨w.heap.size + 1,21,none⟩ = some (.int .i64 q.bs_) := hY.cell 21
  have y22 : w1.cell? ⟨w.heap.size + 1,22,none⟩ = some (.int .i64 q.bc) := hY.cell 22
  have y23 : w1.cell? ⟨w.heap.size + 1,23,none⟩ = some (.int .i64 q.bd) := hY.cell 23
  have lt_x := hX.lt
  have lt_y := hY.lt
  go_wp2_with fail
  go_ret
  exact ⟨rfl,hB⟩
end Go.Proofs.YtggdomeeienjbaaDoor

/- Package script: Same's closure, part 2. No condition but on sizes. -/
namespace Go.Proofs.YtggdomeeienjbaaDoor
open Go.ChangeShapes Go.WideShapes Go.ChangeAt Go.RowKit Go.Sort
set_option linter.unusedSimpArgs false
set_option linter.unusedVariables false
set_option maxHeartbeats 8000000 in
set_option maxRecDepth 100000 in
theorem same1_1 (p q : Pa) (A A' : Option Addr) (k c k' c' : Nat) (w : World) (hk : p.ids.length = k) (hk' : q.ids.length = k') (hkm : k ≤ 1000000) (hkm' : k' ≤ 1000000) (h : Sl w w.heap.size 1 A k c (p.ids.map (Value.int .i64))) (h' : Sl w w.heap.size 1 A' k' c' (q.ids.map (Value.int .i64))) (c0 : p.dk = q.dk) (c1 : ¬ (p.tx = q.tx)) :
    Calls Tryd.prog 21 #[.agg #[.int .i64 p.dk, .string (bs p.tx), .int .i64 p.D.op, .int .i64 p.D.kd, .int .i64 p.D.id, .int .i64 p.D.fr, .int .i64 p.D.tn, .int .i64 p.D.st, .int .i64 p.D.en, .int .i64 p.D.rt, .int .i64 p.D.rf, .int .i64 p.D.rn, .int .i64 p.D.rs, .int .i64 p.D.re, .int .i64 p.D.ro, .int .i64 p.n, .slice A k c, .int .i64 p.cl, .int .i64 p.sz, .int .i64 p.bf, .int .i64 p.bt, .int .i64 p.bs_, .int .i64 p.bc, .int .i64 p.bd], .agg #[.int .i64 q.dk, .string (bs q.tx), .int .i64 q.D.op, .int .i64 q.D.kd, .int .i64 q.D.id, .int .i64 q.D.fr, .int .i64 q.D.tn, .int .i64 q.D.st, .int .i64 q.D.en, .int .i64 q.D.rt, .int .i64 q.D.rf, .int .i64 q.D.rn, .int .i64 q.D.rs, .int .i64 q.D.re, .int .i64 q.D.ro, .int .i64 q.n, .slice A' k' c', .int .i64 q.cl, .int .i64 q.sz, .int .i64 q.bf, .int .i64 q.bt, .int .i64 q.bs_, .int .i64 q.bc, .int .i64 q.bd]] w fun e w' => e = .returned (.bool false) ∧ Below w.heap.size w w' := by
  have g0 : (p.dk == q.dk) = true := by simp [c0]
  have g1 : ((bs p.tx).toList == (bs q.tx).toList) = false := by rw [beq_eq_false_iff_ne]; exact fun e => c1 ((str_ne _ _).1 e)
  clear c0 c1
  have hB : Below w.heap.size w ((w.alloc (.cells #[.int .i64 p.dk, .string (bs p.tx), .int .i64 p.D.op, .int .i64 p.D.kd, .int .i64 p.D.id, .int .i64 p.D.fr, .int .i64 p.D.tn, .int .i64 p.D.st, .int .i64 p.D.en, .int .i64 p.D.rt, .int .i64 p.D.rf, .int .i64 p.D.rn, .int .i64 p.D.rs, .int .i64 p.D.re, .int .i64 p.D.ro, .int .i64 p.n, .slice A k c, .int .i64 p.cl, .int .i64 p.sz, .int .i64 p.bf, .int .i64 p.bt, .int .i64 p.bs_, .int .i64 p.bc, .int .i64 p.bd] 36)).alloc (.cells #[.int .i64 q.dk, .string (bs q.tx), .int .i64 q.D.op, .int .i64 q.D.kd, .int .i64 q.D.id, .int .i64 q.D.fr, .int .i64 q.D.tn, .int .i64 q.D.st, .int .i64 q.D.en, .int .i64 q.D.rt, .int .i64 q.D.rf, .int .i64 q.D.rn, .int .i64 q.D.rs, .int .i64 q.D.re, .int .i64 q.D.ro, .int .i64 q.n, .slice A' k' c', .int .i64 q.cl, .int .i64 q.sz, .int .i64 q.bf, .int .i64 q.bt, .int .i64 q.bs_, .int .i64 q.bc, .int .i64 q.bd] 36)) := by (repeat (first | exact Below.refl _ _ | refine Below.alloc ?_ (by first | omega | (simp; done) | (simp; omega)) _ | refine Below.setCell ?_ (by first | omega | (simp; done) | (simp; omega)) _ | refine Below.drew ?_))
  have hX := (Blok.new w 36 #[.int .i64 p.dk, .string (bs p.tx), .int .i64 p.D.op, .int .i64 p.D.kd, .int .i64 p.D.id, .int .i64 p.D.fr, .int .i64 p.D.tn, .int .i64 p.D.st, .int .i64 p.D.en, .int .i64 p.D.rt, .int .i64 p.D.rf, .int .i64 p.D.rn, .int .i64 p.D.rs, .int .i64 p.D.re, .int .i64 p.D.ro, .int .i64 p.n, .slice A k c, .int .i64 p.cl, .int .i64 p.sz, .int .i64 p.bf, .int .i64 p.bt, .int .i64 p.bs_, .int .i64 p.bc, .int .i64 p.bd]).alloc (.cells #[.int .i64 q.dk, .string (bs q.tx), .int .i64 q.D.op, .int .i64 q.D.kd, .int .i64 q.D.id, .int .i64 q.D.fr, .int .i64 q.D.tn, .int .i64 q.D.st, .int .i64 q.D.en, .int .i64 q.D.rt, .int .i64 q.D.rf, .int .i64 q.D.rn, .int .i64 q.D.rs, .int .i64 q.D.re, .int .i64 q.D.ro, .int .i64 q.n, .slice A' k' c', .int .i64 q.cl, .int .i64 q.sz, .int .i64 q.bf, .int .i64 q.bt, .int .i64 q.bs_, .int .i64 q.bc, .int .i64 q.bd] 36)
  have hY := Blok.new (w.alloc (.cells #[.int .i64 p.dk, .string (bs p.tx), .int .i64 p.D.op, .int .i64 p.D.kd, .int .i64 p.D.id, .int .i64 p.D.fr, .int .i64 p.D.tn, .int .i64 p.D.st, .int .i64 p.D.en, .int .i64 p.D.rt, .int .i64 p.D.rf, .int .i64 p.D.rn, .int .i64 p.D.rs, .int .i64 p.D.re, .int .i64 p.D.ro, .int .i64 p.n, .slice A k c, .int .i64 p.cl, .int .i64 p.sz, .int .i64 p.bf, .int .i64 p.bt, .int .i64 p.bs_, .int .i64 p.bc, .int .i64 p.bd] 36)) 36 #[.int .i64 q.dk, .string (bs q.tx), .int .i64 q.D.op, .int .i64 q.D.kd, .int .i64 q.D.id, .int .i64 q.D.fr, .int .i64 q.D.tn, .int .i64 q.D.st, .int .i64 q.D.en, .int .i64 q.D.rt, .int .i64 q.D.rf, .int .i64 q.D.rn, .int .i64 q.D.rs, .int .i64 q.D.re, .int .i64 q.D.ro, .int .i64 q.n, .slice A' k' c', .int .i64 q.cl, .int .i64 q.sz, .int .i64 q.bf, .int .i64 q.bt, .int .i64 q.bs_, .int .i64 q.bc, .int .i64 q.bd]
  rw [World.size_alloc] at hY
  replace h := h.up hB
  replace h' := h'.up hB
  have hs := hB.size
  have HK := Lib.hid (⟨hk,hk',hkm,hkm'⟩ : _ ∧ _ ∧ _ ∧ _)
  have HH := Lib.hid h
  have HH' := Lib.hid h'
  clear hk hk' hkm hkm' h h'
  go_enter Tryd.func21,Tryd.ntmps21
  go_upto_region 1 with fail
  generalize (w.alloc (.cells #[.int .i64 p.dk, .string (bs p.tx), .int .i64 p.D.op, .int .i64 p.D.kd, .int .i64 p.D.id, .int .i64 p.D.fr, .int .i64 p.D.tn, .int .i64 p.D.st, .int .i64 p.D.en, .int .i64 p.D.rt, .int .i64 p.D.rf, .int .i64 p.D.rn, .int .i64 p.D.rs, .int .i64 p.D.re, .int .i64 p.D.ro, .int .i64 p.n, .slice A k c, .int .i64 p.cl, .int .i64 p.sz, .int .i64 p.bf, .int .i64 p.bt, .int .i64 p.bs_, .int .i64 p.bc, .int .i64 p.bd] 36)).alloc (.cells #[.int .i64 q.dk, .string (bs q.tx), .int .i64 q.D.op, .int .i64 q.D.kd, .int .i64 q.D.id, .int .i64 q.D.fr, .int .i64 q.D.tn, .int .i64 q.D.st, .int .i64 q.D.en, .int .i64 q.D.rt, .int .i64 q.D.rf, .int .i64 q.D.rn, .int .i64 q.D.rs, .int .i64 q.D.re, .int .i64 q.D.ro, .int .i64 q.n, .slice A' k' c', .int .i64 q.cl, .int .i64 q.sz, .int .i64 q.bf, .int .i64 q.bt, .int .i64 q.bs_, .int .i64 q.bc, .int .i64 q.bd] 36) = w1 at *
  have x0 : w1.cell? ⟨w.heap.size,0,none⟩ = some (.int .i64 p.dk) := hX.cell 0
  have x1 : w1.cell? ⟨w.heap.size,1,none⟩ = some (.string (bs p.tx)) := hX.cell 1
  have x2 : w1.cell? ⟨w.heap.size,2,none⟩ = some (.int .i64 p.D.op) := hX.cell 2
  have x3 : w1.cell? ⟨w.heap.size,3,none⟩ = some (.int .i64 p.D.kd) := hX.cell 3
  have x4 : w1.cell? ⟨w.heap.size,4,none⟩ = some (.int .i64 p.D.id) := hX.cell 4
  have x5 : w1.cell? ⟨w.heap.size,5,none⟩ = some (.int .i64 p.D.fr) := hX.cell 5
  have x6 : w1.cell? ⟨w.heap.size,6,none⟩ = some (.int .i64 p.D.tn) := hX.cell 6
  have x7 : w1.cell? ⟨w.heap.size,7,none⟩ = some (.int .i64 p.D.st) := hX.cell 7
  have x8 : w1.cell? ⟨w.heap.size,8,none⟩ = some (.int .i64 p.D.en) := hX.cell 8
  have x9 : w1.cell? ⟨w.heap.size,9,none⟩ = some (.int .i64 p.D.rt) := hX.cell 9
  have x10 : w1.cell? ⟨w.heap.size,10,none⟩ = some (.int .i64 p.D.rf) := hX.cell 10
  have x11 : w1.cell? ⟨w.heap.size,11,none⟩ = some (.int .i64 p.D.rn) := hX.cell 11
  have x12 : w1.cell? ⟨w.heap.size,12,none⟩ = some (.int .i64 p.D.rs) := hX.cell 12
  have x13 : w1.cell? ⟨w.heap.size,13,none⟩ = some (.int .i64 p.D.re) := hX.cell 13
  have x14 : w1.cell? ⟨w.heap.size,14,none⟩ = some (.int .i64 p.D.ro) := hX.cell 14
  have x15 : w1.cell? ⟨w.heap.size,15,none⟩ = some (.int .i64 p.n) := hX.cell 15
  have x16 : w1.cell? ⟨w.heap.size,16,none⟩ = some (.slice A k c) := hX.cell 16
  have x17 : w1.cell? ⟨w.heap.size,17,none⟩ = some (.int .i64 p.cl) := hX.cell 17
  have x18 : w1.cell? ⟨w.heap.size,18,none⟩ = some (.int .i64 p.sz) := hX.cell 18
  have x19 : w1.cell? ⟨w.heap.size,19,none⟩ = some (.int .i64 p.bf) := hX.cell 19
  have x20 : w1.cell? ⟨w.heap.size,20,none⟩ = some (.int .i64 p.bt) := hX.cell 20
  have x21 : w1.cell? ⟨w.heap.size,21,none⟩ = some (.int .i64 p.bs_) := hX.cell 21
  have x22 : w1.cell? ⟨w.heap.size,22,none⟩ = some (.int .i64 p.bc) := hX.cell 22
  have x23 : w1.cell? ⟨w.heap.size,23,none⟩ = some (.int .i64 p.bd) := hX.cell 23
  have y0 : w1.cell? ⟨w.heap.size + 1,0,none⟩ = some (.int .i64 q.dk) := hY.cell 0
  have y1 : w1.cell? ⟨w.heap.size + 1,1,none⟩ = some (.string (bs q.tx)) := hY.cell 1
  have y2 : w1.cell? ⟨w.heap.size + 1,2,none⟩ = some (.int .i64 q.D.op) := hY.cell 2
  have y3 : w1.cell? ⟨w.heap.size + 1,3,none⟩ = some (.int .i64 q.D.kd) := hY.cell 3
  have y4 : w1.cell? ⟨w.heap.size + 1,4,none⟩ = some (.int .i64 q.D.id) := hY.cell 4
  have y5 : w1.cell? ⟨w.heap.size + 1,5,none⟩ = some (.int .i64 q.D.fr) := hY.cell 5
  have y6 : w1.cell? ⟨w.heap.size + 1,6,none⟩ = some (.int .i64 q.D.tn) := hY.cell 6
  have y7 : w1.cell? ⟨w.heap.size + 1,7,none⟩ = some (.int .i64 q.D.st) := hY.cell 7
  have y8 : w1.cell? ⟨w.heap.size + 1,8,none⟩ = some (.int .i64 q.D.en) := hY.cell 8
  have y9 : w1.cell? ⟨w.heap.size + 1,9,none⟩ = some (.int .i64 q.D.rt) := hY.cell 9
  have y10 : w1.cell? ⟨w.heap.size + 1,10,none⟩ = some (.int .i64 q.D.rf) := hY.cell 10
  have y11 : w1.cell? ⟨w.heap.size + 1,11,none⟩ = some (.int .i64 q.D.rn) := hY.cell 11
  have y12 : w1.cell? ⟨w.heap.size + 1,12,none⟩ = some (.int .i64 q.D.rs) := hY.cell 12
  have y13 : w1.cell? ⟨w.heap.size + 1,13,none⟩ = some (.int .i64 q.D.re) := hY.cell 13
  have y14 : w1.cell? ⟨w.heap.size + 1,14,none⟩ = some (.int .i64 q.D.ro) := hY.cell 14
  have y15 : w1.cell? ⟨w.heap.size + 1,15,none⟩ = some (.int .i64 q.n) := hY.cell 15
  have y16 : w1.cell? ⟨w.heap.size + 1,16,none⟩ = some (.slice A' k' c') := hY.cell 16
  have y17 : w1.cell? ⟨w.heap.size + 1,17,none⟩ = some (.int .i64 q.cl) := hY.cell 17
  have y18 : w1.cell? ⟨w.heap.size + 1,18,none⟩ = some (.int .i64 q.sz) := hY.cell 18
  have y19 : w1.cell? ⟨w.heap.size + 1,19,none⟩ = some (.int .i64 q.bf) := hY.cell 19
  have y20 : w1.cell? ⟨w.heap.size + 1,20,none⟩ = some (.int .i64 q.bt) := hY.cell 20
  have y21 : w1.cell? ⟨w.heap.size + 1,21,none⟩ = some (.int .i64 q.bs_) := hY.cell 21
  have y22 : w1.cell? ⟨w.heap.size + 1,22,none⟩ = some (.int .i64 q.bc) := hY.cell 22
  have y23 : w1.cell? ⟨w.heap.size + 1,23,none⟩ = some (.int .i64 q.bd) := hY.cell 23
  have lt_x := hX.lt
  have lt_y := hY.lt
  go_wp2_with fail
  go_ret
  exact ⟨rfl,hB⟩
end Go.Proofs.YtggdomeeienjbaaDoor

/- Package script: Same's closure, part 3. No condition but on sizes. -/
namespace Go.Proofs.YtggdomeeienjbaaDoor
open Go.ChangeShapes Go.WideShapes Go.ChangeAt Go.RowKit Go.Sort
set_option linter.unusedSimpArgs false
set_option linter.unusedVariables false
set_option maxHeartbeats 8000000 in
set_option maxRecDepth 100000 in
theorem same1_2 (p q : Pa) (A A' : Option Addr) (k c k' c' : Nat) (w : World) (hk : p.ids.length = k) (hk' : q.ids.length = k') (hkm : k ≤ 1000000) (hkm' : k' ≤ 1000000) (h : Sl w w.heap.size 1 A k c (p.ids.map (Value.int .i64))) (h' : Sl w w.heap.size 1 A' k' c' (q.ids.map (Value.int .i64))) (c0 : p.dk = q.dk) (c1 : p.tx = q.tx) (c2 : ¬ (p.D = q.D)) :
    Calls Tryd.prog 21 #[.agg #[.int .i64 p.dk, .string (bs p.tx), .int .i64 p.D.op, .int .i64 p.D.kd, .int .i64 p.D.id, .int .i64 p.D.fr, .int .i64 p.D.tn, .int .i64 p.D.st, .int .i64 p.D.en, .int .i64 p.D.rt, .int .i64 p.D.rf, .int .i64 p.D.rn, .int .i64 p.D.rs, .int .i64 p.D.re, .int .i64 p.D.ro, .int .i64 p.n, .slice A k c, .int .i64 p.cl, .int .i64 p.sz, .int .i64 p.bf, .int .i64 p.bt, .int .i64 p.bs_, .int .i64 p.bc, .int .i64 p.bd], .agg #[.int .i64 q.dk, .string (bs q.tx), .int .i64 q.D.op, .int .i64 q.D.kd, .int .i64 q.D.id, .int .i64 q.D.fr, .int .i64 q.D.tn, .int .i64 q.D.st, .int .i64 q.D.en, .int .i64 q.D.rt, .int .i64 q.D.rf, .int .i64 q.D.rn, .int .i64 q.D.rs, .int .i64 q.D.re, .int .i64 q.D.ro, .int .i64 q.n, .slice A' k' c', .int .i64 q.cl, .int .i64 q.sz, .int .i64 q.bf, .int .i64 q.bt, .int .i64 q.bs_, .int .i64 q.bc, .int .i64 q.bd]] w fun e w' => e = .returned (.bool false) ∧ Below w.heap.size w w' := by
  have g0 : (p.dk == q.dk) = true := by simp [c0]
  have g1 : ((bs p.tx).toList == (bs q.tx).toList) = true := by rw [beq_iff_eq]; exact (str_ne _ _).2 c1
  have g2 : ∀ w0,(binOp .eql 31 (.agg #[.int .i64 p.D.op, .int .i64 p.D.kd, .int .i64 p.D.id, .int .i64 p.D.fr, .int .i64 p.D.tn, .int .i64 p.D.st, .int .i64 p.D.en, .int .i64 p.D.rt, .int .i64 p.D.rf, .int .i64 p.D.rn, .int .i64 p.D.rs, .int .i64 p.D.re, .int .i64 p.D.ro]) (.agg #[.int .i64 q.D.op, .int .i64 q.D.kd, .int .i64 q.D.id, .int .i64 q.D.fr, .int .i64 q.D.tn, .int .i64 q.D.st, .int .i64 q.D.en, .int .i64 q.D.rt, .int .i64 q.D.rf, .int .i64 q.D.rn, .int .i64 q.D.rs, .int .i64 q.D.re, .int .i64 q.D.ro])).run Tryd.prog w0 = .ok (.bool false) w0 := fun w0 => by rw [eqlDr]; simp [c2]
  clear c0 c1 c2
  have hB : Below w.heap.size w ((w.alloc (.cells #[.int .i64 p.dk, .string (bs p.tx), .int .i64 p.D.op, .int .i64 p.D.kd, .int .i64 p.D.id, .int .i64 p.D.fr, .int .i64 p.D.tn, .int .i64 p.D.st, .int .i64 p.D.en, .int .i64 p.D.rt, .int .i64 p.D.rf, .int .i64 p.D.rn, .int .i64 p.D.rs, .int .i64 p.D.re, .int .i64 p.D.ro, .int .i64 p.n, .slice A k c, .int .i64 p.cl, .int .i64 p.sz, .int .i64 p.bf, .int .i64 p.bt, .int .i64 p.bs_, .int .i64 p.bc, .int .i64 p.bd] 36)).alloc (.cells #[.int .i64 q.dk, .string (bs q.tx), .int .i64 q.D.op, .int .i64 q.D.kd, .int .i64 q.D.id, .int .i64 q.D.fr, .int .i64 q.D.tn, .int .i64 q.D.st, .int .i64 q.D.en, .int .i64 q.D.rt, .int .i64 q.D.rf, .int .i64 q.D.rn, .int .i64 q.D.rs, .int .i64 q.D.re, .int .i64 q.D.ro, .int .i64 q.n, .slice A' k' c', .int .i64 q.cl, .int .i64 q.sz, .int .i64 q.bf, .int .i64 q.bt, .int .i64 q.bs_, .int .i64 q.bc, .int .i64 q.bd] 36)) := by (repeat (first | exact Below.refl _ _ | refine Below.alloc ?_ (by first | omega | (simp; done) | (simp; omega)) _ | refine Below.setCell ?_ (by first | omega | (simp; done) | (simp; omega)) _ | refine Below.drew ?_))
  have hX := (Blok.new w 36 #[.int .i64 p.dk, .string (bs p.tx), .int .i64 p.D.op, .int .i64 p.D.kd, .int .i64 p.D.id, .int .i64 p.D.fr, .int .i64 p.D.tn, .int .i64 p.D.st, .int .i64 p.D.en, .int .i64 p.D.rt, .int .i64 p.D.rf, .int .i64 p.D.rn, .int .i64 p.D.rs, .int .i64 p.D.re, .int .i64 p.D.ro, .int .i64 p.n, .slice A k c, .int .i64 p.cl, .int .i64 p.sz, .int .i64 p.bf, .int .i64 p.bt, .int .i64 p.bs_, .int .i64 p.bc, .int .i64 p.bd]).alloc (.cells #[.int .i64 q.dk, .string (bs q.tx), .int .i64 q.D.op, .int .i64 q.D.kd, .int .i64 q.D.id, .int .i64 q.D.fr, .int .i64 q.D.tn, .int .i64 q.D.st, .int .i64 q.D.en, .int .i64 q.D.rt, .int .i64 q.D.rf, .int .i64 q.D.rn, .int .i64 q.D.rs, .int .i64 q.D.re, .int .i64 q.D.ro, .int .i64 q.n, .slice A' k' c', .int .i64 q.cl, .int .i64 q.sz, .int .i64 q.bf, .int .i64 q.bt, .int .i64 q.bs_, .int .i64 q.bc, .int .i64 q.bd] 36)
  have hY := Blok.new (w.alloc (.cells #[.int .i64 p.dk, .string (bs p.tx), .int .i64 p.D.op, .int .i64 p.D.kd, .int .i64 p.D.id, .int .i64 p.D.fr, .int .i64 p.D.tn, .int .i64 p.D.st, .int .i64 p.D.en, .int .i64 p.D.rt, .int .i64 p.D.rf, .int .i64 p.D.rn, .int .i64 p.D.rs, .int .i64 p.D.re, .int .i64 p.D.ro, .int .i64 p.n, .slice A k c, .int .i64 p.cl, .int .i64 p.sz, .int .i64 p.bf, .int .i64 p.bt, .int .i64 p.bs_, .int .i64 p.bc, .int .i64 p.bd] 36)) 36 #[.int .i64 q.dk, .string (bs q.tx), .int .i64 q.D.op, .int .i64 q.D.kd, .int .i64 q.D.id, .int .i64 q.D.fr, .int .i64 q.D.tn, .int .i64 q.D.st, .int .i64 q.D.en, .int .i64 q.D.rt, .int .i64 q.D.rf, .int .i64 q.D.rn, .int .i64 q.D.rs, .int .i64 q.D.re, .int .i64 q.D.ro, .int .i64 q.n, .slice A' k' c', .int .i64 q.cl, .int .i64 q.sz, .int .i64 q.bf, .int .i64 q.bt, .int .i64 q.bs_, .int .i64 q.bc, .int .i64 q.bd]
  rw [World.size_alloc] at hY
  replace h := h.up hB
  replace h' := h'.up hB
  have hs := hB.size
  have HK := Lib.hid (⟨hk,hk',hkm,hkm'⟩ : _ ∧ _ ∧ _ ∧ _)
  have HH := Lib.hid h
  have HH' := Lib.hid h'
  clear hk hk' hkm hkm' h h'
  go_enter Tryd.func21,Tryd.ntmps21
  go_upto_region 1 with fail
  generalize (w.alloc (.cells #[.int .i64 p.dk, .string (bs p.tx), .int .i64 p.D.op, .int .i64 p.D.kd, .int .i64 p.D.id, .int .i64 p.D.fr, .int .i64 p.D.tn, .int .i64 p.D.st, .int .i64 p.D.en, .int .i64 p.D.rt, .int .i64 p.D.rf, .int .i64 p.D.rn, .int .i64 p.D.rs, .int .i64 p.D.re, .int .i64 p.D.ro, .int .i64 p.n, .slice A k c, .int .i64 p.cl, .int .i64 p.sz, .int .i64 p.bf, .int .i64 p.bt, .int .i64 p.bs_, .int .i64 p.bc, .int .i64 p.bd] 36)).alloc (.cells #[.int .i64 q.dk, .string (bs q.tx), .int .i64 q.D.op, .int .i64 q.D.kd, .int .i64 q.D.id, .int .i64 q.D.fr, .int .i64 q.D.tn, .int .i64 q.D.st, .int .i64 q.D.en, .int .i64 q.D.rt, .int .i64 q.D.rf, .int .i64 q.D.rn, .int .i64 q.D.rs, .int .i64 q.D.re, .int .i64 q.D.ro, .int .i64 q.n, .slice A' k' c', .int .i64 q.cl, .int .i64 q.sz, .int .i64 q.bf, .int .i64 q.bt, .int .i64 q.bs_, .int .i64 q.bc, .int .i64 q.bd] 36) = w1 at *
  have x0 : w1.cell? ⟨w.heap.size,0,none⟩ = some (.int .i64 p.dk) := hX.cell 0
  have x1 : w1.cell? ⟨w.heap.size,1,none⟩ = some (.string (bs p.tx)) := hX.cell 1
  have x2 : w1.cell? ⟨w.heap.size,2,none⟩ = some (.int .i64 p.D.op) := hX.cell 2
  have x3 : w1.cell? ⟨w.heap.size,3,none⟩ = some (.int .i64 p.D.kd) := hX.cell 3
  have x4 : w1.cell? ⟨w.heap.size,4,none⟩ = some (.int .i64 p.D.id) := hX.cell 4
  have x5 : w1.cell? ⟨w.heap.size,5,none⟩ = some (.int .i64 p.D.fr) := hX.cell 5
  have x6 : w1.cell? ⟨w.heap.size,6,none⟩ = some (.int .i64 p.D.tn) := hX.cell 6
  have x7 : w1.cell? ⟨w.heap.size,7,none⟩ = some (.int .i64 p.D.st) := hX.cell 7
  have x8 : w1.cell? ⟨w.heap.size,8,none⟩ = some (.int .i64 p.D.en) := hX.cell 8
  have x9 : w1.cell? ⟨w.heap.size,9,none⟩ = some (.int .i64 p.D.rt) := hX.cell 9
  have x10 : w1.cell? ⟨w.heap.size,10,none⟩ = some (.int .i64 p.D.rf) := hX.cell 10
  have x11 : w1.cell? ⟨w.heap.size,11,none⟩ = some (.int .i64 p.D.rn) := hX.cell 11
  have x12 : w1.cell? ⟨w.heap.size,12,none⟩ = some (.int .i64 p.D.rs) := hX.cell 12
  have x13 : w1.cell? ⟨w.heap.size,13,none⟩ = some (.int .i64 p.D.re) := hX.cell 13
  have x14 : w1.cell? ⟨w.heap.size,14,none⟩ = some (.int .i64 p.D.ro) := hX.cell 14
  have x15 : w1.cell? ⟨w.heap.size,15,none⟩ = some (.int .i64 p.n) := hX.cell 15
  have x16 : w1.cell? ⟨w.heap.size,16,none⟩ = some (.slice A k c) := hX.cell 16
  have x17 : w1.cell? ⟨w.heap.size,17,none⟩ = some (.int .i64 p.cl) := hX.cell 17
  have x18 : w1.cell? ⟨w.heap.size,18,none⟩ = some (.int .i64 p.sz) := hX.cell 18
  have x19 : w1.cell? ⟨w.heap.size,19,none⟩ = some (.int .i64 p.bf) := hX.cell 19
  have x20 : w1.cell? ⟨w.heap.size,20,none⟩ = some (.int .i64 p.bt) := hX.cell 20
  have x21 : w1.cell? ⟨w.heap.size,21,none⟩ = some (.int .i64 p.bs_) := hX.cell 21
  have x22 : w1.cell? ⟨w.heap.size,22,none⟩ = some (.int .i64 p.bc) := hX.cell 22
  have x23 : w1.cell? ⟨w.heap.size,23,none⟩ = some (.int .i64 p.bd) := hX.cell 23
  have y0 : w1.cell? ⟨w.heap.size + 1,0,none⟩ = some (.int .i64 q.dk) := hY.cell 0
  have y1 : w1.cell? ⟨w.heap.size + 1,1,none⟩ = some (.string (bs q.tx)) := hY.cell 1
  have y2 : w1.cell? ⟨w.heap.size + 1,2,none⟩ = some (.int .i64 q.D.op) := hY.cell 2
  have y3 : w1.cell? ⟨w.heap.size + 1,3,none⟩ = some (.int .i64 q.D.kd) := hY.cell 3
  have y4 : w1.cell? ⟨w.heap.size + 1,4,none⟩ = some (.int .i64 q.D.id) := hY.cell 4
  have y5 : w1.cell? ⟨w.heap.size + 1,5,none⟩ = some (.int .i64 q.D.fr) := hY.cell 5
  have y6 : w1.cell? ⟨w.heap.size + 1,6,none⟩ = some (.int .i64 q.D.tn) := hY.cell 6
  have y7 : w1.cell? ⟨w.heap.size + 1,7,none⟩ = some (.int .i64 q.D.st) := hY.cell 7
  have y8 : w1.cell? ⟨w.heap.size + 1,8,none⟩ = some (.int .i64 q.D.en) := hY.cell 8
  have y9 : w1.cell? ⟨w.heap.size + 1,9,none⟩ = some (.int .i64 q.D.rt) := hY.cell 9
  have y10 : w1.cell? ⟨w.heap.size + 1,10,none⟩ = some (.int .i64 q.D.rf) := hY.cell 10
  have y11 : w1.cell? ⟨w.heap.size + 1,11,none⟩ = some (.int .i64 q.D.rn) := hY.cell 11
  have y12 : w1.cell? ⟨w.heap.size + 1,12,none⟩ = some (.int .i64 q.D.rs) := hY.cell 12
  have y13 : w1.cell? ⟨w.heap.size + 1,13,none⟩ = some (.int .i64 q.D.re) := hY.cell 13
  have y14 : w1.cell? ⟨w.heap.size + 1,14,none⟩ = some (.int .i64 q.D.ro) := hY.cell 14
  have y15 : w1.cell? ⟨w.heap.size + 1,15,none⟩ = some (.int .i64 q.n) := hY.cell 15
  have y16 : w1.cell? ⟨w.heap.size + 1,16,none⟩ = some (.slice A' k' c') := hY.cell 16
  have y17 : w1.cell? ⟨w.heap.size + 1,17,none⟩ = some (.int .i64 q.cl) := hY.cell 17
  have y18 : w1.cell? ⟨w.heap.size + 1,18,none⟩ = some (.int .i64 q.sz) := hY.cell 18
  have y19 : w1.cell? ⟨w.heap.size + 1,19,none⟩ = some (.int .i64 q.bf) := hY.cell 19
  have y20 : w1.cell? ⟨w.heap.size + 1,20,none⟩ = some (.int .i64 q.bt) := hY.cell 20
  have y21 : w1.cell? ⟨w.heap.size + 1,21,none⟩ = some (.int .i64 q.bs_) := hY.cell 21
  have y22 : w1.cell? ⟨w.heap.size + 1,22,none⟩ = some (.int .i64 q.bc) := hY.cell 22
  have y23 : w1.cell? ⟨w.heap.size + 1,23,none⟩ = some (.int .i64 q.bd) := hY.cell 23
  have lt_x := hX.lt
  have lt_y := hY.lt
  go_wp2_with fail
  go_ret
  exact ⟨rfl,hB⟩
end Go.Proofs.YtggdomeeienjbaaDoor

/- Package script: Same's closure, part 4. No condition but on sizes. -/
namespace Go.Proofs.YtggdomeeienjbaaDoor
open Go.ChangeShapes Go.WideShapes Go.ChangeAt Go.RowKit Go.Sort
set_option linter.unusedSimpArgs false
set_option linter.unusedVariables false
set_option maxHeartbeats 8000000 in
set_option maxRecDepth 100000 in
theorem same1_3 (p q : Pa) (A A' : Option Addr) (k c k' c' : Nat) (w : World) (hk : p.ids.length = k) (hk' : q.ids.length = k') (hkm : k ≤ 1000000) (hkm' : k' ≤ 1000000) (h : Sl w w.heap.size 1 A k c (p.ids.map (Value.int .i64))) (h' : Sl w w.heap.size 1 A' k' c' (q.ids.map (Value.int .i64))) (c0 : p.dk = q.dk) (c1 : p.tx = q.tx) (c2 : p.D = q.D) (c3 : ¬ (p.n = q.n)) :
    Calls Tryd.prog 21 #[.agg #[.int .i64 p.dk, .string (bs p.tx), .int .i64 p.D.op, .int .i64 p.D.kd, .int .i64 p.D.id, .int .i64 p.D.fr, .int .i64 p.D.tn, .int .i64 p.D.st, .int .i64 p.D.en, .int .i64 p.D.rt, .int .i64 p.D.rf, .int .i64 p.D.rn, .int .i64 p.D.rs, .int .i64 p.D.re, .int .i64 p.D.ro, .int .i64 p.n, .slice A k c, .int .i64 p.cl, .int .i64 p.sz, .int .i64 p.bf, .int .i64 p.bt, .int .i64 p.bs_, .int .i64 p.bc, .int .i64 p.bd], .agg #[.int .i64 q.dk, .string (bs q.tx), .int .i64 q.D.op, .int .i64 q.D.kd, .int .i64 q.D.id, .int .i64 q.D.fr, .int .i64 q.D.tn, .int .i64 q.D.st, .int .i64 q.D.en, .int .i64 q.D.rt, .int .i64 q.D.rf, .int .i64 q.D.rn, .int .i64 q.D.rs, .int .i64 q.D.re, .int .i64 q.D.ro, .int .i64 q.n, .slice A' k' c', .int .i64 q.cl, .int .i64 q.sz, .int .i64 q.bf, .int .i64 q.bt, .int .i64 q.bs_, .int .i64 q.bc, .int .i64 q.bd]] w fun e w' => e = .returned (.bool false) ∧ Below w.heap.size w w' := by
  have g0 : (p.dk == q.dk) = true := by simp [c0]
  have g1 : ((bs p.tx).toList == (bs q.tx).toList) = true := by rw [beq_iff_eq]; exact (str_ne _ _).2 c1
  have g2 : ∀ w0,(binOp .eql 31 (.agg #[.int .i64 p.D.op, .int .i64 p.D.kd, .int .i64 p.D.id, .int .i64 p.D.fr, .int .i64 p.D.tn, .int .i64 p.D.st, .int .i64 p.D.en, .int .i64 p.D.rt, .int .i64 p.D.rf, .int .i64 p.D.rn, .int .i64 p.D.rs, .int .i64 p.D.re, .int .i64 p.D.ro]) (.agg #[.int .i64 q.D.op, .int .i64 q.D.kd, .int .i64 q.D.id, .int .i64 q.D.fr, .int .i64 q.D.tn, .int .i64 q.D.st, .int .i64 q.D.en, .int .i64 q.D.rt, .int .i64 q.D.rf, .int .i64 q.D.rn, .int .i64 q.D.rs, .int .i64 q.D.re, .int .i64 q.D.ro])).run Tryd.prog w0 = .ok (.bool true) w0 := fun w0 => by rw [eqlDr]; simp [c2]
  have g3 : (p.n == q.n) = false := by simp [c3]
  clear c0 c1 c2 c3
  have hB : Below w.heap.size w ((w.alloc (.cells #[.int .i64 p.dk, .string (bs p.tx), .int .i64 p.D.op, .int .i64 p.D.kd, .int .i64 p.D.id, .int .i64 p.D.fr, .int .i64 p.D.tn, .int .i64 p.D.st, .int .i64 p.D.en, .int .i64 p.D.rt, .int .i64 p.D.rf, .int .i64 p.D.rn, .int .i64 p.D.rs, .int .i64 p.D.re, .int .i64 p.D.ro, .int .i64 p.n, .slice A k c, .int .i64 p.cl, .int .i64 p.sz, .int .i64 p.bf, .int .i64 p.bt, .int .i64 p.bs_, .int .i64 p.bc, .int .i64 p.bd] 36)).alloc (.cells #[.int .i64 q.dk, .string (bs q.tx), .int .i64 q.D.op, .int .i64 q.D.kd, .int .i64 q.D.id, .int .i64 q.D.fr, .int .i64 q.D.tn, .int .i64 q.D.st, .int .i64 q.D.en, .int .i64 q.D.rt, .int .i64 q.D.rf, .int .i64 q.D.rn, .int .i64 q.D.rs, .int .i64 q.D.re, .int .i64 q.D.ro, .int .i64 q.n, .slice A' k' c', .int .i64 q.cl, .int .i64 q.sz, .int .i64 q.bf, .int .i64 q.bt, .int .i64 q.bs_, .int .i64 q.bc, .int .i64 q.bd] 36)) := by (repeat (first | exact Below.refl _ _ | refine Below.alloc ?_ (by first | omega | (simp; done) | (simp; omega)) _ | refine Below.setCell ?_ (by first | omega | (simp; done) | (simp; omega)) _ | refine Below.drew ?_))
  have hX := (Blok.new w 36 #[.int .i64 p.dk, .string (bs p.tx), .int .i64 p.D.op, .int .i64 p.D.kd, .int .i64 p.D.id, .int .i64 p.D.fr, .int .i64 p.D.tn, .int .i64 p.D.st, .int .i64 p.D.en, .int .i64 p.D.rt, .int .i64 p.D.rf, .int .i64 p.D.rn, .int .i64 p.D.rs, .int .i64 p.D.re, .int .i64 p.D.ro, .int .i64 p.n, .slice A k c, .int .i64 p.cl, .int .i64 p.sz, .int .i64 p.bf, .int .i64 p.bt, .int .i64 p.bs_, .int .i64 p.bc, .int .i64 p.bd]).alloc (.cells #[.int .i64 q.dk, .string (bs q.tx), .int .i64 q.D.op, .int .i64 q.D.kd, .int .i64 q.D.id, .int .i64 q.D.fr, .int .i64 q.D.tn, .int .i64 q.D.st, .int .i64 q.D.en, .int .i64 q.D.rt, .int .i64 q.D.rf, .int .i64 q.D.rn, .int .i64 q.D.rs, .int .i64 q.D.re, .int .i64 q.D.ro, .int .i64 q.n, .slice A' k' c', .int .i64 q.cl, .int .i64 q.sz, .int .i64 q.bf, .int .i64 q.bt, .int .i64 q.bs_, .int .i64 q.bc, .int .i64 q.bd] 36)
  have hY := Blok.new (w.alloc (.cells #[.int .i64 p.dk, .string (bs p.tx), .int .i64 p.D.op, .int .i64 p.D.kd, .int .i64 p.D.id, .int .i64 p.D.fr, .int .i64 p.D.tn, .int .i64 p.D.st, .int .i64 p.D.en, .int .i64 p.D.rt, .int .i64 p.D.rf, .int .i64 p.D.rn, .int .i64 p.D.rs, .int .i64 p.D.re, .int .i64 p.D.ro, .int .i64 p.n, .slice A k c, .int .i64 p.cl, .int .i64 p.sz, .int .i64 p.bf, .int .i64 p.bt, .int .i64 p.bs_, .int .i64 p.bc, .int .i64 p.bd] 36)) 36 #[.int .i64 q.dk, .string (bs q.tx), .int .i64 q.D.op, .int .i64 q.D.kd, .int .i64 q.D.id, .int .i64 q.D.fr, .int .i64 q.D.tn, .int .i64 q.D.st, .int .i64 q.D.en, .int .i64 q.D.rt, .int .i64 q.D.rf, .int .i64 q.D.rn, .int .i64 q.D.rs, .int .i64 q.D.re, .int .i64 q.D.ro, .int .i64 q.n, .slice A' k' c', .int .i64 q.cl, .int .i64 q.sz, .int .i64 q.bf, .int .i64 q.bt, .int .i64 q.bs_, .int .i64 q.bc, .int .i64 q.bd]
  rw [World.size_alloc] at hY
  replace h := h.up hB
  replace h' := h'.up hB
  have hs := hB.size
  have HK := Lib.hid (⟨hk,hk',hkm,hkm'⟩ : _ ∧ _ ∧ _ ∧ _)
  have HH := Lib.hid h
  have HH' := Lib.hid h'
  clear hk hk' hkm hkm' h h'
  go_enter Tryd.func21,Tryd.ntmps21
  go_upto_region 1 with fail
  generalize (w.alloc (.cells #[.int .i64 p.dk, .string (bs p.tx), .int .i64 p.D.op, .int .i64 p.D.kd, .int .i64 p.D.id, .int .i64 p.D.fr, .int .i64 p.D.tn, .int .i64 p.D.st, .int .i64 p.D.en, .int .i64 p.D.rt, .int .i64 p.D.rf, .int .i64 p.D.rn, .int .i64 p.D.rs, .int .i64 p.D.re, .int .i64 p.D.ro, .int .i64 p.n, .slice A k c, .int .i64 p.cl, .int .i64 p.sz, .int .i64 p.bf, .int .i64 p.bt, .int .i64 p.bs_, .int .i64 p.bc, .int .i64 p.bd] 36)).alloc (.cells #[.int .i64 q.dk, .string (bs q.tx), .int .i64 q.D.op, .int .i64 q.D.kd, .int .i64 q.D.id, .int .i64 q.D.fr, .int .i64 q.D.tn, .int .i64 q.D.st, .int .i64 q.D.en, .int .i64 q.D.rt, .int .i64 q.D.rf, .int .i64 q.D.rn, .int .i64 q.D.rs, .int .i64 q.D.re, .int .i64 q.D.ro, .int .i64 q.n, .slice A' k' c', .int .i64 q.cl, .int .i64 q.sz, .int .i64 q.bf, .int .i64 q.bt, .int .i64 q.bs_, .int .i64 q.bc, .int .i64 q.bd] 36) = w1 at *
  have x0 : w1.cell? ⟨w.heap.size,0,none⟩ = some (.int .i64 p.dk) := hX.cell 0
  have x1 : w1.cell? ⟨w.heap.size,1,none⟩ = some (.string (bs p.tx)) := hX.cell 1
  have x2 : w1.cell? ⟨w.heap.size,2,none⟩ = some (.int .i64 p.D.op) := hX.cell 2
  have x3 : w1.cell? ⟨w.heap.size,3,none⟩ = some (.int .i64 p.D.kd) := hX.cell 3
  have x4 : w1.cell? ⟨w.heap.size,4,none⟩ = some (.int .i64 p.D.id) := hX.cell 4
  have x5 : w1.cell? ⟨w.heap.size,5,none⟩ = some (.int .i64 p.D.fr) := hX.cell 5
  have x6 : w1.cell? ⟨w.heap.size,6,none⟩ = some (.int .i64 p.D.tn) := hX.cell 6
  have x7 : w1.cell? ⟨w.heap.size,7,none⟩ = some (.int .i64 p.D.st) := hX.cell 7
  have x8 : w1.cell? ⟨w.heap.size,8,none⟩ = some (.int .i64 p.D.en) := hX.cell 8
  have x9 : w1.cell? ⟨w.heap.size,9,none⟩ = some (.int .i64 p.D.rt) := hX.cell 9
  have x10 : w1.cell? ⟨w.heap.size,10,none⟩ = some (.int .i64 p.D.rf) := hX.cell 10
  have x11 : w1.cell? ⟨w.heap.size,11,none⟩ = some (.int .i64 p.D.rn) := hX.cell 11
  have x12 : w1.cell? ⟨w.heap.size,12,none⟩ = some (.int .i64 p.D.rs) := hX.cell 12
  have x13 : w1.cell? ⟨w.heap.size,13,none⟩ = some (.int .i64 p.D.re) := hX.cell 13
  have x14 : w1.cell? ⟨w.heap.size,14,none⟩ = some (.int .i64 p.D.ro) := hX.cell 14
  have x15 : w1.cell? ⟨w.heap.size,15,none⟩ = some (.int .i64 p.n) := hX.cell 15
  have x16 : w1.cell? ⟨w.heap.size,16,none⟩ = some (.slice A k c) := hX.cell 16
  have x17 : w1.cell? ⟨w.heap.size,17,none⟩ = some (.int .i64 p.cl) := hX.cell 17
  have x18 : w1.cell? ⟨w.heap.size,18,none⟩ = some (.int .i64 p.sz) := hX.cell 18
  have x19 : w1.cell? ⟨w.heap.size,19,none⟩ = some (.int .i64 p.bf) := hX.cell 19
  have x20 : w1.cell? ⟨w.heap.size,20,none⟩ = some (.int .i64 p.bt) := hX.cell 20
  have x21 : w1.cell? ⟨w.heap.size,21,none⟩ = some (.int .i64 p.bs_) := hX.cell 21
  have x22 : w1.cell? ⟨w.heap.size,22,none⟩ = some (.int .i64 p.bc) := hX.cell 22
  have x23 : w1.cell? ⟨w.heap.size,23,none⟩ = some (.int .i64 p.bd) := hX.cell 23
  have y0 : w1.cell? ⟨w.heap.size + 1,0,none⟩ = some (.int .i64 q.dk) := hY.cell 0
  have y1 : w1.cell? ⟨w.heap.size + 1,1,none⟩ = some (.string (bs q.tx)) := hY.cell 1
  have y2 : w1.cell? ⟨w.heap.size + 1,2,none⟩ = some (.int .i64 q.D.op) := hY.cell 2
  have y3 : w1.cell? ⟨w.heap.size + 1,3,none⟩ = some (.int .i64 q.D.kd) := hY.cell 3
  have y4 : w1.cell? ⟨w.heap.size + 1,4,none⟩ = some (.int .i64 q.D.id) := hY.cell 4
  have y5 : w1.cell? ⟨w.heap.size + 1,5,none⟩ = some (.int .i64 q.D.fr) := hY.cell 5
  have y6 : w1.cell? ⟨w.heap.size + 1,6,none⟩ = some (.int .i64 q.D.tn) := hY.cell 6
  have y7 : w1.cell? ⟨w.heap.size + 1,7,none⟩ = some (.int .i64 q.D.st) := hY.cell 7
  have y8 : w1.cell? ⟨w.heap.size + 1,8,none⟩ = some (.int .i64 q.D.en) := hY.cell 8
  have y9 : w1.cell? ⟨w.heap.size + 1,9,none⟩ = some (.int .i64 q.D.rt) := hY.cell 9
  have y10 : w1.cell? ⟨w.heap.size + 1,10,none⟩ = some (.int .i64 q.D.rf) := hY.cell 10
  have y11 : w1.cell? ⟨w.heap.size + 1,11,none⟩ = some (.int .i64 q.D.rn) := hY.cell 11
  have y12 : w1.cell? ⟨w.heap.size + 1,12,none⟩ = some (.int .i64 q.D.rs) := hY.cell 12
  have y13 : w1.cell? ⟨w.heap.size + 1,13,none⟩ = some (.int .i64 q.D.re) := hY.cell 13
  have y14 : w1.cell? ⟨w.heap.size + 1,14,none⟩ = some (.int .i64 q.D.ro) := hY.cell 14
  have y15 : w1.cell? ⟨w.heap.size + 1,15,none⟩ = some (.int .i64 q.n) := hY.cell 15
  have y16 : w1.cell? ⟨w.heap.size + 1,16,none⟩ = some (.slice A' k' c') := hY.cell 16
  have y17 : w1.cell? ⟨w.heap.size + 1,17,none⟩ = some (.int .i64 q.cl) := hY.cell 17
  have y18 : w1.cell? ⟨w.heap.size + 1,18,none⟩ = some (.int .i64 q.sz) := hY.cell 18
  have y19 : w1.cell? ⟨w.heap.size + 1,19,none⟩ = some (.int .i64 q.bf) := hY.cell 19
  have y20 : w1.cell? ⟨w.heap.size + 1,20,none⟩ = some (.int .i64 q.bt) := hY.cell 20
  have y21 : w1.cell? ⟨w.heap.size + 1,21,none⟩ = some (.int .i64 q.bs_) := hY.cell 21
  have y22 : w1.cell? ⟨w.heap.size + 1,22,none⟩ = some (.int .i64 q.bc) := hY.cell 22
  have y23 : w1.cell? ⟨w.heap.size + 1,23,none⟩ = some (.int .i64 q.bd) := hY.cell 23
  have lt_x := hX.lt
  have lt_y := hY.lt
  go_wp2_with fail
  go_ret
  exact ⟨rfl,hB⟩
end Go.Proofs.YtggdomeeienjbaaDoor

/- Package script: Same's closure, part 5. No condition but on sizes. -/
namespace Go.Proofs.YtggdomeeienjbaaDoor
open Go.ChangeShapes Go.WideShapes Go.ChangeAt Go.RowKit Go.Sort
set_option linter.unusedSimpArgs false
set_option linter.unusedVariables false
set_option maxHeartbeats 8000000 in
set_option maxRecDepth 100000 in
theorem same1_4 (p q : Pa) (A A' : Option Addr) (k c k' c' : Nat) (w : World) (hk : p.ids.length = k) (hk' : q.ids.length = k') (hkm : k ≤ 1000000) (hkm' : k' ≤ 1000000) (h : Sl w w.heap.size 1 A k c (p.ids.map (Value.int .i64))) (h' : Sl w w.heap.size 1 A' k' c' (q.ids.map (Value.int .i64))) (c0 : p.dk = q.dk) (c1 : p.tx = q.tx) (c2 : p.D = q.D) (c3 : p.n = q.n) (c4 : ¬ (p.ids = q.ids)) :
    Calls Tryd.prog 21 #[.agg #[.int .i64 p.dk, .string (bs p.tx), .int .i64 p.D.op, .int .i64 p.D.kd, .int .i64 p.D.id, .int .i64 p.D.fr, .int .i64 p.D.tn, .int .i64 p.D.st, .int .i64 p.D.en, .int .i64 p.D.rt, .int .i64 p.D.rf, .int .i64 p.D.rn, .int .i64 p.D.rs, .int .i64 p.D.re, .int .i64 p.D.ro, .int .i64 p.n, .slice A k c, .int .i64 p.cl, .int .i64 p.sz, .int .i64 p.bf, .int .i64 p.bt, .int .i64 p.bs_, .int .i64 p.bc, .int .i64 p.bd], .agg #[.int .i64 q.dk, .string (bs q.tx), .int .i64 q.D.op, .int .i64 q.D.kd, .int .i64 q.D.id, .int .i64 q.D.fr, .int .i64 q.D.tn, .int .i64 q.D.st, .int .i64 q.D.en, .int .i64 q.D.rt, .int .i64 q.D.rf, .int .i64 q.D.rn, .int .i64 q.D.rs, .int .i64 q.D.re, .int .i64 q.D.ro, .int .i64 q.n, .slice A' k' c', .int .i64 q.cl, .int .i64 q.sz, .int .i64 q.bf, .int .i64 q.bt, .int .i64 q.bs_, .int .i64 q.bc, .int .i64 q.bd]] w fun e w' => e = .returned (.bool false) ∧ Below w.heap.size w w' := by
  have g0 : (p.dk == q.dk) = true := by simp [c0]
  have g1 : ((bs p.tx).toList == (bs q.tx).toList) = true := by rw [beq_iff_eq]; exact (str_ne _ _).2 c1
  have g2 : ∀ w0,(binOp .eql 31 (.agg #[.int .i64 p.D.op, .int .i64 p.D.kd, .int .i64 p.D.id, .int .i64 p.D.fr, .int .i64 p.D.tn, .int .i64 p.D.st, .int .i64 p.D.en, .int .i64 p.D.rt, .int .i64 p.D.rf, .int .i64 p.D.rn, .int .i64 p.D.rs, .int .i64 p.D.re, .int .i64 p.D.ro]) (.agg #[.int .i64 q.D.op, .int .i64 q.D.kd, .int .i64 q.D.id, .int .i64 q.D.fr, .int .i64 q.D.tn, .int .i64 q.D.st, .int .i64 q.D.en, .int .i64 q.D.rt, .int .i64 q.D.rf, .int .i64 q.D.rn, .int .i64 q.D.rs, .int .i64 q.D.re, .int .i64 q.D.ro])).run Tryd.prog w0 = .ok (.bool true) w0 := fun w0 => by rw [eqlDr]; simp [c2]
  have g3 : (p.n == q.n) = true := by simp [c3]
  have g4 : Hid (decide (p.ids = q.ids) = false) := by show decide (p.ids = q.ids) = false; simp [c4]
  clear c0 c1 c2 c3 c4
  have hB : Below w.heap.size w ((w.alloc (.cells #[.int .i64 p.dk, .string (bs p.tx), .int .i64 p.D.op, .int .i64 p.D.kd, .int .i64 p.D.id, .int .i64 p.D.fr, .int .i64 p.D.tn, .int .i64 p.D.st, .int .i64 p.D.en, .int .i64 p.D.rt, .int .i64 p.D.rf, .int .i64 p.D.rn, .int .i64 p.D.rs, .int .i64 p.D.re, .int .i64 p.D.ro, .int .i64 p.n, .slice A k c, .int .i64 p.cl, .int .i64 p.sz, .int .i64 p.bf, .int .i64 p.bt, .int .i64 p.bs_, .int .i64 p.bc, .int .i64 p.bd] 36)).alloc (.cells #[.int .i64 q.dk, .string (bs q.tx), .int .i64 q.D.op, .int .i64 q.D.kd, .int .i64 q.D.id, .int .i64 q.D.fr, .int .i64 q.D.tn, .int .i64 q.D.st, .int .i64 q.D.en, .int .i64 q.D.rt, .int .i64 q.D.rf, .int .i64 q.D.rn, .int .i64 q.D.rs, .int .i64 q.D.re, .int .i64 q.D.ro, .int .i64 q.n, .slice A' k' c', .int .i64 q.cl, .int .i64 q.sz, .int .i64 q.bf, .int .i64 q.bt, .int .i64 q.bs_, .int .i64 q.bc, .int .i64 q.bd] 36)) := by (repeat (first | exact Below.refl _ _ | refine Below.alloc ?_ (by first | omega | (simp; done) | (simp; omega)) _ | refine Below.setCell ?_ (by first | omega | (simp; done) | (simp; omega)) _ | refine Below.drew ?_))
  have hX := (Blok.new w 36 #[.int .i64 p.dk, .string (bs p.tx), .int .i64 p.D.op, .int .i64 p.D.kd, .int .i64 p.D.id, .int .i64 p.D.fr, .int .i64 p.D.tn, .int .i64 p.D.st, .int .i64 p.D.en, .int .i64 p.D.rt, .int .i64 p.D.rf, .int .i64 p.D.rn, .int .i64 p.D.rs, .int .i64 p.D.re, .int .i64 p.D.ro, .int .i64 p.n, .slice A k c, .int .i64 p.cl, .int .i64 p.sz, .int .i64 p.bf, .int .i64 p.bt, .int .i64 p.bs_, .int .i64 p.bc, .int .i64 p.bd]).alloc (.cells #[.int .i64 q.dk, .string (bs q.tx), .int .i64 q.D.op, .int .i64 q.D.kd, .int .i64 q.D.id, .int .i64 q.D.fr, .int .i64 q.D.tn, .int .i64 q.D.st, .int .i64 q.D.en, .int .i64 q.D.rt, .int .i64 q.D.rf, .int .i64 q.D.rn, .int .i64 q.D.rs, .int .i64 q.D.re, .int .i64 q.D.ro, .int .i64 q.n, .slice A' k' c', .int .i64 q.cl, .int .i64 q.sz, .int .i64 q.bf, .int .i64 q.bt, .int .i64 q.bs_, .int .i64 q.bc, .int .i64 q.bd] 36)
  have hY := Blok.new (w.alloc (.cells #[.int .i64 p.dk, .string (bs p.tx), .int .i64 p.D.op, .int .i64 p.D.kd, .int .i64 p.D.id, .int .i64 p.D.fr, .int .i64 p.D.tn, .int .i64 p.D.st, .int .i64 p.D.en, .int .i64 p.D.rt, .int .i64 p.D.rf, .int .i64 p.D.rn, .int .i64 p.D.rs, .int .i64 p.D.re, .int .i64 p.D.ro, .int .i64 p.n, .slice A k c, .int .i64 p.cl, .int .i64 p.sz, .int .i64 p.bf, .int .i64 p.bt, .int .i64 p.bs_, .int .i64 p.bc, .int .i64 p.bd] 36)) 36 #[.int .i64 q.dk, .string (bs q.tx), .int .i64 q.D.op, .int .i64 q.D.kd, .int .i64 q.D.id, .int .i64 q.D.fr, .int .i64 q.D.tn, .int .i64 q.D.st, .int .i64 q.D.en, .int .i64 q.D.rt, .int .i64 q.D.rf, .int .i64 q.D.rn, .int .i64 q.D.rs, .int .i64 q.D.re, .int .i64 q.D.ro, .int .i64 q.n, .slice A' k' c', .int .i64 q.cl, .int .i64 q.sz, .int .i64 q.bf, .int .i64 q.bt, .int .i64 q.bs_, .int .i64 q.bc, .int .i64 q.bd]
  rw [World.size_alloc] at hY
  replace h := h.up hB
  replace h' := h'.up hB
  have hs := hB.size
  have HK := Lib.hid (⟨hk,hk',hkm,hkm'⟩ : _ ∧ _ ∧ _ ∧ _)
  have HH := Lib.hid h
  have HH' := Lib.hid h'
  clear hk hk' hkm hkm' h h'
  go_enter Tryd.func21,Tryd.ntmps21
  go_upto_region 1 with fail
  generalize (w.alloc (.cells #[.int .i64 p.dk, .string (bs p.tx), .int .i64 p.D.op, .int .i64 p.D.kd, .int .i64 p.D.id, .int .i64 p.D.fr, .int .i64 p.D.tn, .int .i64 p.D.st, .int .i64 p.D.en, .int .i64 p.D.rt, .int .i64 p.D.rf, .int .i64 p.D.rn, .int .i64 p.D.rs, .int .i64 p.D.re, .int .i64 p.D.ro, .int .i64 p.n, .slice A k c, .int .i64 p.cl, .int .i64 p.sz, .int .i64 p.bf, .int .i64 p.bt, .int .i64 p.bs_, .int .i64 p.bc, .int .i64 p.bd] 36)).alloc (.cells #[.int .i64 q.dk, .string (bs q.tx), .int .i64 q.D.op, .int .i64 q.D.kd, .int .i64 q.D.id, .int .i64 q.D.fr, .int .i64 q.D.tn, .int .i64 q.D.st, .int .i64 q.D.en, .int .i64 q.D.rt, .int .i64 q.D.rf, .int .i64 q.D.rn, .int .i64 q.D.rs, .int .i64 q.D.re, .int .i64 q.D.ro, .int .i64 q.n, .slice A' k' c', .int .i64 q.cl, .int .i64 q.sz, .int .i64 q.bf, .int .i64 q.bt, .int .i64 q.bs_, .int .i64 q.bc, .int .i64 q.bd] 36) = w1 at *
  have x0 : w1.cell? ⟨w.heap.size,0,none⟩ = some (.int .i64 p.dk) := hX.cell 0
  have x1 : w1.cell? ⟨w.heap.size,1,none⟩ = some (.string (bs p.tx)) := hX.cell 1
  have x2 : w1.cell? ⟨w.heap.size,2,none⟩ = some (.int .i64 p.D.op) := hX.cell 2
  have x3 : w1.cell? ⟨w.heap.size,3,none⟩ = some (.int .i64 p.D.kd) := hX.cell 3
  have x4 : w1.cell? ⟨w.heap.size,4,none⟩ = some (.int .i64 p.D.id) := hX.cell 4
  have x5 : w1.cell? ⟨w.heap.size,5,none⟩ = some (.int .i64 p.D.fr) := hX.cell 5
  have x6 : w1.cell? ⟨w.heap.size,6,none⟩ = some (.int .i64 p.D.tn) := hX.cell 6
  have x7 : w1.cell? ⟨w.heap.size,7,none⟩ = some (.int .i64 p.D.st) := hX.cell 7
  have x8 : w1.cell? ⟨w.heap.size,8,none⟩ = some (.int .i64 p.D.en) := hX.cell 8
  have x9 : w1.cell? ⟨w.heap.size,9,none⟩ = some (.int .i64 p.D.rt) := hX.cell 9
  have x10 : w1.cell? ⟨w.heap.size,10,none⟩ = some (.int .i64 p.D.rf) := hX.cell 10
  have x11 : w1.cell? ⟨w.heap.size,11,none⟩ = some (.int .i64 p.D.rn) := hX.cell 11
  have x12 : w1.cell? ⟨w.heap.size,12,none⟩ = some (.int .i64 p.D.rs) := hX.cell 12
  have x13 : w1.cell? ⟨w.heap.size,13,none⟩ = some (.int .i64 p.D.re) := hX.cell 13
  have x14 : w1.cell? ⟨w.heap.size,14,none⟩ = some (.int .i64 p.D.ro) := hX.cell 14
  have x15 : w1.cell? ⟨w.heap.size,15,none⟩ = some (.int .i64 p.n) := hX.cell 15
  have x16 : w1.cell? ⟨w.heap.size,16,none⟩ = some (.slice A k c) := hX.cell 16
  have x17 : w1.cell? ⟨w.heap.size,17,none⟩ = some (.int .i64 p.cl) := hX.cell 17
  have x18 : w1.cell? ⟨w.heap.size,18,none⟩ = some (.int .i64 p.sz) := hX.cell 18
  have x19 : w1.cell? ⟨w.heap.size,19,none⟩ = some (.int .i64 p.bf) := hX.cell 19
  have x20 : w1.cell? ⟨w.heap.size,20,none⟩ = some (.int .i64 p.bt) := hX.cell 20
  have x21 : w1.cell? ⟨w.heap.size,21,none⟩ = some (.int .i64 p.bs_) := hX.cell 21
  have x22 : w1.cell? ⟨w.heap.size,22,none⟩ = some (.int .i64 p.bc) := hX.cell 22
  have x23 : w1.cell? ⟨w.heap.size,23,none⟩ = some (.int .i64 p.bd) := hX.cell 23
  have y0 : w1.cell? ⟨w.heap.size + 1,0,none⟩ = some (.int .i64 q.dk) := hY.cell 0
  have y1 : w1.cell? ⟨w.heap.size + 1,1,none⟩ = some (.string (bs q.tx)) := hY.cell 1
  have y2 : w1.cell? ⟨w.heap.size + 1,2,none⟩ = some (.int .i64 q.D.op) := hY.cell 2
  have y3 : w1.cell? ⟨w.heap.size + 1,3,none⟩ = some (.int .i64 q.D.kd) := hY.cell 3
  have y4 : w1.cell? ⟨w.heap.size + 1,4,none⟩ = some (.int .i64 q.D.id) := hY.cell 4
  have y5 : w1.cell? ⟨w.heap.size + 1,5,none⟩ = some (.int .i64 q.D.fr) := hY.cell 5
  have y6 : w1.cell? ⟨w.heap.size + 1,6,none⟩ = some (.int .i64 q.D.tn) := hY.cell 6
  have y7 : w1.cell? ⟨w.heap.size + 1,7,none⟩ = some (.int .i64 q.D.st) := hY.cell 7
  have y8 : w1.cell? ⟨w.heap.size + 1,8,none⟩ = some (.int .i64 q.D.en) := hY.cell 8
  have y9 : w1.cell? ⟨w.heap.size + 1,9,none⟩ = some (.int .i64 q.D.rt) := hY.cell 9
  have y10 : w1.cell? ⟨w.heap.size + 1,10,none⟩ = some (.int .i64 q.D.rf) := hY.cell 10
  have y11 : w1.cell? ⟨w.heap.size + 1,11,none⟩ = some (.int .i64 q.D.rn) := hY.cell 11
  have y12 : w1.cell? ⟨w.heap.size + 1,12,none⟩ = some (.int .i64 q.D.rs) := hY.cell 12
  have y13 : w1.cell? ⟨w.heap.size + 1,13,none⟩ = some (.int .i64 q.D.re) := hY.cell 13
  have y14 : w1.cell? ⟨w.heap.size + 1,14,none⟩ = some (.int .i64 q.D.ro) := hY.cell 14
  have y15 : w1.cell? ⟨w.heap.size + 1,15,none⟩ = some (.int .i64 q.n) := hY.cell 15
  have y16 : w1.cell? ⟨w.heap.size + 1,16,none⟩ = some (.slice A' k' c') := hY.cell 16
  have y17 : w1.cell? ⟨w.heap.size + 1,17,none⟩ = some (.int .i64 q.cl) := hY.cell 17
  have y18 : w1.cell? ⟨w.heap.size + 1,18,none⟩ = some (.int .i64 q.sz) := hY.cell 18
  have y19 : w1.cell? ⟨w.heap.size + 1,19,none⟩ = some (.int .i64 q.bf) := hY.cell 19
  have y20 : w1.cell? ⟨w.heap.size + 1,20,none⟩ = some (.int .i64 q.bt) := hY.cell 20
  have y21 : w1.cell? ⟨w.heap.size + 1,21,none⟩ = some (.int .i64 q.bs_) := hY.cell 21
  have y22 : w1.cell? ⟨w.heap.size + 1,22,none⟩ = some (.int .i64 q.bc) := hY.cell 22
  have y23 : w1.cell? ⟨w.heap.size + 1,23,none⟩ = some (.int .i64 q.bd) := hY.cell 23
  have lt_x := hX.lt
  have lt_y := hY.lt
  have q_x16 := fun d os => cell_regrown x16 d os
  have q_x17 := fun d os => cell_regrown x17 d os
  have q_x18 := fun d os => cell_regrown x18 d os
  have q_x19 := fun d os => cell_regrown x19 d os
  have q_x20 := fun d os => cell_regrown x20 d os
  have q_x21 := fun d os => cell_regrown x21 d os
  have q_x22 := fun d os => cell_regrown x22 d os
  have q_x23 := fun d os => cell_regrown x23 d os
  have q_y16 := fun d os => cell_regrown y16 d os
  have q_y17 := fun d os => cell_regrown y17 d os
  have q_y18 := fun d os => cell_regrown y18 d os
  have q_y19 := fun d os => cell_regrown y19 d os
  have q_y20 := fun d os => cell_regrown y20 d os
  have q_y21 := fun d os => cell_regrown y21 d os
  have q_y22 := fun d os => cell_regrown y22 d os
  have q_y23 := fun d os => cell_regrown y23 d os
  have q_x0 := fun d os => cell_regrown x0 d os
  have q_y0 := fun d os => cell_regrown y0 d os
  have q_x1 := fun d os => cell_regrown x1 d os
  have q_y1 := fun d os => cell_regrown y1 d os
  have q_x2 := fun d os => cell_regrown x2 d os
  have q_y2 := fun d os => cell_regrown y2 d os
  have q_x3 := fun d os => cell_regrown x3 d os
  have q_y3 := fun d os => cell_regrown y3 d os
  have q_x4 := fun d os => cell_regrown x4 d os
  have q_y4 := fun d os => cell_regrown y4 d os
  have q_x5 := fun d os => cell_regrown x5 d os
  have q_y5 := fun d os => cell_regrown y5 d os
  have q_x6 := fun d os => cell_regrown x6 d os
  have q_y6 := fun d os => cell_regrown y6 d os
  have q_x7 := fun d os => cell_regrown x7 d os
  have q_y7 := fun d os => cell_regrown y7 d os
  have q_x8 := fun d os => cell_regrown x8 d os
  have q_y8 := fun d os => cell_regrown y8 d os
  have q_x9 := fun d os => cell_regrown x9 d os
  have q_y9 := fun d os => cell_regrown y9 d os
  have q_x10 := fun d os => cell_regrown x10 d os
  have q_y10 := fun d os => cell_regrown y10 d os
  have q_x11 := fun d os => cell_regrown x11 d os
  have q_y11 := fun d os => cell_regrown y11 d os
  have q_x12 := fun d os => cell_regrown x12 d os
  have q_y12 := fun d os => cell_regrown y12 d os
  have q_x13 := fun d os => cell_regrown x13 d os
  have q_y13 := fun d os => cell_regrown y13 d os
  have q_x14 := fun d os => cell_regrown x14 d os
  have q_y14 := fun d os => cell_regrown y14 d os
  have q_x15 := fun d os => cell_regrown x15 d os
  have q_y15 := fun d os => cell_regrown y15 d os
  try simp only [List.append]
  first | refine wp_region_text_below ?_ | refine wp_region_quiet_below (by kernel_rfl) (by kernel_rfl) ?_
  repeat (go_big_quiet_step (((go_at_call 22; with_reducible exact Calls.regrown_of (equalI_is A A' k c k' c' p.ids q.ids _ g4.out HK.out.1 HK.out.2.1 HK.out.2.2.1 HK.out.2.2.2 (HH.out.up (below_regrown _ _ _)) (HH'.out.up (below_regrown _ _ _)))))))
  refine wpQuiet_nil ?_
  intro _ hqw
  obtain ⟨pq,hqw⟩ := hqw
  subst hqw
  go_wp2
  go_ret
  exact ⟨rfl,hB.trans ((below_regrown _ _ _).mono hs)⟩
end Go.Proofs.YtggdomeeienjbaaDoor

/- Package script: Same's closure, part 6. No condition but on sizes. -/
namespace Go.Proofs.YtggdomeeienjbaaDoor
open Go.ChangeShapes Go.WideShapes Go.ChangeAt Go.RowKit Go.Sort
set_option linter.unusedSimpArgs false
set_option linter.unusedVariables false
set_option maxHeartbeats 8000000 in
set_option maxRecDepth 100000 in
theorem same1_5 (p q : Pa) (A A' : Option Addr) (k c k' c' : Nat) (w : World) (hk : p.ids.length = k) (hk' : q.ids.length = k') (hkm : k ≤ 1000000) (hkm' : k' ≤ 1000000) (h : Sl w w.heap.size 1 A k c (p.ids.map (Value.int .i64))) (h' : Sl w w.heap.size 1 A' k' c' (q.ids.map (Value.int .i64))) (c0 : p.dk = q.dk) (c1 : p.tx = q.tx) (c2 : p.D = q.D) (c3 : p.n = q.n) (c4 : p.ids = q.ids) (c5 : ¬ (p.cl = q.cl)) :
    Calls Tryd.prog 21 #[.agg #[.int .i64 p.dk, .string (bs p.tx), .int .i64 p.D.op, .int .i64 p.D.kd, .int .i64 p.D.id, .int .i64 p.D.fr, .int .i64 p.D.tn, .int .i64 p.D.st, .int .i64 p.D.en, .int .i64 p.D.rt, .int .i64 p.D.rf, .int .i64 p.D.rn, .int .i64 p.D.rs, .int .i64 p.D.re, .int .i64 p.D.ro, .int .i64 p.n, .slice A k c, .int .i64 p.cl, .int .i64 p.sz, .int .i64 p.bf, .int .i64 p.bt, .int .i64 p.bs_, .int .i64 p.bc, .int .i64 p.bd], .agg #[.int .i64 q.dk, .string (bs q.tx), .int .i64 q.D.op, .int .i64 q.D.kd, .int .i64 q.D.id, .int .i64 q.D.fr, .int .i64 q.D.tn, .int .i64 q.D.st, .int .i64 q.D.en, .int .i64 q.D.rt, .int .i64 q.D.rf, .int .i64 q.D.rn, .int .i64 q.D.rs, .int .i64 q.D.re, .int .i64 q.D.ro, .int .i64 q.n, .slice A' k' c', .int .i64 q.cl, .int .i64 q.sz, .int .i64 q.bf, .int .i64 q.bt, .int .i64 q.bs_, .int .i64 q.bc, .int .i64 q.bd]] w fun e w' => e = .returned (.bool false) ∧ Below w.heap.size w w' := by
  have g0 : (p.dk == q.dk) = true := by simp [c0]
  have g1 : ((bs p.tx).toList == (bs q.tx).toList) = true := by rw [beq_iff_eq]; exact (str_ne _ _).2 c1
  have g2 : ∀ w0,(binOp .eql 31 (.agg #[.int .i64 p.D.op, .int .i64 p.D.kd, .int .i64 p.D.id, .int .i64 p.D.fr, .int .i64 p.D.tn, .int .i64 p.D.st, .int .i64 p.D.en, .int .i64 p.D.rt, .int .i64 p.D.rf, .int .i64 p.D.rn, .int .i64 p.D.rs, .int .i64 p.D.re, .int .i64 p.D.ro]) (.agg #[.int .i64 q.D.op, .int .i64 q.D.kd, .int .i64 q.D.id, .int .i64 q.D.fr, .int .i64 q.D.tn, .int .i64 q.D.st, .int .i64 q.D.en, .int .i64 q.D.rt, .int .i64 q.D.rf, .int .i64 q.D.rn, .int .i64 q.D.rs, .int .i64 q.D.re, .int .i64 q.D.ro])).run Tryd.prog w0 = .ok (.bool true) w0 := fun w0 => by rw [eqlDr]; simp [c2]
  have g3 : (p.n == q.n) = true := by simp [c3]
  have g4 : Hid (decide (p.ids = q.ids) = true) := by show decide (p.ids = q.ids) = true; simp [c4]
  have g5 : (p.cl == q.cl) = false := by simp [c5]
  clear c0 c1 c2 c3 c4 c5
  have hB : Below w.heap.size w ((w.alloc (.cells #[.int .i64 p.dk, .string (bs p.tx), .int .i64 p.D.op, .int .i64 p.D.kd, .int .i64 p.D.id, .int .i64 p.D.fr, .int .i64 p.D.tn, .int .i64 p.D.st, .int .i64 p.D.en, .int .i64 p.D.rt, .int .i64 p.D.rf, .int .i64 p.D.rn, .int .i64 p.D.rs, .int .i64 p.D.re, .int .i64 p.D.ro, .int .i64 p.n, .slice A k c, .int .i64 p.cl, .int .i64 p.sz, .int .i64 p.bf, .int .i64 p.bt, .int .i64 p.bs_, .int .i64 p.bc, .int .i64 p.bd] 36)).alloc (.cells #[.int .i64 q.dk, .string (bs q.tx), .int .i64 q.D.op, .int .i64 q.D.kd, .int .i64 q.D.id, .int .i64 q.D.fr, .int .i64 q.D.tn, .int .i64 q.D.st, .int .i64 q.D.en, .int .i64 q.D.rt, .int .i64 q.D.rf, .int .i64 q.D.rn, .int .i64 q.D.rs, .int .i64 q.D.re, .int .i64 q.D.ro, .int .i64 q.n, .slice A' k' c', .int .i64 q.cl, .int .i64 q.sz, .int .i64 q.bf, .int .i64 q.bt, .int .i64 q.bs_, .int .i64 q.bc, .int .i64 q.bd] 36)) := by (repeat (first | exact Below.refl _ _ | refine Below.alloc ?_ (by first | omega | (simp; done) | (simp; omega)) _ | refine Below.setCell ?_ (by first | omega | (simp; done) | (simp; omega)) _ | refine Below.drew ?_))
  have hX := (Blok.new w 36 #[.int .i64 p.dk, .string (bs p.tx), .int .i64 p.D.op, .int .i64 p.D.kd, .int .i64 p.D.id, .int .i64 p.D.fr, .int .i64 p.D.tn, .int .i64 p.D.st, .int .i64 p.D.en, .int .i64 p.D.rt, .int .i64 p.D.rf, .int .i64 p.D.rn, .int .i64 p.D.rs, .int .i64 p.D.re, .int .i64 p.D.ro, .int .i64 p.n, .slice A k c, .int .i64 p.cl, .int .i64 p.sz, .int .i64 p.bf, .int .i64 p.bt, .int .i64 p.bs_, .int .i64 p.bc, .int .i64 p.bd]).alloc (.cells #[.int .i64 q.dk, .string (bs q.tx), .int .i64 q.D.op, .int .i64 q.D.kd, .int .i64 q.D.id, .int .i64 q.D.fr, .int .i64 q.D.tn, .int .i64 q.D.st, .int .i64 q.D.en, .int .i64 q.D.rt, .int .i64 q.D.rf, .int .i64 q.D.rn, .int .i64 q.D.rs, .int .i64 q.D.re, .int .i64 q.D.ro, .int .i64 q.n, .slice A' k' c', .int .i64 q.cl, .int .i64 q.sz, .int .i64 q.bf, .int .i64 q.bt, .int .i64 q.bs_, .int .i64 q.bc, .int .i64 q.bd] 36)
  have hY := Blok.new (w.alloc (.cells #[.int .i64 p.dk, .string (bs p.tx), .int .i64 p.D.op, .int .i64 p.D.kd, .int .i64 p.D.id, .int .i64 p.D.fr, .int .i64 p.D.tn, .int .i64 p.D.st, .int .i64 p.D.en, .int .i64 p.D.rt, .int .i64 p.D.rf, .int .i64 p.D.rn, .int .i64 p.D.rs, .int .i64 p.D.re, .int .i64 p.D.ro, .int .i64 p.n, .slice A k c, .int .i64 p.cl, .int .i64 p.sz, .int .i64 p.bf, .int .i64 p.bt, .int .i64 p.bs_, .int .i64 p.bc, .int .i64 p.bd] 36)) 36 #[.int .i64 q.dk, .string (bs q.tx), .int .i64 q.D.op, .int .i64 q.D.kd, .int .i64 q.D.id, .int .i64 q.D.fr, .int .i64 q.D.tn, .int .i64 q.D.st, .int .i64 q.D.en, .int .i64 q.D.rt, .int .i64 q.D.rf, .int .i64 q.D.rn, .int .i64 q.D.rs, .int .i64 q.D.re, .int .i64 q.D.ro, .int .i64 q.n, .slice A' k' c', .int .i64 q.cl, .int .i64 q.sz, .int .i64 q.bf, .int .i64 q.bt, .int .i64 q.bs_, .int .i64 q.bc, .int .i64 q.bd]
  rw [World.size_alloc] at hY
  replace h := h.up hB
  replace h' := h'.up hB
  have hs := hB.size
  have HK := Lib.hid (⟨hk,hk',hkm,hkm'⟩ : _ ∧ _ ∧ _ ∧ _)
  have HH := Lib.hid h
  have HH' := Lib.hid h'
  clear hk hk' hkm hkm' h h'
  go_enter Tryd.func21,Tryd.ntmps21
  go_upto_region 1 with fail
  generalize (w.alloc (.cells #[.int .i64 p.dk, .string (bs p.tx), .int .i64 p.D.op, .int .i64 p.D.kd, .int .i64 p.D.id, .int .i64 p.D.fr, .int .i64 p.D.tn, .int .i64 p.D.st, .int .i64 p.D.en, .int .i64 p.D.rt, .int .i64 p.D.rf, .int .i64 p.D.rn, .int .i64 p.D.rs, .int .i64 p.D.re, .int .i64 p.D.ro, .int .i64 p.n, .slice A k c, .int .i64 p.cl, .int .i64 p.sz, .int .i64 p.bf, .int .i64 p.bt, .int .i64 p.bs_, .int .i64 p.bc, .int .i64 p.bd] 36)).alloc (.cells #[.int .i64 q.dk, .string (bs q.tx), .int .i64 q.D.op, .int .i64 q.D.kd, .int .i64 q.D.id, .int .i64 q.D.fr, .int .i64 q.D.tn, .int .i64 q.D.st, .int .i64 q.D.en, .int .i64 q.D.rt, .int .i64 q.D.rf, .int .i64 q.D.rn, .int .i64 q.D.rs, .int .i64 q.D.re, .int .i64 q.D.ro, .int .i64 q.n, .slice A' k' c', .int .i64 q.cl, .int .i64 q.sz, .int .i64 q.bf, .int .i64 q.bt, .int .i64 q.bs_, .int .i64 q.bc, .int .i64 q.bd] 36) = w1 at *
  have x0 : w1.cell? ⟨w.heap.size,0,none⟩ = some (.int .i64 p.dk) := hX.cell 0
  have x1 : w1.cell? ⟨w.heap.size,1,none⟩ = some (.string (bs p.tx)) := hX.cell 1
  have x2 : w1.cell? ⟨w.heap.size,2,none⟩ = some (.int .i64 p.D.op) := hX.cell 2
  have x3 : w1.cell? ⟨w.heap.size,3,none⟩ = some (.int .i64 p.D.kd) := hX.cell 3
  have x4 : w1.cell? ⟨w.heap.size,4,none⟩ = some (.int .i64 p.D.id) := hX.cell 4
  have x5 : w1.cell? ⟨w.heap.size,5,none⟩ = some (.int .i64 p.D.fr) := hX.cell 5
  have x6 : w1.cell? ⟨w.heap.size,6,none⟩ = some (.int .i64 p.D.tn) := hX.cell 6
  have x7 : w1.cell? ⟨w.heap.size,7,none⟩ = some (.int .i64 p.D.st) := hX.cell 7
  have x8 : w1.cell? ⟨w.heap.size,8,none⟩ = some (.int .i64 p.D.en) := hX.cell 8
  have x9 : w1.cell? ⟨w.heap.size,9,none⟩ = some (.int .i64 p.D.rt) := hX.cell 9
  have x10 : w1.cell? ⟨w.heap.size,10,none⟩ = some (.int .i64 p.D.rf) := hX.cell 10
  have x11 : w1.cell? ⟨w.heap.size,11,none⟩ = some (.int .i64 p.D.rn) := hX.cell 11
  have x12 : w1.cell? ⟨w.heap.size,12,none⟩ = some (.int .i64 p.D.rs) := hX.cell 12
  have x13 : w1.cell? ⟨w.heap.size,13,none⟩ = some (.int .i64 p.D.re) := hX.cell 13
  have x14 : w1.cell? ⟨w.heap.size,14,none⟩ = some (.int .i64 p.D.ro) := hX.cell 14
  have x15 : w1.cell? ⟨w.heap.size,15,none⟩ = some (.int .i64 p.n) := hX.cell 15
  have x16 : w1.cell? ⟨w.heap.size,16,none⟩ = some (.slice A k c) := hX.cell 16
  have x17 : w1.cell? ⟨w.heap.size,17,none⟩ = some (.int .i64 p.cl) := hX.cell 17
  have x18 : w1.cell? ⟨w.heap.size,18,none⟩ = some (.int .i64 p.sz) := hX.cell 18
  have x19 : w1.cell? ⟨w.heap.size,19,none⟩ = some (.int .i64 p.bf) := hX.cell 19
  have x20 : w1.cell? ⟨w.heap.size,20,none⟩ = some (.int .i64 p.bt) := hX.cell 20
  have x21 : w1.cell? ⟨w.heap.size,21,none⟩ = some (.int .i64 p.bs_) := hX.cell 21
  have x22 : w1.cell? ⟨w.heap.size,22,none⟩ = some (.int .i64 p.bc) := hX.cell 22
  have x23 : w1.cell? ⟨w.heap.size,23,none⟩ = some (.int .i64 p.bd) := hX.cell 23
  have y0 : w1.cell? ⟨w.heap.size + 1,0,none⟩ = some (.int .i64 q.dk) := hY.cell 0
  have y1 : w1.cell? ⟨w.heap.size + 1,1,none⟩ = some (.string (bs q.tx)) := hY.cell 1
  have y2 : w1.cell? ⟨w.heap.size + 1,2,none⟩ = some (.int .i64 q.D.op) := hY.cell 2
  have y3 : w1.cell? ⟨w.heap.size + 1,3,none⟩ = some (.int .i64 q.D.kd) := hY.cell 3
  have y4 : w1.cell? ⟨w.heap.size + 1,4,none⟩ = some (.int .i64 q.D.id) := hY.cell 4
  have y5 : w1.cell? ⟨w.heap.size + 1,5,none⟩ = some (.int .i64 q.D.fr) := hY.cell 5
  have y6 : w1.cell? ⟨w.heap.size + 1,6,none⟩ = some (.int .i64 q.D.tn) := hY.cell 6
  have y7 : w1.cell? ⟨w.heap.size + 1,7,none⟩ = some (.int .i64 q.D.st) := hY.cell 7
  have y8 : w1.cell? ⟨w.heap.size + 1,8,none⟩ = some (.int .i64 q.D.en) := hY.cell 8
  have y9 : w1.cell? ⟨w.heap.size + 1,9,none⟩ = some (.int .i64 q.D.rt) := hY.cell 9
  have y10 : w1.cell? ⟨w.heap.size + 1,10,none⟩ = some (.int .i64 q.D.rf) := hY.cell 10
  have y11 : w1.cell? ⟨w.heap.size + 1,11,none⟩ = some (.int .i64 q.D.rn) := hY.cell 11
  have y12 : w1.cell? ⟨w.heap.size + 1,12,none⟩ = some (.int .i64 q.D.rs) := hY.cell 12
  have y13 : w1.cell? ⟨w.heap.size + 1,13,none⟩ = some (.int .i64 q.D.re) := hY.cell 13
  have y14 : w1.cell? ⟨w.heap.size + 1,14,none⟩ = some (.int .i64 q.D.ro) := hY.cell 14
  have y15 : w1.cell? ⟨w.heap.size + 1,15,none⟩ = some (.int .i64 q.n) := hY.cell 15
  have y16 : w1.cell? ⟨w.heap.size + 1,16,none⟩ = some (.slice A' k' c') := hY.cell 16
  have y17 : w1.cell? ⟨w.heap.size + 1,17,none⟩ = some (.int .i64 q.cl) := hY.cell 17
  have y18 : w1.cell? ⟨w.heap.size + 1,18,none⟩ = some (.int .i64 q.sz) := hY.cell 18
  have y19 : w1.cell? ⟨w.heap.size + 1,19,none⟩ = some (.int .i64 q.bf) := hY.cell 19
  have y20 : w1.cell? ⟨w.heap.size + 1,20,none⟩ = some (.int .i64 q.bt) := hY.cell 20
  have y21 : w1.cell? ⟨w.heap.size + 1,21,none⟩ = some (.int .i64 q.bs_) := hY.cell 21
  have y22 : w1.cell? ⟨w.heap.size + 1,22,none⟩ = some (.int .i64 q.bc) := hY.cell 22
  have y23 : w1.cell? ⟨w.heap.size + 1,23,none⟩ = some (.int .i64 q.bd) := hY.cell 23
  have lt_x := hX.lt
  have lt_y := hY.lt
  have q_x16 := fun d os => cell_regrown x16 d os
  have q_x17 := fun d os => cell_regrown x17 d os
  have q_x18 := fun d os => cell_regrown x18 d os
  have q_x19 := fun d os => cell_regrown x19 d os
  have q_x20 := fun d os => cell_regrown x20 d os
  have q_x21 := fun d os => cell_regrown x21 d os
  have q_x22 := fun d os => cell_regrown x22 d os
  have q_x23 := fun d os => cell_regrown x23 d os
  have q_y16 := fun d os => cell_regrown y16 d os
  have q_y17 := fun d os => cell_regrown y17 d os
  have q_y18 := fun d os => cell_regrown y18 d os
  have q_y19 := fun d os => cell_regrown y19 d os
  have q_y20 := fun d os => cell_regrown y20 d os
  have q_y21 := fun d os => cell_regrown y21 d os
  have q_y22 := fun d os => cell_regrown y22 d os
  have q_y23 := fun d os => cell_regrown y23 d os
  have q_x0 := fun d os => cell_regrown x0 d os
  have q_y0 := fun d os => cell_regrown y0 d os
  have q_x1 := fun d os => cell_regrown x1 d os
  have q_y1 := fun d os => cell_regrown y1 d os
  have q_x2 := fun d os => cell_regrown x2 d os
  have q_y2 := fun d os => cell_regrown y2 d os
  have q_x3 := fun d os => cell_regrown x3 d os
  have q_y3 := fun d os => cell_regrown y3 d os
  have q_x4 := fun d os => cell_regrown x4 d os
  have q_y4 := fun d os => cell_regrown y4 d os
  have q_x5 := fun d os => cell_regrown x5 d os
  have q_y5 := fun d os => cell_regrown y5 d os
  have q_x6 := fun d os => cell_regrown x6 d os
  have q_y6 := fun d os => cell_regrown y6 d os
  have q_x7 := fun d os => cell_regrown x7 d os
  have q_y7 := fun d os => cell_regrown y7 d os
  have q_x8 := fun d os => cell_regrown x8 d os
  have q_y8 := fun d os => cell_regrown y8 d os
  have q_x9 := fun d os => cell_regrown x9 d os
  have q_y9 := fun d os => cell_regrown y9 d os
  have q_x10 := fun d os => cell_regrown x10 d os
  have q_y10 := fun d os => cell_regrown y10 d os
  have q_x11 := fun d os => cell_regrown x11 d os
  have q_y11 := fun d os => cell_regrown y11 d os
  have q_x12 := fun d os => cell_regrown x12 d os
  have q_y12 := fun d os => cell_regrown y12 d os
  have q_x13 := fun d os => cell_regrown x13 d os
  have q_y13 := fun d os => cell_regrown y13 d os
  have q_x14 := fun d os => cell_regrown x14 d os
  have q_y14 := fun d os => cell_regrown y14 d os
  have q_x15 := fun d os => cell_regrown x15 d os
  have q_y15 := fun d os => cell_regrown y15 d os
  try simp only [List.append]
  first | refine wp_region_text_below ?_ | refine wp_region_quiet_below (by kernel_rfl) (by kernel_rfl) ?_
  repeat (go_big_quiet_step (((go_at_call 22; with_reducible exact Calls.regrown_of (equalI_is A A' k c k' c' p.ids q.ids _ g4.out HK.out.1 HK.out.2.1 HK.out.2.2.1 HK.out.2.2.2 (HH.out.up (below_regrown _ _ _)) (HH'.out.up (below_regrown _ _ _)))))))
  refine wpQuiet_nil ?_
  intro _ hqw
  obtain ⟨pq,hqw⟩ := hqw
  subst hqw
  go_wp2
  go_ret
  exact ⟨rfl,hB.trans ((below_regrown _ _ _).mono hs)⟩
end Go.Proofs.YtggdomeeienjbaaDoor

/- Package script: Same's closure, part 7. No condition but on sizes. -/
namespace Go.Proofs.YtggdomeeienjbaaDoor
open Go.ChangeShapes Go.WideShapes Go.ChangeAt Go.RowKit Go.Sort
set_option linter.unusedSimpArgs false
set_option linter.unusedVariables false
set_option maxHeartbeats 8000000 in
set_option maxRecDepth 100000 in
theorem same1_6 (p q : Pa) (A A' : Option Addr) (k c k' c' : Nat) (w : World) (hk : p.ids.length = k) (hk' : q.ids.length = k') (hkm : k ≤ 1000000) (hkm' : k' ≤ 1000000) (h : Sl w w.heap.size 1 A k c (p.ids.map (Value.int .i64))) (h' : Sl w w.heap.size 1 A' k' c' (q.ids.map (Value.int .i64))) (c0 : p.dk = q.dk) (c1 : p.tx = q.tx) (c2 : p.D = q.D) (c3 : p.n = q.n) (c4 : p.ids = q.ids) (c5 : p.cl = q.cl) (c6 : ¬ (p.sz = q.sz)) :
    Calls Tryd.prog 21 #[.agg #[.int .i64 p.dk, .string (bs p.tx), .int .i64 p.D.op, .int .i64 p.D.kd, .int .i64 p.D.id, .int .i64 p.D.fr, .int .i64 p.D.tn, .int .i64 p.D.st, .int .i64 p.D.en, .int .i64 p.D.rt, .int .i64 p.D.rf, .int .i64 p.D.rn, .int .i64 p.D.rs, .int .i64 p.D.re, .int .i64 p.D.ro, .int .i64 p.n, .slice A k c, .int .i64 p.cl, .int .i64 p.sz, .int .i64 p.bf, .int .i64 p.bt, .int .i64 p.bs_, .int .i64 p.bc, .int .i64 p.bd], .agg #[.int .i64 q.dk, .string (bs q.tx), .int .i64 q.D.op, .int .i64 q.D.kd, .int .i64 q.D.id, .int .i64 q.D.fr, .int .i64 q.D.tn, .int .i64 q.D.st, .int .i64 q.D.en, .int .i64 q.D.rt, .int .i64 q.D.rf, .int .i64 q.D.rn, .int .i64 q.D.rs, .int .i64 q.D.re, .int .i64 q.D.ro, .int .i64 q.n, .slice A' k' c', .int .i64 q.cl, .int .i64 q.sz, .int .i64 q.bf, .int .i64 q.bt, .int .i64 q.bs_, .int .i64 q.bc, .int .i64 q.bd]] w fun e w' => e = .returned (.bool false) ∧ Below w.heap.size w w' := by
  have g0 : (p.dk == q.dk) = true := by simp [c0]
  have g1 : ((bs p.tx).toList == (bs q.tx).toList) = true := by rw [beq_iff_eq]; exact (str_ne _ _).2 c1
  have g2 : ∀ w0,(binOp .eql 31 (.agg #[.int .i64 p.D.op, .int .i64 p.D.kd, .int .i64 p.D.id, .int .i64 p.D.fr, .int .i64 p.D.tn, .int .i64 p.D.st, .int .i64 p.D.en, .int .i64 p.D.rt, .int .i64 p.D.rf, .int .i64 p.D.rn, .int .i64 p.D.rs, .int .i64 p.D.re, .int .i64 p.D.ro]) (.agg #[.int .i64 q.D.op, .int .i64 q.D.kd, .int .i64 q.D.id, .int .i64 q.D.fr, .int .i64 q.D.tn, .int .i64 q.D.st, .int .i64 q.D.en, .int .i64 q.D.rt, .int .i64 q.D.rf, .int .i64 q.D.rn, .int .i64 q.D.rs, .int .i64 q.D.re, .int .i64 q.D.ro])).run Tryd.prog w0 = .ok (.bool true) w0 := fun w0 => by rw [eqlDr]; simp [c2]
  have g3 : (p.n == q.n) = true := by simp [c3]
  have g4 : Hid (decide (p.ids = q.ids) = true) := by show decide (p.ids = q.ids) = true; simp [c4]
  have g5 : (p.cl == q.cl) = true := by simp [c5]
  have g6 : (p.sz == q.sz) = false := by simp [c6]
  clear c0 c1 c2 c3 c4 c5 c6
  have hB : Below w.heap.size w ((w.alloc (.cells #[.int .i64 p.dk, .string (bs p.tx), .int .i64 p.D.op, .int .i64 p.D.kd, .int .i64 p.D.id, .int .i64 p.D.fr, .int .i64 p.D.tn, .int .i64 p.D.st, .int .i64 p.D.en, .int .i64 p.D.rt, .int .i64 p.D.rf, .int .i64 p.D.rn, .int .i64 p.D.rs, .int .i64 p.D.re, .int .i64 p.D.ro, .int .i64 p.n, .slice A k c, .int .i64 p.cl, .int .i64 p.sz, .int .i64 p.bf, .int .i64 p.bt, .int .i64 p.bs_, .int .i64 p.bc, .int .i64 p.bd] 36)).alloc (.cells #[.int .i64 q.dk, .string (bs q.tx), .int .i64 q.D.op, .int .i64 q.D.kd, .int .i64 q.D.id, .int .i64 q.D.fr, .int .i64 q.D.tn, .int .i64 q.D.st, .int .i64 q.D.en, .int .i64 q.D.rt, .int .i64 q.D.rf, .int .i64 q.D.rn, .int .i64 q.D.rs, .int .i64 q.D.re, .int .i64 q.D.ro, .int .i64 q.n, .slice A' k' c', .int .i64 q.cl, .int .i64 q.sz, .int .i64 q.bf, .int .i64 q.bt, .int .i64 q.bs_, .int .i64 q.bc, .int .i64 q.bd] 36)) := by (repeat (first | exact Below.refl _ _ | refine Below.alloc ?_ (by first | omega | (simp; done) | (simp; omega)) _ | refine Below.setCell ?_ (by first | omega | (simp; done) | (simp; omega)) _ | refine Below.drew ?_))
  have hX := (Blok.new w 36 #[.int .i64 p.dk, .string (bs p.tx), .int .i64 p.D.op, .int .i64 p.D.kd, .int .i64 p.D.id, .int .i64 p.D.fr, .int .i64 p.D.tn, .int .i64 p.D.st, .int .i64 p.D.en, .int .i64 p.D.rt, .int .i64 p.D.rf, .int .i64 p.D.rn, .int .i64 p.D.rs, .int .i64 p.D.re, .int .i64 p.D.ro, .int .i64 p.n, .slice A k c, .int .i64 p.cl, .int .i64 p.sz, .int .i64 p.bf, .int .i64 p.bt, .int .i64 p.bs_, .int .i64 p.bc, .int .i64 p.bd]).alloc (.cells #[.int .i64 q.dk, .string (bs q.tx), .int .i64 q.D.op, .int .i64 q.D.kd, .int .i64 q.D.id, .int .i64 q.D.fr, .int .i64 q.D.tn, .int .i64 q.D.st, .int .i64 q.D.en, .int .i64 q.D.rt, .int .i64 q.D.rf, .int .i64 q.D.rn, .int .i64 q.D.rs, .int .i64 q.D.re, .int .i64 q.D.ro, .int .i64 q.n, .slice A' k' c', .int .i64 q.cl, .int .i64 q.sz, .int .i64 q.bf, .int .i64 q.bt, .int .i64 q.bs_, .int .i64 q.bc, .int .i64 q.bd] 36)
  have hY := Blok.new (w.alloc (.cells #[.int .i64 p.dk, .string (bs p.tx), .int .i64 p.D.op, .int .i64 p.D.kd, .int .i64 p.D.id, .int .i64 p.D.fr, .int .i64 p.D.tn, .int .i64 p.D.st, .int .i64 p.D.en, .int .i64 p.D.rt, .int .i64 p.D.rf, .int .i64 p.D.rn, .int .i64 p.D.rs, .int .i64 p.D.re, .int .i64 p.D.ro, .int .i64 p.n, .slice A k c, .int .i64 p.cl, .int .i64 p.sz, .int .i64 p.bf, .int .i64 p.bt, .int .i64 p.bs_, .int .i64 p.bc, .int .i64 p.bd] 36)) 36 #[.int .i64 q.dk, .string (bs q.tx), .int .i64 q.D.op, .int .i64 q.D.kd, .int .i64 q.D.id, .int .i64 q.D.fr, .int .i64 q.D.tn, .int .i64 q.D.st, .int .i64 q.D.en, .int .i64 q.D.rt, .int .i64 q.D.rf, .int .i64 q.D.rn, .int .i64 q.D.rs, .int .i64 q.D.re, .int .i64 q.D.ro, .int .i64 q.n, .slice A' k' c', .int .i64 q.cl, .int .i64 q.sz, .int .i64 q.bf, .int .i64 q.bt, .int .i64 q.bs_, .int .i64 q.bc, .int .i64 q.bd]
  rw [World.size_alloc] at hY
  replace h := h.up hB
  replace h' := h'.up hB
  have hs := hB.size
  have HK := Lib.hid (⟨hk,hk',hkm,hkm'⟩ : _ ∧ _ ∧ _ ∧ _)
  have HH := Lib.hid h
  have HH' := Lib.hid h'
  clear hk hk' hkm hkm' h h'
  go_enter Tryd.func21,Tryd.ntmps21
  go_upto_region 1 with fail
  generalize (w.alloc (.cells #[.int .i64 p.dk, .string (bs p.tx), .int .i64 p.D.op, .int .i64 p.D.kd, .int .i64 p.D.id, .int .i64 p.D.fr, .int .i64 p.D.tn, .int .i64 p.D.st, .int .i64 p.D.en, .int .i64 p.D.rt, .int .i64 p.D.rf, .int .i64 p.D.rn, .int .i64 p.D.rs, .int .i64 p.D.re, .int .i64 p.D.ro, .int .i64 p.n, .slice A k c, .int .i64 p.cl, .int .i64 p.sz, .int .i64 p.bf, .int .i64 p.bt, .int .i64 p.bs_, .int .i64 p.bc, .int .i64 p.bd] 36)).alloc (.cells #[.int .i64 q.dk, .string (bs q.tx), .int .i64 q.D.op, .int .i64 q.D.kd, .int .i64 q.D.id, .int .i64 q.D.fr, .int .i64 q.D.tn, .int .i64 q.D.st, .int .i64 q.D.en, .int .i64 q.D.rt, .int .i64 q.D.rf, .int .i64 q.D.rn, .int .i64 q.D.rs, .int .i64 q.D.re, .int .i64 q.D.ro, .int .i64 q.n, .slice A' k' c', .int .i64 q.cl, .int .i64 q.sz, .int .i64 q.bf, .int .i64 q.bt, .int .i64 q.bs_, .int .i64 q.bc, .int .i64 q.bd] 36) = w1 at *
  have x0 : w1.cell? ⟨w.heap.size,0,none⟩ = some (.int .i64 p.dk) := hX.cell 0
  have x1 : w1.cell? ⟨w.heap.size,1,none⟩ = some (.string (bs p.tx)) := hX.cell 1
  have x2 : w1.cell? ⟨w.heap.size,2,none⟩ = some (.int .i64 p.D.op) := hX.cell 2
  have x3 : w1.cell? ⟨w.heap.size,3,none⟩ = some (.int .i64 p.D.kd) := hX.cell 3
  have x4 : w1.cell? ⟨w.heap.size,4,none⟩ = some (.int .i64 p.D.id) := hX.cell 4
  have x5 : w1.cell? ⟨w.heap.size,5,none⟩ = some (.int .i64 p.D.fr) := hX.cell 5
  have x6 : w1.cell? ⟨w.heap.size,6,none⟩ = some (.int .i64 p.D.tn) := hX.cell 6
  have x7 : w1.cell? ⟨w.heap.size,7,none⟩ = some (.int .i64 p.D.st) := hX.cell 7
  have x8 : w1.cell? ⟨w.heap.size,8,none⟩ = some (.int .i64 p.D.en) := hX.cell 8
  have x9 : w1.cell? ⟨w.heap.size,9,none⟩ = some (.int .i64 p.D.rt) := hX.cell 9
  have x10 : w1.cell? ⟨w.heap.size,10,none⟩ = some (.int .i64 p.D.rf) := hX.cell 10
  have x11 : w1.cell? ⟨w.heap.size,11,none⟩ = some (.int .i64 p.D.rn) := hX.cell 11
  have x12 : w1.cell? ⟨w.heap.size,12,none⟩ = some (.int .i64 p.D.rs) := hX.cell 12
  have x13 : w1.cell? ⟨w.heap.size,13,none⟩ = some (.int .i64 p.D.re) := hX.cell 13
  have x14 : w1.cell? ⟨w.heap.size,14,none⟩ = some (.int .i64 p.D.ro) := hX.cell 14
  have x15 : w1.cell? ⟨w.heap.size,15,none⟩ = some (.int .i64 p.n) := hX.cell 15
  have x16 : w1.cell? ⟨w.heap.size,16,none⟩ = some (.slice A k c) := hX.cell 16
  have x17 : w1.cell? ⟨w.heap.size,17,none⟩ = some (.int .i64 p.cl) := hX.cell 17
  have x18 : w1.cell? ⟨w.heap.size,18,none⟩ = some (.int .i64 p.sz) := hX.cell 18
  have x19 : w1.cell? ⟨w.heap.size,19,none⟩ = some (.int .i64 p.bf) := hX.cell 19
  have x20 : w1.cell? ⟨w.heap.size,20,none⟩ = some (.int .i64 p.bt) := hX.cell 20
  have x21 : w1.cell? ⟨w.heap.size,21,none⟩ = some (.int .i64 p.bs_) := hX.cell 21
  have x22 : w1.cell? ⟨w.heap.size,22,none⟩ = some (.int .i64 p.bc) := hX.cell 22
  have x23 : w1.cell? ⟨w.heap.size,23,none⟩ = some (.int .i64 p.bd) := hX.cell 23
  have y0 : w1.cell? ⟨w.heap.size + 1,0,none⟩ = some (.int .i64 q.dk) := hY.cell 0
  have y1 : w1.cell? ⟨w.heap.size + 1,1,none⟩ = some (.string (bs q.tx)) := hY.cell 1
  have y2 : w1.cell? ⟨w.heap.size + 1,2,none⟩ = some (.int .i64 q.D.op) := hY.cell 2
  have y3 : w1.cell? ⟨w.heap.size + 1,3,none⟩ = some (.int .i64 q.D.kd) := hY.cell 3
  have y4 : w1.cell? ⟨w.heap.size + 1,4,none⟩ = some (.int .i64 q.D.id) := hY.cell 4
  have y5 : w1.cell? ⟨w.heap.size + 1,5,none⟩ = some (.int .i64 q.D.fr) := hY.cell 5
  have y6 : w1.cell? ⟨w.heap.size + 1,6,none⟩ = some (.int .i64 q.D.tn) := hY.cell 6
  have y7 : w1.cell? ⟨w.heap.size + 1,7,none⟩ = some (.int .i64 q.D.st) := hY.cell 7
  have y8 : w1.cell? ⟨w.heap.size + 1,8,none⟩ = some (.int .i64 q.D.en) := hY.cell 8
  have y9 : w1.cell? ⟨w.heap.size + 1,9,none⟩ = some (.int .i64 q.D.rt) := hY.cell 9
  have y10 : w1.cell? ⟨w.heap.size + 1,10,none⟩ = some (.int .i64 q.D.rf) := hY.cell 10
  have y11 : w1.cell? ⟨w.heap.size + 1,11,none⟩ = some (.int .i64 q.D.rn) := hY.cell 11
  have y12 : w1.cell? ⟨w.heap.size + 1,12,none⟩ = some (.int .i64 q.D.rs) := hY.cell 12
  have y13 : w1.cell? ⟨w.heap.size + 1,13,none⟩ = some (.int .i64 q.D.re) := hY.cell 13
  have y14 : w1.cell? ⟨w.heap.size + 1,14,none⟩ = some (.int .i64 q.D.ro) := hY.cell 14
  have y15 : w1.cell? ⟨w.heap.size + 1,15,none⟩ = some (.int .i64 q.n) := hY.cell 15
  have y16 : w1.cell? ⟨w.heap.size + 1,16,none⟩ = some (.slice A' k' c') := hY.cell 16
  have y17 : w1.cell? ⟨w.heap.size + 1,17,none⟩ = some (.int .i64 q.cl) := hY.cell 17
  have y18 : w1.cell? ⟨w.heap.size + 1,18,none⟩ = some (.int .i64 q.sz) := hY.cell 18
  have y19 : w1.cell? ⟨w.heap.size + 1,19,none⟩ = some (.int .i64 q.bf) := hY.cell 19
  have y20 : w1.cell? ⟨w.heap.size + 1,20,none⟩ = some (.int .i64 q.bt) := hY.cell 20
  have y21 : w1.cell? ⟨w.heap.size + 1,21,none⟩ = some (.int .i64 q.bs_) := hY.cell 21
  have y22 : w1.cell? ⟨w.heap.size + 1,22,none⟩ = some (.int .i64 q.bc) := hY.cell 22
  have y23 : w1.cell? ⟨w.heap.size + 1,23,none⟩ = some (.int .i64 q.bd) := hY.cell 23
  have lt_x := hX.lt
  have lt_y := hY.lt
  have q_x16 := fun d os => cell_regrown x16 d os
  have q_x17 := fun d os => cell_regrown x17 d os
  have q_x18 := fun d os => cell_regrown x18 d os
  have q_x19 := fun d os => cell_regrown x19 d os
  have q_x20 := fun d os => cell_regrown x20 d os
  have q_x21 := fun d os => cell_regrown x21 d os
  have q_x22 := fun d os => cell_regrown x22 d os
  have q_x23 := fun d os => cell_regrown x23 d os
  have q_y16 := fun d os => cell_regrown y16 d os
  have q_y17 := fun d os => cell_regrown y17 d os
  have q_y18 := fun d os => cell_regrown y18 d os
  have q_y19 := fun d os => cell_regrown y19 d os
  have q_y20 := fun d os => cell_regrown y20 d os
  have q_y21 := fun d os => cell_regrown y21 d os
  have q_y22 := fun d os => cell_regrown y22 d os
  have q_y23 := fun d os => cell_regrown y23 d os
  have q_x0 := fun d os => cell_regrown x0 d os
  have q_y0 := fun d os => cell_regrown y0 d os
  have q_x1 := fun d os => cell_regrown x1 d os
  have q_y1 := fun d os => cell_regrown y1 d os
  have q_x2 := fun d os => cell_regrown x2 d os
  have q_y2 := fun d os => cell_regrown y2 d os
  have q_x3 := fun d os => cell_regrown x3 d os
  have q_y3 := fun d os => cell_regrown y3 d os
  have q_x4 := fun d os => cell_regrown x4 d os
  have q_y4 := fun d os => cell_regrown y4 d os
  have q_x5 := fun d os => cell_regrown x5 d os
  have q_y5 := fun d os => cell_regrown y5 d os
  have q_x6 := fun d os => cell_regrown x6 d os
  have q_y6 := fun d os => cell_regrown y6 d os
  have q_x7 := fun d os => cell_regrown x7 d os
  have q_y7 := fun d os => cell_regrown y7 d os
  have q_x8 := fun d os => cell_regrown x8 d os
  have q_y8 := fun d os => cell_regrown y8 d os
  have q_x9 := fun d os => cell_regrown x9 d os
  have q_y9 := fun d os => cell_regrown y9 d os
  have q_x10 := fun d os => cell_regrown x10 d os
  have q_y10 := fun d os => cell_regrown y10 d os
  have q_x11 := fun d os => cell_regrown x11 d os
  have q_y11 := fun d os => cell_regrown y11 d os
  have q_x12 := fun d os => cell_regrown x12 d os
  have q_y12 := fun d os => cell_regrown y12 d os
  have q_x13 := fun d os => cell_regrown x13 d os
  have q_y13 := fun d os => cell_regrown y13 d os
  have q_x14 := fun d os => cell_regrown x14 d os
  have q_y14 := fun d os => cell_regrown y14 d os
  have q_x15 := fun d os => cell_regrown x15 d os
  have q_y15 := fun d os => cell_regrown y15 d os
  try simp only [List.append]
  first | refine wp_region_text_below ?_ | refine wp_region_quiet_below (by kernel_rfl) (by kernel_rfl) ?_
  repeat (go_big_quiet_step (((go_at_call 22; with_reducible exact Calls.regrown_of (equalI_is A A' k c k' c' p.ids q.ids _ g4.out HK.out.1 HK.out.2.1 HK.out.2.2.1 HK.out.2.2.2 (HH.out.up (below_regrown _ _ _)) (HH'.out.up (below_regrown _ _ _)))))))
  refine wpQuiet_nil ?_
  intro _ hqw
  obtain ⟨pq,hqw⟩ := hqw
  subst hqw
  go_wp2
  go_ret
  exact ⟨rfl,hB.trans ((below_regrown _ _ _).mono hs)⟩
end Go.Proofs.YtggdomeeienjbaaDoor

/- Package script: Same's closure, part 8. No condition but on sizes. -/
namespace Go.Proofs.YtggdomeeienjbaaDoor
open Go.ChangeShapes Go.WideShapes Go.ChangeAt Go.RowKit Go.Sort
set_option linter.unusedSimpArgs false
set_option linter.unusedVariables false
set_option maxHeartbeats 8000000 in
set_option maxRecDepth 100000 in
theorem same1_7 (p q : Pa) (A A' : Option Addr) (k c k' c' : Nat) (w : World) (hk : p.ids.length = k) (hk' : q.ids.length = k') (hkm : k ≤ 1000000) (hkm' : k' ≤ 1000000) (h : Sl w w.heap.size 1 A k c (p.ids.map (Value.int .i64))) (h' : Sl w w.heap.size 1 A' k' c' (q.ids.map (Value.int .i64))) (c0 : p.dk = q.dk) (c1 : p.tx = q.tx) (c2 : p.D = q.D) (c3 : p.n = q.n) (c4 : p.ids = q.ids) (c5 : p.cl = q.cl) (c6 : p.sz = q.sz) (c7 : ¬ (eqB p q = true)) :
    Calls Tryd.prog 21 #[.agg #[.int .i64 p.dk, .string (bs p.tx), .int .i64 p.D.op, .int .i64 p.D.kd, .int .i64 p.D.id, .int .i64 p.D.fr, .int .i64 p.D.tn, .int .i64 p.D.st, .int .i64 p.D.en, .int .i64 p.D.rt, .int .i64 p.D.rf, .int .i64 p.D.rn, .int .i64 p.D.rs, .int .i64 p.D.re, .int .i64 p.D.ro, .int .i64 p.n, .slice A k c, .int .i64 p.cl, .int .i64 p.sz, .int .i64 p.bf, .int .i64 p.bt, .int .i64 p.bs_, .int .i64 p.bc, .int .i64 p.bd], .agg #[.int .i64 q.dk, .string (bs q.tx), .int .i64 q.D.op, .int .i64 q.D.kd, .int .i64 q.D.id, .int .i64 q.D.fr, .int .i64 q.D.tn, .int .i64 q.D.st, .int .i64 q.D.en, .int .i64 q.D.rt, .int .i64 q.D.rf, .int .i64 q.D.rn, .int .i64 q.D.rs, .int .i64 q.D.re, .int .i64 q.D.ro, .int .i64 q.n, .slice A' k' c', .int .i64 q.cl, .int .i64 q.sz, .int .i64 q.bf, .int .i64 q.bt, .int .i64 q.bs_, .int .i64 q.bc, .int .i64 q.bd]] w fun e w' => e = .returned (.bool false) ∧ Below w.heap.size w w' := by
  have g0 : (p.dk == q.dk) = true := by simp [c0]
  have g1 : ((bs p.tx).toList == (bs q.tx).toList) = true := by rw [beq_iff_eq]; exact (str_ne _ _).2 c1
  have g2 : ∀ w0,(binOp .eql 31 (.agg #[.int .i64 p.D.op, .int .i64 p.D.kd, .int .i64 p.D.id, .int .i64 p.D.fr, .int .i64 p.D.tn, .int .i64 p.D.st, .int .i64 p.D.en, .int .i64 p.D.rt, .int .i64 p.D.rf, .int .i64 p.D.rn, .int .i64 p.D.rs, .int .i64 p.D.re, .int .i64 p.D.ro]) (.agg #[.int .i64 q.D.op, .int .i64 q.D.kd, .int .i64 q.D.id, .int .i64 q.D.fr, .int .i64 q.D.tn, .int .i64 q.D.st, .int .i64 q.D.en, .int .i64 q.D.rt, .int .i64 q.D.rf, .int .i64 q.D.rn, .int .i64 q.D.rs, .int .i64 q.D.re, .int .i64 q.D.ro])).run Tryd.prog w0 = .ok (.bool true) w0 := fun w0 => by rw [eqlDr]; simp [c2]
  have g3 : (p.n == q.n) = true := by simp [c3]
  have g4 : Hid (decide (p.ids = q.ids) = true) := by show decide (p.ids = q.ids) = true; simp [c4]
  have g5 : (p.cl == q.cl) = true := by simp [c5]
  have g6 : (p.sz == q.sz) = true := by simp [c6]
  have g7 : ∀ w0,(binOp .eql 34 (.agg #[.int .i64 p.bf, .int .i64 p.bt, .int .i64 p.bs_, .int .i64 p.bc, .int .i64 p.bd]) (.agg #[.int .i64 q.bf, .int .i64 q.bt, .int .i64 q.bs_, .int .i64 q.bc, .int .i64 q.bd])).run Tryd.prog w0 = .ok (.bool false) w0 := fun w0 => by rw [eqlBd]; rw [Bool.eq_false_iff.2 c7]
  clear c0 c1 c2 c3 c4 c5 c6 c7
  have hB : Below w.heap.size w ((w.alloc (.cells #[.int .i64 p.dk, .string (bs p.tx), .int .i64 p.D.op, .int .i64 p.D.kd, .int .i64 p.D.id, .int .i64 p.D.fr, .int .i64 p.D.tn, .int .i64 p.D.st, .int .i64 p.D.en, .int .i64 p.D.rt, .int .i64 p.D.rf, .int .i64 p.D.rn, .int .i64 p.D.rs, .int .i64 p.D.re, .int .i64 p.D.ro, .int .i64 p.n, .slice A k c, .int .i64 p.cl, .int .i64 p.sz, .int .i64 p.bf, .int .i64 p.bt, .int .i64 p.bs_, .int .i64 p.bc, .int .i64 p.bd] 36)).alloc (.cells #[.int .i64 q.dk, .string (bs q.tx), .int .i64 q.D.op, .int .i64 q.D.kd, .int .i64 q.D.id, .int .i64 q.D.fr, .int .i64 q.D.tn, .int .i64 q.D.st, .int .i64 q.D.en, .int .i64 q.D.rt, .int .i64 q.D.rf, .int .i64 q.D.rn, .int .i64 q.D.rs, .int .i64 q.D.re, .int .i64 q.D.ro, .int .i64 q.n, .slice A' k' c', .int .i64 q.cl, .int .i64 q.sz, .int .i64 q.bf, .int .i64 q.bt, .int .i64 q.bs_, .int .i64 q.bc, .int .i64 q.bd] 36)) := by (repeat (first | exact Below.refl _ _ | refine Below.alloc ?_ (by first | omega | (simp; done) | (simp; omega)) _ | refine Below.setCell ?_ (by first | omega | (simp; done) | (simp; omega)) _ | refine Below.drew ?_))
  have hX := (Blok.new w 36 #[.int .i64 p.dk, .string (bs p.tx), .int .i64 p.D.op, .int .i64 p.D.kd, .int .i64 p.D.id, .int .i64 p.D.fr, .int .i64 p.D.tn, .int .i64 p.D.st, .int .i64 p.D.en, .int .i64 p.D.rt, .int .i64 p.D.rf, .int .i64 p.D.rn, .int .i64 p.D.rs, .int .i64 p.D.re, .int .i64 p.D.ro, .int .i64 p.n, .slice A k c, .int .i64 p.cl, .int .i64 p.sz, .int .i64 p.bf, .int .i64 p.bt, .int .i64 p.bs_, .int .i64 p.bc, .int .i64 p.bd]).alloc (.cells #[.int .i64 q.dk, .string (bs q.tx), .int .i64 q.D.op, .int .i64 q.D.kd, .int .i64 q.D.id, .int .i64 q.D.fr, .int .i64 q.D.tn, .int .i64 q.D.st, .int .i64 q.D.en, .int .i64 q.D.rt, .int .i64 q.D.rf, .int .i64 q.D.rn, .int .i64 q.D.rs, .int .i64 q.D.re, .int .i64 q.D.ro, .int .i64 q.n, .slice A' k' c', .int .i64 q.cl, .int .i64 q.sz, .int .i64 q.bf, .int .i64 q.bt, .int .i64 q.bs_, .int .i64 q.bc, .int .i64 q.bd] 36)
  have hY := Blok.new (w.alloc (.cells #[.int .i64 p.dk, .string (bs p.tx), .int .i64 p.D.op, .int .i64 p.D.kd, .int .i64 p.D.id, .int .i64 p.D.fr, .int .i64 p.D.tn, .int .i64 p.D.st, .int .i64 p.D.en, .int .i64 p.D.rt, .int .i64 p.D.rf, .int .i64 p.D.rn, .int .i64 p.D.rs, .int .i64 p.D.re, .int .i64 p.D.ro, .int .i64 p.n, .slice A k c, .int .i64 p.cl, .int .i64 p.sz, .int .i64 p.bf, .int .i64 p.bt, .int .i64 p.bs_, .int .i64 p.bc, .int .i64 p.bd] 36)) 36 #[.int .i64 q.dk, .string (bs q.tx), .int .i64 q.D.op, .int .i64 q.D.kd, .int .i64 q.D.id, .int .i64 q.D.fr, .int .i64 q.D.tn, .int .i64 q.D.st, .int .i64 q.D.en, .int .i64 q.D.rt, .int .i64 q.D.rf, .int .i64 q.D.rn, .int .i64 q.D.rs, .int .i64 q.D.re, .int .i64 q.D.ro, .int .i64 q.n, .slice A' k' c', .int .i64 q.cl, .int .i64 q.sz, .int .i64 q.bf, .int .i64 q.bt, .int .i64 q.bs_, .int .i64 q.bc, .int .i64 q.bd]
  rw [World.size_alloc] at hY
  replace h := h.up hB
  replace h' := h'.up hB
  have hs := hB.size
  have HK := Lib.hid (⟨hk,hk',hkm,hkm'⟩ : _ ∧ _ ∧ _ ∧ _)
  have HH := Lib.hid h
  have HH' := Lib.hid h'
  clear hk hk' hkm hkm' h h'
  go_enter Tryd.func21,Tryd.ntmps21
  go_upto_region 1 with fail
  generalize (w.alloc (.cells #[.int .i64 p.dk, .string (bs p.tx), .int .i64 p.D.op, .int .i64 p.D.kd, .int .i64 p.D.id, .int .i64 p.D.fr, .int .i64 p.D.tn, .int .i64 p.D.st, .int .i64 p.D.en, .int .i64 p.D.rt, .int .i64 p.D.rf, .int .i64 p.D.rn, .int .i64 p.D.rs, .int .i64 p.D.re, .int .i64 p.D.ro, .int .i64 p.n, .slice A k c, .int .i64 p.cl, .int .i64 p.sz, .int .i64 p.bf, .int .i64 p.bt, .int .i64 p.bs_, .int .i64 p.bc, .int .i64 p.bd] 36)).alloc (.cells #[.int .i64 q.dk, .string (bs q.tx), .int .i64 q.D.op, .int .i64 q.D.kd, .int .i64 q.D.id, .int .i64 q.D.fr, .int .i64 q.D.tn, .int .i64 q.D.st, .int .i64 q.D.en, .int .i64 q.D.rt, .int .i64 q.D.rf, .int .i64 q.D.rn, .int .i64 q.D.rs, .int .i64 q.D.re, .int .i64 q.D.ro, .int .i64 q.n, .slice A' k' c', .int .i64 q.cl, .int .i64 q.sz, .int .i64 q.bf, .int .i64 q.bt, .int .i64 q.bs_, .int .i64 q.bc, .int .i64 q.bd] 36) = w1 at *
  have x0 : w1.cell? ⟨w.heap.size,0,none⟩ = some (.int .i64 p.dk) := hX.cell 0
  have x1 : w1.cell? ⟨w.heap.size,1,none⟩ = some (.string (bs p.tx)) := hX.cell 1
  have x2 : w1.cell? ⟨w.heap.size,2,none⟩ = some (.int .i64 p.D.op) := hX.cell 2
  have x3 : w1.cell? ⟨w.heap.size,3,none⟩ = some (.int .i64 p.D.kd) := hX.cell 3
  have x4 : w1.cell? ⟨w.heap.size,4,none⟩ = some (.int .i64 p.D.id) := hX.cell 4
  have x5 : w1.cell? ⟨w.heap.size,5,none⟩ = some (.int .i64 p.D.fr) := hX.cell 5
  have x6 : w1.cell? ⟨w.heap.size,6,none⟩ = some (.int .i64 p.D.tn) := hX.cell 6
  have x7 : w1.cell? ⟨w.heap.size,7,none⟩ = some (.int .i64 p.D.st) := hX.cell 7
  have x8 : w1.cell? ⟨w.heap.size,8,none⟩ = some (.int .i64 p.D.en) := hX.cell 8
  have x9 : w1.cell? ⟨w.heap.size,9,none⟩ = some (.int .i64 p.D.rt) := hX.cell 9
  have x10 : w1.cell? ⟨w.heap.size,10,none⟩ = some (.int .i64 p.D.rf) := hX.cell 10
  have x11 : w1.cell? ⟨w.heap.size,11,none⟩ = some (.int .i64 p.D.rn) := hX.cell 11
  have x12 : w1.cell? ⟨w.heap.size,12,none⟩ = some (.int .i64 p.D.rs) := hX.cell 12
  have x13 : w1.cell? ⟨w.heap.size,13,none⟩ = some (.int .i64 p.D.re) := hX.cell 13
  have x14 : w1.cell? ⟨w.heap.size,14,none⟩ = some (.int .i64 p.D.ro) := hX.cell 14
  have x15 : w1.cell? ⟨w.heap.size,15,none⟩ = some (.int .i64 p.n) := hX.cell 15
  have x16 : w1.cell? ⟨w.heap.size,16,none⟩ = some (.slice A k c) := hX.cell 16
  have x17 : w1.cell? ⟨w.heap.size,17,none⟩ = some (.int .i64 p.cl) := hX.cell 17
  have x18 : w1.cell? ⟨w.heap.size,18,none⟩ = some (.int .i64 p.sz) := hX.cell 18
  have x19 : w1.cell? ⟨w.heap.size,19,none⟩ = some (.int .i64 p.bf) := hX.cell 19
  have x20 : w1.cell? ⟨w.heap.size,20,none⟩ = some (.int .i64 p.bt) := hX.cell 20
  have x21 : w1.cell? ⟨w.heap.size,21,none⟩ = some (.int .i64 p.bs_) := hX.cell 21
  have x22 : w1.cell? ⟨w.heap.size,22,none⟩ = some (.int .i64 p.bc) := hX.cell 22
  have x23 : w1.cell? ⟨w.heap.size,23,none⟩ = some (.int .i64 p.bd) := hX.cell 23
  have y0 : w1.cell? ⟨w.heap.size + 1,0,none⟩ = some (.int .i64 q.dk) := hY.cell 0
  have y1 : w1.cell? ⟨w.heap.size + 1,1,none⟩ = some (.string (bs q.tx)) := hY.cell 1
  have y2 : w1.cell? ⟨w.heap.size + 1,2,none⟩ = some (.int .i64 q.D.op) := hY.cell 2
  have y3 : w1.cell? ⟨w.heap.size + 1,3,none⟩ = some (.int .i64 q.D.kd) := hY.cell 3
  have y4 : w1.cell? ⟨w.heap.size + 1,4,none⟩ = some (.int .i64 q.D.id) := hY.cell 4
  have y5 : w1.cell? ⟨w.heap.size + 1,5,none⟩ = some (.int .i64 q.D.fr) := hY.cell 5
  have y6 : w1.cell? ⟨w.heap.size + 1,6,none⟩ = some (.int .i64 q.D.tn) := hY.cell 6
  have y7 : w1.cell? ⟨w.heap.size + 1,7,none⟩ = some (.int .i64 q.D.st) := hY.cell 7
  have y8 : w1.cell? ⟨w.heap.size + 1,8,none⟩ = some (.int .i64 q.D.en) := hY.cell 8
  have y9 : w1.cell? ⟨w.heap.size + 1,9,none⟩ = some (.int .i64 q.D.rt) := hY.cell 9
  have y10 : w1.cell? ⟨w.heap.size + 1,10,none⟩ = some (.int .i64 q.D.rf) := hY.cell 10
  have y11 : w1.cell? ⟨w.heap.size + 1,11,none⟩ = some (.int .i64 q.D.rn) := hY.cell 11
  have y12 : w1.cell? ⟨w.heap.size + 1,12,none⟩ = some (.int .i64 q.D.rs) := hY.cell 12
  have y13 : w1.cell? ⟨w.heap.size + 1,13,none⟩ = some (.int .i64 q.D.re) := hY.cell 13
  have y14 : w1.cell? ⟨w.heap.size + 1,14,none⟩ = some (.int .i64 q.D.ro) := hY.cell 14
  have y15 : w1.cell? ⟨w.heap.size + 1,15,none⟩ = some (.int .i64 q.n) := hY.cell 15
  have y16 : w1.cell? ⟨w.heap.size + 1,16,none⟩ = some (.slice A' k' c') := hY.cell 16
  have y17 : w1.cell? ⟨w.heap.size + 1,17,none⟩ = some (.int .i64 q.cl) := hY.cell 17
  have y18 : w1.cell? ⟨w.heap.size + 1,18,none⟩ = some (.int .i64 q.sz) := hY.cell 18
  have y19 : w1.cell? ⟨w.heap.size + 1,19,none⟩ = some (.int .i64 q.bf) := hY.cell 19
  have y20 : w1.cell? ⟨w.heap.size + 1,20,none⟩ = some (.int .i64 q.bt) := hY.cell 20
  have y21 : w1.cell? ⟨w.heap.size + 1,21,none⟩ = some (.int .i64 q.bs_) := hY.cell 21
  have y22 : w1.cell? ⟨w.heap.size + 1,22,none⟩ = some (.int .i64 q.bc) := hY.cell 22
  have y23 : w1.cell? ⟨w.heap.size + 1,23,none⟩ = some (.int .i64 q.bd) := hY.cell 23
  have lt_x := hX.lt
  have lt_y := hY.lt
  have q_x16 := fun d os => cell_regrown x16 d os
  have q_x17 := fun d os => cell_regrown x17 d os
  have q_x18 := fun d os => cell_regrown x18 d os
  have q_x19 := fun d os => cell_regrown x19 d os
  have q_x20 := fun d os => cell_regrown x20 d os
  have q_x21 := fun d os => cell_regrown x21 d os
  have q_x22 := fun d os => cell_regrown x22 d os
  have q_x23 := fun d os => cell_regrown x23 d os
  have q_y16 := fun d os => cell_regrown y16 d os
  have q_y17 := fun d os => cell_regrown y17 d os
  have q_y18 := fun d os => cell_regrown y18 d os
  have q_y19 := fun d os => cell_regrown y19 d os
  have q_y20 := fun d os => cell_regrown y20 d os
  have q_y21 := fun d os => cell_regrown y21 d os
  have q_y22 := fun d os => cell_regrown y22 d os
  have q_y23 := fun d os => cell_regrown y23 d os
  have q_x0 := fun d os => cell_regrown x0 d os
  have q_y0 := fun d os => cell_regrown y0 d os
  have q_x1 := fun d os => cell_regrown x1 d os
  have q_y1 := fun d os => cell_regrown y1 d os
  have q_x2 := fun d os => cell_regrown x2 d os
  have q_y2 := fun d os => cell_regrown y2 d os
  have q_x3 := fun d os => cell_regrown x3 d os
  have q_y3 := fun d os => cell_regrown y3 d os
  have q_x4 := fun d os => cell_regrown x4 d os
  have q_y4 := fun d os => cell_regrown y4 d os
  have q_x5 := fun d os => cell_regrown x5 d os
  have q_y5 := fun d os => cell_regrown y5 d os
  have q_x6 := fun d os => cell_regrown x6 d os
  have q_y6 := fun d os => cell_regrown y6 d os
  have q_x7 := fun d os => cell_regrown x7 d os
  have q_y7 := fun d os => cell_regrown y7 d os
  have q_x8 := fun d os => cell_regrown x8 d os
  have q_y8 := fun d os => cell_regrown y8 d os
  have q_x9 := fun d os => cell_regrown x9 d os
  have q_y9 := fun d os => cell_regrown y9 d os
  have q_x10 := fun d os => cell_regrown x10 d os
  have q_y10 := fun d os => cell_regrown y10 d os
  have q_x11 := fun d os => cell_regrown x11 d os
  have q_y11 := fun d os => cell_regrown y11 d os
  have q_x12 := fun d os => cell_regrown x12 d os
  have q_y12 := fun d os => cell_regrown y12 d os
  have q_x13 := fun d os => cell_regrown x13 d os
  have q_y13 := fun d os => cell_regrown y13 d os
  have q_x14 := fun d os => cell_regrown x14 d os
  have q_y14 := fun d os => cell_regrown y14 d os
  have q_x15 := fun d os => cell_regrown x15 d os
  have q_y15 := fun d os => cell_regrown y15 d os
  try simp only [List.append]
  first | refine wp_region_text_below ?_ | refine wp_region_quiet_below (by kernel_rfl) (by kernel_rfl) ?_
  repeat (go_big_quiet_step (((go_at_call 22; with_reducible exact Calls.regrown_of (equalI_is A A' k c k' c' p.ids q.ids _ g4.out HK.out.1 HK.out.2.1 HK.out.2.2.1 HK.out.2.2.2 (HH.out.up (below_regrown _ _ _)) (HH'.out.up (below_regrown _ _ _)))))))
  refine wpQuiet_nil ?_
  intro _ hqw
  obtain ⟨pq,hqw⟩ := hqw
  subst hqw
  go_wp2
  go_ret
  exact ⟨rfl,hB.trans ((below_regrown _ _ _).mono hs)⟩
end Go.Proofs.YtggdomeeienjbaaDoor

/- Package script: Same's closure, part 9. No condition but on sizes. -/
namespace Go.Proofs.YtggdomeeienjbaaDoor
open Go.ChangeShapes Go.WideShapes Go.ChangeAt Go.RowKit Go.Sort
set_option linter.unusedSimpArgs false
set_option linter.unusedVariables false
set_option maxHeartbeats 8000000 in
set_option maxRecDepth 100000 in
theorem same1_8 (p q : Pa) (A A' : Option Addr) (k c k' c' : Nat) (w : World) (hk : p.ids.length = k) (hk' : q.ids.length = k') (hkm : k ≤ 1000000) (hkm' : k' ≤ 1000000) (h : Sl w w.heap.size 1 A k c (p.ids.map (Value.int .i64))) (h' : Sl w w.heap.size 1 A' k' c' (q.ids.map (Value.int .i64))) (c0 : p.dk = q.dk) (c1 : p.tx = q.tx) (c2 : p.D = q.D) (c3 : p.n = q.n) (c4 : p.ids = q.ids) (c5 : p.cl = q.cl) (c6 : p.sz = q.sz) (c7 : eqB p q = true) :
    Calls Tryd.prog 21 #[.agg #[.int .i64 p.dk, .string (bs p.tx), .int .i64 p.D.op, .int .i64 p.D.kd, .int .i64 p.D.id, .int .i64 p.D.fr, .int .i64 p.D.tn, .int .i64 p.D.st, .int .i64 p.D.en, .int .i64 p.D.rt, .int .i64 p.D.rf, .int .i64 p.D.rn, .int .i64 p.D.rs, .int .i64 p.D.re, .int .i64 p.D.ro, .int .i64 p.n, .slice A k c, .int .i64 p.cl, .int .i64 p.sz, .int .i64 p.bf, .int .i64 p.bt, .int .i64 p.bs_, .int .i64 p.bc, .int .i64 p.bd], .agg #[.int .i64 q.dk, .string (bs q.tx), .int .i64 q.D.op, .int .i64 q.D.kd, .int .i64 q.D.id, .int .i64 q.D.fr, .int .i64 q.D.tn, .int .i64 q.D.st, .int .i64 q.D.en, .int .i64 q.D.rt, .int .i64 q.D.rf, .int .i64 q.D.rn, .int .i64 q.D.rs, .int .i64 q.D.re, .int .i64 q.D.ro, .int .i64 q.n, .slice A' k' c', .int .i64 q.cl, .int .i64 q.sz, .int .i64 q.bf, .int .i64 q.bt, .int .i64 q.bs_, .int .i64 q.bc, .int .i64 q.bd]] w fun e w' => e = .returned (.bool true) ∧ Below w.heap.size w w' := by
  have g0 : (p.dk == q.dk) = true := by simp [c0]
  have g1 : ((bs p.tx).toList == (bs q.tx).toList) = true := by rw [beq_iff_eq]; exact (str_ne _ _).2 c1
  have g2 : ∀ w0,(binOp .eql 31 (.agg #[.int .i64 p.D.op, .int .i64 p.D.kd, .int .i64 p.D.id, .int .i64 p.D.fr, .int .i64 p.D.tn, .int .i64 p.D.st, .int .i64 p.D.en, .int .i64 p.D.rt, .int .i64 p.D.rf, .int .i64 p.D.rn, .int .i64 p.D.rs, .int .i64 p.D.re, .int .i64 p.D.ro]) (.agg #[.int .i64 q.D.op, .int .i64 q.D.kd, .int .i64 q.D.id, .int .i64 q.D.fr, .int .i64 q.D.tn, .int .i64 q.D.st, .int .i64 q.D.en, .int .i64 q.D.rt, .int .i64 q.D.rf, .int .i64 q.D.rn, .int .i64 q.D.rs, .int .i64 q.D.re, .int .i64 q.D.ro])).run Tryd.prog w0 = .ok (.bool true) w0 := fun w0 => by rw [eqlDr]; simp [c2]
  have g3 : (p.n == q.n) = true := by simp [c3]
  have g4 : Hid (decide (p.ids = q.ids) = true) := by show decide (p.ids = q.ids) = true; simp [c4]
  have g5 : (p.cl == q.cl) = true := by simp [c5]
  have g6 : (p.sz == q.sz) = true := by simp [c6]
  have g7 : ∀ w0,(binOp .eql 34 (.agg #[.int .i64 p.bf, .int .i64 p.bt, .int .i64 p.bs_, .int .i64 p.bc, .int .i64 p.bd]) (.agg #[.int .i64 q.bf, .int .i64 q.bt, .int .i64 q.bs_, .int .i64 q.bc, .int .i64 q.bd])).run Tryd.prog w0 = .ok (.bool true) w0 := fun w0 => by rw [eqlBd]; rw [c7]
  clear c0 c1 c2 c3 c4 c5 c6 c7
  have hB : Below w.heap.size w ((w.alloc (.cells #[.int .i64 p.dk, .string (bs p.tx), .int .i64 p.D.op, .int .i64 p.D.kd, .int .i64 p.D.id, .int .i64 p.D.fr, .int .i64 p.D.tn, .int .i64 p.D.st, .int .i64 p.D.en, .int .i64 p.D.rt, .int .i64 p.D.rf, .int .i64 p.D.rn, .int .i64 p.D.rs, .int .i64 p.D.re, .int .i64 p.D.ro, .int .i64 p.n, .slice A k c, .int .i64 p.cl, .int .i64 p.sz, .int .i64 p.bf, .int .i64 p.bt, .int .i64 p.bs_, .int .i64 p.bc, .int .i64 p.bd] 36)).alloc (.cells #[.int .i64 q.dk, .string (bs q.tx), .int .i64 q.D.op, .int .i64 q.D.kd, .int .i64 q.D.id, .int .i64 q.D.fr, .int .i64 q.D.tn, .int .i64 q.D.st, .int .i64 q.D.en, .int .i64 q.D.rt, .int .i64 q.D.rf, .int .i64 q.D.rn, .int .i64 q.D.rs, .int .i64 q.D.re, .int .i64 q.D.ro, .int .i64 q.n, .slice A' k' c', .int .i64 q.cl, .int .i64 q.sz, .int .i64 q.bf, .int .i64 q.bt, .int .i64 q.bs_, .int .i64 q.bc, .int .i64 q.bd] 36)) := by (repeat (first | exact Below.refl _ _ | refine Below.alloc ?_ (by first | omega | (simp; done) | (simp; omega)) _ | refine Below.setCell ?_ (by first | omega | (simp; done) | (simp; omega)) _ | refine Below.drew ?_))
  have hX := (Blok.new w 36 #[.int .i64 p.dk, .string (bs p.tx), .int .i64 p.D.op, .int .i64 p.D.kd, .int .i64 p.D.id, .int .i64 p.D.fr, .int .i64 p.D.tn, .int .i64 p.D.st, .int .i64 p.D.en, .int .i64 p.D.rt, .int .i64 p.D.rf, .int .i64 p.D.rn, .int .i64 p.D.rs, .int .i64 p.D.re, .int .i64 p.D.ro, .int .i64 p.n, .slice A k c, .int .i64 p.cl, .int .i64 p.sz, .int .i64 p.bf, .int .i64 p.bt, .int .i64 p.bs_, .int .i64 p.bc, .int .i64 p.bd]).alloc (.cells #[.int .i64 q.dk, .string (bs q.tx), .int .i64 q.D.op, .int .i64 q.D.kd, .int .i64 q.D.id, .int .i64 q.D.fr, .int .i64 q.D.tn, .int .i64 q.D.st, .int .i64 q.D.en, .int .i64 q.D.rt, .int .i64 q.D.rf, .int .i64 q.D.rn, .int .i64 q.D.rs, .int .i64 q.D.re, .int .i64 q.D.ro, .int .i64 q.n, .slice A' k' c', .int .i64 q.cl, .int .i64 q.sz, .int .i64 q.bf, .int .i64 q.bt, .int .i64 q.bs_, .int .i64 q.bc, .int .i64 q.bd] 36)
  have hY := Blok.new (w.alloc (.cells #[.int .i64 p.dk, .string (bs p.tx), .int .i64 p.D.op, .int .i64 p.D.kd, .int .i64 p.D.id, .int .i64 p.D.fr, .int .i64 p.D.tn, .int .i64 p.D.st, .int .i64 p.D.en, .int .i64 p.D.rt, .int .i64 p.D.rf, .int .i64 p.D.rn, .int .i64 p.D.rs, .int .i64 p.D.re, .int .i64 p.D.ro, .int .i64 p.n, .slice A k c, .int .i64 p.cl, .int .i64 p.sz, .int .i64 p.bf, .int .i64 p.bt, .int .i64 p.bs_, .int .i64 p.bc, .int .i64 p.bd] 36)) 36 #[.int .i64 q.dk, .string (bs q.tx), .int .i64 q.D.op, .int .i64 q.D.kd, .int .i64 q.D.id, .int .i64 q.D.fr, .int .i64 q.D.tn, .int .i64 q.D.st, .int .i64 q.D.en, .int .i64 q.D.rt, .int .i64 q.D.rf, .int .i64 q.D.rn, .int .i64 q.D.rs, .int .i64 q.D.re, .int .i64 q.D.ro, .int .i64 q.n, .slice A' k' c', .int .i64 q.cl, .int .i64 q.sz, .int .i64 q.bf, .int .i64 q.bt, .int .i64 q.bs_, .int .i64 q.bc, .int .i64 q.bd]
  rw [World.size_alloc] at hY
  replace h := h.up hB
  replace h' := h'.up hB
  have hs := hB.size
  have HK := Lib.hid (⟨hk,hk',hkm,hkm'⟩ : _ ∧ _ ∧ _ ∧ _)
  have HH := Lib.hid h
  have HH' := Lib.hid h'
  clear hk hk' hkm hkm' h h'
  go_enter Tryd.func21,Tryd.ntmps21
  go_upto_region 1 with fail
  generalize (w.alloc (.cells #[.int .i64 p.dk, .string (bs p.tx), .int .i64 p.D.op, .int .i64 p.D.kd, .int .i64 p.D.id, .int .i64 p.D.fr, .int .i64 p.D.tn, .int .i64 p.D.st, .int .i64 p.D.en, .int .i64 p.D.rt, .int .i64 p.D.rf, .int .i64 p.D.rn, .int .i64 p.D.rs, .int .i64 p.D.re, .int .i64 p.D.ro, .int .i64 p.n, .slice A k c, .int .i64 p.cl, .int .i64 p.sz, .int .i64 p.bf, .int .i64 p.bt, .int .i64 p.bs_, .int .i64 p.bc, .int .i64 p.bd] 36)).alloc (.cells #[.int .i64 q.dk, .string (bs q.tx), .int .i64 q.D.op, .int .i64 q.D.kd, .int .i64 q.D.id, .int .i64 q.D.fr, .int .i64 q.D.tn, .int .i64 q.D.st, .int .i64 q.D.en, .int .i64 q.D.rt, .int .i64 q.D.rf, .int .i64 q.D.rn, .int .i64 q.D.rs, .int .i64 q.D.re, .int .i64 q.D.ro, .int .i64 q.n, .slice A' k' c', .int .i64 q.cl, .int .i64 q.sz, .int .i64 q.bf, .int .i64 q.bt, .int .i64 q.bs_, .int .i64 q.bc, .int .i64 q.bd] 36) = w1 at *
  have x0 : w1.cell? ⟨w.heap.size,0,none⟩ = some (.int .i64 p.dk) := hX.cell 0
  have x1 : w1.cell? ⟨w.heap.size,1,none⟩ = some (.string (bs p.tx)) := hX.cell 1
  have x2 : w1.cell? ⟨w.heap.size,2,none⟩ = some (.int .i64 p.D.op) := hX.cell 2
  have x3 : w1.cell? ⟨w.heap.size,3,none⟩ = some (.int .i64 p.D.kd) := hX.cell 3
  have x4 : w1.cell? ⟨w.heap.size,4,none⟩ = some (.int .i64 p.D.id) := hX.cell 4
  have x5 : w1.cell? ⟨w.heap.size,5,none⟩ = some (.int .i64 p.D.fr) := hX.cell 5
  have x6 : w1.cell? ⟨w.heap.size,6,none⟩ = some (.int .i64 p.D.tn) := hX.cell 6
  have x7 : w1.cell? ⟨w.heap.size,7,none⟩ = some (.int .i64 p.D.st) := hX.cell 7
  have x8 : w1.cell? ⟨w.heap.size,8,none⟩ = some (.int .i64 p.D.en) := hX.cell 8
  have x9 : w1.cell? ⟨w.heap.size,9,none⟩ = some (.int .i64 p.D.rt) := hX.cell 9
  have x10 : w1.cell? ⟨w.heap.size,10,none⟩ = some (.int .i64 p.D.rf) := hX.cell 10
  have x11 : w1.cell? ⟨w.heap.size,11,none⟩ = some (.int .i64 p.D.rn) := hX.cell 11
  have x12 : w1.cell? ⟨w.heap.size,12,none⟩ = some (.int .i64 p.D.rs) := hX.cell 12
  have x13 : w1.cell? ⟨w.heap.size,13,none⟩ = some (.int .i64 p.D.re) := hX.cell 13
  have x14 : w1.cell? ⟨w.heap.size,14,none⟩ = some (.int .i64 p.D.ro) := hX.cell 14
  have x15 : w1.cell? ⟨w.heap.size,15,none⟩ = some (.int .i64 p.n) := hX.cell 15
  have x16 : w1.cell? ⟨w.heap.size,16,none⟩ = some (.slice A k c) := hX.cell 16
  have x17 : w1.cell? ⟨w.heap.size,17,none⟩ = some (.int .i64 p.cl) := hX.cell 17
  have x18 : w1.cell? ⟨w.heap.size,18,none⟩ = some (.int .i64 p.sz) := hX.cell 18
  have x19 : w1.cell? ⟨w.heap.size,19,none⟩ = some (.int .i64 p.bf) := hX.cell 19
  have x20 : w1.cell? ⟨w.heap.size,20,none⟩ = some (.int .i64 p.bt) := hX.cell 20
  have x21 : w1.cell? ⟨w.heap.size,21,none⟩ = some (.int .i64 p.bs_) := hX.cell 21
  have x22 : w1.cell? ⟨w.heap.size,22,none⟩ = some (.int .i64 p.bc) := hX.cell 22
  have x23 : w1.cell? ⟨w.heap.size,23,none⟩ = some (.int .i64 p.bd) := hX.cell 23
  have y0 : w1.cell? ⟨w.heap.size + 1,0,none⟩ = some (.int .i64 q.dk) := hY.cell 0
  have y1 : w1.cell? ⟨w.heap.size + 1,1,none⟩ = some (.string (bs q.tx)) := hY.cell 1
  have y2 : w1.cell? ⟨w.heap.size + 1,2,none⟩ = some (.int .i64 q.D.op) := hY.cell 2
  have y3 : w1.cell? ⟨w.heap.size + 1,3,none⟩ = some (.int .i64 q.D.kd) := hY.cell 3
  have y4 : w1.cell? ⟨w.heap.size + 1,4,none⟩ = some (.int .i64 q.D.id) := hY.cell 4
  have y5 : w1.cell? ⟨w.heap.size + 1,5,none⟩ = some (.int .i64 q.D.fr) := hY.cell 5
  have y6 : w1.cell? ⟨w.heap.size + 1,6,none⟩ = some (.int .i64 q.D.tn) := hY.cell 6
  have y7 : w1.cell? ⟨w.heap.size + 1,7,none⟩ = some (.int .i64 q.D.st) := hY.cell 7
  have y8 : w1.cell? ⟨w.heap.size + 1,8,none⟩ = some (.int .i64 q.D.en) := hY.cell 8
  have y9 : w1.cell? ⟨w.heap.size + 1,9,none⟩ = some (.int .i64 q.D.rt) := hY.cell 9
  have y10 : w1.cell? ⟨w.heap.size + 1,10,none⟩ = some (.int .i64 q.D.rf) := hY.cell 10
  have y11 : w1.cell? ⟨w.heap.size + 1,11,none⟩ = some (.int .i64 q.D.rn) := hY.cell 11
  have y12 : w1.cell? ⟨w.heap.size + 1,12,none⟩ = some (.int .i64 q.D.rs) := hY.cell 12
  have y13 : w1.cell? ⟨w.heap.size + 1,13,none⟩ = some (.int .i64 q.D.re) := hY.cell 13
  have y14 : w1.cell? ⟨w.heap.size + 1,14,none⟩ = some (.int .i64 q.D.ro) := hY.cell 14
  have y15 : w1.cell? ⟨w.heap.size + 1,15,none⟩ = some (.int .i64 q.n) := hY.cell 15
  have y16 : w1.cell? ⟨w.heap.size + 1,16,none⟩ = some (.slice A' k' c') := hY.cell 16
  have y17 : w1.cell? ⟨w.heap.size + 1,17,none⟩ = some (.int .i64 q.cl) := hY.cell 17
  have y18 : w1.cell? ⟨w.heap.size + 1,18,none⟩ = some (.int .i64 q.sz) := hY.cell 18
  have y19 : w1.cell? ⟨w.heap.size + 1,19,none⟩ = some (.int .i64 q.bf) := hY.cell 19
  have y20 : w1.cell? ⟨w.heap.size + 1,20,none⟩ = some (.int .i64 q.bt) := hY.cell 20
  have y21 : w1.cell? ⟨w.heap.size + 1,21,none⟩ = some (.int .i64 q.bs_) := hY.cell 21
  have y22 : w1.cell? ⟨w.heap.size + 1,22,none⟩ = some (.int .i64 q.bc) := hY.cell 22
  have y23 : w1.cell? ⟨w.heap.size + 1,23,none⟩ = some (.int .i64 q.bd) := hY.cell 23
  have lt_x := hX.lt
  have lt_y := hY.lt
  have q_x16 := fun d os => cell_regrown x16 d os
  have q_x17 := fun d os => cell_regrown x17 d os
  have q_x18 := fun d os => cell_regrown x18 d os
  have q_x19 := fun d os => cell_regrown x19 d os
  have q_x20 := fun d os => cell_regrown x20 d os
  have q_x21 := fun d os => cell_regrown x21 d os
  have q_x22 := fun d os => cell_regrown x22 d os
  have q_x23 := fun d os => cell_regrown x23 d os
  have q_y16 := fun d os => cell_regrown y16 d os
  have q_y17 := fun d os => cell_regrown y17 d os
  have q_y18 := fun d os => cell_regrown y18 d os
  have q_y19 := fun d os => cell_regrown y19 d os
  have q_y20 := fun d os => cell_regrown y20 d os
  have q_y21 := fun d os => cell_regrown y21 d os
  have q_y22 := fun d os => cell_regrown y22 d os
  have q_y23 := fun d os => cell_regrown y23 d os
  have q_x0 := fun d os => cell_regrown x0 d os
  have q_y0 := fun d os => cell_regrown y0 d os
  have q_x1 := fun d os => cell_regrown x1 d os
  have q_y1 := fun d os => cell_regrown y1 d os
  have q_x2 := fun d os => cell_regrown x2 d os
  have q_y2 := fun d os => cell_regrown y2 d os
  have q_x3 := fun d os => cell_regrown x3 d os
  have q_y3 := fun d os => cell_regrown y3 d os
  have q_x4 := fun d os => cell_regrown x4 d os
  have q_y4 := fun d os => cell_regrown y4 d os
  have q_x5 := fun d os => cell_regrown x5 d os
  have q_y5 := fun d os => cell_regrown y5 d os
  have q_x6 := fun d os => cell_regrown x6 d os
  have q_y6 := fun d os => cell_regrown y6 d os
  have q_x7 := fun d os => cell_regrown x7 d os
  have q_y7 := fun d os => cell_regrown y7 d os
  have q_x8 := fun d os => cell_regrown x8 d os
  have q_y8 := fun d os => cell_regrown y8 d os
  have q_x9 := fun d os => cell_regrown x9 d os
  have q_y9 := fun d os => cell_regrown y9 d os
  have q_x10 := fun d os => cell_regrown x10 d os
  have q_y10 := fun d os => cell_regrown y10 d os
  have q_x11 := fun d os => cell_regrown x11 d os
  have q_y11 := fun d os => cell_regrown y11 d os
  have q_x12 := fun d os => cell_regrown x12 d os
  have q_y12 := fun d os => cell_regrown y12 d os
  have q_x13 := fun d os => cell_regrown x13 d os
  have q_y13 := fun d os => cell_regrown y13 d os
  have q_x14 := fun d os => cell_regrown x14 d os
  have q_y14 := fun d os => cell_regrown y14 d os
  have q_x15 := fun d os => cell_regrown x15 d os
  have q_y15 := fun d os => cell_regrown y15 d os
  try simp only [List.append]
  first | refine wp_region_text_below ?_ | refine wp_region_quiet_below (by kernel_rfl) (by kernel_rfl) ?_
  repeat (go_big_quiet_step (((go_at_call 22; with_reducible exact Calls.regrown_of (equalI_is A A' k c k' c' p.ids q.ids _ g4.out HK.out.1 HK.out.2.1 HK.out.2.2.1 HK.out.2.2.2 (HH.out.up (below_regrown _ _ _)) (HH'.out.up (below_regrown _ _ _)))))))
  refine wpQuiet_nil ?_
  intro _ hqw
  obtain ⟨pq,hqw⟩ := hqw
  subst hqw
  go_wp2
  go_ret
  exact ⟨rfl,hB.trans ((below_regrown _ _ _).mono hs)⟩
end Go.Proofs.YtggdomeeienjbaaDoor

/- Loading a struct of many cells at an address whatever. No condition. -/
namespace Go.Proofs.YtggdomeeienjbaaDoor
open Go.ChangeShapes Go.WideShapes Go.ChangeAt Go.RowKit Go.Sort
set_option linter.unusedSimpArgs false
set_option linter.unusedVariables false
section
variable {P : Program}
theorem run_loadVar_addr (w : World) (ad : Addr) (ty : TypeId) (cs : List Value) (d : TypeDesc) (hc : ∀ j v,cs[j]? = some v → w.cell? (ad.add j) = some v)
    (hu : P.underlying ty = some d) (hd : d.isRow = true) (hi : (P.info? ty).map (·.size) = some cs.length) : (loadVar ty ad).run P w = .ok (.agg cs.toArray) w := by
  have hl : (loadCells ad cs.length).run P w = .ok cs.toArray w := run_loadCells_list (P := P) w ad cs hc
  cases hq : P.info? ty with
  | none => simp [hq] at hi
  | some i =>
    have hs : i.size = cs.length := by simpa [hq] using hi
    have hagg : (isAgg ty).run P w = .ok true w := by
      unfold isAgg
      rw [Sem.run_bind,run_underlying hu w]
      cases d <;> simp_all
    simp [loadVar,Sem.run_bind,hagg,sizeOf,typeInfo,hq,hs,hl]
theorem wp_load_addr {op : Oper} {a : Act} {w : World} {K : Act → World → Prop} {Q : Exit → Act → World → Prop} (ty : TypeId) (x : Operand) (ho : op.op = .load ty x) (ad : Addr) (hx : a.eval x = .pointer (some ad)) (cs : List Value) (d : TypeDesc)
    (hc : ∀ j v,cs[j]? = some v → w.cell? (ad.add j) = some v) (hu : P.underlying ty = some d) (hd : d.isRow = true) (hi : (P.info? ty).map (·.size) = some cs.length) (h : K (a.put op.dst (.agg cs.toArray)) w) : op.wp P a w K Q := by
  unfold Oper.wp execOp
  simp only [ho,hx,Instr.loadAt,Instr.sureAddr,Sem.run_bind,Sem.run_pure,Result.andThen_ok,run_loadVar_addr w ad ty cs d hc hu hd hi]
  exact h
theorem wpList_load_addr {ops : Array Oper} {rest : List Oper} {op : Oper} {a : Act} {w : World} {Q : Exit → Act → World → Prop} (hgd : op.guard = none) (ty : TypeId) (x : Operand) (ho : op.op = .load ty x) (ad : Addr) (hx : a.eval x = .pointer (some ad)) (cs : List Value) (d : TypeDesc)
    (hc : ∀ j v,cs[j]? = some v → w.cell? (ad.add j) = some v) (hu : P.underlying ty = some d) (hd : d.isRow = true) (hi : (P.info? ty).map (·.size) = some cs.length) (h : wpList P ops Q rest (a.put op.dst (.agg cs.toArray)) w) : wpList P ops Q (op :: rest) a w :=
  wpList_plain hgd fun _ hK => wp_load_addr ty x ho ad hx cs d hc hu hd hi (hK _ _ h)
end
theorem axRow {w : World} {ad : Addr} {k : Nat} {x : Ax} (h : ∀ j u,x.cs[j]? = some u → w.cell? (ad.add (k * 24 + j)) = some u) : ∀ j u,x.cs[j]? = some u → w.cell? ((ad.add (k * 24)).add j) = some u := fun j u hu => by
  rw [add_plus]
  exact h j u hu
end Go.Proofs.YtggdomeeienjbaaDoor

/- Package script: Same. No condition but on sizes. -/
namespace Go.Proofs.YtggdomeeienjbaaDoor
open Go.ChangeShapes Go.WideShapes Go.ChangeAt Go.RowKit Go.Sort
set_option linter.unusedSimpArgs false
set_option linter.unusedVariables false
set_option maxRecDepth 100000 in
theorem same1_any (x y : Ax) (w : World) (hx : x.ok w) (hy : y.ok w) (r : Bool) (hr : decide (x.p = y.p) = r) :
    Calls Tryd.prog 21 #[.agg #[.int .i64 x.p.dk, .string (bs x.p.tx), .int .i64 x.p.D.op, .int .i64 x.p.D.kd, .int .i64 x.p.D.id, .int .i64 x.p.D.fr, .int .i64 x.p.D.tn, .int .i64 x.p.D.st, .int .i64 x.p.D.en, .int .i64 x.p.D.rt, .int .i64 x.p.D.rf, .int .i64 x.p.D.rn, .int .i64 x.p.D.rs, .int .i64 x.p.D.re, .int .i64 x.p.D.ro, .int .i64 x.p.n, .slice x.A x.k x.c, .int .i64 x.p.cl, .int .i64 x.p.sz, .int .i64 x.p.bf, .int .i64 x.p.bt, .int .i64 x.p.bs_, .int .i64 x.p.bc, .int .i64 x.p.bd], .agg #[.int .i64 y.p.dk, .string (bs y.p.tx), .int .i64 y.p.D.op, .int .i64 y.p.D.kd, .int .i64 y.p.D.id, .int .i64 y.p.D.fr, .int .i64 y.p.D.tn, .int .i64 y.p.D.st, .int .i64 y.p.D.en, .int .i64 y.p.D.rt, .int .i64 y.p.D.rf, .int .i64 y.p.D.rn, .int .i64 y.p.D.rs, .int .i64 y.p.D.re, .int .i64 y.p.D.ro, .int .i64 y.p.n, .slice y.A y.k y.c, .int .i64 y.p.cl, .int .i64 y.p.sz, .int .i64 y.p.bf, .int .i64 y.p.bt, .int .i64 y.p.bs_, .int .i64 y.p.bc, .int .i64 y.p.bd]] w fun e w' => e = .returned (.bool r) ∧ Below w.heap.size w w' := by
  obtain ⟨p,A,k,c⟩ := x
  obtain ⟨q,A',k',c'⟩ := y
  obtain ⟨a1,a2,a3⟩ := hx
  obtain ⟨b1,b2,b3⟩ := hy
  by_cases c0 : p.dk = q.dk
  case neg =>
    have hf : r = false := by rw [← hr,decide_eq_false_iff_not]; intro e; simp only at e; exact c0 (by rw [e])
    subst hf
    exact same1_0 p q A A' k c k' c' w a1 b1 a2 b2 a3 b3 c0
  case pos =>
    by_cases c1 : p.tx = q.tx
    case neg =>
      have hf : r = false := by rw [← hr,decide_eq_false_iff_not]; intro e; simp only at e; exact c1 (by rw [e])
      subst hf
      exact same1_1 p q A A' k c k' c' w a1 b1 a2 b2 a3 b3 c0 c1
    case pos =>
      by_cases c2 : p.D = q.D
      case neg =>
        have hf : r = false := by rw [← hr,decide_eq_false_iff_not]; intro e; simp only at e; exact c2 (by rw [e])
        subst hf
        exact same1_2 p q A A' k c k' c' w a1 b1 a2 b2 a3 b3 c0 c1 c2
      case pos =>
        by_cases c3 : p.n = q.n
        case neg =>
          have hf : r = false := by rw [← hr,decide_eq_false_iff_not]; intro e; simp only at e; exact c3 (by rw [e])
          subst hf
          exact same1_3 p q A A' k c k' c' w a1 b1 a2 b2 a3 b3 c0 c1 c2 c3
        case pos =>
          by_cases c4 : p.ids = q.ids
          case neg =>
            have hf : r = false := by rw [← hr,decide_eq_false_iff_not]; intro e; simp only at e; exact c4 (by rw [e])
            subst hf
            exact same1_4 p q A A' k c k' c' w a1 b1 a2 b2 a3 b3 c0 c1 c2 c3 c4
          case pos =>
            by_cases c5 : p.cl = q.cl
            case neg =>
              have hf : r = false := by rw [← hr,decide_eq_false_iff_not]; intro e; simp only at e; exact c5 (by rw [e])
              subst hf
              exact same1_5 p q A A' k c k' c' w a1 b1 a2 b2 a3 b3 c0 c1 c2 c3 c4 c5
            case pos =>
              by_cases c6 : p.sz = q.sz
              case neg =>
                have hf : r = false := by rw [← hr,decide_eq_false_iff_not]; intro e; simp only at e; exact c6 (by rw [e])
                subst hf
                exact same1_6 p q A A' k c k' c' w a1 b1 a2 b2 a3 b3 c0 c1 c2 c3 c4 c5 c6
              case pos =>
                by_cases c7 : eqB p q = true
                case neg =>
                  have hf : r = false := by rw [← hr,decide_eq_false_iff_not]; intro e; simp only at e; rw [e] at c7; exact c7 (by simp [eqB])
                  subst hf
                  exact same1_7 p q A A' k c k' c' w a1 b1 a2 b2 a3 b3 c0 c1 c2 c3 c4 c5 c6 c7
                have hf : r = true := by rw [← hr,decide_eq_true_eq]; exact Pa.ext_ c0 c1 c2 c3 c4 c5 c6 c7
                subst hf
                exact same1_8 p q A A' k c k' c' w a1 b1 a2 b2 a3 b3 c0 c1 c2 c3 c4 c5 c6 c7
theorem Lst.axAt {w : World} {B n : Nat} {A : Option Addr} {L : List Ax} (h : Lst w B 24 A n (flatAx L)) (hl : L.length = n) {k : Nat} (hk : k < n) : ∃ ad,A = some ad ∧ ad.block < B ∧ ∀ j u,(gAx L k).cs[j]? = some u → w.cell? (ad.add (k * 24 + j)) = some u := by
  obtain ⟨ad,e,hb,hc⟩ := h.at_ (by omega)
  refine ⟨ad,e,hb,fun j u hu => hc _ _ ?_⟩
  have hj : j < 24 := by
    have := (List.getElem?_eq_some_iff.1 hu).1
    simpa [Ax.cs_len] using this
  rw [flatAx_at L k j (by omega) hj]
  exact hu
theorem add_two (ad : Addr) (a j : Nat) (hj : j ≠ 0) : ad.add (a + j) = ⟨(ad.add a).block,(ad.add a).off + j,none⟩ := by
  unfold Addr.add
  rw [if_neg (by omega)]
  by_cases h : a = 0
  · subst h; simp
  · rw [if_neg h]; simp; omega
def AR (w : World) (L : List Ax) : Prop := ∀ x ∈ L,x.ok w
set_option maxHeartbeats 8000000 in
set_option maxRecDepth 100000 in
theorem equalAx (A A' : Option Addr) (n c n' c' : Nat) (l l' : List Ax) (w : World) (hl : l.length = n) (hl' : l'.length = n') (hn : n ≤ 1000000) (hn' : n' ≤ 1000000) (h : Sl w w.heap.size 24 A n c (flatAx l)) (h' : Sl w w.heap.size 24 A' n' c' (flatAx l')) (hok : ∀ x ∈ l,x.ok w) (hok' : ∀ x ∈ l',x.ok w) (b : Bool) (hb : decide (l.map Ax.p = l'.map Ax.p) = b) :
    Calls Tryd.prog 20 #[.slice A n c, .slice A' n' c', .func (.func 21) #[] #[]] w fun e w' => e = .returned (.bool b) ∧ Below w.heap.size w w' := by
  have HBB := Lib.hid hb
  have HOK := Lib.hid hok
  have HOK' := Lib.hid hok'
  have HL := Lib.hid hl
  have HL' := Lib.hid hl'
  have HS := Lib.hid h
  have HS' := Lib.hid h'
  clear hb hok hok' hl hl' h h'
  by_cases hne : n = n'
  · subst hne
    have hz : ((n : Int) != (n : Int)) = false := by simp
    go_enter Tryd.func20,Tryd.ntmps20
    go_wp2
    go_loopw [17] (fun i wr => ∃ k : Nat,k ≤ n ∧ i = .int .i64 k ∧ Hid (∀ j,j < k → (gAx l j).p = (gAx l' j).p) ∧ Below w.heap.size w wr) (fun i _ => n - (intOf i).toNat)
    case atStart => exact ⟨0,by omega,rfl,(fun j hj => by omega),Below.refl _ _⟩
    case round =>
      obtain ⟨k,hk,rfl,HQ,hB⟩ := hrel
      have hs := hB.size
      by_cases hkn : k < n
      · obtain ⟨ad,rfl,hab,hca⟩ := (HS.out.below hB).lst.axAt HL.out hkn
        obtain ⟨ad',rfl,hab',hcb⟩ := (HS'.out.below hB).lst.axAt HL'.out hkn
        have hxo := (HOK.out _ (gAx_mem (d := l) (i := k) (by have := HL.out; omega))).below hB
        have hyo := (HOK'.out _ (gAx_mem (d := l') (i := k) (by have := HL'.out; omega))).below hB
        obtain ⟨x,hx⟩ : ∃ x,gAx l k = x := ⟨_,rfl⟩
        obtain ⟨y,hy⟩ : ∃ y,gAx l' k = y := ⟨_,rfl⟩
        rw [hx] at hca hxo
        rw [hy] at hcb hyo
        have HX := Lib.hid hx
        have HY := Lib.hid hy
        clear hx hy
        have HXO := Lib.hid hxo
        have HYO := Lib.hid hyo
        have HCB := Lib.hid hcb
        clear hxo hyo hcb
        have hrow := axRow hca
        go_upto_region 6 with (first | (refine wpList_load_addr (by rfl) 36 (.tmp 20) (by rfl) (ad.add (k * 24)) (by rfl) x.cs _ hrow Tryd.underlying36 rfl (by kernel_rfl) ?_) | (refine wpList_store_row (by rfl) 36 (.tmp 8) (.tmp 21) (by rfl) wr.heap.size #[.int .i64 x.p.dk, .string (bs x.p.tx), .int .i64 x.p.D.op, .int .i64 x.p.D.kd, .int .i64 x.p.D.id, .int .i64 x.p.D.fr, .int .i64 x.p.D.tn, .int .i64 x.p.D.st, .int .i64 x.p.D.en, .int .i64 x.p.D.rt, .int .i64 x.p.D.rf, .int .i64 x.p.D.rn, .int .i64 x.p.D.rs, .int .i64 x.p.D.re, .int .i64 x.p.D.ro, .int .i64 x.p.n, .slice x.A x.k x.c, .int .i64 x.p.cl, .int .i64 x.p.sz, .int .i64 x.p.bf, .int .i64 x.p.bt, .int .i64 x.p.bs_, .int .i64 x.p.bc, .int .i64 x.p.bd] (by rfl) (by rfl) 36 #[.int .i64 0, .string ⟨#[]⟩, .int .i64 0, .int .i64 0, .int .i64 0, .int .i64 0, .int .i64 0, .int .i64 0, .int .i64 0, .int .i64 0, .int .i64 0, .int .i64 0, .int .i64 0, .int .i64 0, .int .i64 0, .int .i64 0, .slice none 0 0, .int .i64 0, .int .i64 0, .int .i64 0, .int .i64 0, .int .i64 0, .int .i64 0, .int .i64 0] (heap_alloc_new _ _) (by kernel_rfl) rfl (by simp [Value.oneCell']) ?_; rw [World.setRow_alloc_new]))
        clear hrow
        have hX := Blok.new wr 36 #[.int .i64 x.p.dk, .string (bs x.p.tx), .int .i64 x.p.D.op, .int .i64 x.p.D.kd, .int .i64 x.p.D.id, .int .i64 x.p.D.fr, .int .i64 x.p.D.tn, .int .i64 x.p.D.st, .int .i64 x.p.D.en, .int .i64 x.p.D.rt, .int .i64 x.p.D.rf, .int .i64 x.p.D.rn, .int .i64 x.p.D.rs, .int .i64 x.p.D.re, .int .i64 x.p.D.ro, .int .i64 x.p.n, .slice x.A x.k x.c, .int .i64 x.p.cl, .int .i64 x.p.sz, .int .i64 x.p.bf, .int .i64 x.p.bt, .int .i64 x.p.bs_, .int .i64 x.p.bc, .int .i64 x.p.bd]
        have hb1 : Below wr.heap.size wr (wr.alloc (.cells #[.int .i64 x.p.dk, .string (bs x.p.tx), .int .i64 x.p.D.op, .int .i64 x.p.D.kd, .int .i64 x.p.D.id, .int .i64 x.p.D.fr, .int .i64 x.p.D.tn, .int .i64 x.p.D.st, .int .i64 x.p.D.en, .int .i64 x.p.D.rt, .int .i64 x.p.D.rf, .int .i64 x.p.D.rn, .int .i64 x.p.D.rs, .int .i64 x.p.D.re, .int .i64 x.p.D.ro, .int .i64 x.p.n, .slice x.A x.k x.c, .int .i64 x.p.cl, .int .i64 x.p.sz, .int .i64 x.p.bf, .int .i64 x.p.bt, .int .i64 x.p.bs_, .int .i64 x.p.bc, .int .i64 x.p.bd] 36)) := by (repeat (first | exact Below.refl _ _ | refine Below.alloc ?_ (by first | omega | (simp; done) | (simp; omega)) _ | refine Below.setCell ?_ (by first | omega | (simp; done) | (simp; omega)) _ | refine Below.drew ?_))
        have hcb : ∀ j u,y.cs[j]? = some u → (wr.alloc (.cells #[.int .i64 x.p.dk, .string (bs x.p.tx), .int .i64 x.p.D.op, .int .i64 x.p.D.kd, .int .i64 x.p.D.id, .int .i64 x.p.D.fr, .int .i64 x.p.D.tn, .int .i64 x.p.D.st, .int .i64 x.p.D.en, .int .i64 x.p.D.rt, .int .i64 x.p.D.rf, .int .i64 x.p.D.rn, .int .i64 x.p.D.rs, .int .i64 x.p.D.re, .int .i64 x.p.D.ro, .int .i64 x.p.n, .slice x.A x.k x.c, .int .i64 x.p.cl, .int .i64 x.p.sz, .int .i64 x.p.bf, .int .i64 x.p.bt, .int .i64 x.p.bs_, .int .i64 x.p.bc, .int .i64 x.p.bd] 36)).cell? (ad'.add (k * 24 + j)) = some u := fun j u hu => (hb1.cell (by rw [add_block]; omega)).trans (HCB.out j u hu)
        replace HXO := Lib.hid (HXO.out.below hb1)
        replace HYO := Lib.hid (HYO.out.below hb1)
        have hB1 := hB.trans (hb1.mono hs)
        have hs1 := hB1.size
        clear hb1 HCB hca
        generalize wr.alloc (.cells #[.int .i64 x.p.dk, .string (bs x.p.tx), .int .i64 x.p.D.op, .int .i64 x.p.D.kd, .int .i64 x.p.D.id, .int .i64 x.p.D.fr, .int .i64 x.p.D.tn, .int .i64 x.p.D.st, .int .i64 x.p.D.en, .int .i64 x.p.D.rt, .int .i64 x.p.D.rf, .int .i64 x.p.D.rn, .int .i64 x.p.D.rs, .int .i64 x.p.D.re, .int .i64 x.p.D.ro, .int .i64 x.p.n, .slice x.A x.k x.c, .int .i64 x.p.cl, .int .i64 x.p.sz, .int .i64 x.p.bf, .int .i64 x.p.bt, .int .i64 x.p.bs_, .int .i64 x.p.bc, .int .i64 x.p.bd] 36) = w1 at *
        generalize wr.heap.size = bx at *
        have hrow := axRow hcb
        go_upto_region 7 with (first | (refine wpList_load_addr (by rfl) 36 (.tmp 24) (by rfl) (ad'.add (k * 24)) (by rfl) y.cs _ hrow Tryd.underlying36 rfl (by kernel_rfl) ?_) | (refine wpList_store_row (by rfl) 36 (.tmp 9) (.tmp 25) (by rfl) w1.heap.size #[.int .i64 y.p.dk, .string (bs y.p.tx), .int .i64 y.p.D.op, .int .i64 y.p.D.kd, .int .i64 y.p.D.id, .int .i64 y.p.D.fr, .int .i64 y.p.D.tn, .int .i64 y.p.D.st, .int .i64 y.p.D.en, .int .i64 y.p.D.rt, .int .i64 y.p.D.rf, .int .i64 y.p.D.rn, .int .i64 y.p.D.rs, .int .i64 y.p.D.re, .int .i64 y.p.D.ro, .int .i64 y.p.n, .slice y.A y.k y.c, .int .i64 y.p.cl, .int .i64 y.p.sz, .int .i64 y.p.bf, .int .i64 y.p.bt, .int .i64 y.p.bs_, .int .i64 y.p.bc, .int .i64 y.p.bd] (by rfl) (by rfl) 36 #[.int .i64 0, .string ⟨#[]⟩, .int .i64 0, .int .i64 0, .int .i64 0, .int .i64 0, .int .i64 0, .int .i64 0, .int .i64 0, .int .i64 0, .int .i64 0, .int .i64 0, .int .i64 0, .int .i64 0, .int .i64 0, .int .i64 0, .slice none 0 0, .int .i64 0, .int .i64 0, .int .i64 0, .int .i64 0, .int .i64 0, .int .i64 0, .int .i64 0] (heap_alloc_new _ _) (by kernel_rfl) rfl (by simp [Value.oneCell']) ?_; rw [World.setRow_alloc_new]))
        clear hcb hrow
        have hY := Blok.new w1 36 #[.int .i64 y.p.dk, .string (bs y.p.tx), .int .i64 y.p.D.op, .int .i64 y.p.D.kd, .int .i64 y.p.D.id, .int .i64 y.p.D.fr, .int .i64 y.p.D.tn, .int .i64 y.p.D.st, .int .i64 y.p.D.en, .int .i64 y.p.D.rt, .int .i64 y.p.D.rf, .int .i64 y.p.D.rn, .int .i64 y.p.D.rs, .int .i64 y.p.D.re, .int .i64 y.p.D.ro, .int .i64 y.p.n, .slice y.A y.k y.c, .int .i64 y.p.cl, .int .i64 y.p.sz, .int .i64 y.p.bf, .int .i64 y.p.bt, .int .i64 y.p.bs_, .int .i64 y.p.bc, .int .i64 y.p.bd]
        have hb1 : Below w1.heap.size w1 (w1.alloc (.cells #[.int .i64 y.p.dk, .string (bs y.p.tx), .int .i64 y.p.D.op, .int .i64 y.p.D.kd, .int .i64 y.p.D.id, .int .i64 y.p.D.fr, .int .i64 y.p.D.tn, .int .i64 y.p.D.st, .int .i64 y.p.D.en, .int .i64 y.p.D.rt, .int .i64 y.p.D.rf, .int .i64 y.p.D.rn, .int .i64 y.p.D.rs, .int .i64 y.p.D.re, .int .i64 y.p.D.ro, .int .i64 y.p.n, .slice y.A y.k y.c, .int .i64 y.p.cl, .int .i64 y.p.sz, .int .i64 y.p.bf, .int .i64 y.p.bt, .int .i64 y.p.bs_, .int .i64 y.p.bc, .int .i64 y.p.bd] 36)) := by (repeat (first | exact Below.refl _ _ | refine Below.alloc ?_ (by first | omega | (simp; done) | (simp; omega)) _ | refine Below.setCell ?_ (by first | omega | (simp; done) | (simp; omega)) _ | refine Below.drew ?_))
        replace hX := hX.below hb1 hX.lt
        replace HXO := Lib.hid (HXO.out.below hb1)
        replace HYO := Lib.hid (HYO.out.below hb1)
        have hB2 := hB1.trans (hb1.mono hs1)
        have hs2 := hB2.size
        clear hb1 hB1 hs1
        generalize w1.alloc (.cells #[.int .i64 y.p.dk, .string (bs y.p.tx), .int .i64 y.p.D.op, .int .i64 y.p.D.kd, .int .i64 y.p.D.id, .int .i64 y.p.D.fr, .int .i64 y.p.D.tn, .int .i64 y.p.D.st, .int .i64 y.p.D.en, .int .i64 y.p.D.rt, .int .i64 y.p.D.rf, .int .i64 y.p.D.rn, .int .i64 y.p.D.rs, .int .i64 y.p.D.re, .int .i64 y.p.D.ro, .int .i64 y.p.n, .slice y.A y.k y.c, .int .i64 y.p.cl, .int .i64 y.p.sz, .int .i64 y.p.bf, .int .i64 y.p.bt, .int .i64 y.p.bs_, .int .i64 y.p.bc, .int .i64 y.p.bd] 36) = w2 at *
        generalize w1.heap.size = by_ at *
        obtain ⟨r,hr⟩ : ∃ r,decide (x.p = y.p) = r := ⟨_,rfl⟩
        have HR := Lib.hid hr
        clear hr
        go_wp2_with (first | (refine wpList_load_row (by rfl) 36 (.tmp 8) (by rfl) bx (by rfl) 36 #[.int .i64 x.p.dk, .string (bs x.p.tx), .int .i64 x.p.D.op, .int .i64 x.p.D.kd, .int .i64 x.p.D.id, .int .i64 x.p.D.fr, .int .i64 x.p.D.tn, .int .i64 x.p.D.st, .int .i64 x.p.D.en, .int .i64 x.p.D.rt, .int .i64 x.p.D.rf, .int .i64 x.p.D.rn, .int .i64 x.p.D.rs, .int .i64 x.p.D.re, .int .i64 x.p.D.ro, .int .i64 x.p.n, .slice x.A x.k x.c, .int .i64 x.p.cl, .int .i64 x.p.sz, .int .i64 x.p.bf, .int .i64 x.p.bt, .int .i64 x.p.bs_, .int .i64 x.p.bc, .int .i64 x.p.bd] (0,0) _ hX Tryd.underlying36 rfl (by kernel_rfl) ?_) | (refine wpList_load_row (by rfl) 36 (.tmp 9) (by rfl) by_ (by rfl) 36 #[.int .i64 y.p.dk, .string (bs y.p.tx), .int .i64 y.p.D.op, .int .i64 y.p.D.kd, .int .i64 y.p.D.id, .int .i64 y.p.D.fr, .int .i64 y.p.D.tn, .int .i64 y.p.D.st, .int .i64 y.p.D.en, .int .i64 y.p.D.rt, .int .i64 y.p.D.rf, .int .i64 y.p.D.rn, .int .i64 y.p.D.rs, .int .i64 y.p.D.re, .int .i64 y.p.D.ro, .int .i64 y.p.n, .slice y.A y.k y.c, .int .i64 y.p.cl, .int .i64 y.p.sz, .int .i64 y.p.bf, .int .i64 y.p.bt, .int .i64 y.p.bs_, .int .i64 y.p.bc, .int .i64 y.p.bd] (0,0) _ hY Tryd.underlying36 rfl (by kernel_rfl) ?_))
        refine (same1_any x y w2 HXO.out HYO.out r HR.out).mono ?_
        rintro e w4 ⟨rfl,hb4⟩
        have hB4 : Below w.heap.size w w4 := hB2.trans (hb4.mono hs2)
        clear hb4 hX hY hB2 hs2 HXO HYO
        cases r
        · have HF : Hid (b = false) := by
            show b = false
            rw [← HBB.out]
            simp only [decide_eq_false_iff_not]
            intro e
            have h1 : (gAx l k).p = (gAx l' k).p := by
              have h2 : (l.map Ax.p)[k]? = (l'.map Ax.p)[k]? := by rw [e]
              rw [List.getElem?_map,List.getElem?_map,List.getElem?_eq_getElem (by have := HL.out; omega),List.getElem?_eq_getElem (by have := HL'.out; omega)] at h2
              unfold gAx
              rw [List.getD_eq_getElem?_getD,List.getD_eq_getElem?_getD,List.getElem?_eq_getElem (by have := HL.out; omega),List.getElem?_eq_getElem (by have := HL'.out; omega)]
              simpa using h2
            rw [HX.out,HY.out] at h1
            have h3 := HR.out
            rw [h1] at h3
            simp at h3
          go_wp2
          go_ret
          exact ⟨by rw [HF.out]; rfl,hB4⟩
        · have hq : ∀ j,j < k + 1 → (gAx l j).p = (gAx l' j).p := by
            intro j hj
            by_cases e : j = k
            · subst e
              rw [HX.out,HY.out]
              exact of_decide_eq_true HR.out
            · exact HQ.out j (by omega)
          have HQ2 := Lib.hid hq
          clear hq
          go_wp2
          go_roundw
          case rel => exact ⟨k + 1,by omega,by go_num,HQ2,hB4⟩
          case measure => simp [intOf]; omega
      · obtain rfl : k = n := by omega
        have HF : Hid (b = true) := by
          show b = true
          rw [← HBB.out]
          simp only [decide_eq_true_eq]
          refine List.ext_getElem (by simp; rw [HL.out,HL'.out]) fun j h1 h2 => ?_
          have h3 := HQ.out j (by simp [HL.out] at h1; exact h1)
          simp only [List.length_map] at h1 h2
          unfold gAx at h3
          rw [List.getD_eq_getElem?_getD,List.getD_eq_getElem?_getD,List.getElem?_eq_getElem h1,List.getElem?_eq_getElem h2] at h3
          simpa using h3
        go_wp2
        go_ret
        exact ⟨by rw [HF.out]; rfl,hB⟩
  · have hz : ((n : Int) != (n' : Int)) = true := by rw [bne_iff_ne]; omega
    have HF : Hid (b = false) := by
      show b = false
      rw [← HBB.out]
      simp only [decide_eq_false_iff_not]
      intro e
      have := congrArg List.length e
      simp [HL.out,HL'.out] at this
      exact hne this
    go_enter Tryd.func20,Tryd.ntmps20
    go_wp2
    go_ret
    exact ⟨by rw [HF.out]; rfl,Below.refl _ _⟩
set_option maxRecDepth 100000 in
theorem ssame_any (A A' : Option Addr) (n c n' c' : Nat) (l l' : List Ax) (w : World) (hl : l.length = n) (hl' : l'.length = n') (hn : n ≤ 1000000) (hn' : n' ≤ 1000000) (h : Sl w w.heap.size 24 A n c (flatAx l)) (h' : Sl w w.heap.size 24 A' n' c' (flatAx l')) (hok : ∀ x ∈ l,x.ok w) (hok' : ∀ x ∈ l',x.ok w) (b : Bool) (hb : decide (l.map Ax.p = l'.map Ax.p) = b) :
    Calls Tryd.prog 12 #[.slice A n c, .slice A' n' c'] w fun e w' => e = .returned (.bool b) ∧ Below w.heap.size w w' := by
  have HE := Lib.hid (equalAx A A' n c n' c' l l' w hl hl' hn hn' h h' hok hok' b hb)
  clear hl hl' h h' hok hok' hb
  go_enter Tryd.func12,Tryd.ntmps12
  go_wp2_with fail
  refine HE.out.mono ?_
  rintro e w4 ⟨rfl,hb4⟩
  go_wp2_with fail
  go_ret
  exact ⟨rfl,hb4⟩
end Go.Proofs.YtggdomeeienjbaaDoor

/- Package script: Count. No condition but on sizes. -/
namespace Go.Proofs.YtggdomeeienjbaaDoor
open Go.ChangeShapes Go.WideShapes Go.ChangeAt Go.RowKit Go.Sort
set_option linter.unusedSimpArgs false
set_option linter.unusedVariables false
def cntF (l : List Ax) (d : Int) : Nat := (l.filter fun x => x.p.dk == d).length
theorem Lst.axAt8 {w : World} {B n : Nat} {A : Option Addr} {L : List Ax} (h : Lst w B 24 A n (flatAx L)) (hl : L.length = n) {k : Nat} (hk : k < n) : ∃ ad,A = some ad ∧ ad.block < B ∧ ∀ j u,(gAx L k).cs[j]? = some u → w.cell? (ad.add (k * 24 + j)) = some u := by
  obtain ⟨ad,e,hb,hc⟩ := h.at_ (by omega)
  refine ⟨ad,e,hb,fun j u hu => hc _ _ ?_⟩
  have hj : j < 24 := by
    have := (List.getElem?_eq_some_iff.1 hu).1
    simpa [Ax.cs_len] using this
  rw [flatAx_at L k j (by omega) hj]
  exact hu
theorem add_two8 (ad : Addr) (a j : Nat) (hj : j ≠ 0) : ad.add (a + j) = ⟨(ad.add a).block,(ad.add a).off + j,none⟩ := by
  unfold Addr.add
  rw [if_neg (by omega)]
  by_cases h : a = 0
  · subst h; simp
  · rw [if_neg h]; simp; omega
theorem cntF_le (l : List Ax) (d : Int) : cntF l d ≤ l.length := List.length_filter_le _ _
theorem cntF_next (l : List Ax) (d : Int) {k : Nat} (h : k < l.length) : cntF (l.take (k + 1)) d = cntF (l.take k) d + (if (gAx l k).p.dk == d then 1 else 0) := by
  have e : l.take (k + 1) = l.take k ++ [gAx l k] := by
    rw [List.take_succ_eq_append_getElem h]
    unfold gAx
    rw [List.getD_eq_getElem?_getD,List.getElem?_eq_getElem h]
    rfl
  unfold cntF
  rw [e,List.filter_append,List.length_append]
  congr 1
  by_cases hd : ((gAx l k).p.dk == d) = true
  · simp [List.filter,hd]
  · simp [List.filter,Bool.eq_false_iff.2 hd]
set_option maxHeartbeats 8000000 in
set_option maxRecDepth 100000 in
theorem scount_any (A : Option Addr) (n c : Nat) (l : List Ax) (d : Int) (w : World) (hl : l.length = n) (hn : n ≤ 1000000) (h : Sl w w.heap.size 24 A n c (flatAx l)) :
    Calls Tryd.prog 13 #[.slice A n c, .int .i64 d] w fun e w' => e = .returned (.int .i64 (cntF l d : Nat)) ∧ Below w.heap.size w w' := by
  have HL := Lib.hid hl
  have HS := Lib.hid h
  have HN := Lib.hid hn
  clear hl h hn
  go_enter Tryd.func13,Tryd.ntmps13
  go_wp2
  go_loopw [5,10] (fun nv iv wr => ∃ k m : Nat,iv = .int .i64 k ∧ k ≤ n ∧ nv = .int .i64 m ∧ Hid (m = cntF (l.take k) d) ∧ m ≤ k ∧ Below w.heap.size w wr) (fun _ iv _ => n - (intOf iv).toNat)
  case atStart => exact ⟨0,0,rfl,by omega,rfl,by simp [Hid,cntF],by omega,Below.refl _ _⟩
  case round =>
    obtain ⟨k,m,rfl,hk,rfl,HM,hmk,hB⟩ := hrel
    have hs := hB.size
    by_cases hkn : k < n
    · obtain ⟨ad,rfl,hab,hca⟩ := (HS.out.below hB).lst.axAt8 HL.out hkn
      have hnx := cntF_next l d (k := k) (by rw [HL.out]; exact hkn)
      obtain ⟨x,hx⟩ : ∃ x,gAx l k = x := ⟨_,rfl⟩
      rw [hx] at hca hnx
      have HNX := Lib.hid hnx
      clear hx hnx
      have hn9 := HN.out
      have hw1 : IntKind.i64.wrap ((m : Int) + 1) = (m : Int) + 1 := IntWalk.i64_in _ (by omega)
      have hrow := axRow hca
      clear hca
      go_upto_region 5 with (first | (refine wpList_load_addr (by rfl) 36 (.tmp 12) (by rfl) (ad.add (k * 24)) (by rfl) x.cs _ hrow Tryd.underlying36 rfl (by kernel_rfl) ?_) | (refine wpList_store_row (by rfl) 36 (.tmp 7) (.tmp 13) (by rfl) wr.heap.size #[.int .i64 x.p.dk, .string (bs x.p.tx), .int .i64 x.p.D.op, .int .i64 x.p.D.kd, .int .i64 x.p.D.id, .int .i64 x.p.D.fr, .int .i64 x.p.D.tn, .int .i64 x.p.D.st, .int .i64 x.p.D.en, .int .i64 x.p.D.rt, .int .i64 x.p.D.rf, .int .i64 x.p.D.rn, .int .i64 x.p.D.rs, .int .i64 x.p.D.re, .int .i64 x.p.D.ro, .int .i64 x.p.n, .slice x.A x.k x.c, .int .i64 x.p.cl, .int .i64 x.p.sz, .int .i64 x.p.bf, .int .i64 x.p.bt, .int .i64 x.p.bs_, .int .i64 x.p.bc, .int .i64 x.p.bd] (by rfl) (by rfl) 36 #[.int .i64 0, .string ⟨#[]⟩, .int .i64 0, .int .i64 0, .int .i64 0, .int .i64 0, .int .i64 0, .int .i64 0, .int .i64 0, .int .i64 0, .int .i64 0, .int .i64 0, .int .i64 0, .int .i64 0, .int .i64 0, .int .i64 0, .slice none 0 0, .int .i64 0, .int .i64 0, .int .i64 0, .int .i64 0, .int .i64 0, .int .i64 0, .int .i64 0] (heap_alloc_new _ _) (by kernel_rfl) rfl (by simp [Value.oneCell']) ?_; rw [World.setRow_alloc_new]))
      clear hrow
      have hX := Blok.new wr 36 #[.int .i64 x.p.dk, .string (bs x.p.tx), .int .i64 x.p.D.op, .int .i64 x.p.D.kd, .int .i64 x.p.D.id, .int .i64 x.p.D.fr, .int .i64 x.p.D.tn, .int .i64 x.p.D.st, .int .i64 x.p.D.en, .int .i64 x.p.D.rt, .int .i64 x.p.D.rf, .int .i64 x.p.D.rn, .int .i64 x.p.D.rs, .int .i64 x.p.D.re, .int .i64 x.p.D.ro, .int .i64 x.p.n, .slice x.A x.k x.c, .int .i64 x.p.cl, .int .i64 x.p.sz, .int .i64 x.p.bf, .int .i64 x.p.bt, .int .i64 x.p.bs_, .int .i64 x.p.bc, .int .i64 x.p.bd]
      have hb1 : Below wr.heap.size wr (wr.alloc (.cells #[.int .i64 x.p.dk, .string (bs x.p.tx), .int .i64 x.p.D.op, .int .i64 x.p.D.kd, .int .i64 x.p.D.id, .int .i64 x.p.D.fr, .int .i64 x.p.D.tn, .int .i64 x.p.D.st, .int .i64 x.p.D.en, .int .i64 x.p.D.rt, .int .i64 x.p.D.rf, .int .i64 x.p.D.rn, .int .i64 x.p.D.rs, .int .i64 x.p.D.re, .int .i64 x.p.D.ro, .int .i64 x.p.n, .slice x.A x.k x.c, .int .i64 x.p.cl, .int .i64 x.p.sz, .int .i64 x.p.bf, .int .i64 x.p.bt, .int .i64 x.p.bs_, .int .i64 x.p.bc, .int .i64 x.p.bd] 36)) := by (repeat (first | exact Below.refl _ _ | refine Below.alloc ?_ (by first | omega | (simp; done) | (simp; omega)) _ | refine Below.setCell ?_ (by first | omega | (simp; done) | (simp; omega)) _ | refine Below.drew ?_))
      have hB1 := hB.trans (hb1.mono hs)
      clear hb1 hB hs
      generalize wr.alloc (.cells #[.int .i64 x.p.dk, .string (bs x.p.tx), .int .i64 x.p.D.op, .int .i64 x.p.D.kd, .int .i64 x.p.D.id, .int .i64 x.p.D.fr, .int .i64 x.p.D.tn, .int .i64 x.p.D.st, .int .i64 x.p.D.en, .int .i64 x.p.D.rt, .int .i64 x.p.D.rf, .int .i64 x.p.D.rn, .int .i64 x.p.D.rs, .int .i64 x.p.D.re, .int .i64 x.p.D.ro, .int .i64 x.p.n, .slice x.A x.k x.c, .int .i64 x.p.cl, .int .i64 x.p.sz, .int .i64 x.p.bf, .int .i64 x.p.bt, .int .i64 x.p.bs_, .int .i64 x.p.bc, .int .i64 x.p.bd] 36) = w1 at *
      generalize wr.heap.size = bx at *
      have x0 : w1.cell? ⟨bx,0,none⟩ = some (.int .i64 x.p.dk) := hX.cell 0
      have lt_x := hX.lt
      by_cases hd : (x.p.dk == d) = true
      · have hm2 : Hid (m + 1 = cntF (l.take (k + 1)) d) := by show m + 1 = _; rw [HNX.out,← HM.out,if_pos hd]
        go_wp2
        go_roundw
        case rel => exact ⟨k + 1,m + 1,by go_num,by omega,by go_num,hm2,by omega,hB1⟩
        case measure => simp [intOf]; omega
      · have hd' : (x.p.dk == d) = false := Bool.eq_false_iff.2 hd
        have hm2 : Hid (m = cntF (l.take (k + 1)) d) := by show m = _; rw [HNX.out,← HM.out,if_neg hd]; rfl
        clear hd
        go_wp2
        go_roundw
        case rel => exact ⟨k + 1,m,by go_num,by omega,rfl,hm2,by omega,hB1⟩
        case measure => simp [intOf]; omega
    · obtain rfl : k = n := by omega
      have hm2 : Hid (m = cntF l d) := by
        show m = cntF l d
        have h := HM.out
        rw [List.take_of_length_le (by rw [HL.out]; exact Nat.le_refl _)] at h
        exact h
      go_wp2
      go_ret
      exact ⟨by rw [← hm2.out]; rfl,hB⟩
end Go.Proofs.YtggdomeeienjbaaDoor
