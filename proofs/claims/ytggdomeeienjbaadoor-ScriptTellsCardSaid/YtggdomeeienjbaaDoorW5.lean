/- Contracts and plain facts, several texts of mine in one: R25q4, R25q5, R25q6, R25a, R25d. No condition. -/
import Derived.Test.YtggdomeeienjbaaDoorW4

/- The document's own answer for scripts: act, kind 4. No condition but that bytes are bytes. -/
namespace Go.Proofs.YtggdomeeienjbaaDoor
open Go.ChangeShapes Go.WideShapes Go.ChangeAt Go.RowKit Go.Sort
set_option linter.unusedSimpArgs false
set_option linter.unusedVariables false
set_option maxHeartbeats 16000000 in
set_option maxRecDepth 100000 in
theorem r25act_4 (b0 b1 b2 b3 b4 b5 b6 b7 b8 b9:Nat) (w:World) (ht:TenTab w) (h0:b0 < 256) (h1:b1 < 256) (h2:b2 < 256) (h3:b3 < 256) (h4:b4 < 256) (h5:b5 < 256) (h6:b6 < 256) (h7:b7 < 256) (h8:b8 < 256) (h9:b9 < 256) (P:Pa) (hq:b0 % 7 = 4) (hP:(⟨5,[],zeroDr,0,idsF b1 b2 b3,(b4 % 4:Nat),(b5:Nat),0,0,0,0,0⟩:Pa) = P) :
    Calls Tryd.prog 17 #[.agg #[.int .u8 (b0:Nat),.int .u8 (b1:Nat),.int .u8 (b2:Nat),.int .u8 (b3:Nat),.int .u8 (b4:Nat),.int .u8 (b5:Nat),.int .u8 (b6:Nat),.int .u8 (b7:Nat),.int .u8 (b8:Nat),.int .u8 (b9:Nat)]] w fun e w' => ∃ v,e = .returned v ∧ AV w.heap.size w' v P ∧ Below w.heap.size w w':=by
  have tq0:(b0:Int).tmod 7 = 4:=tmod_is _ 7 _ _ rfl hq
  obtain ⟨q4,eq4⟩:∃ q,b4 % 4 = q:=⟨_,rfl⟩
  have lq4:q4 < 4:=by rw [← eq4]; exact Nat.mod_lt _ (by omega)
  have tq4:(b4:Int).tmod 4 = (q4:Int):=tmod_is _ 4 _ _ rfl eq4
  have xq4:IntKind.i64.wrap (q4:Int) = (q4:Int):=IntWalk.i64_in _ (by omega)
  have wq4:IntKind.i64.wrap (1 + (q4:Int)) = 1 + (q4:Int):=IntWalk.i64_in _ (by omega)
  rw [eq4] at hP
  obtain ⟨q1,eq1⟩:∃ q,b1 % 16 = q:=⟨_,rfl⟩
  have lq1:q1 < 16:=by rw [← eq1]; exact Nat.mod_lt _ (by omega)
  have tq1:(b1:Int).tmod 16 = (q1:Int):=tmod_is _ 16 _ _ rfl eq1
  have xq1:IntKind.i64.wrap (q1:Int) = (q1:Int):=IntWalk.i64_in _ (by omega)
  have wq1:IntKind.i64.wrap (1 + (q1:Int)) = 1 + (q1:Int):=IntWalk.i64_in _ (by omega)
  obtain ⟨q3,eq3⟩:∃ q,b3 % 16 = q:=⟨_,rfl⟩
  have lq3:q3 < 16:=by rw [← eq3]; exact Nat.mod_lt _ (by omega)
  have tq3:(b3:Int).tmod 16 = (q3:Int):=tmod_is _ 16 _ _ rfl eq3
  have xq3:IntKind.i64.wrap (q3:Int) = (q3:Int):=IntWalk.i64_in _ (by omega)
  have wq3:IntKind.i64.wrap (1 + (q3:Int)) = 1 + (q3:Int):=IntWalk.i64_in _ (by omega)
  have vb0:IntKind.i64.wrap (b0:Int) = (b0:Int):=IntWalk.i64_in _ (by omega)
  have vb1:IntKind.i64.wrap (b1:Int) = (b1:Int):=IntWalk.i64_in _ (by omega)
  have vb2:IntKind.i64.wrap (b2:Int) = (b2:Int):=IntWalk.i64_in _ (by omega)
  have vb3:IntKind.i64.wrap (b3:Int) = (b3:Int):=IntWalk.i64_in _ (by omega)
  have vb4:IntKind.i64.wrap (b4:Int) = (b4:Int):=IntWalk.i64_in _ (by omega)
  have vb5:IntKind.i64.wrap (b5:Int) = (b5:Int):=IntWalk.i64_in _ (by omega)
  have v45:IntKind.i64.wrap (4 * (b5:Int)) = 4 * (b5:Int):=IntWalk.i64_in _ (by omega)
  obtain ⟨L,eL⟩:∃ L,idsF b1 b2 b3 = L:=⟨_,rfl⟩
  rw [eL] at hP
  have HL:=Lib.hid (show L = if b2 % 2 = 1 then [(1 + (q1:Int)),(1 + (q3:Int))] else [(1 + (q1:Int))] by rw [← eL,← eq1,← eq3]; unfold idsF; simp)
  clear eL
  obtain ⟨i0,hi0,hz0,hz1,hz2⟩:=info_parts infoI04
  have HP:=Lib.hid hP
  have TT:=Lib.hid ht
  have H0:=Lib.hid h0
  have H1:=Lib.hid h1
  have H2:=Lib.hid h2
  have H3:=Lib.hid h3
  have H4:=Lib.hid h4
  have H5:=Lib.hid h5
  have H6:=Lib.hid h6
  have H7:=Lib.hid h7
  have H8:=Lib.hid h8
  have H9:=Lib.hid h9
  clear hP ht hq eq4 lq4 eq1 lq1 eq3 lq3 h0 h1 h2 h3 h4 h5 h6 h7 h8 h9
  have hB:Below w.heap.size w ((w.alloc (.cells #[.int .u8 (b0:Nat),.int .u8 (b1:Nat),.int .u8 (b2:Nat),.int .u8 (b3:Nat),.int .u8 (b4:Nat),.int .u8 (b5:Nat),.int .u8 (b6:Nat),.int .u8 (b7:Nat),.int .u8 (b8:Nat),.int .u8 (b9:Nat)] 23)).alloc (.cells #[.int .i64 0,.string ⟨#[]⟩,.int .i64 0,.int .i64 0,.int .i64 0,.int .i64 0,.int .i64 0,.int .i64 0,.int .i64 0,.int .i64 0,.int .i64 0,.int .i64 0,.int .i64 0,.int .i64 0,.int .i64 0,.int .i64 0,.slice none 0 0,.int .i64 0,.int .i64 0,.int .i64 0,.int .i64 0,.int .i64 0,.int .i64 0,.int .i64 0] 36)):=by (repeat (first | exact Below.refl _ _ | refine Below.alloc ?_ (by first | omega | (simp; done) | (simp; omega)) _ | refine Below.setCell ?_ (by first | omega | (simp; done) | (simp; omega)) _ | refine Below.drew ?_))
  have hX:=(Blok.new w 23 #[.int .u8 (b0:Nat),.int .u8 (b1:Nat),.int .u8 (b2:Nat),.int .u8 (b3:Nat),.int .u8 (b4:Nat),.int .u8 (b5:Nat),.int .u8 (b6:Nat),.int .u8 (b7:Nat),.int .u8 (b8:Nat),.int .u8 (b9:Nat)]).alloc (.cells #[.int .i64 0,.string ⟨#[]⟩,.int .i64 0,.int .i64 0,.int .i64 0,.int .i64 0,.int .i64 0,.int .i64 0,.int .i64 0,.int .i64 0,.int .i64 0,.int .i64 0,.int .i64 0,.int .i64 0,.int .i64 0,.int .i64 0,.slice none 0 0,.int .i64 0,.int .i64 0,.int .i64 0,.int .i64 0,.int .i64 0,.int .i64 0,.int .i64 0] 36)
  have hR:=Blok.new (w.alloc (.cells #[.int .u8 (b0:Nat),.int .u8 (b1:Nat),.int .u8 (b2:Nat),.int .u8 (b3:Nat),.int .u8 (b4:Nat),.int .u8 (b5:Nat),.int .u8 (b6:Nat),.int .u8 (b7:Nat),.int .u8 (b8:Nat),.int .u8 (b9:Nat)] 23)) 36 #[.int .i64 0,.string ⟨#[]⟩,.int .i64 0,.int .i64 0,.int .i64 0,.int .i64 0,.int .i64 0,.int .i64 0,.int .i64 0,.int .i64 0,.int .i64 0,.int .i64 0,.int .i64 0,.int .i64 0,.int .i64 0,.int .i64 0,.slice none 0 0,.int .i64 0,.int .i64 0,.int .i64 0,.int .i64 0,.int .i64 0,.int .i64 0,.int .i64 0]
  rw [World.size_alloc] at hR
  have hs:=hB.size
  go_enter Tryd.func17,Tryd.ntmps17
  go_upto_region 1 with fail
  generalize ((w.alloc (.cells #[.int .u8 (b0:Nat),.int .u8 (b1:Nat),.int .u8 (b2:Nat),.int .u8 (b3:Nat),.int .u8 (b4:Nat),.int .u8 (b5:Nat),.int .u8 (b6:Nat),.int .u8 (b7:Nat),.int .u8 (b8:Nat),.int .u8 (b9:Nat)] 23)).alloc (.cells #[.int .i64 0,.string ⟨#[]⟩,.int .i64 0,.int .i64 0,.int .i64 0,.int .i64 0,.int .i64 0,.int .i64 0,.int .i64 0,.int .i64 0,.int .i64 0,.int .i64 0,.int .i64 0,.int .i64 0,.int .i64 0,.int .i64 0,.slice none 0 0,.int .i64 0,.int .i64 0,.int .i64 0,.int .i64 0,.int .i64 0,.int .i64 0,.int .i64 0] 36)) = w1 at *
  have x0:w1.cell? ⟨w.heap.size,0,none⟩ = some (.int .u8 (b0:Nat)):=hX.cell 0
  have lt_x:=hX.lt
  go_upto_region 2 with (first | (refine wpList_store_row (by rfl) 36 (.tmp 3) (.tmp 13) (by rfl) w1.heap.size #[.int .i64 5,.string ⟨#[]⟩,.int .i64 0,.int .i64 0,.int .i64 0,.int .i64 0,.int .i64 0,.int .i64 0,.int .i64 0,.int .i64 0,.int .i64 0,.int .i64 0,.int .i64 0,.int .i64 0,.int .i64 0,.int .i64 0,.slice none 0 0,.int .i64 0,.int .i64 0,.int .i64 0,.int .i64 0,.int .i64 0,.int .i64 0,.int .i64 0] (by rfl) (by rfl) 36 #[.int .i64 0,.string ⟨#[]⟩,.int .i64 0,.int .i64 0,.int .i64 0,.int .i64 0,.int .i64 0,.int .i64 0,.int .i64 0,.int .i64 0,.int .i64 0,.int .i64 0,.int .i64 0,.int .i64 0,.int .i64 0,.int .i64 0,.slice none 0 0,.int .i64 0,.int .i64 0,.int .i64 0,.int .i64 0,.int .i64 0,.int .i64 0,.int .i64 0] (heap_alloc_new _ _) (by kernel_rfl) rfl (by simp [Value.oneCell']) ?_; rw [World.setRow_alloc_new]) | (refine wpList_build_run _ (by rfl) 36 #[(0,.tmp 12)] (by rfl) #[(0,.int .i64 5)] (by rfl) (bact 5 _) ?_))
  clear x0 lt_x
  have hA:=Blok.new w1 36 #[.int .i64 5,.string ⟨#[]⟩,.int .i64 0,.int .i64 0,.int .i64 0,.int .i64 0,.int .i64 0,.int .i64 0,.int .i64 0,.int .i64 0,.int .i64 0,.int .i64 0,.int .i64 0,.int .i64 0,.int .i64 0,.int .i64 0,.slice none 0 0,.int .i64 0,.int .i64 0,.int .i64 0,.int .i64 0,.int .i64 0,.int .i64 0,.int .i64 0]
  have hb:Below w1.heap.size w1 (w1.alloc (.cells #[.int .i64 5,.string ⟨#[]⟩,.int .i64 0,.int .i64 0,.int .i64 0,.int .i64 0,.int .i64 0,.int .i64 0,.int .i64 0,.int .i64 0,.int .i64 0,.int .i64 0,.int .i64 0,.int .i64 0,.int .i64 0,.int .i64 0,.slice none 0 0,.int .i64 0,.int .i64 0,.int .i64 0,.int .i64 0,.int .i64 0,.int .i64 0,.int .i64 0] 36)):=by (repeat (first | exact Below.refl _ _ | refine Below.alloc ?_ (by first | omega | (simp; done) | (simp; omega)) _ | refine Below.setCell ?_ (by first | omega | (simp; done) | (simp; omega)) _ | refine Below.drew ?_))
  have lR:=hR.lt
  replace hX:=hX.below hb hX.lt
  replace hR:=hR.below hb hR.lt
  replace hB:=hB.trans (hb.mono hs)
  replace hs:=hB.size
  clear hb
  generalize w1.alloc (.cells #[.int .i64 5,.string ⟨#[]⟩,.int .i64 0,.int .i64 0,.int .i64 0,.int .i64 0,.int .i64 0,.int .i64 0,.int .i64 0,.int .i64 0,.int .i64 0,.int .i64 0,.int .i64 0,.int .i64 0,.int .i64 0,.int .i64 0,.slice none 0 0,.int .i64 0,.int .i64 0,.int .i64 0,.int .i64 0,.int .i64 0,.int .i64 0,.int .i64 0] 36) = w2 at *
  generalize w1.heap.size = bA at *
  have k0:w2.cell? ⟨bA,0,none⟩ = some (.int .i64 5):=hA.cell 0
  have k1:w2.cell? ⟨bA,1,none⟩ = some (.string ⟨#[]⟩):=hA.cell 1
  have k2:w2.cell? ⟨bA,2,none⟩ = some (.int .i64 0):=hA.cell 2
  have k3:w2.cell? ⟨bA,3,none⟩ = some (.int .i64 0):=hA.cell 3
  have k4:w2.cell? ⟨bA,4,none⟩ = some (.int .i64 0):=hA.cell 4
  have k5:w2.cell? ⟨bA,5,none⟩ = some (.int .i64 0):=hA.cell 5
  have k6:w2.cell? ⟨bA,6,none⟩ = some (.int .i64 0):=hA.cell 6
  have k7:w2.cell? ⟨bA,7,none⟩ = some (.int .i64 0):=hA.cell 7
  have k8:w2.cell? ⟨bA,8,none⟩ = some (.int .i64 0):=hA.cell 8
  have k9:w2.cell? ⟨bA,9,none⟩ = some (.int .i64 0):=hA.cell 9
  have k10:w2.cell? ⟨bA,10,none⟩ = some (.int .i64 0):=hA.cell 10
  have k11:w2.cell? ⟨bA,11,none⟩ = some (.int .i64 0):=hA.cell 11
  have k12:w2.cell? ⟨bA,12,none⟩ = some (.int .i64 0):=hA.cell 12
  have k13:w2.cell? ⟨bA,13,none⟩ = some (.int .i64 0):=hA.cell 13
  have k14:w2.cell? ⟨bA,14,none⟩ = some (.int .i64 0):=hA.cell 14
  have k15:w2.cell? ⟨bA,15,none⟩ = some (.int .i64 0):=hA.cell 15
  have k16:w2.cell? ⟨bA,16,none⟩ = some (.slice none 0 0):=hA.cell 16
  have k17:w2.cell? ⟨bA,17,none⟩ = some (.int .i64 0):=hA.cell 17
  have k18:w2.cell? ⟨bA,18,none⟩ = some (.int .i64 0):=hA.cell 18
  have k19:w2.cell? ⟨bA,19,none⟩ = some (.int .i64 0):=hA.cell 19
  have k20:w2.cell? ⟨bA,20,none⟩ = some (.int .i64 0):=hA.cell 20
  have k21:w2.cell? ⟨bA,21,none⟩ = some (.int .i64 0):=hA.cell 21
  have k22:w2.cell? ⟨bA,22,none⟩ = some (.int .i64 0):=hA.cell 22
  have k23:w2.cell? ⟨bA,23,none⟩ = some (.int .i64 0):=hA.cell 23
  have lt_k:=hA.lt
  go_upto_region 20 with fail
  clear k0 k1 k2 k3 k4 k5 k6 k7 k8 k9 k10 k11 k12 k13 k14 k15 k16 k17 k18 k19 k20 k21 k22 k23 lt_k
  have x1:w2.cell? ⟨w.heap.size,1,none⟩ = some (.int .u8 (b1:Nat)):=hX.cell 1
  have lt_x:=hX.lt
  have k0:w2.cell? ⟨bA,0,none⟩ = some (.int .i64 5):=hA.cell 0
  have g0:=hA.free 0
  have k1:w2.cell? ⟨bA,1,none⟩ = some (.string ⟨#[]⟩):=hA.cell 1
  have g1:=hA.free 1
  have k2:w2.cell? ⟨bA,2,none⟩ = some (.int .i64 0):=hA.cell 2
  have g2:=hA.free 2
  have k3:w2.cell? ⟨bA,3,none⟩ = some (.int .i64 0):=hA.cell 3
  have g3:=hA.free 3
  have k4:w2.cell? ⟨bA,4,none⟩ = some (.int .i64 0):=hA.cell 4
  have g4:=hA.free 4
  have k5:w2.cell? ⟨bA,5,none⟩ = some (.int .i64 0):=hA.cell 5
  have g5:=hA.free 5
  have k6:w2.cell? ⟨bA,6,none⟩ = some (.int .i64 0):=hA.cell 6
  have g6:=hA.free 6
  have k7:w2.cell? ⟨bA,7,none⟩ = some (.int .i64 0):=hA.cell 7
  have g7:=hA.free 7
  have k8:w2.cell? ⟨bA,8,none⟩ = some (.int .i64 0):=hA.cell 8
  have g8:=hA.free 8
  have k9:w2.cell? ⟨bA,9,none⟩ = some (.int .i64 0):=hA.cell 9
  have g9:=hA.free 9
  have k10:w2.cell? ⟨bA,10,none⟩ = some (.int .i64 0):=hA.cell 10
  have g10:=hA.free 10
  have k11:w2.cell? ⟨bA,11,none⟩ = some (.int .i64 0):=hA.cell 11
  have g11:=hA.free 11
  have k12:w2.cell? ⟨bA,12,none⟩ = some (.int .i64 0):=hA.cell 12
  have g12:=hA.free 12
  have k13:w2.cell? ⟨bA,13,none⟩ = some (.int .i64 0):=hA.cell 13
  have g13:=hA.free 13
  have k14:w2.cell? ⟨bA,14,none⟩ = some (.int .i64 0):=hA.cell 14
  have g14:=hA.free 14
  have k15:w2.cell? ⟨bA,15,none⟩ = some (.int .i64 0):=hA.cell 15
  have g15:=hA.free 15
  have k16:w2.cell? ⟨bA,16,none⟩ = some (.slice none 0 0):=hA.cell 16
  have g16:=hA.free 16
  have k17:w2.cell? ⟨bA,17,none⟩ = some (.int .i64 0):=hA.cell 17
  have g17:=hA.free 17
  have k18:w2.cell? ⟨bA,18,none⟩ = some (.int .i64 0):=hA.cell 18
  have g18:=hA.free 18
  have k19:w2.cell? ⟨bA,19,none⟩ = some (.int .i64 0):=hA.cell 19
  have g19:=hA.free 19
  have k20:w2.cell? ⟨bA,20,none⟩ = some (.int .i64 0):=hA.cell 20
  have g20:=hA.free 20
  have k21:w2.cell? ⟨bA,21,none⟩ = some (.int .i64 0):=hA.cell 21
  have g21:=hA.free 21
  have k22:w2.cell? ⟨bA,22,none⟩ = some (.int .i64 0):=hA.cell 22
  have g22:=hA.free 22
  have k23:w2.cell? ⟨bA,23,none⟩ = some (.int .i64 0):=hA.cell 23
  have g23:=hA.free 23
  have lt_k:=hA.lt
  go_upto_region 21 with fail
  clear k0 g0 k1 g1 k2 g2 k3 g3 k4 g4 k5 g5 k6 g6 k7 g7 k8 g8 k9 g9 k10 g10 k11 g11 k12 g12 k13 g13 k14 g14 k15 g15 k16 g16 k17 g17 k18 g18 k19 g19 k20 g20 k21 g21 k22 g22 k23 g23 lt_k
  clear x1 lt_x
  have hgs:(w2.setCell ⟨bA,16,none⟩ (.slice (some ⟨w2.heap.size,0,none⟩) 1 1)).heap.size = w2.heap.size:=by simp
  have hA2:Blok (w2.setCell ⟨bA,16,none⟩ (.slice (some ⟨w2.heap.size,0,none⟩) 1 1)) bA 36 #[.int .i64 5,.string ⟨#[]⟩,.int .i64 0,.int .i64 0,.int .i64 0,.int .i64 0,.int .i64 0,.int .i64 0,.int .i64 0,.int .i64 0,.int .i64 0,.int .i64 0,.int .i64 0,.int .i64 0,.int .i64 0,.int .i64 0,.slice (some ⟨w2.heap.size,0,none⟩) 1 1,.int .i64 0,.int .i64 0,.int .i64 0,.int .i64 0,.int .i64 0,.int .i64 0,.int .i64 0]:=by exact (hA.set_ 16 (.slice (some ⟨w2.heap.size,0,none⟩) 1 1))
  replace hX:=(hX.far (p:=⟨bA,16,none⟩) (by simp only; omega) (.slice (some ⟨w2.heap.size,0,none⟩) 1 1))
  replace hR:=(hR.far (p:=⟨bA,16,none⟩) (by simp only; omega) (.slice (some ⟨w2.heap.size,0,none⟩) 1 1))
  replace hB:=(hB.setCell (p:=⟨bA,16,none⟩) (by simp only; omega) (.slice (some ⟨w2.heap.size,0,none⟩) 1 1))
  replace hs:=hB.size
  clear hA
  have hA:=hA2
  clear hA2
  generalize (w2.setCell ⟨bA,16,none⟩ (.slice (some ⟨w2.heap.size,0,none⟩) 1 1)) = w3 at *
  have ho:=own_lit w3 w.heap.size 3 1 1 #[.int .i64 (1 + (q1:Int))] hs rfl (by simp [maxLen])
  have hb:Below w3.heap.size w3 (w3.alloc (.cells #[.int .i64 (1 + (q1:Int))] 3)):=by (repeat (first | exact Below.refl _ _ | refine Below.alloc ?_ (by first | omega | (simp; done) | (simp; omega)) _ | refine Below.setCell ?_ (by first | omega | (simp; done) | (simp; omega)) _ | refine Below.drew ?_))
  replace hX:=hX.below hb hX.lt
  replace hR:=hR.below hb hR.lt
  replace hA:=hA.below hb hA.lt
  replace hB:=hB.trans (hb.mono hs)
  replace hs:=hB.size
  clear hb
  generalize w3.alloc (.cells #[.int .i64 (1 + (q1:Int))] 3) = w4 at *
  rw [hgs] at ho
  clear hgs
  generalize w2.heap.size = gI at *
  have hne:=Blok.ne_own ho hA (by decide)
  have hne2:=Blok.ne_own ho hR (by decide)
  have t2:(b2:Int).tmod (2:Int) = ((b2 % 2:Nat):Int):=tmod_nat b2 2
  rcases Nat.mod_two_eq_zero_or_one b2 with hb2 | hb2
  all_goals rw [hb2] at t2
  · replace t2:(b2:Int).tmod (2:Int) = 0:=t2
    have hL:L = [(1 + (q1:Int))]:=by rw [HL.out,if_neg (by omega)]
    subst hL
    have x2:w4.cell? ⟨w.heap.size,2,none⟩ = some (.int .u8 (b2:Nat)):=hX.cell 2
    have x4:w4.cell? ⟨w.heap.size,4,none⟩ = some (.int .u8 (b4:Nat)):=hX.cell 4
    have x5:w4.cell? ⟨w.heap.size,5,none⟩ = some (.int .u8 (b5:Nat)):=hX.cell 5
    have lt_x:=hX.lt
    have k0:w4.cell? ⟨bA,0,none⟩ = some (.int .i64 5):=hA.cell 0
    have g0:=hA.free 0
    have k1:w4.cell? ⟨bA,1,none⟩ = some (.string ⟨#[]⟩):=hA.cell 1
    have g1:=hA.free 1
    have k2:w4.cell? ⟨bA,2,none⟩ = some (.int .i64 0):=hA.cell 2
    have g2:=hA.free 2
    have k3:w4.cell? ⟨bA,3,none⟩ = some (.int .i64 0):=hA.cell 3
    have g3:=hA.free 3
    have k4:w4.cell? ⟨bA,4,none⟩ = some (.int .i64 0):=hA.cell 4
    have g4:=hA.free 4
    have k5:w4.cell? ⟨bA,5,none⟩ = some (.int .i64 0):=hA.cell 5
    have g5:=hA.free 5
    have k6:w4.cell? ⟨bA,6,none⟩ = some (.int .i64 0):=hA.cell 6
    have g6:=hA.free 6
    have k7:w4.cell? ⟨bA,7,none⟩ = some (.int .i64 0):=hA.cell 7
    have g7:=hA.free 7
    have k8:w4.cell? ⟨bA,8,none⟩ = some (.int .i64 0):=hA.cell 8
    have g8:=hA.free 8
    have k9:w4.cell? ⟨bA,9,none⟩ = some (.int .i64 0):=hA.cell 9
    have g9:=hA.free 9
    have k10:w4.cell? ⟨bA,10,none⟩ = some (.int .i64 0):=hA.cell 10
    have g10:=hA.free 10
    have k11:w4.cell? ⟨bA,11,none⟩ = some (.int .i64 0):=hA.cell 11
    have g11:=hA.free 11
    have k12:w4.cell? ⟨bA,12,none⟩ = some (.int .i64 0):=hA.cell 12
    have g12:=hA.free 12
    have k13:w4.cell? ⟨bA,13,none⟩ = some (.int .i64 0):=hA.cell 13
    have g13:=hA.free 13
    have k14:w4.cell? ⟨bA,14,none⟩ = some (.int .i64 0):=hA.cell 14
    have g14:=hA.free 14
    have k15:w4.cell? ⟨bA,15,none⟩ = some (.int .i64 0):=hA.cell 15
    have g15:=hA.free 15
    have k16:w4.cell? ⟨bA,16,none⟩ = some (.slice (some ⟨gI,0,none⟩) 1 1):=hA.cell 16
    have g16:=hA.free 16
    have k17:w4.cell? ⟨bA,17,none⟩ = some (.int .i64 0):=hA.cell 17
    have g17:=hA.free 17
    have k18:w4.cell? ⟨bA,18,none⟩ = some (.int .i64 0):=hA.cell 18
    have g18:=hA.free 18
    have k19:w4.cell? ⟨bA,19,none⟩ = some (.int .i64 0):=hA.cell 19
    have g19:=hA.free 19
    have k20:w4.cell? ⟨bA,20,none⟩ = some (.int .i64 0):=hA.cell 20
    have g20:=hA.free 20
    have k21:w4.cell? ⟨bA,21,none⟩ = some (.int .i64 0):=hA.cell 21
    have g21:=hA.free 21
    have k22:w4.cell? ⟨bA,22,none⟩ = some (.int .i64 0):=hA.cell 22
    have g22:=hA.free 22
    have k23:w4.cell? ⟨bA,23,none⟩ = some (.int .i64 0):=hA.cell 23
    have g23:=hA.free 23
    have lt_k:=hA.lt
    go_upto_region 27 with fail
    clear k0 g0 k1 g1 k2 g2 k3 g3 k4 g4 k5 g5 k6 g6 k7 g7 k8 g8 k9 g9 k10 g10 k11 g11 k12 g12 k13 g13 k14 g14 k15 g15 k16 g16 k17 g17 k18 g18 k19 g19 k20 g20 k21 g21 k22 g22 k23 g23 lt_k
    clear x2 x4 x5 lt_x
    have hown:=ho
    have ho4:=ownsRow_setCell_other (ownsRow_setCell_other hown (a:=⟨bA,17,none⟩) hne (.int .i64 (q4:Int))) (a:=⟨bA,18,none⟩) hne (.int .i64 (b5:Int))
    clear hown ho
    have hown:=ho4
    clear ho4
    have hA2:Blok ((w4.setCell ⟨bA,17,none⟩ (.int .i64 (q4:Int))).setCell ⟨bA,18,none⟩ (.int .i64 (b5:Int))) bA 36 #[.int .i64 5,.string ⟨#[]⟩,.int .i64 0,.int .i64 0,.int .i64 0,.int .i64 0,.int .i64 0,.int .i64 0,.int .i64 0,.int .i64 0,.int .i64 0,.int .i64 0,.int .i64 0,.int .i64 0,.int .i64 0,.int .i64 0,.slice (some ⟨gI,0,none⟩) 1 1,.int .i64 (q4:Int),.int .i64 (b5:Int),.int .i64 0,.int .i64 0,.int .i64 0,.int .i64 0,.int .i64 0]:=by exact ((hA.set_ 17 (.int .i64 (q4:Int))).set_ 18 (.int .i64 (b5:Int)))
    replace hX:=((hX.far (p:=⟨bA,17,none⟩) (by simp only; omega) (.int .i64 (q4:Int))).far (p:=⟨bA,18,none⟩) (by simp only; omega) (.int .i64 (b5:Int)))
    replace hR:=((hR.far (p:=⟨bA,17,none⟩) (by simp only; omega) (.int .i64 (q4:Int))).far (p:=⟨bA,18,none⟩) (by simp only; omega) (.int .i64 (b5:Int)))
    replace hB:=((hB.setCell (p:=⟨bA,17,none⟩) (by simp only; omega) (.int .i64 (q4:Int))).setCell (p:=⟨bA,18,none⟩) (by simp only; omega) (.int .i64 (b5:Int)))
    replace hs:=hB.size
    clear hA
    have hA:=hA2
    clear hA2
    generalize ((w4.setCell ⟨bA,17,none⟩ (.int .i64 (q4:Int))).setCell ⟨bA,18,none⟩ (.int .i64 (b5:Int))) = w9 at *
    have hown2:w9.ownsRow w.heap.size 3 1 (.slice (some ⟨gI,0,none⟩) 1 1) 1 [.int .i64 (1 + (q1:Int))]:=hown
    clear hown
    have hown:=hown2
    clear hown2
    have hF:=setRow_heap w9 (w.heap.size + 1) #[.int .i64 0,.string ⟨#[]⟩,.int .i64 0,.int .i64 0,.int .i64 0,.int .i64 0,.int .i64 0,.int .i64 0,.int .i64 0,.int .i64 0,.int .i64 0,.int .i64 0,.int .i64 0,.int .i64 0,.int .i64 0,.int .i64 0,.slice none 0 0,.int .i64 0,.int .i64 0,.int .i64 0,.int .i64 0,.int .i64 0,.int .i64 0,.int .i64 0] #[.int .i64 5,.string ⟨#[]⟩,.int .i64 0,.int .i64 0,.int .i64 0,.int .i64 0,.int .i64 0,.int .i64 0,.int .i64 0,.int .i64 0,.int .i64 0,.int .i64 0,.int .i64 0,.int .i64 0,.int .i64 0,.int .i64 0,.slice (some ⟨gI,0,none⟩) 1 1,.int .i64 (q4:Int),.int .i64 (b5:Int),.int .i64 0,.int .i64 0,.int .i64 0,.int .i64 0,.int .i64 0] 36 (0,0) hR
    have hWf:=below_setRow hB (g:=w.heap.size + 1) (by omega) #[.int .i64 5,.string ⟨#[]⟩,.int .i64 0,.int .i64 0,.int .i64 0,.int .i64 0,.int .i64 0,.int .i64 0,.int .i64 0,.int .i64 0,.int .i64 0,.int .i64 0,.int .i64 0,.int .i64 0,.int .i64 0,.int .i64 0,.slice (some ⟨gI,0,none⟩) 1 1,.int .i64 (q4:Int),.int .i64 (b5:Int),.int .i64 0,.int .i64 0,.int .i64 0,.int .i64 0,.int .i64 0]
    have hgw:=grown_setRow w9 (w.heap.size + 1) #[.int .i64 5,.string ⟨#[]⟩,.int .i64 0,.int .i64 0,.int .i64 0,.int .i64 0,.int .i64 0,.int .i64 0,.int .i64 0,.int .i64 0,.int .i64 0,.int .i64 0,.int .i64 0,.int .i64 0,.int .i64 0,.int .i64 0,.slice (some ⟨gI,0,none⟩) 1 1,.int .i64 (q4:Int),.int .i64 (b5:Int),.int .i64 0,.int .i64 0,.int .i64 0,.int .i64 0,.int .i64 0]
    have hA':=hA
    have hR':=hR
    go_wp2_with (first | (refine wpList_load_row (by rfl) 36 (.tmp 3) (by rfl) bA (by rfl) 36 #[.int .i64 5,.string ⟨#[]⟩,.int .i64 0,.int .i64 0,.int .i64 0,.int .i64 0,.int .i64 0,.int .i64 0,.int .i64 0,.int .i64 0,.int .i64 0,.int .i64 0,.int .i64 0,.int .i64 0,.int .i64 0,.int .i64 0,.slice (some ⟨gI,0,none⟩) 1 1,.int .i64 (q4:Int),.int .i64 (b5:Int),.int .i64 0,.int .i64 0,.int .i64 0,.int .i64 0,.int .i64 0] (0,0) _ hA' Tryd.underlying36 rfl (by kernel_rfl) ?_) | (refine wpList_store_row (by rfl) 36 (.tmp 2) (.tmp 126) (by rfl) (w.heap.size + 1) #[.int .i64 5,.string ⟨#[]⟩,.int .i64 0,.int .i64 0,.int .i64 0,.int .i64 0,.int .i64 0,.int .i64 0,.int .i64 0,.int .i64 0,.int .i64 0,.int .i64 0,.int .i64 0,.int .i64 0,.int .i64 0,.int .i64 0,.slice (some ⟨gI,0,none⟩) 1 1,.int .i64 (q4:Int),.int .i64 (b5:Int),.int .i64 0,.int .i64 0,.int .i64 0,.int .i64 0,.int .i64 0] (by rfl) (by rfl) 36 #[.int .i64 0,.string ⟨#[]⟩,.int .i64 0,.int .i64 0,.int .i64 0,.int .i64 0,.int .i64 0,.int .i64 0,.int .i64 0,.int .i64 0,.int .i64 0,.int .i64 0,.int .i64 0,.int .i64 0,.int .i64 0,.int .i64 0,.slice none 0 0,.int .i64 0,.int .i64 0,.int .i64 0,.int .i64 0,.int .i64 0,.int .i64 0,.int .i64 0] hR' (by kernel_rfl) rfl (by simp [Value.oneCell']) ?_))
    refine bodyPost_ret (results_cell_row Tryd.results17 _ _ (w.heap.size + 1) 36 #[.int .i64 5,.string ⟨#[]⟩,.int .i64 0,.int .i64 0,.int .i64 0,.int .i64 0,.int .i64 0,.int .i64 0,.int .i64 0,.int .i64 0,.int .i64 0,.int .i64 0,.int .i64 0,.int .i64 0,.int .i64 0,.int .i64 0,.slice (some ⟨gI,0,none⟩) 1 1,.int .i64 (q4:Int),.int .i64 (b5:Int),.int .i64 0,.int .i64 0,.int .i64 0,.int .i64 0,.int .i64 0] (0,0) _ (by rfl) hF Tryd.underlying36 rfl (by kernel_rfl)) rfl ?_
    have hwf:=hown.kept hgw (.inr hne2)
    exact ⟨_,rfl,⟨(some ⟨gI,0,none⟩),1,1,by rw [← HP.out]; rfl,by rw [← HP.out]; exact hwf,by rw [← HP.out]; rfl⟩,hWf⟩
  · replace t2:(b2:Int).tmod (2:Int) = 1:=t2
    have hL:L = [(1 + (q1:Int)),(1 + (q3:Int))]:=by rw [HL.out,if_pos hb2]
    subst hL
    have x2:w4.cell? ⟨w.heap.size,2,none⟩ = some (.int .u8 (b2:Nat)):=hX.cell 2
    have lt_x:=hX.lt
    go_upto_region 22 with fail
    clear x2 lt_x
    have x3:w4.cell? ⟨w.heap.size,3,none⟩ = some (.int .u8 (b3:Nat)):=hX.cell 3
    have lt_x:=hX.lt
    have k0:w4.cell? ⟨bA,0,none⟩ = some (.int .i64 5):=hA.cell 0
    have g0:=hA.free 0
    have k1:w4.cell? ⟨bA,1,none⟩ = some (.string ⟨#[]⟩):=hA.cell 1
    have g1:=hA.free 1
    have k2:w4.cell? ⟨bA,2,none⟩ = some (.int .i64 0):=hA.cell 2
    have g2:=hA.free 2
    have k3:w4.cell? ⟨bA,3,none⟩ = some (.int .i64 0):=hA.cell 3
    have g3:=hA.free 3
    have k4:w4.cell? ⟨bA,4,none⟩ = some (.int .i64 0):=hA.cell 4
    have g4:=hA.free 4
    have k5:w4.cell? ⟨bA,5,none⟩ = some (.int .i64 0):=hA.cell 5
    have g5:=hA.free 5
    have k6:w4.cell? ⟨bA,6,none⟩ = some (.int .i64 0):=hA.cell 6
    have g6:=hA.free 6
    have k7:w4.cell? ⟨bA,7,none⟩ = some (.int .i64 0):=hA.cell 7
    have g7:=hA.free 7
    have k8:w4.cell? ⟨bA,8,none⟩ = some (.int .i64 0):=hA.cell 8
    have g8:=hA.free 8
    have k9:w4.cell? ⟨bA,9,none⟩ = some (.int .i64 0):=hA.cell 9
    have g9:=hA.free 9
    have k10:w4.cell? ⟨bA,10,none⟩ = some (.int .i64 0):=hA.cell 10
    have g10:=hA.free 10
    have k11:w4.cell? ⟨bA,11,none⟩ = some (.int .i64 0):=hA.cell 11
    have g11:=hA.free 11
    have k12:w4.cell? ⟨bA,12,none⟩ = some (.int .i64 0):=hA.cell 12
    have g12:=hA.free 12
    have k13:w4.cell? ⟨bA,13,none⟩ = some (.int .i64 0):=hA.cell 13
    have g13:=hA.free 13
    have k14:w4.cell? ⟨bA,14,none⟩ = some (.int .i64 0):=hA.cell 14
    have g14:=hA.free 14
    have k15:w4.cell? ⟨bA,15,none⟩ = some (.int .i64 0):=hA.cell 15
    have g15:=hA.free 15
    have k16:w4.cell? ⟨bA,16,none⟩ = some (.slice (some ⟨gI,0,none⟩) 1 1):=hA.cell 16
    have g16:=hA.free 16
    have k17:w4.cell? ⟨bA,17,none⟩ = some (.int .i64 0):=hA.cell 17
    have g17:=hA.free 17
    have k18:w4.cell? ⟨bA,18,none⟩ = some (.int .i64 0):=hA.cell 18
    have g18:=hA.free 18
    have k19:w4.cell? ⟨bA,19,none⟩ = some (.int .i64 0):=hA.cell 19
    have g19:=hA.free 19
    have k20:w4.cell? ⟨bA,20,none⟩ = some (.int .i64 0):=hA.cell 20
    have g20:=hA.free 20
    have k21:w4.cell? ⟨bA,21,none⟩ = some (.int .i64 0):=hA.cell 21
    have g21:=hA.free 21
    have k22:w4.cell? ⟨bA,22,none⟩ = some (.int .i64 0):=hA.cell 22
    have g22:=hA.free 22
    have k23:w4.cell? ⟨bA,23,none⟩ = some (.int .i64 0):=hA.cell 23
    have g23:=hA.free 23
    have lt_k:=hA.lt
    have hbb:Below w4.heap.size w4 (w4.alloc (.cells #[.int .i64 (1 + (q3:Int))] 3)):=by (repeat (first | exact Below.refl _ _ | refine Below.alloc ?_ (by first | omega | (simp; done) | (simp; omega)) _ | refine Below.setCell ?_ (by first | omega | (simp; done) | (simp; omega)) _ | refine Below.drew ?_))
    go_upto_region 23 with (at_builtin; refine wpList_append_own _ rfl _ _ 32 rfl w.heap.size 3 i0 _ 1 8 Tryd.underlying32 hi0 hz0 hz1 hz2 rfl (by decide) _ _ _ rfl (ho.alloc _) ⟨w4.heap.size,0,none⟩ 1 1 [.int .i64 (1 + (q3:Int))] rfl rfl (by exact lit_cells w4 #[.int .i64 (1 + (q3:Int))] _ _ rfl) (by simp [Value.oneCell']) (by unfold maxLen; omega) (by omega) (by simp; omega) ?_; intro v' w5 hown' hgrow5 hnil5; have hown9:w5.ownsRow w.heap.size 3 1 v' 2 [.int .i64 (1 + (q1:Int)),.int .i64 (1 + (q3:Int))]:=(by exact hown'); clear hown' hnil5; obtain ⟨A5,c5,rfl⟩:=slice_of_own hown9; have hA5:=(hA.below hbb hA.lt).grown hgrow5 (fun e => hne e.symm); have c16:=hA5.cell 16; have cf16:=hA5.free 16; have cl16:=hA5.lt; simp only [List.getElem?_toArray,List.getElem?_cons_succ,List.getElem?_cons_zero] at c16)
    clear k0 g0 k1 g1 k2 g2 k3 g3 k4 g4 k5 g5 k6 g6 k7 g7 k8 g8 k9 g9 k10 g10 k11 g11 k12 g12 k13 g13 k14 g14 k15 g15 k16 g16 k17 g17 k18 g18 k19 g19 k20 g20 k21 g21 k22 g22 k23 g23 lt_k
    clear x3 lt_x
    clear c16 cf16 cl16
    have hX5:=(hX.below hbb hX.lt).grown hgrow5 (fun e => (Blok.ne_own ho hX (by decide)) e.symm)
    have hR5:=(hR.below hbb hR.lt).grown hgrow5 (fun e => hne2 e.symm)
    have hB5:Below w.heap.size w w5:=(hB.alloc hs _).grown hgrow5 (by simp; omega) (fun q hq => (ho.lt q hq).1)
    clear hA hX hR hB hs hbb ho hne hne2
    have hA:=hA5
    have hX:=hX5
    have hR:=hR5
    have hB:=hB5
    have hs:=hB.size
    clear hA5 hX5 hR5 hB5 hgrow5
    have ho:=hown9
    clear hown9
    have hne:=Blok.ne_own ho hA (by decide)
    have hne2:=Blok.ne_own ho hR (by decide)
    have ho4:=ownsRow_setCell_other ho (a:=⟨bA,16,none⟩) hne (.slice A5 2 c5)
    clear ho
    have ho:=ho4
    clear ho4
    have hA2:Blok (w5.setCell ⟨bA,16,none⟩ (.slice A5 2 c5)) bA 36 #[.int .i64 5,.string ⟨#[]⟩,.int .i64 0,.int .i64 0,.int .i64 0,.int .i64 0,.int .i64 0,.int .i64 0,.int .i64 0,.int .i64 0,.int .i64 0,.int .i64 0,.int .i64 0,.int .i64 0,.int .i64 0,.int .i64 0,.slice A5 2 c5,.int .i64 0,.int .i64 0,.int .i64 0,.int .i64 0,.int .i64 0,.int .i64 0,.int .i64 0]:=by exact (hA.set_ 16 (.slice A5 2 c5))
    replace hX:=(hX.far (p:=⟨bA,16,none⟩) (by simp only; omega) (.slice A5 2 c5))
    replace hR:=(hR.far (p:=⟨bA,16,none⟩) (by simp only; omega) (.slice A5 2 c5))
    replace hB:=(hB.setCell (p:=⟨bA,16,none⟩) (by simp only; omega) (.slice A5 2 c5))
    replace hs:=hB.size
    clear hA
    have hA:=hA2
    clear hA2
    generalize (w5.setCell ⟨bA,16,none⟩ (.slice A5 2 c5)) = w6 at *
    have x4:w6.cell? ⟨w.heap.size,4,none⟩ = some (.int .u8 (b4:Nat)):=hX.cell 4
    have x5:w6.cell? ⟨w.heap.size,5,none⟩ = some (.int .u8 (b5:Nat)):=hX.cell 5
    have lt_x:=hX.lt
    have k0:w6.cell? ⟨bA,0,none⟩ = some (.int .i64 5):=hA.cell 0
    have g0:=hA.free 0
    have k1:w6.cell? ⟨bA,1,none⟩ = some (.string ⟨#[]⟩):=hA.cell 1
    have g1:=hA.free 1
    have k2:w6.cell? ⟨bA,2,none⟩ = some (.int .i64 0):=hA.cell 2
    have g2:=hA.free 2
    have k3:w6.cell? ⟨bA,3,none⟩ = some (.int .i64 0):=hA.cell 3
    have g3:=hA.free 3
    have k4:w6.cell? ⟨bA,4,none⟩ = some (.int .i64 0):=hA.cell 4
    have g4:=hA.free 4
    have k5:w6.cell? ⟨bA,5,none⟩ = some (.int .i64 0):=hA.cell 5
    have g5:=hA.free 5
    have k6:w6.cell? ⟨bA,6,none⟩ = some (.int .i64 0):=hA.cell 6
    have g6:=hA.free 6
    have k7:w6.cell? ⟨bA,7,none⟩ = some (.int .i64 0):=hA.cell 7
    have g7:=hA.free 7
    have k8:w6.cell? ⟨bA,8,none⟩ = some (.int .i64 0):=hA.cell 8
    have g8:=hA.free 8
    have k9:w6.cell? ⟨bA,9,none⟩ = some (.int .i64 0):=hA.cell 9
    have g9:=hA.free 9
    have k10:w6.cell? ⟨bA,10,none⟩ = some (.int .i64 0):=hA.cell 10
    have g10:=hA.free 10
    have k11:w6.cell? ⟨bA,11,none⟩ = some (.int .i64 0):=hA.cell 11
    have g11:=hA.free 11
    have k12:w6.cell? ⟨bA,12,none⟩ = some (.int .i64 0):=hA.cell 12
    have g12:=hA.free 12
    have k13:w6.cell? ⟨bA,13,none⟩ = some (.int .i64 0):=hA.cell 13
    have g13:=hA.free 13
    have k14:w6.cell? ⟨bA,14,none⟩ = some (.int .i64 0):=hA.cell 14
    have g14:=hA.free 14
    have k15:w6.cell? ⟨bA,15,none⟩ = some (.int .i64 0):=hA.cell 15
    have g15:=hA.free 15
    have k16:w6.cell? ⟨bA,16,none⟩ = some (.slice A5 2 c5):=hA.cell 16
    have g16:=hA.free 16
    have k17:w6.cell? ⟨bA,17,none⟩ = some (.int .i64 0):=hA.cell 17
    have g17:=hA.free 17
    have k18:w6.cell? ⟨bA,18,none⟩ = some (.int .i64 0):=hA.cell 18
    have g18:=hA.free 18
    have k19:w6.cell? ⟨bA,19,none⟩ = some (.int .i64 0):=hA.cell 19
    have g19:=hA.free 19
    have k20:w6.cell? ⟨bA,20,none⟩ = some (.int .i64 0):=hA.cell 20
    have g20:=hA.free 20
    have k21:w6.cell? ⟨bA,21,none⟩ = some (.int .i64 0):=hA.cell 21
    have g21:=hA.free 21
    have k22:w6.cell? ⟨bA,22,none⟩ = some (.int .i64 0):=hA.cell 22
    have g22:=hA.free 22
    have k23:w6.cell? ⟨bA,23,none⟩ = some (.int .i64 0):=hA.cell 23
    have g23:=hA.free 23
    have lt_k:=hA.lt
    go_upto_region 27 with fail
    clear k0 g0 k1 g1 k2 g2 k3 g3 k4 g4 k5 g5 k6 g6 k7 g7 k8 g8 k9 g9 k10 g10 k11 g11 k12 g12 k13 g13 k14 g14 k15 g15 k16 g16 k17 g17 k18 g18 k19 g19 k20 g20 k21 g21 k22 g22 k23 g23 lt_k
    clear x4 x5 lt_x
    have hown:=ho
    have ho4:=ownsRow_setCell_other (ownsRow_setCell_other hown (a:=⟨bA,17,none⟩) hne (.int .i64 (q4:Int))) (a:=⟨bA,18,none⟩) hne (.int .i64 (b5:Int))
    clear hown ho
    have hown:=ho4
    clear ho4
    have hA2:Blok ((w6.setCell ⟨bA,17,none⟩ (.int .i64 (q4:Int))).setCell ⟨bA,18,none⟩ (.int .i64 (b5:Int))) bA 36 #[.int .i64 5,.string ⟨#[]⟩,.int .i64 0,.int .i64 0,.int .i64 0,.int .i64 0,.int .i64 0,.int .i64 0,.int .i64 0,.int .i64 0,.int .i64 0,.int .i64 0,.int .i64 0,.int .i64 0,.int .i64 0,.int .i64 0,.slice A5 2 c5,.int .i64 (q4:Int),.int .i64 (b5:Int),.int .i64 0,.int .i64 0,.int .i64 0,.int .i64 0,.int .i64 0]:=by exact ((hA.set_ 17 (.int .i64 (q4:Int))).set_ 18 (.int .i64 (b5:Int)))
    replace hX:=((hX.far (p:=⟨bA,17,none⟩) (by simp only; omega) (.int .i64 (q4:Int))).far (p:=⟨bA,18,none⟩) (by simp only; omega) (.int .i64 (b5:Int)))
    replace hR:=((hR.far (p:=⟨bA,17,none⟩) (by simp only; omega) (.int .i64 (q4:Int))).far (p:=⟨bA,18,none⟩) (by simp only; omega) (.int .i64 (b5:Int)))
    replace hB:=((hB.setCell (p:=⟨bA,17,none⟩) (by simp only; omega) (.int .i64 (q4:Int))).setCell (p:=⟨bA,18,none⟩) (by simp only; omega) (.int .i64 (b5:Int)))
    replace hs:=hB.size
    clear hA
    have hA:=hA2
    clear hA2
    generalize ((w6.setCell ⟨bA,17,none⟩ (.int .i64 (q4:Int))).setCell ⟨bA,18,none⟩ (.int .i64 (b5:Int))) = w9 at *
    have hown2:w9.ownsRow w.heap.size 3 1 (.slice A5 2 c5) 2 [.int .i64 (1 + (q1:Int)),.int .i64 (1 + (q3:Int))]:=hown
    clear hown
    have hown:=hown2
    clear hown2
    have hF:=setRow_heap w9 (w.heap.size + 1) #[.int .i64 0,.string ⟨#[]⟩,.int .i64 0,.int .i64 0,.int .i64 0,.int .i64 0,.int .i64 0,.int .i64 0,.int .i64 0,.int .i64 0,.int .i64 0,.int .i64 0,.int .i64 0,.int .i64 0,.int .i64 0,.int .i64 0,.slice none 0 0,.int .i64 0,.int .i64 0,.int .i64 0,.int .i64 0,.int .i64 0,.int .i64 0,.int .i64 0] #[.int .i64 5,.string ⟨#[]⟩,.int .i64 0,.int .i64 0,.int .i64 0,.int .i64 0,.int .i64 0,.int .i64 0,.int .i64 0,.int .i64 0,.int .i64 0,.int .i64 0,.int .i64 0,.int .i64 0,.int .i64 0,.int .i64 0,.slice A5 2 c5,.int .i64 (q4:Int),.int .i64 (b5:Int),.int .i64 0,.int .i64 0,.int .i64 0,.int .i64 0,.int .i64 0] 36 (0,0) hR
    have hWf:=below_setRow hB (g:=w.heap.size + 1) (by omega) #[.int .i64 5,.string ⟨#[]⟩,.int .i64 0,.int .i64 0,.int .i64 0,.int .i64 0,.int .i64 0,.int .i64 0,.int .i64 0,.int .i64 0,.int .i64 0,.int .i64 0,.int .i64 0,.int .i64 0,.int .i64 0,.int .i64 0,.slice A5 2 c5,.int .i64 (q4:Int),.int .i64 (b5:Int),.int .i64 0,.int .i64 0,.int .i64 0,.int .i64 0,.int .i64 0]
    have hgw:=grown_setRow w9 (w.heap.size + 1) #[.int .i64 5,.string ⟨#[]⟩,.int .i64 0,.int .i64 0,.int .i64 0,.int .i64 0,.int .i64 0,.int .i64 0,.int .i64 0,.int .i64 0,.int .i64 0,.int .i64 0,.int .i64 0,.int .i64 0,.int .i64 0,.int .i64 0,.slice A5 2 c5,.int .i64 (q4:Int),.int .i64 (b5:Int),.int .i64 0,.int .i64 0,.int .i64 0,.int .i64 0,.int .i64 0]
    have hA':=hA
    have hR':=hR
    go_wp2_with (first | (refine wpList_load_row (by rfl) 36 (.tmp 3) (by rfl) bA (by rfl) 36 #[.int .i64 5,.string ⟨#[]⟩,.int .i64 0,.int .i64 0,.int .i64 0,.int .i64 0,.int .i64 0,.int .i64 0,.int .i64 0,.int .i64 0,.int .i64 0,.int .i64 0,.int .i64 0,.int .i64 0,.int .i64 0,.int .i64 0,.slice A5 2 c5,.int .i64 (q4:Int),.int .i64 (b5:Int),.int .i64 0,.int .i64 0,.int .i64 0,.int .i64 0,.int .i64 0] (0,0) _ hA' Tryd.underlying36 rfl (by kernel_rfl) ?_) | (refine wpList_store_row (by rfl) 36 (.tmp 2) (.tmp 126) (by rfl) (w.heap.size + 1) #[.int .i64 5,.string ⟨#[]⟩,.int .i64 0,.int .i64 0,.int .i64 0,.int .i64 0,.int .i64 0,.int .i64 0,.int .i64 0,.int .i64 0,.int .i64 0,.int .i64 0,.int .i64 0,.int .i64 0,.int .i64 0,.int .i64 0,.slice A5 2 c5,.int .i64 (q4:Int),.int .i64 (b5:Int),.int .i64 0,.int .i64 0,.int .i64 0,.int .i64 0,.int .i64 0] (by rfl) (by rfl) 36 #[.int .i64 0,.string ⟨#[]⟩,.int .i64 0,.int .i64 0,.int .i64 0,.int .i64 0,.int .i64 0,.int .i64 0,.int .i64 0,.int .i64 0,.int .i64 0,.int .i64 0,.int .i64 0,.int .i64 0,.int .i64 0,.int .i64 0,.slice none 0 0,.int .i64 0,.int .i64 0,.int .i64 0,.int .i64 0,.int .i64 0,.int .i64 0,.int .i64 0] hR' (by kernel_rfl) rfl (by simp [Value.oneCell']) ?_))
    refine bodyPost_ret (results_cell_row Tryd.results17 _ _ (w.heap.size + 1) 36 #[.int .i64 5,.string ⟨#[]⟩,.int .i64 0,.int .i64 0,.int .i64 0,.int .i64 0,.int .i64 0,.int .i64 0,.int .i64 0,.int .i64 0,.int .i64 0,.int .i64 0,.int .i64 0,.int .i64 0,.int .i64 0,.int .i64 0,.slice A5 2 c5,.int .i64 (q4:Int),.int .i64 (b5:Int),.int .i64 0,.int .i64 0,.int .i64 0,.int .i64 0,.int .i64 0] (0,0) _ (by rfl) hF Tryd.underlying36 rfl (by kernel_rfl)) rfl ?_
    have hwf:=hown.kept hgw (.inr hne2)
    exact ⟨_,rfl,⟨A5,2,c5,by rw [← HP.out]; rfl,by rw [← HP.out]; exact hwf,by rw [← HP.out]; rfl⟩,hWf⟩
end Go.Proofs.YtggdomeeienjbaaDoor

/- The document's own answer for scripts: act, kind 5. No condition but that bytes are bytes. -/
namespace Go.Proofs.YtggdomeeienjbaaDoor
open Go.ChangeShapes Go.WideShapes Go.ChangeAt Go.RowKit Go.Sort
set_option linter.unusedSimpArgs false
set_option linter.unusedVariables false
set_option maxHeartbeats 16000000 in
set_option maxRecDepth 100000 in
theorem r25act_5 (b0 b1 b2 b3 b4 b5 b6 b7 b8 b9:Nat) (w:World) (ht:TenTab w) (h0:b0 < 256) (h1:b1 < 256) (h2:b2 < 256) (h3:b3 < 256) (h4:b4 < 256) (h5:b5 < 256) (h6:b6 < 256) (h7:b7 < 256) (h8:b8 < 256) (h9:b9 < 256) (P:Pa) (hq:b0 % 7 = 5) (hP:(⟨6,[],zeroDr,0,[],0,0,(1 + b1 % 4:Nat),(1 + b2 % 4:Nat),(b3:Nat),(b4 % 3:Nat),(4 * b5:Nat)⟩:Pa) = P) :
    Calls Tryd.prog 17 #[.agg #[.int .u8 (b0:Nat),.int .u8 (b1:Nat),.int .u8 (b2:Nat),.int .u8 (b3:Nat),.int .u8 (b4:Nat),.int .u8 (b5:Nat),.int .u8 (b6:Nat),.int .u8 (b7:Nat),.int .u8 (b8:Nat),.int .u8 (b9:Nat)]] w fun e w' => ∃ v,e = .returned v ∧ AV w.heap.size w' v P ∧ Below w.heap.size w w':=by
  have tq0:(b0:Int).tmod 7 = 5:=tmod_is _ 7 _ _ rfl hq
  obtain ⟨q1,eq1⟩:∃ q,b1 % 4 = q:=⟨_,rfl⟩
  have lq1:q1 < 4:=by rw [← eq1]; exact Nat.mod_lt _ (by omega)
  have tq1:(b1:Int).tmod 4 = (q1:Int):=tmod_is _ 4 _ _ rfl eq1
  have xq1:IntKind.i64.wrap (q1:Int) = (q1:Int):=IntWalk.i64_in _ (by omega)
  have wq1:IntKind.i64.wrap (1 + (q1:Int)) = 1 + (q1:Int):=IntWalk.i64_in _ (by omega)
  rw [eq1] at hP
  obtain ⟨q2,eq2⟩:∃ q,b2 % 4 = q:=⟨_,rfl⟩
  have lq2:q2 < 4:=by rw [← eq2]; exact Nat.mod_lt _ (by omega)
  have tq2:(b2:Int).tmod 4 = (q2:Int):=tmod_is _ 4 _ _ rfl eq2
  have xq2:IntKind.i64.wrap (q2:Int) = (q2:Int):=IntWalk.i64_in _ (by omega)
  have wq2:IntKind.i64.wrap (1 + (q2:Int)) = 1 + (q2:Int):=IntWalk.i64_in _ (by omega)
  rw [eq2] at hP
  obtain ⟨p4,ep4⟩:∃ q,b4 % 3 = q:=⟨_,rfl⟩
  have lp4:p4 < 3:=by rw [← ep4]; exact Nat.mod_lt _ (by omega)
  have tp4:(b4:Int).tmod 3 = (p4:Int):=tmod_is _ 3 _ _ rfl ep4
  have xp4:IntKind.i64.wrap (p4:Int) = (p4:Int):=IntWalk.i64_in _ (by omega)
  have wp4:IntKind.i64.wrap (1 + (p4:Int)) = 1 + (p4:Int):=IntWalk.i64_in _ (by omega)
  rw [ep4] at hP
  have vb0:IntKind.i64.wrap (b0:Int) = (b0:Int):=IntWalk.i64_in _ (by omega)
  have vb1:IntKind.i64.wrap (b1:Int) = (b1:Int):=IntWalk.i64_in _ (by omega)
  have vb2:IntKind.i64.wrap (b2:Int) = (b2:Int):=IntWalk.i64_in _ (by omega)
  have vb3:IntKind.i64.wrap (b3:Int) = (b3:Int):=IntWalk.i64_in _ (by omega)
  have vb4:IntKind.i64.wrap (b4:Int) = (b4:Int):=IntWalk.i64_in _ (by omega)
  have vb5:IntKind.i64.wrap (b5:Int) = (b5:Int):=IntWalk.i64_in _ (by omega)
  have v45:IntKind.i64.wrap (4 * (b5:Int)) = 4 * (b5:Int):=IntWalk.i64_in _ (by omega)
  have HP:=Lib.hid hP
  have TT:=Lib.hid ht
  have H0:=Lib.hid h0
  have H1:=Lib.hid h1
  have H2:=Lib.hid h2
  have H3:=Lib.hid h3
  have H4:=Lib.hid h4
  have H5:=Lib.hid h5
  have H6:=Lib.hid h6
  have H7:=Lib.hid h7
  have H8:=Lib.hid h8
  have H9:=Lib.hid h9
  clear hP ht hq eq1 lq1 eq2 lq2 ep4 lp4 h0 h1 h2 h3 h4 h5 h6 h7 h8 h9
  have hB:Below w.heap.size w ((w.alloc (.cells #[.int .u8 (b0:Nat),.int .u8 (b1:Nat),.int .u8 (b2:Nat),.int .u8 (b3:Nat),.int .u8 (b4:Nat),.int .u8 (b5:Nat),.int .u8 (b6:Nat),.int .u8 (b7:Nat),.int .u8 (b8:Nat),.int .u8 (b9:Nat)] 23)).alloc (.cells #[.int .i64 0,.string ⟨#[]⟩,.int .i64 0,.int .i64 0,.int .i64 0,.int .i64 0,.int .i64 0,.int .i64 0,.int .i64 0,.int .i64 0,.int .i64 0,.int .i64 0,.int .i64 0,.int .i64 0,.int .i64 0,.int .i64 0,.slice none 0 0,.int .i64 0,.int .i64 0,.int .i64 0,.int .i64 0,.int .i64 0,.int .i64 0,.int .i64 0] 36)):=by (repeat (first | exact Below.refl _ _ | refine Below.alloc ?_ (by first | omega | (simp; done) | (simp; omega)) _ | refine Below.setCell ?_ (by first | omega | (simp; done) | (simp; omega)) _ | refine Below.drew ?_))
  have hX:=(Blok.new w 23 #[.int .u8 (b0:Nat),.int .u8 (b1:Nat),.int .u8 (b2:Nat),.int .u8 (b3:Nat),.int .u8 (b4:Nat),.int .u8 (b5:Nat),.int .u8 (b6:Nat),.int .u8 (b7:Nat),.int .u8 (b8:Nat),.int .u8 (b9:Nat)]).alloc (.cells #[.int .i64 0,.string ⟨#[]⟩,.int .i64 0,.int .i64 0,.int .i64 0,.int .i64 0,.int .i64 0,.int .i64 0,.int .i64 0,.int .i64 0,.int .i64 0,.int .i64 0,.int .i64 0,.int .i64 0,.int .i64 0,.int .i64 0,.slice none 0 0,.int .i64 0,.int .i64 0,.int .i64 0,.int .i64 0,.int .i64 0,.int .i64 0,.int .i64 0] 36)
  have hR:=Blok.new (w.alloc (.cells #[.int .u8 (b0:Nat),.int .u8 (b1:Nat),.int .u8 (b2:Nat),.int .u8 (b3:Nat),.int .u8 (b4:Nat),.int .u8 (b5:Nat),.int .u8 (b6:Nat),.int .u8 (b7:Nat),.int .u8 (b8:Nat),.int .u8 (b9:Nat)] 23)) 36 #[.int .i64 0,.string ⟨#[]⟩,.int .i64 0,.int .i64 0,.int .i64 0,.int .i64 0,.int .i64 0,.int .i64 0,.int .i64 0,.int .i64 0,.int .i64 0,.int .i64 0,.int .i64 0,.int .i64 0,.int .i64 0,.int .i64 0,.slice none 0 0,.int .i64 0,.int .i64 0,.int .i64 0,.int .i64 0,.int .i64 0,.int .i64 0,.int .i64 0]
  rw [World.size_alloc] at hR
  have hs:=hB.size
  go_enter Tryd.func17,Tryd.ntmps17
  go_upto_region 1 with fail
  generalize ((w.alloc (.cells #[.int .u8 (b0:Nat),.int .u8 (b1:Nat),.int .u8 (b2:Nat),.int .u8 (b3:Nat),.int .u8 (b4:Nat),.int .u8 (b5:Nat),.int .u8 (b6:Nat),.int .u8 (b7:Nat),.int .u8 (b8:Nat),.int .u8 (b9:Nat)] 23)).alloc (.cells #[.int .i64 0,.string ⟨#[]⟩,.int .i64 0,.int .i64 0,.int .i64 0,.int .i64 0,.int .i64 0,.int .i64 0,.int .i64 0,.int .i64 0,.int .i64 0,.int .i64 0,.int .i64 0,.int .i64 0,.int .i64 0,.int .i64 0,.slice none 0 0,.int .i64 0,.int .i64 0,.int .i64 0,.int .i64 0,.int .i64 0,.int .i64 0,.int .i64 0] 36)) = w1 at *
  have x0:w1.cell? ⟨w.heap.size,0,none⟩ = some (.int .u8 (b0:Nat)):=hX.cell 0
  have lt_x:=hX.lt
  go_upto_region 2 with (first | (refine wpList_store_row (by rfl) 36 (.tmp 3) (.tmp 13) (by rfl) w1.heap.size #[.int .i64 6,.string ⟨#[]⟩,.int .i64 0,.int .i64 0,.int .i64 0,.int .i64 0,.int .i64 0,.int .i64 0,.int .i64 0,.int .i64 0,.int .i64 0,.int .i64 0,.int .i64 0,.int .i64 0,.int .i64 0,.int .i64 0,.slice none 0 0,.int .i64 0,.int .i64 0,.int .i64 0,.int .i64 0,.int .i64 0,.int .i64 0,.int .i64 0] (by rfl) (by rfl) 36 #[.int .i64 0,.string ⟨#[]⟩,.int .i64 0,.int .i64 0,.int .i64 0,.int .i64 0,.int .i64 0,.int .i64 0,.int .i64 0,.int .i64 0,.int .i64 0,.int .i64 0,.int .i64 0,.int .i64 0,.int .i64 0,.int .i64 0,.slice none 0 0,.int .i64 0,.int .i64 0,.int .i64 0,.int .i64 0,.int .i64 0,.int .i64 0,.int .i64 0] (heap_alloc_new _ _) (by kernel_rfl) rfl (by simp [Value.oneCell']) ?_; rw [World.setRow_alloc_new]) | (refine wpList_build_run _ (by rfl) 36 #[(0,.tmp 12)] (by rfl) #[(0,.int .i64 6)] (by rfl) (bact 6 _) ?_))
  clear x0 lt_x
  have hA:=Blok.new w1 36 #[.int .i64 6,.string ⟨#[]⟩,.int .i64 0,.int .i64 0,.int .i64 0,.int .i64 0,.int .i64 0,.int .i64 0,.int .i64 0,.int .i64 0,.int .i64 0,.int .i64 0,.int .i64 0,.int .i64 0,.int .i64 0,.int .i64 0,.slice none 0 0,.int .i64 0,.int .i64 0,.int .i64 0,.int .i64 0,.int .i64 0,.int .i64 0,.int .i64 0]
  have hb:Below w1.heap.size w1 (w1.alloc (.cells #[.int .i64 6,.string ⟨#[]⟩,.int .i64 0,.int .i64 0,.int .i64 0,.int .i64 0,.int .i64 0,.int .i64 0,.int .i64 0,.int .i64 0,.int .i64 0,.int .i64 0,.int .i64 0,.int .i64 0,.int .i64 0,.int .i64 0,.slice none 0 0,.int .i64 0,.int .i64 0,.int .i64 0,.int .i64 0,.int .i64 0,.int .i64 0,.int .i64 0] 36)):=by (repeat (first | exact Below.refl _ _ | refine Below.alloc ?_ (by first | omega | (simp; done) | (simp; omega)) _ | refine Below.setCell ?_ (by first | omega | (simp; done) | (simp; omega)) _ | refine Below.drew ?_))
  have lR:=hR.lt
  replace hX:=hX.below hb hX.lt
  replace hR:=hR.below hb hR.lt
  replace hB:=hB.trans (hb.mono hs)
  replace hs:=hB.size
  clear hb
  generalize w1.alloc (.cells #[.int .i64 6,.string ⟨#[]⟩,.int .i64 0,.int .i64 0,.int .i64 0,.int .i64 0,.int .i64 0,.int .i64 0,.int .i64 0,.int .i64 0,.int .i64 0,.int .i64 0,.int .i64 0,.int .i64 0,.int .i64 0,.int .i64 0,.slice none 0 0,.int .i64 0,.int .i64 0,.int .i64 0,.int .i64 0,.int .i64 0,.int .i64 0,.int .i64 0] 36) = w2 at *
  generalize w1.heap.size = bA at *
  have k0:w2.cell? ⟨bA,0,none⟩ = some (.int .i64 6):=hA.cell 0
  have k1:w2.cell? ⟨bA,1,none⟩ = some (.string ⟨#[]⟩):=hA.cell 1
  have k2:w2.cell? ⟨bA,2,none⟩ = some (.int .i64 0):=hA.cell 2
  have k3:w2.cell? ⟨bA,3,none⟩ = some (.int .i64 0):=hA.cell 3
  have k4:w2.cell? ⟨bA,4,none⟩ = some (.int .i64 0):=hA.cell 4
  have k5:w2.cell? ⟨bA,5,none⟩ = some (.int .i64 0):=hA.cell 5
  have k6:w2.cell? ⟨bA,6,none⟩ = some (.int .i64 0):=hA.cell 6
  have k7:w2.cell? ⟨bA,7,none⟩ = some (.int .i64 0):=hA.cell 7
  have k8:w2.cell? ⟨bA,8,none⟩ = some (.int .i64 0):=hA.cell 8
  have k9:w2.cell? ⟨bA,9,none⟩ = some (.int .i64 0):=hA.cell 9
  have k10:w2.cell? ⟨bA,10,none⟩ = some (.int .i64 0):=hA.cell 10
  have k11:w2.cell? ⟨bA,11,none⟩ = some (.int .i64 0):=hA.cell 11
  have k12:w2.cell? ⟨bA,12,none⟩ = some (.int .i64 0):=hA.cell 12
  have k13:w2.cell? ⟨bA,13,none⟩ = some (.int .i64 0):=hA.cell 13
  have k14:w2.cell? ⟨bA,14,none⟩ = some (.int .i64 0):=hA.cell 14
  have k15:w2.cell? ⟨bA,15,none⟩ = some (.int .i64 0):=hA.cell 15
  have k16:w2.cell? ⟨bA,16,none⟩ = some (.slice none 0 0):=hA.cell 16
  have k17:w2.cell? ⟨bA,17,none⟩ = some (.int .i64 0):=hA.cell 17
  have k18:w2.cell? ⟨bA,18,none⟩ = some (.int .i64 0):=hA.cell 18
  have k19:w2.cell? ⟨bA,19,none⟩ = some (.int .i64 0):=hA.cell 19
  have k20:w2.cell? ⟨bA,20,none⟩ = some (.int .i64 0):=hA.cell 20
  have k21:w2.cell? ⟨bA,21,none⟩ = some (.int .i64 0):=hA.cell 21
  have k22:w2.cell? ⟨bA,22,none⟩ = some (.int .i64 0):=hA.cell 22
  have k23:w2.cell? ⟨bA,23,none⟩ = some (.int .i64 0):=hA.cell 23
  have lt_k:=hA.lt
  go_upto_region 26 with fail
  clear k0 k1 k2 k3 k4 k5 k6 k7 k8 k9 k10 k11 k12 k13 k14 k15 k16 k17 k18 k19 k20 k21 k22 k23 lt_k
  have x1:w2.cell? ⟨w.heap.size,1,none⟩ = some (.int .u8 (b1:Nat)):=hX.cell 1
  have x2:w2.cell? ⟨w.heap.size,2,none⟩ = some (.int .u8 (b2:Nat)):=hX.cell 2
  have x3:w2.cell? ⟨w.heap.size,3,none⟩ = some (.int .u8 (b3:Nat)):=hX.cell 3
  have x4:w2.cell? ⟨w.heap.size,4,none⟩ = some (.int .u8 (b4:Nat)):=hX.cell 4
  have x5:w2.cell? ⟨w.heap.size,5,none⟩ = some (.int .u8 (b5:Nat)):=hX.cell 5
  have lt_x:=hX.lt
  have k0:w2.cell? ⟨bA,0,none⟩ = some (.int .i64 6):=hA.cell 0
  have g0:=hA.free 0
  have k1:w2.cell? ⟨bA,1,none⟩ = some (.string ⟨#[]⟩):=hA.cell 1
  have g1:=hA.free 1
  have k2:w2.cell? ⟨bA,2,none⟩ = some (.int .i64 0):=hA.cell 2
  have g2:=hA.free 2
  have k3:w2.cell? ⟨bA,3,none⟩ = some (.int .i64 0):=hA.cell 3
  have g3:=hA.free 3
  have k4:w2.cell? ⟨bA,4,none⟩ = some (.int .i64 0):=hA.cell 4
  have g4:=hA.free 4
  have k5:w2.cell? ⟨bA,5,none⟩ = some (.int .i64 0):=hA.cell 5
  have g5:=hA.free 5
  have k6:w2.cell? ⟨bA,6,none⟩ = some (.int .i64 0):=hA.cell 6
  have g6:=hA.free 6
  have k7:w2.cell? ⟨bA,7,none⟩ = some (.int .i64 0):=hA.cell 7
  have g7:=hA.free 7
  have k8:w2.cell? ⟨bA,8,none⟩ = some (.int .i64 0):=hA.cell 8
  have g8:=hA.free 8
  have k9:w2.cell? ⟨bA,9,none⟩ = some (.int .i64 0):=hA.cell 9
  have g9:=hA.free 9
  have k10:w2.cell? ⟨bA,10,none⟩ = some (.int .i64 0):=hA.cell 10
  have g10:=hA.free 10
  have k11:w2.cell? ⟨bA,11,none⟩ = some (.int .i64 0):=hA.cell 11
  have g11:=hA.free 11
  have k12:w2.cell? ⟨bA,12,none⟩ = some (.int .i64 0):=hA.cell 12
  have g12:=hA.free 12
  have k13:w2.cell? ⟨bA,13,none⟩ = some (.int .i64 0):=hA.cell 13
  have g13:=hA.free 13
  have k14:w2.cell? ⟨bA,14,none⟩ = some (.int .i64 0):=hA.cell 14
  have g14:=hA.free 14
  have k15:w2.cell? ⟨bA,15,none⟩ = some (.int .i64 0):=hA.cell 15
  have g15:=hA.free 15
  have k16:w2.cell? ⟨bA,16,none⟩ = some (.slice none 0 0):=hA.cell 16
  have g16:=hA.free 16
  have k17:w2.cell? ⟨bA,17,none⟩ = some (.int .i64 0):=hA.cell 17
  have g17:=hA.free 17
  have k18:w2.cell? ⟨bA,18,none⟩ = some (.int .i64 0):=hA.cell 18
  have g18:=hA.free 18
  have k19:w2.cell? ⟨bA,19,none⟩ = some (.int .i64 0):=hA.cell 19
  have g19:=hA.free 19
  have k20:w2.cell? ⟨bA,20,none⟩ = some (.int .i64 0):=hA.cell 20
  have g20:=hA.free 20
  have k21:w2.cell? ⟨bA,21,none⟩ = some (.int .i64 0):=hA.cell 21
  have g21:=hA.free 21
  have k22:w2.cell? ⟨bA,22,none⟩ = some (.int .i64 0):=hA.cell 22
  have g22:=hA.free 22
  have k23:w2.cell? ⟨bA,23,none⟩ = some (.int .i64 0):=hA.cell 23
  have g23:=hA.free 23
  have lt_k:=hA.lt
  have hth:=hA.there_ 19 5 (by simp)
  go_upto_region 27 with (refine wpList_store_mid (by rfl) 34 (.tmp 125) (.tmp 124) (by rfl) bA 19 #[.int .i64 (1 + (q1:Int)),.int .i64 (1 + (q2:Int)),.int .i64 (b3:Int),.int .i64 (p4:Int),.int .i64 (4 * (b5:Int))] (by rfl) (by rfl) hth (by kernel_rfl) (by simp [Value.oneCell']) ?_; obtain ⟨w4,hw4⟩:∃ x,x = w2.setCells bA 19 (#[.int .i64 (1 + (q1:Int)),.int .i64 (1 + (q2:Int)),.int .i64 (b3:Int),.int .i64 (p4:Int),.int .i64 (4 * (b5:Int))]:Array Value).toList:=⟨_,rfl⟩; rw [← hw4])
  have hgs:=grown_sets (b:=bA) [.int .i64 (1 + (q1:Int)),.int .i64 (1 + (q2:Int)),.int .i64 (b3:Int),.int .i64 (p4:Int),.int .i64 (4 * (b5:Int))] 19 w2
  have hA2:Blok w4 bA 36 #[.int .i64 6,.string ⟨#[]⟩,.int .i64 0,.int .i64 0,.int .i64 0,.int .i64 0,.int .i64 0,.int .i64 0,.int .i64 0,.int .i64 0,.int .i64 0,.int .i64 0,.int .i64 0,.int .i64 0,.int .i64 0,.int .i64 0,.slice none 0 0,.int .i64 0,.int .i64 0,.int .i64 (1 + (q1:Int)),.int .i64 (1 + (q2:Int)),.int .i64 (b3:Int),.int .i64 (p4:Int),.int .i64 (4 * (b5:Int))]:=by rw [hw4]; exact Blok.sets [.int .i64 (1 + (q1:Int)),.int .i64 (1 + (q2:Int)),.int .i64 (b3:Int),.int .i64 (p4:Int),.int .i64 (4 * (b5:Int))] 19 w2 [.int .i64 6,.string ⟨#[]⟩,.int .i64 0,.int .i64 0,.int .i64 0,.int .i64 0,.int .i64 0,.int .i64 0,.int .i64 0,.int .i64 0,.int .i64 0,.int .i64 0,.int .i64 0,.int .i64 0,.int .i64 0,.int .i64 0,.slice none 0 0,.int .i64 0,.int .i64 0,.int .i64 0,.int .i64 0,.int .i64 0,.int .i64 0,.int .i64 0] hA (by simp)
  have hX2:Blok w4 w.heap.size 23 #[.int .u8 (b0:Nat),.int .u8 (b1:Nat),.int .u8 (b2:Nat),.int .u8 (b3:Nat),.int .u8 (b4:Nat),.int .u8 (b5:Nat),.int .u8 (b6:Nat),.int .u8 (b7:Nat),.int .u8 (b8:Nat),.int .u8 (b9:Nat)]:=by rw [hw4]; exact hX.grown hgs (by simp only [ne_eq,Option.some.injEq]; omega)
  have hR2:Blok w4 (w.heap.size + 1) 36 #[.int .i64 0,.string ⟨#[]⟩,.int .i64 0,.int .i64 0,.int .i64 0,.int .i64 0,.int .i64 0,.int .i64 0,.int .i64 0,.int .i64 0,.int .i64 0,.int .i64 0,.int .i64 0,.int .i64 0,.int .i64 0,.int .i64 0,.slice none 0 0,.int .i64 0,.int .i64 0,.int .i64 0,.int .i64 0,.int .i64 0,.int .i64 0,.int .i64 0]:=by rw [hw4]; exact hR.grown hgs (by simp only [ne_eq,Option.some.injEq]; omega)
  have hB2:Below w.heap.size w w4:=by rw [hw4]; exact hB.grown hgs hs (fun k hk => by injection hk with hk; omega)
  clear hgs
  clear hA hX hR hB hs hth hw4
  have hA:=hA2
  have hX:=hX2
  have hR:=hR2
  have hB:=hB2
  have hs:=hB.size
  clear hA2 hX2 hR2 hB2
  clear k0 g0 k1 g1 k2 g2 k3 g3 k4 g4 k5 g5 k6 g6 k7 g7 k8 g8 k9 g9 k10 g10 k11 g11 k12 g12 k13 g13 k14 g14 k15 g15 k16 g16 k17 g17 k18 g18 k19 g19 k20 g20 k21 g21 k22 g22 k23 g23 lt_k
  clear x1 x2 x3 x4 x5 lt_x
  have hF:=setRow_heap w4 (w.heap.size + 1) #[.int .i64 0,.string ⟨#[]⟩,.int .i64 0,.int .i64 0,.int .i64 0,.int .i64 0,.int .i64 0,.int .i64 0,.int .i64 0,.int .i64 0,.int .i64 0,.int .i64 0,.int .i64 0,.int .i64 0,.int .i64 0,.int .i64 0,.slice none 0 0,.int .i64 0,.int .i64 0,.int .i64 0,.int .i64 0,.int .i64 0,.int .i64 0,.int .i64 0] #[.int .i64 6,.string ⟨#[]⟩,.int .i64 0,.int .i64 0,.int .i64 0,.int .i64 0,.int .i64 0,.int .i64 0,.int .i64 0,.int .i64 0,.int .i64 0,.int .i64 0,.int .i64 0,.int .i64 0,.int .i64 0,.int .i64 0,.slice none 0 0,.int .i64 0,.int .i64 0,.int .i64 (1 + (q1:Int)),.int .i64 (1 + (q2:Int)),.int .i64 (b3:Int),.int .i64 (p4:Int),.int .i64 (4 * (b5:Int))] 36 (0,0) hR
  have hWf:=below_setRow hB (g:=w.heap.size + 1) (by omega) #[.int .i64 6,.string ⟨#[]⟩,.int .i64 0,.int .i64 0,.int .i64 0,.int .i64 0,.int .i64 0,.int .i64 0,.int .i64 0,.int .i64 0,.int .i64 0,.int .i64 0,.int .i64 0,.int .i64 0,.int .i64 0,.int .i64 0,.slice none 0 0,.int .i64 0,.int .i64 0,.int .i64 (1 + (q1:Int)),.int .i64 (1 + (q2:Int)),.int .i64 (b3:Int),.int .i64 (p4:Int),.int .i64 (4 * (b5:Int))]
  have hgw:=grown_setRow w4 (w.heap.size + 1) #[.int .i64 6,.string ⟨#[]⟩,.int .i64 0,.int .i64 0,.int .i64 0,.int .i64 0,.int .i64 0,.int .i64 0,.int .i64 0,.int .i64 0,.int .i64 0,.int .i64 0,.int .i64 0,.int .i64 0,.int .i64 0,.int .i64 0,.slice none 0 0,.int .i64 0,.int .i64 0,.int .i64 (1 + (q1:Int)),.int .i64 (1 + (q2:Int)),.int .i64 (b3:Int),.int .i64 (p4:Int),.int .i64 (4 * (b5:Int))]
  have hA':=hA
  have hR':=hR
  go_wp2_with (first | (refine wpList_load_row (by rfl) 36 (.tmp 3) (by rfl) bA (by rfl) 36 #[.int .i64 6,.string ⟨#[]⟩,.int .i64 0,.int .i64 0,.int .i64 0,.int .i64 0,.int .i64 0,.int .i64 0,.int .i64 0,.int .i64 0,.int .i64 0,.int .i64 0,.int .i64 0,.int .i64 0,.int .i64 0,.int .i64 0,.slice none 0 0,.int .i64 0,.int .i64 0,.int .i64 (1 + (q1:Int)),.int .i64 (1 + (q2:Int)),.int .i64 (b3:Int),.int .i64 (p4:Int),.int .i64 (4 * (b5:Int))] (0,0) _ hA' Tryd.underlying36 rfl (by kernel_rfl) ?_) | (refine wpList_store_row (by rfl) 36 (.tmp 2) (.tmp 126) (by rfl) (w.heap.size + 1) #[.int .i64 6,.string ⟨#[]⟩,.int .i64 0,.int .i64 0,.int .i64 0,.int .i64 0,.int .i64 0,.int .i64 0,.int .i64 0,.int .i64 0,.int .i64 0,.int .i64 0,.int .i64 0,.int .i64 0,.int .i64 0,.int .i64 0,.slice none 0 0,.int .i64 0,.int .i64 0,.int .i64 (1 + (q1:Int)),.int .i64 (1 + (q2:Int)),.int .i64 (b3:Int),.int .i64 (p4:Int),.int .i64 (4 * (b5:Int))] (by rfl) (by rfl) 36 #[.int .i64 0,.string ⟨#[]⟩,.int .i64 0,.int .i64 0,.int .i64 0,.int .i64 0,.int .i64 0,.int .i64 0,.int .i64 0,.int .i64 0,.int .i64 0,.int .i64 0,.int .i64 0,.int .i64 0,.int .i64 0,.int .i64 0,.slice none 0 0,.int .i64 0,.int .i64 0,.int .i64 0,.int .i64 0,.int .i64 0,.int .i64 0,.int .i64 0] hR' (by kernel_rfl) rfl (by simp [Value.oneCell']) ?_))
  refine bodyPost_ret (results_cell_row Tryd.results17 _ _ (w.heap.size + 1) 36 #[.int .i64 6,.string ⟨#[]⟩,.int .i64 0,.int .i64 0,.int .i64 0,.int .i64 0,.int .i64 0,.int .i64 0,.int .i64 0,.int .i64 0,.int .i64 0,.int .i64 0,.int .i64 0,.int .i64 0,.int .i64 0,.int .i64 0,.slice none 0 0,.int .i64 0,.int .i64 0,.int .i64 (1 + (q1:Int)),.int .i64 (1 + (q2:Int)),.int .i64 (b3:Int),.int .i64 (p4:Int),.int .i64 (4 * (b5:Int))] (0,0) _ (by rfl) hF Tryd.underlying36 rfl (by kernel_rfl)) rfl ?_
  exact ⟨_,rfl,⟨none,0,0,by rw [← HP.out]; rfl,by rw [← HP.out]; exact own_none _ _ _ _,by rw [← HP.out]; rfl⟩,hWf⟩
end Go.Proofs.YtggdomeeienjbaaDoor

/- The document's own answer for scripts: act, kind 6. No condition but that bytes are bytes. -/
namespace Go.Proofs.YtggdomeeienjbaaDoor
open Go.ChangeShapes Go.WideShapes Go.ChangeAt Go.RowKit Go.Sort
set_option linter.unusedSimpArgs false
set_option linter.unusedVariables false
set_option maxHeartbeats 16000000 in
set_option maxRecDepth 100000 in
theorem r25act_6 (b0 b1 b2 b3 b4 b5 b6 b7 b8 b9:Nat) (w:World) (ht:TenTab w) (h0:b0 < 256) (h1:b1 < 256) (h2:b2 < 256) (h3:b3 < 256) (h4:b4 < 256) (h5:b5 < 256) (h6:b6 < 256) (h7:b7 < 256) (h8:b8 < 256) (h9:b9 < 256) (P:Pa) (hq:b0 % 7 = 6) (hP:(⟨7,[],zeroDr,(b3 % 10:Nat),[],0,0,(1 + b1 % 4:Nat),(1 + b2 % 4:Nat),0,0,0⟩:Pa) = P) :
    Calls Tryd.prog 17 #[.agg #[.int .u8 (b0:Nat),.int .u8 (b1:Nat),.int .u8 (b2:Nat),.int .u8 (b3:Nat),.int .u8 (b4:Nat),.int .u8 (b5:Nat),.int .u8 (b6:Nat),.int .u8 (b7:Nat),.int .u8 (b8:Nat),.int .u8 (b9:Nat)]] w fun e w' => ∃ v,e = .returned v ∧ AV w.heap.size w' v P ∧ Below w.heap.size w w':=by
  have tq0:(b0:Int).tmod 7 = 6:=tmod_is _ 7 _ _ rfl hq
  obtain ⟨q1,eq1⟩:∃ q,b1 % 4 = q:=⟨_,rfl⟩
  have lq1:q1 < 4:=by rw [← eq1]; exact Nat.mod_lt _ (by omega)
  have tq1:(b1:Int).tmod 4 = (q1:Int):=tmod_is _ 4 _ _ rfl eq1
  have xq1:IntKind.i64.wrap (q1:Int) = (q1:Int):=IntWalk.i64_in _ (by omega)
  have wq1:IntKind.i64.wrap (1 + (q1:Int)) = 1 + (q1:Int):=IntWalk.i64_in _ (by omega)
  rw [eq1] at hP
  obtain ⟨q2,eq2⟩:∃ q,b2 % 4 = q:=⟨_,rfl⟩
  have lq2:q2 < 4:=by rw [← eq2]; exact Nat.mod_lt _ (by omega)
  have tq2:(b2:Int).tmod 4 = (q2:Int):=tmod_is _ 4 _ _ rfl eq2
  have xq2:IntKind.i64.wrap (q2:Int) = (q2:Int):=IntWalk.i64_in _ (by omega)
  have wq2:IntKind.i64.wrap (1 + (q2:Int)) = 1 + (q2:Int):=IntWalk.i64_in _ (by omega)
  rw [eq2] at hP
  obtain ⟨p3,ep3⟩:∃ q,b3 % 10 = q:=⟨_,rfl⟩
  have lp3:p3 < 10:=by rw [← ep3]; exact Nat.mod_lt _ (by omega)
  have tp3:(b3:Int).tmod 10 = (p3:Int):=tmod_is _ 10 _ _ rfl ep3
  have xp3:IntKind.i64.wrap (p3:Int) = (p3:Int):=IntWalk.i64_in _ (by omega)
  have wp3:IntKind.i64.wrap (1 + (p3:Int)) = 1 + (p3:Int):=IntWalk.i64_in _ (by omega)
  rw [ep3] at hP
  have vb0:IntKind.i64.wrap (b0:Int) = (b0:Int):=IntWalk.i64_in _ (by omega)
  have vb1:IntKind.i64.wrap (b1:Int) = (b1:Int):=IntWalk.i64_in _ (by omega)
  have vb2:IntKind.i64.wrap (b2:Int) = (b2:Int):=IntWalk.i64_in _ (by omega)
  have vb3:IntKind.i64.wrap (b3:Int) = (b3:Int):=IntWalk.i64_in _ (by omega)
  have vb4:IntKind.i64.wrap (b4:Int) = (b4:Int):=IntWalk.i64_in _ (by omega)
  have vb5:IntKind.i64.wrap (b5:Int) = (b5:Int):=IntWalk.i64_in _ (by omega)
  have v45:IntKind.i64.wrap (4 * (b5:Int)) = 4 * (b5:Int):=IntWalk.i64_in _ (by omega)
  have HP:=Lib.hid hP
  have TT:=Lib.hid ht
  have H0:=Lib.hid h0
  have H1:=Lib.hid h1
  have H2:=Lib.hid h2
  have H3:=Lib.hid h3
  have H4:=Lib.hid h4
  have H5:=Lib.hid h5
  have H6:=Lib.hid h6
  have H7:=Lib.hid h7
  have H8:=Lib.hid h8
  have H9:=Lib.hid h9
  clear hP ht hq eq1 lq1 eq2 lq2 ep3 lp3 h0 h1 h2 h3 h4 h5 h6 h7 h8 h9
  have hB:Below w.heap.size w ((w.alloc (.cells #[.int .u8 (b0:Nat),.int .u8 (b1:Nat),.int .u8 (b2:Nat),.int .u8 (b3:Nat),.int .u8 (b4:Nat),.int .u8 (b5:Nat),.int .u8 (b6:Nat),.int .u8 (b7:Nat),.int .u8 (b8:Nat),.int .u8 (b9:Nat)] 23)).alloc (.cells #[.int .i64 0,.string ⟨#[]⟩,.int .i64 0,.int .i64 0,.int .i64 0,.int .i64 0,.int .i64 0,.int .i64 0,.int .i64 0,.int .i64 0,.int .i64 0,.int .i64 0,.int .i64 0,.int .i64 0,.int .i64 0,.int .i64 0,.slice none 0 0,.int .i64 0,.int .i64 0,.int .i64 0,.int .i64 0,.int .i64 0,.int .i64 0,.int .i64 0] 36)):=by (repeat (first | exact Below.refl _ _ | refine Below.alloc ?_ (by first | omega | (simp; done) | (simp; omega)) _ | refine Below.setCell ?_ (by first | omega | (simp; done) | (simp; omega)) _ | refine Below.drew ?_))
  have hX:=(Blok.new w 23 #[.int .u8 (b0:Nat),.int .u8 (b1:Nat),.int .u8 (b2:Nat),.int .u8 (b3:Nat),.int .u8 (b4:Nat),.int .u8 (b5:Nat),.int .u8 (b6:Nat),.int .u8 (b7:Nat),.int .u8 (b8:Nat),.int .u8 (b9:Nat)]).alloc (.cells #[.int .i64 0,.string ⟨#[]⟩,.int .i64 0,.int .i64 0,.int .i64 0,.int .i64 0,.int .i64 0,.int .i64 0,.int .i64 0,.int .i64 0,.int .i64 0,.int .i64 0,.int .i64 0,.int .i64 0,.int .i64 0,.int .i64 0,.slice none 0 0,.int .i64 0,.int .i64 0,.int .i64 0,.int .i64 0,.int .i64 0,.int .i64 0,.int .i64 0] 36)
  have hR:=Blok.new (w.alloc (.cells #[.int .u8 (b0:Nat),.int .u8 (b1:Nat),.int .u8 (b2:Nat),.int .u8 (b3:Nat),.int .u8 (b4:Nat),.int .u8 (b5:Nat),.int .u8 (b6:Nat),.int .u8 (b7:Nat),.int .u8 (b8:Nat),.int .u8 (b9:Nat)] 23)) 36 #[.int .i64 0,.string ⟨#[]⟩,.int .i64 0,.int .i64 0,.int .i64 0,.int .i64 0,.int .i64 0,.int .i64 0,.int .i64 0,.int .i64 0,.int .i64 0,.int .i64 0,.int .i64 0,.int .i64 0,.int .i64 0,.int .i64 0,.slice none 0 0,.int .i64 0,.int .i64 0,.int .i64 0,.int .i64 0,.int .i64 0,.int .i64 0,.int .i64 0]
  rw [World.size_alloc] at hR
  have hs:=hB.size
  go_enter Tryd.func17,Tryd.ntmps17
  go_upto_region 1 with fail
  generalize ((w.alloc (.cells #[.int .u8 (b0:Nat),.int .u8 (b1:Nat),.int .u8 (b2:Nat),.int .u8 (b3:Nat),.int .u8 (b4:Nat),.int .u8 (b5:Nat),.int .u8 (b6:Nat),.int .u8 (b7:Nat),.int .u8 (b8:Nat),.int .u8 (b9:Nat)] 23)).alloc (.cells #[.int .i64 0,.string ⟨#[]⟩,.int .i64 0,.int .i64 0,.int .i64 0,.int .i64 0,.int .i64 0,.int .i64 0,.int .i64 0,.int .i64 0,.int .i64 0,.int .i64 0,.int .i64 0,.int .i64 0,.int .i64 0,.int .i64 0,.slice none 0 0,.int .i64 0,.int .i64 0,.int .i64 0,.int .i64 0,.int .i64 0,.int .i64 0,.int .i64 0] 36)) = w1 at *
  have x0:w1.cell? ⟨w.heap.size,0,none⟩ = some (.int .u8 (b0:Nat)):=hX.cell 0
  have lt_x:=hX.lt
  go_upto_region 2 with (first | (refine wpList_store_row (by rfl) 36 (.tmp 3) (.tmp 13) (by rfl) w1.heap.size #[.int .i64 7,.string ⟨#[]⟩,.int .i64 0,.int .i64 0,.int .i64 0,.int .i64 0,.int .i64 0,.int .i64 0,.int .i64 0,.int .i64 0,.int .i64 0,.int .i64 0,.int .i64 0,.int .i64 0,.int .i64 0,.int .i64 0,.slice none 0 0,.int .i64 0,.int .i64 0,.int .i64 0,.int .i64 0,.int .i64 0,.int .i64 0,.int .i64 0] (by rfl) (by rfl) 36 #[.int .i64 0,.string ⟨#[]⟩,.int .i64 0,.int .i64 0,.int .i64 0,.int .i64 0,.int .i64 0,.int .i64 0,.int .i64 0,.int .i64 0,.int .i64 0,.int .i64 0,.int .i64 0,.int .i64 0,.int .i64 0,.int .i64 0,.slice none 0 0,.int .i64 0,.int .i64 0,.int .i64 0,.int .i64 0,.int .i64 0,.int .i64 0,.int .i64 0] (heap_alloc_new _ _) (by kernel_rfl) rfl (by simp [Value.oneCell']) ?_; rw [World.setRow_alloc_new]) | (refine wpList_build_run _ (by rfl) 36 #[(0,.tmp 12)] (by rfl) #[(0,.int .i64 7)] (by rfl) (bact 7 _) ?_))
  clear x0 lt_x
  have hA:=Blok.new w1 36 #[.int .i64 7,.string ⟨#[]⟩,.int .i64 0,.int .i64 0,.int .i64 0,.int .i64 0,.int .i64 0,.int .i64 0,.int .i64 0,.int .i64 0,.int .i64 0,.int .i64 0,.int .i64 0,.int .i64 0,.int .i64 0,.int .i64 0,.slice none 0 0,.int .i64 0,.int .i64 0,.int .i64 0,.int .i64 0,.int .i64 0,.int .i64 0,.int .i64 0]
  have hb:Below w1.heap.size w1 (w1.alloc (.cells #[.int .i64 7,.string ⟨#[]⟩,.int .i64 0,.int .i64 0,.int .i64 0,.int .i64 0,.int .i64 0,.int .i64 0,.int .i64 0,.int .i64 0,.int .i64 0,.int .i64 0,.int .i64 0,.int .i64 0,.int .i64 0,.int .i64 0,.slice none 0 0,.int .i64 0,.int .i64 0,.int .i64 0,.int .i64 0,.int .i64 0,.int .i64 0,.int .i64 0] 36)):=by (repeat (first | exact Below.refl _ _ | refine Below.alloc ?_ (by first | omega | (simp; done) | (simp; omega)) _ | refine Below.setCell ?_ (by first | omega | (simp; done) | (simp; omega)) _ | refine Below.drew ?_))
  have lR:=hR.lt
  replace hX:=hX.below hb hX.lt
  replace hR:=hR.below hb hR.lt
  replace hB:=hB.trans (hb.mono hs)
  replace hs:=hB.size
  clear hb
  generalize w1.alloc (.cells #[.int .i64 7,.string ⟨#[]⟩,.int .i64 0,.int .i64 0,.int .i64 0,.int .i64 0,.int .i64 0,.int .i64 0,.int .i64 0,.int .i64 0,.int .i64 0,.int .i64 0,.int .i64 0,.int .i64 0,.int .i64 0,.int .i64 0,.slice none 0 0,.int .i64 0,.int .i64 0,.int .i64 0,.int .i64 0,.int .i64 0,.int .i64 0,.int .i64 0] 36) = w2 at *
  generalize w1.heap.size = bA at *
  have k0:w2.cell? ⟨bA,0,none⟩ = some (.int .i64 7):=hA.cell 0
  have k1:w2.cell? ⟨bA,1,none⟩ = some (.string ⟨#[]⟩):=hA.cell 1
  have k2:w2.cell? ⟨bA,2,none⟩ = some (.int .i64 0):=hA.cell 2
  have k3:w2.cell? ⟨bA,3,none⟩ = some (.int .i64 0):=hA.cell 3
  have k4:w2.cell? ⟨bA,4,none⟩ = some (.int .i64 0):=hA.cell 4
  have k5:w2.cell? ⟨bA,5,none⟩ = some (.int .i64 0):=hA.cell 5
  have k6:w2.cell? ⟨bA,6,none⟩ = some (.int .i64 0):=hA.cell 6
  have k7:w2.cell? ⟨bA,7,none⟩ = some (.int .i64 0):=hA.cell 7
  have k8:w2.cell? ⟨bA,8,none⟩ = some (.int .i64 0):=hA.cell 8
  have k9:w2.cell? ⟨bA,9,none⟩ = some (.int .i64 0):=hA.cell 9
  have k10:w2.cell? ⟨bA,10,none⟩ = some (.int .i64 0):=hA.cell 10
  have k11:w2.cell? ⟨bA,11,none⟩ = some (.int .i64 0):=hA.cell 11
  have k12:w2.cell? ⟨bA,12,none⟩ = some (.int .i64 0):=hA.cell 12
  have k13:w2.cell? ⟨bA,13,none⟩ = some (.int .i64 0):=hA.cell 13
  have k14:w2.cell? ⟨bA,14,none⟩ = some (.int .i64 0):=hA.cell 14
  have k15:w2.cell? ⟨bA,15,none⟩ = some (.int .i64 0):=hA.cell 15
  have k16:w2.cell? ⟨bA,16,none⟩ = some (.slice none 0 0):=hA.cell 16
  have k17:w2.cell? ⟨bA,17,none⟩ = some (.int .i64 0):=hA.cell 17
  have k18:w2.cell? ⟨bA,18,none⟩ = some (.int .i64 0):=hA.cell 18
  have k19:w2.cell? ⟨bA,19,none⟩ = some (.int .i64 0):=hA.cell 19
  have k20:w2.cell? ⟨bA,20,none⟩ = some (.int .i64 0):=hA.cell 20
  have k21:w2.cell? ⟨bA,21,none⟩ = some (.int .i64 0):=hA.cell 21
  have k22:w2.cell? ⟨bA,22,none⟩ = some (.int .i64 0):=hA.cell 22
  have k23:w2.cell? ⟨bA,23,none⟩ = some (.int .i64 0):=hA.cell 23
  have lt_k:=hA.lt
  go_upto_region 3 with fail
  clear k0 k1 k2 k3 k4 k5 k6 k7 k8 k9 k10 k11 k12 k13 k14 k15 k16 k17 k18 k19 k20 k21 k22 k23 lt_k
  have x1:w2.cell? ⟨w.heap.size,1,none⟩ = some (.int .u8 (b1:Nat)):=hX.cell 1
  have x2:w2.cell? ⟨w.heap.size,2,none⟩ = some (.int .u8 (b2:Nat)):=hX.cell 2
  have x3:w2.cell? ⟨w.heap.size,3,none⟩ = some (.int .u8 (b3:Nat)):=hX.cell 3
  have x4:w2.cell? ⟨w.heap.size,4,none⟩ = some (.int .u8 (b4:Nat)):=hX.cell 4
  have x5:w2.cell? ⟨w.heap.size,5,none⟩ = some (.int .u8 (b5:Nat)):=hX.cell 5
  have lt_x:=hX.lt
  have k0:w2.cell? ⟨bA,0,none⟩ = some (.int .i64 7):=hA.cell 0
  have g0:=hA.free 0
  have k1:w2.cell? ⟨bA,1,none⟩ = some (.string ⟨#[]⟩):=hA.cell 1
  have g1:=hA.free 1
  have k2:w2.cell? ⟨bA,2,none⟩ = some (.int .i64 0):=hA.cell 2
  have g2:=hA.free 2
  have k3:w2.cell? ⟨bA,3,none⟩ = some (.int .i64 0):=hA.cell 3
  have g3:=hA.free 3
  have k4:w2.cell? ⟨bA,4,none⟩ = some (.int .i64 0):=hA.cell 4
  have g4:=hA.free 4
  have k5:w2.cell? ⟨bA,5,none⟩ = some (.int .i64 0):=hA.cell 5
  have g5:=hA.free 5
  have k6:w2.cell? ⟨bA,6,none⟩ = some (.int .i64 0):=hA.cell 6
  have g6:=hA.free 6
  have k7:w2.cell? ⟨bA,7,none⟩ = some (.int .i64 0):=hA.cell 7
  have g7:=hA.free 7
  have k8:w2.cell? ⟨bA,8,none⟩ = some (.int .i64 0):=hA.cell 8
  have g8:=hA.free 8
  have k9:w2.cell? ⟨bA,9,none⟩ = some (.int .i64 0):=hA.cell 9
  have g9:=hA.free 9
  have k10:w2.cell? ⟨bA,10,none⟩ = some (.int .i64 0):=hA.cell 10
  have g10:=hA.free 10
  have k11:w2.cell? ⟨bA,11,none⟩ = some (.int .i64 0):=hA.cell 11
  have g11:=hA.free 11
  have k12:w2.cell? ⟨bA,12,none⟩ = some (.int .i64 0):=hA.cell 12
  have g12:=hA.free 12
  have k13:w2.cell? ⟨bA,13,none⟩ = some (.int .i64 0):=hA.cell 13
  have g13:=hA.free 13
  have k14:w2.cell? ⟨bA,14,none⟩ = some (.int .i64 0):=hA.cell 14
  have g14:=hA.free 14
  have k15:w2.cell? ⟨bA,15,none⟩ = some (.int .i64 0):=hA.cell 15
  have g15:=hA.free 15
  have k16:w2.cell? ⟨bA,16,none⟩ = some (.slice none 0 0):=hA.cell 16
  have g16:=hA.free 16
  have k17:w2.cell? ⟨bA,17,none⟩ = some (.int .i64 0):=hA.cell 17
  have g17:=hA.free 17
  have k18:w2.cell? ⟨bA,18,none⟩ = some (.int .i64 0):=hA.cell 18
  have g18:=hA.free 18
  have k19:w2.cell? ⟨bA,19,none⟩ = some (.int .i64 0):=hA.cell 19
  have g19:=hA.free 19
  have k20:w2.cell? ⟨bA,20,none⟩ = some (.int .i64 0):=hA.cell 20
  have g20:=hA.free 20
  have k21:w2.cell? ⟨bA,21,none⟩ = some (.int .i64 0):=hA.cell 21
  have g21:=hA.free 21
  have k22:w2.cell? ⟨bA,22,none⟩ = some (.int .i64 0):=hA.cell 22
  have g22:=hA.free 22
  have k23:w2.cell? ⟨bA,23,none⟩ = some (.int .i64 0):=hA.cell 23
  have g23:=hA.free 23
  have lt_k:=hA.lt
  have hth:=hA.there_ 19 5 (by simp)
  go_upto_region 4 with (refine wpList_store_mid (by rfl) 34 (.tmp 27) (.tmp 26) (by rfl) bA 19 #[.int .i64 (1 + (q1:Int)),.int .i64 (1 + (q2:Int)),.int .i64 0,.int .i64 0,.int .i64 0] (by rfl) (by rfl) hth (by kernel_rfl) (by simp [Value.oneCell']) ?_; obtain ⟨w4,hw4⟩:∃ x,x = w2.setCells bA 19 (#[.int .i64 (1 + (q1:Int)),.int .i64 (1 + (q2:Int)),.int .i64 0,.int .i64 0,.int .i64 0]:Array Value).toList:=⟨_,rfl⟩; rw [← hw4])
  have hgs:=grown_sets (b:=bA) [.int .i64 (1 + (q1:Int)),.int .i64 (1 + (q2:Int)),.int .i64 0,.int .i64 0,.int .i64 0] 19 w2
  have hA2:Blok w4 bA 36 #[.int .i64 7,.string ⟨#[]⟩,.int .i64 0,.int .i64 0,.int .i64 0,.int .i64 0,.int .i64 0,.int .i64 0,.int .i64 0,.int .i64 0,.int .i64 0,.int .i64 0,.int .i64 0,.int .i64 0,.int .i64 0,.int .i64 0,.slice none 0 0,.int .i64 0,.int .i64 0,.int .i64 (1 + (q1:Int)),.int .i64 (1 + (q2:Int)),.int .i64 0,.int .i64 0,.int .i64 0]:=by rw [hw4]; exact Blok.sets [.int .i64 (1 + (q1:Int)),.int .i64 (1 + (q2:Int)),.int .i64 0,.int .i64 0,.int .i64 0] 19 w2 [.int .i64 7,.string ⟨#[]⟩,.int .i64 0,.int .i64 0,.int .i64 0,.int .i64 0,.int .i64 0,.int .i64 0,.int .i64 0,.int .i64 0,.int .i64 0,.int .i64 0,.int .i64 0,.int .i64 0,.int .i64 0,.int .i64 0,.slice none 0 0,.int .i64 0,.int .i64 0,.int .i64 0,.int .i64 0,.int .i64 0,.int .i64 0,.int .i64 0] hA (by simp)
  have hX2:Blok w4 w.heap.size 23 #[.int .u8 (b0:Nat),.int .u8 (b1:Nat),.int .u8 (b2:Nat),.int .u8 (b3:Nat),.int .u8 (b4:Nat),.int .u8 (b5:Nat),.int .u8 (b6:Nat),.int .u8 (b7:Nat),.int .u8 (b8:Nat),.int .u8 (b9:Nat)]:=by rw [hw4]; exact hX.grown hgs (by simp only [ne_eq,Option.some.injEq]; omega)
  have hR2:Blok w4 (w.heap.size + 1) 36 #[.int .i64 0,.string ⟨#[]⟩,.int .i64 0,.int .i64 0,.int .i64 0,.int .i64 0,.int .i64 0,.int .i64 0,.int .i64 0,.int .i64 0,.int .i64 0,.int .i64 0,.int .i64 0,.int .i64 0,.int .i64 0,.int .i64 0,.slice none 0 0,.int .i64 0,.int .i64 0,.int .i64 0,.int .i64 0,.int .i64 0,.int .i64 0,.int .i64 0]:=by rw [hw4]; exact hR.grown hgs (by simp only [ne_eq,Option.some.injEq]; omega)
  have hB2:Below w.heap.size w w4:=by rw [hw4]; exact hB.grown hgs hs (fun k hk => by injection hk with hk; omega)
  clear hgs
  clear hA hX hR hB hs hth hw4
  have hA:=hA2
  have hX:=hX2
  have hR:=hR2
  have hB:=hB2
  have hs:=hB.size
  clear hA2 hX2 hR2 hB2
  clear k0 g0 k1 g1 k2 g2 k3 g3 k4 g4 k5 g5 k6 g6 k7 g7 k8 g8 k9 g9 k10 g10 k11 g11 k12 g12 k13 g13 k14 g14 k15 g15 k16 g16 k17 g17 k18 g18 k19 g19 k20 g20 k21 g21 k22 g22 k23 g23 lt_k
  clear x1 x2 x3 x4 x5 lt_x
  have x3:w4.cell? ⟨w.heap.size,3,none⟩ = some (.int .u8 (b3:Nat)):=hX.cell 3
  have lt_x:=hX.lt
  have k0:w4.cell? ⟨bA,0,none⟩ = some (.int .i64 7):=hA.cell 0
  have g0:=hA.free 0
  have k1:w4.cell? ⟨bA,1,none⟩ = some (.string ⟨#[]⟩):=hA.cell 1
  have g1:=hA.free 1
  have k2:w4.cell? ⟨bA,2,none⟩ = some (.int .i64 0):=hA.cell 2
  have g2:=hA.free 2
  have k3:w4.cell? ⟨bA,3,none⟩ = some (.int .i64 0):=hA.cell 3
  have g3:=hA.free 3
  have k4:w4.cell? ⟨bA,4,none⟩ = some (.int .i64 0):=hA.cell 4
  have g4:=hA.free 4
  have k5:w4.cell? ⟨bA,5,none⟩ = some (.int .i64 0):=hA.cell 5
  have g5:=hA.free 5
  have k6:w4.cell? ⟨bA,6,none⟩ = some (.int .i64 0):=hA.cell 6
  have g6:=hA.free 6
  have k7:w4.cell? ⟨bA,7,none⟩ = some (.int .i64 0):=hA.cell 7
  have g7:=hA.free 7
  have k8:w4.cell? ⟨bA,8,none⟩ = some (.int .i64 0):=hA.cell 8
  have g8:=hA.free 8
  have k9:w4.cell? ⟨bA,9,none⟩ = some (.int .i64 0):=hA.cell 9
  have g9:=hA.free 9
  have k10:w4.cell? ⟨bA,10,none⟩ = some (.int .i64 0):=hA.cell 10
  have g10:=hA.free 10
  have k11:w4.cell? ⟨bA,11,none⟩ = some (.int .i64 0):=hA.cell 11
  have g11:=hA.free 11
  have k12:w4.cell? ⟨bA,12,none⟩ = some (.int .i64 0):=hA.cell 12
  have g12:=hA.free 12
  have k13:w4.cell? ⟨bA,13,none⟩ = some (.int .i64 0):=hA.cell 13
  have g13:=hA.free 13
  have k14:w4.cell? ⟨bA,14,none⟩ = some (.int .i64 0):=hA.cell 14
  have g14:=hA.free 14
  have k15:w4.cell? ⟨bA,15,none⟩ = some (.int .i64 0):=hA.cell 15
  have g15:=hA.free 15
  have k16:w4.cell? ⟨bA,16,none⟩ = some (.slice none 0 0):=hA.cell 16
  have g16:=hA.free 16
  have k17:w4.cell? ⟨bA,17,none⟩ = some (.int .i64 0):=hA.cell 17
  have g17:=hA.free 17
  have k18:w4.cell? ⟨bA,18,none⟩ = some (.int .i64 0):=hA.cell 18
  have g18:=hA.free 18
  have k19:w4.cell? ⟨bA,19,none⟩ = some (.int .i64 (1 + (q1:Int))):=hA.cell 19
  have g19:=hA.free 19
  have k20:w4.cell? ⟨bA,20,none⟩ = some (.int .i64 (1 + (q2:Int))):=hA.cell 20
  have g20:=hA.free 20
  have k21:w4.cell? ⟨bA,21,none⟩ = some (.int .i64 0):=hA.cell 21
  have g21:=hA.free 21
  have k22:w4.cell? ⟨bA,22,none⟩ = some (.int .i64 0):=hA.cell 22
  have g22:=hA.free 22
  have k23:w4.cell? ⟨bA,23,none⟩ = some (.int .i64 0):=hA.cell 23
  have g23:=hA.free 23
  have lt_k:=hA.lt
  go_upto_region 27 with fail
  clear k0 g0 k1 g1 k2 g2 k3 g3 k4 g4 k5 g5 k6 g6 k7 g7 k8 g8 k9 g9 k10 g10 k11 g11 k12 g12 k13 g13 k14 g14 k15 g15 k16 g16 k17 g17 k18 g18 k19 g19 k20 g20 k21 g21 k22 g22 k23 g23 lt_k
  clear x3 lt_x
  have hA2:Blok (w4.setCell ⟨bA,15,none⟩ (.int .i64 (p3:Int))) bA 36 #[.int .i64 7,.string ⟨#[]⟩,.int .i64 0,.int .i64 0,.int .i64 0,.int .i64 0,.int .i64 0,.int .i64 0,.int .i64 0,.int .i64 0,.int .i64 0,.int .i64 0,.int .i64 0,.int .i64 0,.int .i64 0,.int .i64 (p3:Int),.slice none 0 0,.int .i64 0,.int .i64 0,.int .i64 (1 + (q1:Int)),.int .i64 (1 + (q2:Int)),.int .i64 0,.int .i64 0,.int .i64 0]:=by exact (hA.set_ 15 (.int .i64 (p3:Int)))
  replace hX:=(hX.far (p:=⟨bA,15,none⟩) (by simp only; omega) (.int .i64 (p3:Int)))
  replace hR:=(hR.far (p:=⟨bA,15,none⟩) (by simp only; omega) (.int .i64 (p3:Int)))
  replace hB:=(hB.setCell (p:=⟨bA,15,none⟩) (by simp only; omega) (.int .i64 (p3:Int)))
  replace hs:=hB.size
  clear hA
  have hA:=hA2
  clear hA2
  generalize (w4.setCell ⟨bA,15,none⟩ (.int .i64 (p3:Int))) = w5 at *
  have hF:=setRow_heap w5 (w.heap.size + 1) #[.int .i64 0,.string ⟨#[]⟩,.int .i64 0,.int .i64 0,.int .i64 0,.int .i64 0,.int .i64 0,.int .i64 0,.int .i64 0,.int .i64 0,.int .i64 0,.int .i64 0,.int .i64 0,.int .i64 0,.int .i64 0,.int .i64 0,.slice none 0 0,.int .i64 0,.int .i64 0,.int .i64 0,.int .i64 0,.int .i64 0,.int .i64 0,.int .i64 0] #[.int .i64 7,.string ⟨#[]⟩,.int .i64 0,.int .i64 0,.int .i64 0,.int .i64 0,.int .i64 0,.int .i64 0,.int .i64 0,.int .i64 0,.int .i64 0,.int .i64 0,.int .i64 0,.int .i64 0,.int .i64 0,.int .i64 (p3:Int),.slice none 0 0,.int .i64 0,.int .i64 0,.int .i64 (1 + (q1:Int)),.int .i64 (1 + (q2:Int)),.int .i64 0,.int .i64 0,.int .i64 0] 36 (0,0) hR
  have hWf:=below_setRow hB (g:=w.heap.size + 1) (by omega) #[.int .i64 7,.string ⟨#[]⟩,.int .i64 0,.int .i64 0,.int .i64 0,.int .i64 0,.int .i64 0,.int .i64 0,.int .i64 0,.int .i64 0,.int .i64 0,.int .i64 0,.int .i64 0,.int .i64 0,.int .i64 0,.int .i64 (p3:Int),.slice none 0 0,.int .i64 0,.int .i64 0,.int .i64 (1 + (q1:Int)),.int .i64 (1 + (q2:Int)),.int .i64 0,.int .i64 0,.int .i64 0]
  have hgw:=grown_setRow w5 (w.heap.size + 1) #[.int .i64 7,.string ⟨#[]⟩,.int .i64 0,.int .i64 0,.int .i64 0,.int .i64 0,.int .i64 0,.int .i64 0,.int .i64 0,.int .i64 0,.int .i64 0,.int .i64 0,.int .i64 0,.int .i64 0,.int .i64 0,.int .i64 (p3:Int),.slice none 0 0,.int .i64 0,.int .i64 0,.int .i64 (1 + (q1:Int)),.int .i64 (1 + (q2:Int)),.int .i64 0,.int .i64 0,.int .i64 0]
  have hA':=hA
  have hR':=hR
  go_wp2_with (first | (refine wpList_load_row (by rfl) 36 (.tmp 3) (by rfl) bA (by rfl) 36 #[.int .i64 7,.string ⟨#[]⟩,.int .i64 0,.int .i64 0,.int .i64 0,.int .i64 0,.int .i64 0,.int .i64 0,.int .i64 0,.int .i64 0,.int .i64 0,.int .i64 0,.int .i64 0,.int .i64 0,.int .i64 0,.int .i64 (p3:Int),.slice none 0 0,.int .i64 0,.int .i64 0,.int .i64 (1 + (q1:Int)),.int .i64 (1 + (q2:Int)),.int .i64 0,.int .i64 0,.int .i64 0] (0,0) _ hA' Tryd.underlying36 rfl (by kernel_rfl) ?_) | (refine wpList_store_row (by rfl) 36 (.tmp 2) (.tmp 126) (by rfl) (w.heap.size + 1) #[.int .i64 7,.string ⟨#[]⟩,.int .i64 0,.int .i64 0,.int .i64 0,.int .i64 0,.int .i64 0,.int .i64 0,.int .i64 0,.int .i64 0,.int .i64 0,.int .i64 0,.int .i64 0,.int .i64 0,.int .i64 0,.int .i64 (p3:Int),.slice none 0 0,.int .i64 0,.int .i64 0,.int .i64 (1 + (q1:Int)),.int .i64 (1 + (q2:Int)),.int .i64 0,.int .i64 0,.int .i64 0] (by rfl) (by rfl) 36 #[.int .i64 0,.string ⟨#[]⟩,.int .i64 0,.int .i64 0,.int .i64 0,.int .i64 0,.int .i64 0,.int .i64 0,.int .i64 0,.int .i64 0,.int .i64 0,.int .i64 0,.int .i64 0,.int .i64 0,.int .i64 0,.int .i64 0,.slice none 0 0,.int .i64 0,.int .i64 0,.int .i64 0,.int .i64 0,.int .i64 0,.int .i64 0,.int .i64 0] hR' (by kernel_rfl) rfl (by simp [Value.oneCell']) ?_))
  refine bodyPost_ret (results_cell_row Tryd.results17 _ _ (w.heap.size + 1) 36 #[.int .i64 7,.string ⟨#[]⟩,.int .i64 0,.int .i64 0,.int .i64 0,.int .i64 0,.int .i64 0,.int .i64 0,.int .i64 0,.int .i64 0,.int .i64 0,.int .i64 0,.int .i64 0,.int .i64 0,.int .i64 0,.int .i64 (p3:Int),.slice none 0 0,.int .i64 0,.int .i64 0,.int .i64 (1 + (q1:Int)),.int .i64 (1 + (q2:Int)),.int .i64 0,.int .i64 0,.int .i64 0] (0,0) _ (by rfl) hF Tryd.underlying36 rfl (by kernel_rfl)) rfl ?_
  exact ⟨_,rfl,⟨none,0,0,by rw [← HP.out]; rfl,by rw [← HP.out]; exact own_none _ _ _ _,by rw [← HP.out]; rfl⟩,hWf⟩
end Go.Proofs.YtggdomeeienjbaaDoor

/- The document's own answer for scripts: act, whole, and Acts. No condition but that bytes are bytes. -/
namespace Go.Proofs.YtggdomeeienjbaaDoor
open Go.ChangeShapes Go.WideShapes Go.ChangeAt Go.RowKit Go.Sort
set_option linter.unusedSimpArgs false
set_option linter.unusedVariables false
theorem r25act_any (b0 b1 b2 b3 b4 b5 b6 b7 b8 b9:Nat) (w:World) (ht:TenTab w) (h0:b0 < 256) (h1:b1 < 256) (h2:b2 < 256) (h3:b3 < 256) (h4:b4 < 256) (h5:b5 < 256) (h6:b6 < 256) (h7:b7 < 256) (h8:b8 < 256) (h9:b9 < 256) (P:Pa) (hP:actF b0 b1 b2 b3 b4 b5 b6 b7 b8 = P) :
    Calls Tryd.prog 17 #[.agg #[.int .u8 (b0:Nat),.int .u8 (b1:Nat),.int .u8 (b2:Nat),.int .u8 (b3:Nat),.int .u8 (b4:Nat),.int .u8 (b5:Nat),.int .u8 (b6:Nat),.int .u8 (b7:Nat),.int .u8 (b8:Nat),.int .u8 (b9:Nat)]] w fun e w' => ∃ v,e = .returned v ∧ AV w.heap.size w' v P ∧ Below w.heap.size w w':=by
  have hq:b0 % 7 = 0 ∨ b0 % 7 = 1 ∨ b0 % 7 = 2 ∨ b0 % 7 = 3 ∨ b0 % 7 = 4 ∨ b0 % 7 = 5 ∨ b0 % 7 = 6:=by omega
  rcases hq with hq | hq | hq | hq | hq | hq | hq
  · exact r25act_0 b0 b1 b2 b3 b4 b5 b6 b7 b8 b9 w ht h0 h1 h2 h3 h4 h5 h6 h7 h8 h9 P hq (by rw [← hP]; simp [actF,hq])
  · exact r25act_1 b0 b1 b2 b3 b4 b5 b6 b7 b8 b9 w ht h0 h1 h2 h3 h4 h5 h6 h7 h8 h9 P hq (by rw [← hP]; simp [actF,hq])
  · exact r25act_2 b0 b1 b2 b3 b4 b5 b6 b7 b8 b9 w ht h0 h1 h2 h3 h4 h5 h6 h7 h8 h9 P hq (by rw [← hP]; simp [actF,hq])
  · exact r25act_3 b0 b1 b2 b3 b4 b5 b6 b7 b8 b9 w ht h0 h1 h2 h3 h4 h5 h6 h7 h8 h9 P hq (by rw [← hP]; simp [actF,hq])
  · exact r25act_4 b0 b1 b2 b3 b4 b5 b6 b7 b8 b9 w ht h0 h1 h2 h3 h4 h5 h6 h7 h8 h9 P hq (by rw [← hP]; simp [actF,hq])
  · exact r25act_5 b0 b1 b2 b3 b4 b5 b6 b7 b8 b9 w ht h0 h1 h2 h3 h4 h5 h6 h7 h8 h9 P hq (by rw [← hP]; simp [actF,hq])
  · exact r25act_6 b0 b1 b2 b3 b4 b5 b6 b7 b8 b9 w ht h0 h1 h2 h3 h4 h5 h6 h7 h8 h9 P hq (by rw [← hP]; simp [actF,hq])
set_option maxHeartbeats 16000000 in
set_option maxRecDepth 100000 in
theorem r25acts_any (A:Option Addr) (n c:Nat) (l:List Nat) (hl:l.length = n) (hn:n ≤ 100000) (hb:∀ x ∈ l,x < 256) (w:World) (ht:TenTab w) (h:Sl w w.heap.size 1 A n c (cB l)) :
    Calls Tryd.prog 8 #[.slice A n c] w fun e w' => ∃ v L,e = .returned (.tuple #[v,.int .i64 (n % 10:Nat)]) ∧ ActsI w w' (actsF l) v (n / 10) L ∧ Below w.heap.size w w':=by
  obtain ⟨i0,hi0,hz0,hz1,hz2⟩:=info_parts infoAx
  have HL:=Lib.hid hl
  have HBY:=Lib.hid hb
  have TT:=Lib.hid ht
  have HH:=Lib.hid h
  have HN:=Lib.hid hn
  clear hl hb ht h hn
  go_enter Tryd.func8,Tryd.ntmps8
  go_wp2_with fail
  go_loopw [0,4] (fun bv lv wr => ∃ (k m c':Nat) (A':Option Addr),bv = .slice A' m c' ∧ m + 10 * k = n ∧ Hid (Sl wr w.heap.size 1 A' m c' (cB (l.drop (10 * k)))) ∧ Hid (∃ L,ActsI w wr (actsF (l.take (10 * k))) lv k L) ∧ Below w.heap.size w wr) (fun bv _ _ => match bv with | .slice _ m _ => m | _ => 0)
  case atStart => exact ⟨0,n,c,A,rfl,by omega,by simpa [Hid] using HH.out,⟨[],rfl,(actsF_nil (by simp)).symm,own_none _ _ _ _,fun x hx => by cases hx⟩,Below.refl _ _⟩
  case round =>
    obtain ⟨k,m,c',A',rfl,hmk,HS,HI,hB⟩:=hrel
    have hs:=hB.size
    by_cases hm:10 ≤ m
    · have g1:decide ((m:Int) ≥ 10) = true:=decide_eq_true (by omega)
      have hdl:(l.drop (10 * k)).length = m:=by rw [List.length_drop,HL.out]; omega
      obtain ⟨ad,rfl,hab,_⟩:=HS.out.bt hdl (j:=0) (by omega)
      have hten:=ten_cells HS.out hdl hm
      have hby:∀ j,j < 10 → (l.drop (10 * k)).getD j 0 < 256:=fun j hj => by
        rw [List.getD_eq_getElem?_getD,List.getElem?_eq_getElem (by omega)]
        exact HBY.out _ (List.mem_of_mem_drop (List.getElem_mem _))
      obtain ⟨P,hP⟩:∃ P,actF ((l.drop (10 * k)).getD 0 0) ((l.drop (10 * k)).getD 1 0) ((l.drop (10 * k)).getD 2 0) ((l.drop (10 * k)).getD 3 0) ((l.drop (10 * k)).getD 4 0) ((l.drop (10 * k)).getD 5 0) ((l.drop (10 * k)).getD 6 0) ((l.drop (10 * k)).getD 7 0) ((l.drop (10 * k)).getD 8 0) = P:=⟨_,rfl⟩
      have hnx:actsF (l.take (10 * (k + 1))) = actsF (l.take (10 * k)) ++ [P]:=by rw [actsF_take k l (by rw [HL.out]; omega),hP]
      have HNX:=Lib.hid hnx
      have hpi:P.ids.length ≤ 2:=by rw [← hP]; exact actF_ids _ _ _ _ _ _ _ _ _
      have z0:=hby 0 (by omega)
      have z1:=hby 1 (by omega)
      have z2:=hby 2 (by omega)
      have z3:=hby 3 (by omega)
      have z4:=hby 4 (by omega)
      have z5:=hby 5 (by omega)
      have z6:=hby 6 (by omega)
      have z7:=hby 7 (by omega)
      have z8:=hby 8 (by omega)
      have z9:=hby 9 (by omega)
      obtain ⟨y0,y1,y2,y3,y4,y5,y6,y7,y8,y9,hys⟩:∃ y0 y1 y2 y3 y4 y5 y6 y7 y8 y9:Nat,(l.drop (10 * k)).getD 0 0 = y0 ∧ (l.drop (10 * k)).getD 1 0 = y1 ∧ (l.drop (10 * k)).getD 2 0 = y2 ∧ (l.drop (10 * k)).getD 3 0 = y3 ∧ (l.drop (10 * k)).getD 4 0 = y4 ∧ (l.drop (10 * k)).getD 5 0 = y5 ∧ (l.drop (10 * k)).getD 6 0 = y6 ∧ (l.drop (10 * k)).getD 7 0 = y7 ∧ (l.drop (10 * k)).getD 8 0 = y8 ∧ (l.drop (10 * k)).getD 9 0 = y9:=⟨_,_,_,_,_,_,_,_,_,_,rfl,rfl,rfl,rfl,rfl,rfl,rfl,rfl,rfl,rfl⟩
      obtain ⟨v0,v1,v2,v3,v4,v5,v6,v7,v8,v9⟩:=hys
      simp only [v0,v1,v2,v3,v4,v5,v6,v7,v8,v9] at hten hP z0 z1 z2 z3 z4 z5 z6 z7 z8 z9
      have HP:=Lib.hid hP
      have HPI:=Lib.hid hpi
      have HT:=Lib.hid hten
      have HZ:=Lib.hid (show y0 < 256 ∧ y1 < 256 ∧ y2 < 256 ∧ y3 < 256 ∧ y4 < 256 ∧ y5 < 256 ∧ y6 < 256 ∧ y7 < 256 ∧ y8 < 256 ∧ y9 < 256 from ⟨z0,z1,z2,z3,z4,z5,z6,z7,z8,z9⟩)
      clear v0 v1 v2 v3 v4 v5 v6 v7 v8 v9 z0 z1 z2 z3 z4 z5 z6 z7 z8 z9 hdl hby hnx hP hpi hten
      obtain ⟨wO,hwO⟩:∃ x,x = wr:=⟨_,rfl⟩
      subst hwO
      have hX0:=Blok.new wO 23 #[.int .u8 0,.int .u8 0,.int .u8 0,.int .u8 0,.int .u8 0,.int .u8 0,.int .u8 0,.int .u8 0,.int .u8 0,.int .u8 0]
      have hb00:Below wO.heap.size wO (wO.alloc (.cells #[.int .u8 0,.int .u8 0,.int .u8 0,.int .u8 0,.int .u8 0,.int .u8 0,.int .u8 0,.int .u8 0,.int .u8 0,.int .u8 0] 23)):=by (repeat (first | exact Below.refl _ _ | refine Below.alloc ?_ (by first | omega | (simp; done) | (simp; omega)) _ | refine Below.setCell ?_ (by first | omega | (simp; done) | (simp; omega)) _ | refine Below.drew ?_))
      have HX0:=Lib.hid hX0
      have HB00:=Lib.hid hb00
      have HAB:=Lib.hid hab
      clear hX0 hb00 hab
      go_wp2_with fail
      go_loopw [6] (fun iv wr => ∃ (j:Nat) (cs:Array Value),iv = .int .i64 j ∧ j ≤ 10 ∧ cs.size = 10 ∧ Hid (∀ i,i < j → cs[i]? = some (.int .u8 (([y0,y1,y2,y3,y4,y5,y6,y7,y8,y9].getD i 0:Nat):Int))) ∧ Blok wr wO.heap.size 23 cs ∧ Below wO.heap.size wO wr) (fun iv _ => 10 - (intOf iv).toNat)
      case atStart => exact ⟨0,#[.int .u8 0,.int .u8 0,.int .u8 0,.int .u8 0,.int .u8 0,.int .u8 0,.int .u8 0,.int .u8 0,.int .u8 0,.int .u8 0],rfl,by omega,rfl,fun i hi => by omega,HX0.out,HB00.out⟩
      case round =>
        obtain ⟨j,cs,rfl,hj,hcs,HC,hX,hb0⟩:=hrel
        have hab:=HAB.out
        by_cases hj10:j < 10
        · obtain ⟨v,hv⟩:∃ v,[y0,y1,y2,y3,y4,y5,y6,y7,y8,y9].getD j 0 = v:=⟨_,rfl⟩
          have hsc:wr.cell? (ad.add j) = some (.int .u8 (v:Nat)):=by
            refine (hb0.cell (by rw [add_block]; omega)).trans (HT.out j _ ?_)
            rw [← hv]
            exact cB_at [y0,y1,y2,y3,y4,y5,y6,y7,y8,y9] j (by simpa using hj10)
          obtain ⟨u,hu⟩:∃ u,cs[j]? = some u:=⟨_,Array.getElem?_eq_getElem (by omega)⟩
          have hbc:wr.cell? ⟨wO.heap.size,j,none⟩ = some u:=(hX.cell j).trans hu
          have hbf:=hX.free j
          have hbl:=hX.lt
          have HV:=Lib.hid hv
          have q1:decide ((j:Int) < 10) = true:=decide_eq_true (by omega)
          have jm:j < m:=by omega
          have hw1:IntKind.i64.wrap ((j:Int) + 1) = (j:Int) + 1:=IntWalk.i64_in _ (by omega)
          clear hv hu
          go_wp2_with fail
          go_roundw
          case rel => exact ⟨j + 1,cs.setIfInBounds j (.int .u8 (v:Nat)),by go_num,by omega,by simp [hcs],fun i hi => by
            by_cases e:i = j
            · subst e
              rw [HV.out]
              simp [hcs,hj10]
            · rw [Array.getElem?_setIfInBounds_ne (by omega)]
              exact HC.out i (by omega),hX.set_ j _,hb0.setCell (p:=⟨wO.heap.size,j,none⟩) (Nat.le_refl _) _⟩
          case measure => simp [intOf]; omega
        · obtain rfl:j = 10:=by omega
          obtain rfl:cs = #[.int .u8 (y0:Nat),.int .u8 (y1:Nat),.int .u8 (y2:Nat),.int .u8 (y3:Nat),.int .u8 (y4:Nat),.int .u8 (y5:Nat),.int .u8 (y6:Nat),.int .u8 (y7:Nat),.int .u8 (y8:Nat),.int .u8 (y9:Nat)]:=by
            apply Array.ext_getElem?
            intro i
            by_cases hi:i < 10
            · rw [HC.out i hi]
              obtain rfl | rfl | rfl | rfl | rfl | rfl | rfl | rfl | rfl | rfl:i = 0 ∨ i = 1 ∨ i = 2 ∨ i = 3 ∨ i = 4 ∨ i = 5 ∨ i = 6 ∨ i = 7 ∨ i = 8 ∨ i = 9:=by omega
              all_goals rfl
            · rw [Array.getElem?_eq_none (by omega),Array.getElem?_eq_none (by simp; omega)]
          clear HC hcs hj hj10
          obtain ⟨w2,hw2⟩:∃ x,x = wr:=⟨_,rfl⟩
          subst hw2
          replace HS:=Lib.hid (HS.out.below (B:=w.heap.size) ⟨hb0.os,hb0.tape,hb0.output,hb0.size,fun q hq => hb0.block q (by omega)⟩)
          obtain ⟨L,hI⟩:=HI.out
          clear HI
          replace hI:=hI.below hb0
          replace hB:=hB.trans (hb0.mono hs)
          replace hs:=hB.size
          clear hb0
          generalize wO.heap.size = bX at *
          have x0:w2.cell? ⟨bX,0,none⟩ = some (.int .u8 (y0:Nat)):=hX.cell 0
          have x1:w2.cell? ⟨bX,1,none⟩ = some (.int .u8 (y1:Nat)):=hX.cell 1
          have x2:w2.cell? ⟨bX,2,none⟩ = some (.int .u8 (y2:Nat)):=hX.cell 2
          have x3:w2.cell? ⟨bX,3,none⟩ = some (.int .u8 (y3:Nat)):=hX.cell 3
          have x4:w2.cell? ⟨bX,4,none⟩ = some (.int .u8 (y4:Nat)):=hX.cell 4
          have x5:w2.cell? ⟨bX,5,none⟩ = some (.int .u8 (y5:Nat)):=hX.cell 5
          have x6:w2.cell? ⟨bX,6,none⟩ = some (.int .u8 (y6:Nat)):=hX.cell 6
          have x7:w2.cell? ⟨bX,7,none⟩ = some (.int .u8 (y7:Nat)):=hX.cell 7
          have x8:w2.cell? ⟨bX,8,none⟩ = some (.int .u8 (y8:Nat)):=hX.cell 8
          have x9:w2.cell? ⟨bX,9,none⟩ = some (.int .u8 (y9:Nat)):=hX.cell 9
          have lt_x:=hX.lt
          have HI:=Lib.hid hI
          clear hI
          go_wp2_with fail
          refine (r25act_any y0 y1 y2 y3 y4 y5 y6 y7 y8 y9 w2 (TT.out.below hB) HZ.out.1 HZ.out.2.1 HZ.out.2.2.1 HZ.out.2.2.2.1 HZ.out.2.2.2.2.1 HZ.out.2.2.2.2.2.1 HZ.out.2.2.2.2.2.2.1 HZ.out.2.2.2.2.2.2.2.1 HZ.out.2.2.2.2.2.2.2.2.1 HZ.out.2.2.2.2.2.2.2.2.2 P HP.out).mono ?_
          rintro e w3 ⟨v,rfl,⟨A5,k5,c5,rfl,hids,hk5⟩,hb3⟩
          replace hids:=own_down (base':=w.heap.size) hids hs
          rw [hk5] at hids
          have hI:=HI.out.below hb3
          replace HS:=Lib.hid (HS.out.below (B:=w.heap.size) ⟨hb3.os,hb3.tape,hb3.output,hb3.size,fun q hq => hb3.block q (by omega)⟩)
          replace hB:=hB.trans (hb3.mono hs)
          replace hs:=hB.size
          clear hb3 HI hX x0 x1 x2 x3 x4 x5 x6 x7 x8 x9 lt_x
          have hown:=hI.own
          obtain ⟨A6,c6,rfl⟩:=slice_of_own hown
          have hlits:=own_lit w3 w.heap.size 36 24 1 #[.int .i64 P.dk,.string (bs P.tx),.int .i64 P.D.op,.int .i64 P.D.kd,.int .i64 P.D.id,.int .i64 P.D.fr,.int .i64 P.D.tn,.int .i64 P.D.st,.int .i64 P.D.en,.int .i64 P.D.rt,.int .i64 P.D.rf,.int .i64 P.D.rn,.int .i64 P.D.rs,.int .i64 P.D.re,.int .i64 P.D.ro,.int .i64 P.n,.slice A5 k5 c5,.int .i64 P.cl,.int .i64 P.sz,.int .i64 P.bf,.int .i64 P.bt,.int .i64 P.bs_,.int .i64 P.bc,.int .i64 P.bd] hs rfl (by simp [maxLen])
          have hb4:Below w3.heap.size w3 (w3.alloc (.cells #[.int .i64 P.dk,.string (bs P.tx),.int .i64 P.D.op,.int .i64 P.D.kd,.int .i64 P.D.id,.int .i64 P.D.fr,.int .i64 P.D.tn,.int .i64 P.D.st,.int .i64 P.D.en,.int .i64 P.D.rt,.int .i64 P.D.rf,.int .i64 P.D.rn,.int .i64 P.D.rs,.int .i64 P.D.re,.int .i64 P.D.ro,.int .i64 P.n,.slice A5 k5 c5,.int .i64 P.cl,.int .i64 P.sz,.int .i64 P.bf,.int .i64 P.bt,.int .i64 P.bs_,.int .i64 P.bc,.int .i64 P.bd] 36)):=by (repeat (first | exact Below.refl _ _ | refine Below.alloc ?_ (by first | omega | (simp; done) | (simp; omega)) _ | refine Below.setCell ?_ (by first | omega | (simp; done) | (simp; omega)) _ | refine Below.drew ?_))
          have hown4:=own_below hown hb4
          have hnew:(w3.alloc (.cells #[.int .i64 P.dk,.string (bs P.tx),.int .i64 P.D.op,.int .i64 P.D.kd,.int .i64 P.D.id,.int .i64 P.D.fr,.int .i64 P.D.tn,.int .i64 P.D.st,.int .i64 P.D.en,.int .i64 P.D.rt,.int .i64 P.D.rf,.int .i64 P.D.rn,.int .i64 P.D.rs,.int .i64 P.D.re,.int .i64 P.D.ro,.int .i64 P.n,.slice A5 k5 c5,.int .i64 P.cl,.int .i64 P.sz,.int .i64 P.bf,.int .i64 P.bt,.int .i64 P.bs_,.int .i64 P.bc,.int .i64 P.bd] 36)).ownsRow w.heap.size 36 24 (.slice (some ⟨w3.heap.size,0,none⟩) 1 1) 1 [.int .i64 P.dk,.string (bs P.tx),.int .i64 P.D.op,.int .i64 P.D.kd,.int .i64 P.D.id,.int .i64 P.D.fr,.int .i64 P.D.tn,.int .i64 P.D.st,.int .i64 P.D.en,.int .i64 P.D.rt,.int .i64 P.D.rf,.int .i64 P.D.rn,.int .i64 P.D.rs,.int .i64 P.D.re,.int .i64 P.D.ro,.int .i64 P.n,.slice A5 k5 c5,.int .i64 P.cl,.int .i64 P.sz,.int .i64 P.bf,.int .i64 P.bt,.int .i64 P.bs_,.int .i64 P.bc,.int .i64 P.bd]:=hlits
          have hsz4:w.heap.size ≤ (w3.alloc (.cells #[.int .i64 P.dk,.string (bs P.tx),.int .i64 P.D.op,.int .i64 P.D.kd,.int .i64 P.D.id,.int .i64 P.D.fr,.int .i64 P.D.tn,.int .i64 P.D.st,.int .i64 P.D.en,.int .i64 P.D.rt,.int .i64 P.D.rf,.int .i64 P.D.rn,.int .i64 P.D.rs,.int .i64 P.D.re,.int .i64 P.D.ro,.int .i64 P.n,.slice A5 k5 c5,.int .i64 P.cl,.int .i64 P.sz,.int .i64 P.bf,.int .i64 P.bt,.int .i64 P.bs_,.int .i64 P.bc,.int .i64 P.bd] 36)).heap.size:=by simp; omega
          have HIH:=Lib.hid hI
          have HIDS:=Lib.hid hids
          have HK5:=Lib.hid hk5
          clear hI hids hk5 hlits hown
          have hn9:=HN.out
          go_upto_region 9 with (first | (at_builtin; refine wpList_append_own _ rfl _ _ 24 rfl w.heap.size 36 i0 _ 24 216 Tryd.underlying24 hi0 hz0 hz1 hz2 rfl (by decide) _ _ _ rfl hown4 ⟨w3.heap.size,0,none⟩ 1 1 [.int .i64 P.dk,.string (bs P.tx),.int .i64 P.D.op,.int .i64 P.D.kd,.int .i64 P.D.id,.int .i64 P.D.fr,.int .i64 P.D.tn,.int .i64 P.D.st,.int .i64 P.D.en,.int .i64 P.D.rt,.int .i64 P.D.rf,.int .i64 P.D.rn,.int .i64 P.D.rs,.int .i64 P.D.re,.int .i64 P.D.ro,.int .i64 P.n,.slice A5 k5 c5,.int .i64 P.cl,.int .i64 P.sz,.int .i64 P.bf,.int .i64 P.bt,.int .i64 P.bs_,.int .i64 P.bc,.int .i64 P.bd] rfl rfl (by exact lit_cells w3 #[.int .i64 P.dk,.string (bs P.tx),.int .i64 P.D.op,.int .i64 P.D.kd,.int .i64 P.D.id,.int .i64 P.D.fr,.int .i64 P.D.tn,.int .i64 P.D.st,.int .i64 P.D.en,.int .i64 P.D.rt,.int .i64 P.D.rf,.int .i64 P.D.rn,.int .i64 P.D.rs,.int .i64 P.D.re,.int .i64 P.D.ro,.int .i64 P.n,.slice A5 k5 c5,.int .i64 P.cl,.int .i64 P.sz,.int .i64 P.bf,.int .i64 P.bt,.int .i64 P.bs_,.int .i64 P.bc,.int .i64 P.bd] _ _ rfl) (by simp [Value.oneCell']) (by unfold maxLen; omega) (by omega) hsz4 ?_; intro v' w5 hown' hgrow5 hnil5) | (refine wpList_bs1 (by rfl) (.tmp 22) (by rfl) (.int .i64 P.dk) (.string (bs P.tx)) (.int .i64 P.D.op) (.int .i64 P.D.kd) (.int .i64 P.D.id) (.int .i64 P.D.fr) (.int .i64 P.D.tn) (.int .i64 P.D.st) (.int .i64 P.D.en) (.int .i64 P.D.rt) (.int .i64 P.D.rf) (.int .i64 P.D.rn) (.int .i64 P.D.rs) (.int .i64 P.D.re) (.int .i64 P.D.ro) (.int .i64 P.n) (.slice A5 k5 c5) (.int .i64 P.cl) (.int .i64 P.sz) (.int .i64 P.bf) (.int .i64 P.bt) (.int .i64 P.bs_) (.int .i64 P.bc) (.int .i64 P.bd) (by rfl) ?_))
          have hB5:Below w.heap.size w w5:=(hB.alloc hs _).grown hgrow5 (by simp; omega) (fun q hq => (hown4.lt q hq).1)
          have hk5':Kept (fun g => (Value.slice A6 k c6).ownBlock = some g) w3 w5:=(Kept.of_below hb4).grow_ hgrow5 (fun i _ e => e)
          have hI':ActsI w w5 (actsF (l.take (10 * (k + 1)))) v' (k + 1) (L ++ [⟨P,A5,k5,c5⟩]):=by
            have hI:=HIH.out
            refine ⟨by simp [hI.len],by rw [List.map_append,hI.rows,HNX.out]; rfl,by rw [flatAx_append]; exact hown',fun x hx => ?_⟩
            have hap:∀ {k9:Nat} {v9:Value} {xs9:List Value},w3.ownsRow w.heap.size 3 1 v9 k9 xs9 → w5.ownsRow w.heap.size 3 1 v9 k9 xs9:=fun {k9 v9 xs9} h9 => own_kept h9 hk5' (fun g hg e => by
              rcases own_apart h9 hI.own (by decide) with h0 | h0
              · rw [h0] at hg; cases hg
              · rw [hg,e] at h0; exact h0 rfl)
            rcases List.mem_append.1 hx with hx | hx
            · exact ⟨(hI.ids x hx).1,(hI.ids x hx).2.1,hap (hI.ids x hx).2.2⟩
            · simp at hx
              subst hx
              have h2:=HPI.out
              have h3:=HK5.out
              exact ⟨h3,by show k5 ≤ 1000000; omega,hap HIDS.out⟩
          have hSl:Hid (Sl w5 w.heap.size 1 (some ad) m c' (cB (l.drop (10 * k)))):=HS.out.below ⟨hk5'.os,hk5'.tape,hk5'.output,hk5'.size,fun q hq => hk5'.block q (by omega) (fun e => by have:=(hown4.lt q e).1; omega)⟩
          have HI2:=Lib.hid hI'
          clear hown4 hown' hgrow5 hnil5 hk5' hI' hnew hb4 hsz4 hB hs HIH HIDS HK5 HS
          have hs:=hB5.size
          have hcm:=hSl.out.cap
          have g2:decide ((10:Int) ≤ (c':Int)) = true:=decide_eq_true (by omega)
          have g3:decide ((10:Int) ≤ (m:Int)) = true:=decide_eq_true (by omega)
          have g4:(10:Int) ≤ (c':Int):=by omega
          have g5:(10:Int) ≤ (m:Int):=by omega
          have g6:10 ≤ c':=by omega
          have hfrom:Hid (Sl w5 w.heap.size 1 (if c' = 10 then some ad else some ⟨ad.block,ad.off + 10,none⟩) (m - 10) (c' - 10) (cB (l.drop (10 * (k + 1))))):=by
            have h:=hSl.out.from_ (m:=10) hm
            rw [cB_drop,List.drop_drop,show 10 * k + 10 * 1 = 10 * (k + 1) by omega] at h
            exact h
          go_wp2_with fail
          go_roundw
          case rel => exact ⟨k + 1,m - 10,c' - 10,_,rfl,by omega,hfrom,⟨_,HI2.out⟩,hB5⟩
          case measure => simp; omega
    · have g1:decide ((m:Int) ≥ 10) = false:=decide_eq_false (by omega)
      go_wp2_with fail
      go_ret2
      obtain ⟨L,hI⟩:=HI.out
      have e1:n / 10 = k:=by omega
      have e2:n % 10 = m:=by omega
      rw [e1,e2]
      rw [actsF_whole k l (by rw [HL.out]; omega) (by rw [HL.out]; omega)] at hI
      exact ⟨_,L,rfl,hI,hB⟩
end Go.Proofs.YtggdomeeienjbaaDoor

/- The document's own answer for scripts: Same, Count. No condition but on sizes. -/
namespace Go.Proofs.YtggdomeeienjbaaDoor
open Go.ChangeShapes Go.WideShapes Go.ChangeAt Go.RowKit Go.Sort
set_option linter.unusedSimpArgs false
set_option linter.unusedVariables false
theorem neqBd (p q:Pa) (w:World):(binOp .neq 34 (.agg #[.int .i64 p.bf,.int .i64 p.bt,.int .i64 p.bs_,.int .i64 p.bc,.int .i64 p.bd]) (.agg #[.int .i64 q.bf,.int .i64 q.bt,.int .i64 q.bs_,.int .i64 q.bc,.int .i64 q.bd])).run Tryd.prog w = .ok (.bool (!eqB p q)) w:=by
  have u3:=Tryd.underlying3
  have a3:=Tryd.isAgg3
  have z3:=Tryd.sizeOf3
  have hS:Tryd.prog.underlying 34 = some (.struct (Tryd.prog.fieldsOf 34)):=by kernel_rfl
  have hp:Tryd.prog.stoodInHeld 34 = false:=by kernel_rfl
  rw [run_neq_struct,show (10000:Nat) = 9999 + 1 from rfl,run_equalIn_agg w 9999 34 _ _ hS hp]
  simp only [Program.fieldsOf,Tryd.underlying34]
  go_simp
  unfold eqB
  by_cases h0:p.bf = q.bf
  · by_cases h1:p.bt = q.bt
    · by_cases h2:p.bs_ = q.bs_
      · by_cases h3:p.bc = q.bc
        · by_cases h4:p.bd = q.bd <;> simp [h0,h1,h2,h3,h4]
        · simp [h0,h1,h2,h3]
      · simp [h0,h1,h2]
    · simp [h0,h1]
  · simp [h0]
theorem fints_is (A A':Option Addr) (n c n' c':Nat) (d d':List Int) (w:World) {r:Bool} (hr:decide (d = d') = r) (hd:d.length = n) (hd':d'.length = n') (hn:n ≤ 100000) (h:Sl w w.heap.size 1 A n c (d.map (Value.int .i64))) (h':Sl w w.heap.size 1 A' n' c' (d'.map (Value.int .i64))) :
    Calls Tryd.prog 18 #[.slice A n c,.slice A' n' c'] w fun e w' => e = .returned (.bool r) ∧ Below w.heap.size w w':=by
  subst hr
  exact fints_any A A' n c n' c' d d' w hd hd' hn h h'
set_option maxHeartbeats 32000000 in
set_option maxRecDepth 100000 in
theorem r25same_any (A A':Option Addr) (n c n' c':Nat) (l l':List Ax) (w:World) (hl:l.length = n) (hl':l'.length = n') (hn:n ≤ 1000000) (hn':n' ≤ 1000000) (h:Sl w w.heap.size 24 A n c (flatAx l)) (h':Sl w w.heap.size 24 A' n' c' (flatAx l')) (hok:∀ x ∈ l,x.ok w) (hok':∀ x ∈ l',x.ok w) (hsm:∀ x ∈ l,x.k ≤ 1000) (b:Bool) (hb:decide (l.map Ax.p = l'.map Ax.p) = b) :
    Calls Tryd.prog 9 #[.slice A n c,.slice A' n' c'] w fun e w' => e = .returned (.bool b) ∧ Below w.heap.size w w':=by
  have HBB:=Lib.hid hb
  have HOK:=Lib.hid hok
  have HOK':=Lib.hid hok'
  have HSM:=Lib.hid hsm
  have HL:=Lib.hid hl
  have HL':=Lib.hid hl'
  have HS:=Lib.hid h
  have HS':=Lib.hid h'
  clear hb hok hok' hsm hl hl' h h'
  by_cases hne:n = n'
  · subst hne
    have hz:((n:Int) != (n:Int)) = false:=by simp
    go_enter Tryd.func9,Tryd.ntmps9
    go_wp2_with fail
    go_loopw [5] (fun i wr => ∃ k:Nat,k ≤ n ∧ i = .int .i64 k ∧ Hid (∀ j,j < k → (gAx l j).p = (gAx l' j).p) ∧ Below w.heap.size w wr) (fun i _ => n - (intOf i).toNat)
    case atStart => exact ⟨0,by omega,rfl,(fun j hj => by omega),Below.refl _ _⟩
    case round =>
      obtain ⟨k,hk,rfl,HQ,hB⟩:=hrel
      have hs:=hB.size
      by_cases hkn:k < n
      · obtain ⟨ad,rfl,hab,hca⟩:=(HS.out.below hB).lst.axAt HL.out hkn
        obtain ⟨ad',rfl,hab',hcb⟩:=(HS'.out.below hB).lst.axAt HL'.out hkn
        have hxo:=(HOK.out _ (gAx_mem (d:=l) (i:=k) (by have:=HL.out; omega))).below hB
        have hyo:=(HOK'.out _ (gAx_mem (d:=l') (i:=k) (by have:=HL'.out; omega))).below hB
        have hsx:=HSM.out _ (gAx_mem (d:=l) (i:=k) (by have:=HL.out; omega))
        obtain ⟨x,hx⟩:∃ x,gAx l k = x:=⟨_,rfl⟩
        obtain ⟨y,hy⟩:∃ y,gAx l' k = y:=⟨_,rfl⟩
        rw [hx] at hca hxo hsx
        rw [hy] at hcb hyo
        have HX:=Lib.hid hx
        have HY:=Lib.hid hy
        clear hx hy
        have HXO:=Lib.hid hxo
        have HYO:=Lib.hid hyo
        have HSX:=Lib.hid hsx
        have HCB:=Lib.hid hcb
        have hw1:IntKind.i64.wrap ((k:Int) + 1) = (k:Int) + 1:=IntWalk.i64_in _ (by omega)
        clear hxo hyo hcb hsx
        have hrow:=axRow hca
        go_upto_region 7 with (first | (refine wpList_load_addr (by rfl) 36 (.tmp 21) (by rfl) (ad.add (k * 24)) (by rfl) x.cs _ hrow Tryd.underlying36 rfl (by kernel_rfl) ?_) | (refine wpList_store_row (by rfl) 36 (.tmp 6) (.tmp 22) (by rfl) wr.heap.size #[.int .i64 x.p.dk,.string (bs x.p.tx),.int .i64 x.p.D.op,.int .i64 x.p.D.kd,.int .i64 x.p.D.id,.int .i64 x.p.D.fr,.int .i64 x.p.D.tn,.int .i64 x.p.D.st,.int .i64 x.p.D.en,.int .i64 x.p.D.rt,.int .i64 x.p.D.rf,.int .i64 x.p.D.rn,.int .i64 x.p.D.rs,.int .i64 x.p.D.re,.int .i64 x.p.D.ro,.int .i64 x.p.n,.slice x.A x.k x.c,.int .i64 x.p.cl,.int .i64 x.p.sz,.int .i64 x.p.bf,.int .i64 x.p.bt,.int .i64 x.p.bs_,.int .i64 x.p.bc,.int .i64 x.p.bd] (by rfl) (by rfl) 36 #[.int .i64 0,.string ⟨#[]⟩,.int .i64 0,.int .i64 0,.int .i64 0,.int .i64 0,.int .i64 0,.int .i64 0,.int .i64 0,.int .i64 0,.int .i64 0,.int .i64 0,.int .i64 0,.int .i64 0,.int .i64 0,.int .i64 0,.slice none 0 0,.int .i64 0,.int .i64 0,.int .i64 0,.int .i64 0,.int .i64 0,.int .i64 0,.int .i64 0] (heap_alloc_new _ _) (by kernel_rfl) rfl (by simp [Value.oneCell']) ?_; rw [World.setRow_alloc_new]))
        clear hrow
        have hX:=Blok.new wr 36 #[.int .i64 x.p.dk,.string (bs x.p.tx),.int .i64 x.p.D.op,.int .i64 x.p.D.kd,.int .i64 x.p.D.id,.int .i64 x.p.D.fr,.int .i64 x.p.D.tn,.int .i64 x.p.D.st,.int .i64 x.p.D.en,.int .i64 x.p.D.rt,.int .i64 x.p.D.rf,.int .i64 x.p.D.rn,.int .i64 x.p.D.rs,.int .i64 x.p.D.re,.int .i64 x.p.D.ro,.int .i64 x.p.n,.slice x.A x.k x.c,.int .i64 x.p.cl,.int .i64 x.p.sz,.int .i64 x.p.bf,.int .i64 x.p.bt,.int .i64 x.p.bs_,.int .i64 x.p.bc,.int .i64 x.p.bd]
        have hb1:Below wr.heap.size wr (wr.alloc (.cells #[.int .i64 x.p.dk,.string (bs x.p.tx),.int .i64 x.p.D.op,.int .i64 x.p.D.kd,.int .i64 x.p.D.id,.int .i64 x.p.D.fr,.int .i64 x.p.D.tn,.int .i64 x.p.D.st,.int .i64 x.p.D.en,.int .i64 x.p.D.rt,.int .i64 x.p.D.rf,.int .i64 x.p.D.rn,.int .i64 x.p.D.rs,.int .i64 x.p.D.re,.int .i64 x.p.D.ro,.int .i64 x.p.n,.slice x.A x.k x.c,.int .i64 x.p.cl,.int .i64 x.p.sz,.int .i64 x.p.bf,.int .i64 x.p.bt,.int .i64 x.p.bs_,.int .i64 x.p.bc,.int .i64 x.p.bd] 36)):=by (repeat (first | exact Below.refl _ _ | refine Below.alloc ?_ (by first | omega | (simp; done) | (simp; omega)) _ | refine Below.setCell ?_ (by first | omega | (simp; done) | (simp; omega)) _ | refine Below.drew ?_))
        have hcb:∀ j u,y.cs[j]? = some u → (wr.alloc (.cells #[.int .i64 x.p.dk,.string (bs x.p.tx),.int .i64 x.p.D.op,.int .i64 x.p.D.kd,.int .i64 x.p.D.id,.int .i64 x.p.D.fr,.int .i64 x.p.D.tn,.int .i64 x.p.D.st,.int .i64 x.p.D.en,.int .i64 x.p.D.rt,.int .i64 x.p.D.rf,.int .i64 x.p.D.rn,.int .i64 x.p.D.rs,.int .i64 x.p.D.re,.int .i64 x.p.D.ro,.int .i64 x.p.n,.slice x.A x.k x.c,.int .i64 x.p.cl,.int .i64 x.p.sz,.int .i64 x.p.bf,.int .i64 x.p.bt,.int .i64 x.p.bs_,.int .i64 x.p.bc,.int .i64 x.p.bd] 36)).cell? (ad'.add (k * 24 + j)) = some u:=fun j u hu => (hb1.cell (by rw [add_block]; omega)).trans (HCB.out j u hu)
        replace HXO:=Lib.hid (HXO.out.below hb1)
        replace HYO:=Lib.hid (HYO.out.below hb1)
        have hB1:=hB.trans (hb1.mono hs)
        have hs1:=hB1.size
        clear hb1 HCB hca
        generalize wr.alloc (.cells #[.int .i64 x.p.dk,.string (bs x.p.tx),.int .i64 x.p.D.op,.int .i64 x.p.D.kd,.int .i64 x.p.D.id,.int .i64 x.p.D.fr,.int .i64 x.p.D.tn,.int .i64 x.p.D.st,.int .i64 x.p.D.en,.int .i64 x.p.D.rt,.int .i64 x.p.D.rf,.int .i64 x.p.D.rn,.int .i64 x.p.D.rs,.int .i64 x.p.D.re,.int .i64 x.p.D.ro,.int .i64 x.p.n,.slice x.A x.k x.c,.int .i64 x.p.cl,.int .i64 x.p.sz,.int .i64 x.p.bf,.int .i64 x.p.bt,.int .i64 x.p.bs_,.int .i64 x.p.bc,.int .i64 x.p.bd] 36) = w1 at *
        generalize wr.heap.size = bx at *
        have hrow:=axRow hcb
        go_upto_region 8 with (first | (refine wpList_load_addr (by rfl) 36 (.tmp 25) (by rfl) (ad'.add (k * 24)) (by rfl) y.cs _ hrow Tryd.underlying36 rfl (by kernel_rfl) ?_) | (refine wpList_store_row (by rfl) 36 (.tmp 7) (.tmp 26) (by rfl) w1.heap.size #[.int .i64 y.p.dk,.string (bs y.p.tx),.int .i64 y.p.D.op,.int .i64 y.p.D.kd,.int .i64 y.p.D.id,.int .i64 y.p.D.fr,.int .i64 y.p.D.tn,.int .i64 y.p.D.st,.int .i64 y.p.D.en,.int .i64 y.p.D.rt,.int .i64 y.p.D.rf,.int .i64 y.p.D.rn,.int .i64 y.p.D.rs,.int .i64 y.p.D.re,.int .i64 y.p.D.ro,.int .i64 y.p.n,.slice y.A y.k y.c,.int .i64 y.p.cl,.int .i64 y.p.sz,.int .i64 y.p.bf,.int .i64 y.p.bt,.int .i64 y.p.bs_,.int .i64 y.p.bc,.int .i64 y.p.bd] (by rfl) (by rfl) 36 #[.int .i64 0,.string ⟨#[]⟩,.int .i64 0,.int .i64 0,.int .i64 0,.int .i64 0,.int .i64 0,.int .i64 0,.int .i64 0,.int .i64 0,.int .i64 0,.int .i64 0,.int .i64 0,.int .i64 0,.int .i64 0,.int .i64 0,.slice none 0 0,.int .i64 0,.int .i64 0,.int .i64 0,.int .i64 0,.int .i64 0,.int .i64 0,.int .i64 0] (heap_alloc_new _ _) (by kernel_rfl) rfl (by simp [Value.oneCell']) ?_; rw [World.setRow_alloc_new]))
        clear hcb hrow
        have hY:=Blok.new w1 36 #[.int .i64 y.p.dk,.string (bs y.p.tx),.int .i64 y.p.D.op,.int .i64 y.p.D.kd,.int .i64 y.p.D.id,.int .i64 y.p.D.fr,.int .i64 y.p.D.tn,.int .i64 y.p.D.st,.int .i64 y.p.D.en,.int .i64 y.p.D.rt,.int .i64 y.p.D.rf,.int .i64 y.p.D.rn,.int .i64 y.p.D.rs,.int .i64 y.p.D.re,.int .i64 y.p.D.ro,.int .i64 y.p.n,.slice y.A y.k y.c,.int .i64 y.p.cl,.int .i64 y.p.sz,.int .i64 y.p.bf,.int .i64 y.p.bt,.int .i64 y.p.bs_,.int .i64 y.p.bc,.int .i64 y.p.bd]
        have hb1:Below w1.heap.size w1 (w1.alloc (.cells #[.int .i64 y.p.dk,.string (bs y.p.tx),.int .i64 y.p.D.op,.int .i64 y.p.D.kd,.int .i64 y.p.D.id,.int .i64 y.p.D.fr,.int .i64 y.p.D.tn,.int .i64 y.p.D.st,.int .i64 y.p.D.en,.int .i64 y.p.D.rt,.int .i64 y.p.D.rf,.int .i64 y.p.D.rn,.int .i64 y.p.D.rs,.int .i64 y.p.D.re,.int .i64 y.p.D.ro,.int .i64 y.p.n,.slice y.A y.k y.c,.int .i64 y.p.cl,.int .i64 y.p.sz,.int .i64 y.p.bf,.int .i64 y.p.bt,.int .i64 y.p.bs_,.int .i64 y.p.bc,.int .i64 y.p.bd] 36)):=by (repeat (first | exact Below.refl _ _ | refine Below.alloc ?_ (by first | omega | (simp; done) | (simp; omega)) _ | refine Below.setCell ?_ (by first | omega | (simp; done) | (simp; omega)) _ | refine Below.drew ?_))
        replace hX:=hX.below hb1 hX.lt
        replace HXO:=Lib.hid (HXO.out.below hb1)
        replace HYO:=Lib.hid (HYO.out.below hb1)
        have hB2:=hB1.trans (hb1.mono hs1)
        have hs2:=hB2.size
        clear hb1 hB1 hs1
        generalize w1.alloc (.cells #[.int .i64 y.p.dk,.string (bs y.p.tx),.int .i64 y.p.D.op,.int .i64 y.p.D.kd,.int .i64 y.p.D.id,.int .i64 y.p.D.fr,.int .i64 y.p.D.tn,.int .i64 y.p.D.st,.int .i64 y.p.D.en,.int .i64 y.p.D.rt,.int .i64 y.p.D.rf,.int .i64 y.p.D.rn,.int .i64 y.p.D.rs,.int .i64 y.p.D.re,.int .i64 y.p.D.ro,.int .i64 y.p.n,.slice y.A y.k y.c,.int .i64 y.p.cl,.int .i64 y.p.sz,.int .i64 y.p.bf,.int .i64 y.p.bt,.int .i64 y.p.bs_,.int .i64 y.p.bc,.int .i64 y.p.bd] 36) = w2 at *
        generalize w1.heap.size = by_ at *
        have x0:w2.cell? ⟨bx,0,none⟩ = some (.int .i64 x.p.dk):=hX.cell 0
        have x1:w2.cell? ⟨bx,1,none⟩ = some (.string (bs x.p.tx)):=hX.cell 1
        have x2:w2.cell? ⟨bx,2,none⟩ = some (.int .i64 x.p.D.op):=hX.cell 2
        have x3:w2.cell? ⟨bx,3,none⟩ = some (.int .i64 x.p.D.kd):=hX.cell 3
        have x4:w2.cell? ⟨bx,4,none⟩ = some (.int .i64 x.p.D.id):=hX.cell 4
        have x5:w2.cell? ⟨bx,5,none⟩ = some (.int .i64 x.p.D.fr):=hX.cell 5
        have x6:w2.cell? ⟨bx,6,none⟩ = some (.int .i64 x.p.D.tn):=hX.cell 6
        have x7:w2.cell? ⟨bx,7,none⟩ = some (.int .i64 x.p.D.st):=hX.cell 7
        have x8:w2.cell? ⟨bx,8,none⟩ = some (.int .i64 x.p.D.en):=hX.cell 8
        have x9:w2.cell? ⟨bx,9,none⟩ = some (.int .i64 x.p.D.rt):=hX.cell 9
        have x10:w2.cell? ⟨bx,10,none⟩ = some (.int .i64 x.p.D.rf):=hX.cell 10
        have x11:w2.cell? ⟨bx,11,none⟩ = some (.int .i64 x.p.D.rn):=hX.cell 11
        have x12:w2.cell? ⟨bx,12,none⟩ = some (.int .i64 x.p.D.rs):=hX.cell 12
        have x13:w2.cell? ⟨bx,13,none⟩ = some (.int .i64 x.p.D.re):=hX.cell 13
        have x14:w2.cell? ⟨bx,14,none⟩ = some (.int .i64 x.p.D.ro):=hX.cell 14
        have x15:w2.cell? ⟨bx,15,none⟩ = some (.int .i64 x.p.n):=hX.cell 15
        have x16:w2.cell? ⟨bx,16,none⟩ = some (.slice x.A x.k x.c):=hX.cell 16
        have x17:w2.cell? ⟨bx,17,none⟩ = some (.int .i64 x.p.cl):=hX.cell 17
        have x18:w2.cell? ⟨bx,18,none⟩ = some (.int .i64 x.p.sz):=hX.cell 18
        have x19:w2.cell? ⟨bx,19,none⟩ = some (.int .i64 x.p.bf):=hX.cell 19
        have x20:w2.cell? ⟨bx,20,none⟩ = some (.int .i64 x.p.bt):=hX.cell 20
        have x21:w2.cell? ⟨bx,21,none⟩ = some (.int .i64 x.p.bs_):=hX.cell 21
        have x22:w2.cell? ⟨bx,22,none⟩ = some (.int .i64 x.p.bc):=hX.cell 22
        have x23:w2.cell? ⟨bx,23,none⟩ = some (.int .i64 x.p.bd):=hX.cell 23
        have y0:w2.cell? ⟨by_,0,none⟩ = some (.int .i64 y.p.dk):=hY.cell 0
        have y1:w2.cell? ⟨by_,1,none⟩ = some (.string (bs y.p.tx)):=hY.cell 1
        have y2:w2.cell? ⟨by_,2,none⟩ = some (.int .i64 y.p.D.op):=hY.cell 2
        have y3:w2.cell? ⟨by_,3,none⟩ = some (.int .i64 y.p.D.kd):=hY.cell 3
        have y4:w2.cell? ⟨by_,4,none⟩ = some (.int .i64 y.p.D.id):=hY.cell 4
        have y5:w2.cell? ⟨by_,5,none⟩ = some (.int .i64 y.p.D.fr):=hY.cell 5
        have y6:w2.cell? ⟨by_,6,none⟩ = some (.int .i64 y.p.D.tn):=hY.cell 6
        have y7:w2.cell? ⟨by_,7,none⟩ = some (.int .i64 y.p.D.st):=hY.cell 7
        have y8:w2.cell? ⟨by_,8,none⟩ = some (.int .i64 y.p.D.en):=hY.cell 8
        have y9:w2.cell? ⟨by_,9,none⟩ = some (.int .i64 y.p.D.rt):=hY.cell 9
        have y10:w2.cell? ⟨by_,10,none⟩ = some (.int .i64 y.p.D.rf):=hY.cell 10
        have y11:w2.cell? ⟨by_,11,none⟩ = some (.int .i64 y.p.D.rn):=hY.cell 11
        have y12:w2.cell? ⟨by_,12,none⟩ = some (.int .i64 y.p.D.rs):=hY.cell 12
        have y13:w2.cell? ⟨by_,13,none⟩ = some (.int .i64 y.p.D.re):=hY.cell 13
        have y14:w2.cell? ⟨by_,14,none⟩ = some (.int .i64 y.p.D.ro):=hY.cell 14
        have y15:w2.cell? ⟨by_,15,none⟩ = some (.int .i64 y.p.n):=hY.cell 15
        have y16:w2.cell? ⟨by_,16,none⟩ = some (.slice y.A y.k y.c):=hY.cell 16
        have y17:w2.cell? ⟨by_,17,none⟩ = some (.int .i64 y.p.cl):=hY.cell 17
        have y18:w2.cell? ⟨by_,18,none⟩ = some (.int .i64 y.p.sz):=hY.cell 18
        have y19:w2.cell? ⟨by_,19,none⟩ = some (.int .i64 y.p.bf):=hY.cell 19
        have y20:w2.cell? ⟨by_,20,none⟩ = some (.int .i64 y.p.bt):=hY.cell 20
        have y21:w2.cell? ⟨by_,21,none⟩ = some (.int .i64 y.p.bs_):=hY.cell 21
        have y22:w2.cell? ⟨by_,22,none⟩ = some (.int .i64 y.p.bc):=hY.cell 22
        have y23:w2.cell? ⟨by_,23,none⟩ = some (.int .i64 y.p.bd):=hY.cell 23
        have lt_x:=hX.lt
        have lt_y:=hY.lt
        have HDIF:Hid (x.p ≠ y.p → b = false):=by
          show x.p ≠ y.p → b = false
          intro hd
          rw [← HBB.out]
          simp only [decide_eq_false_iff_not]
          intro e
          have h1:(gAx l k).p = (gAx l' k).p:=by
            have h2:(l.map Ax.p)[k]? = (l'.map Ax.p)[k]?:=by rw [e]
            rw [List.getElem?_map,List.getElem?_map,List.getElem?_eq_getElem (by have:=HL.out; omega),List.getElem?_eq_getElem (by have:=HL'.out; omega)] at h2
            unfold gAx
            rw [List.getD_eq_getElem?_getD,List.getD_eq_getElem?_getD,List.getElem?_eq_getElem (by have:=HL.out; omega),List.getElem?_eq_getElem (by have:=HL'.out; omega)]
            simpa using h2
          rw [HX.out,HY.out] at h1
          exact hd h1
        by_cases c0:x.p.dk = y.p.dk
        case neg =>
          have HF:Hid (b = false):=HDIF.out (fun e => c0 (by rw [e]))
          have g0:(x.p.dk != y.p.dk) = true:=by simp [c0]
          clear c0
          go_wp2_with fail
          go_ret
          exact ⟨by rw [HF.out]; rfl,hB2⟩
        have g0:(x.p.dk != y.p.dk) = false:=by simp [c0]
        by_cases c1:x.p.tx = y.p.tx
        case neg =>
          have HF:Hid (b = false):=HDIF.out (fun e => c1 (by rw [e]))
          have g1:((bs x.p.tx).toList == (bs y.p.tx).toList) = false:=by rw [beq_eq_false_iff_ne]; exact fun e => c1 ((str_ne _ _).1 e)
          have g1':((bs x.p.tx).toList != (bs y.p.tx).toList) = true:=by unfold bne; rw [g1]; rfl
          clear c0 c1
          go_wp2_with fail
          go_ret
          exact ⟨by rw [HF.out]; rfl,hB2⟩
        have g1:((bs x.p.tx).toList == (bs y.p.tx).toList) = true:=by rw [beq_iff_eq]; exact (str_ne _ _).2 c1
        have g1':((bs x.p.tx).toList != (bs y.p.tx).toList) = false:=by unfold bne; rw [g1]; rfl
        by_cases c2:x.p.D = y.p.D
        case neg =>
          have HF:Hid (b = false):=HDIF.out (fun e => c2 (by rw [e]))
          have g2:∀ w0,(binOp .neq 31 (.agg #[.int .i64 x.p.D.op,.int .i64 x.p.D.kd,.int .i64 x.p.D.id,.int .i64 x.p.D.fr,.int .i64 x.p.D.tn,.int .i64 x.p.D.st,.int .i64 x.p.D.en,.int .i64 x.p.D.rt,.int .i64 x.p.D.rf,.int .i64 x.p.D.rn,.int .i64 x.p.D.rs,.int .i64 x.p.D.re,.int .i64 x.p.D.ro]) (.agg #[.int .i64 y.p.D.op,.int .i64 y.p.D.kd,.int .i64 y.p.D.id,.int .i64 y.p.D.fr,.int .i64 y.p.D.tn,.int .i64 y.p.D.st,.int .i64 y.p.D.en,.int .i64 y.p.D.rt,.int .i64 y.p.D.rf,.int .i64 y.p.D.rn,.int .i64 y.p.D.rs,.int .i64 y.p.D.re,.int .i64 y.p.D.ro])).run Tryd.prog w0 = .ok (.bool true) w0:=fun w0 => by rw [neqDr]; simp [c2]
          clear c0 c1 c2
          go_wp2_with fail
          go_ret
          exact ⟨by rw [HF.out]; rfl,hB2⟩
        have g2:∀ w0,(binOp .neq 31 (.agg #[.int .i64 x.p.D.op,.int .i64 x.p.D.kd,.int .i64 x.p.D.id,.int .i64 x.p.D.fr,.int .i64 x.p.D.tn,.int .i64 x.p.D.st,.int .i64 x.p.D.en,.int .i64 x.p.D.rt,.int .i64 x.p.D.rf,.int .i64 x.p.D.rn,.int .i64 x.p.D.rs,.int .i64 x.p.D.re,.int .i64 x.p.D.ro]) (.agg #[.int .i64 y.p.D.op,.int .i64 y.p.D.kd,.int .i64 y.p.D.id,.int .i64 y.p.D.fr,.int .i64 y.p.D.tn,.int .i64 y.p.D.st,.int .i64 y.p.D.en,.int .i64 y.p.D.rt,.int .i64 y.p.D.rf,.int .i64 y.p.D.rn,.int .i64 y.p.D.rs,.int .i64 y.p.D.re,.int .i64 y.p.D.ro])).run Tryd.prog w0 = .ok (.bool false) w0:=fun w0 => by rw [neqDr]; simp [c2]
        by_cases c3:x.p.n = y.p.n
        case neg =>
          have HF:Hid (b = false):=HDIF.out (fun e => c3 (by rw [e]))
          have g3:(x.p.n != y.p.n) = true:=by simp [c3]
          clear c0 c1 c2 c3
          go_wp2_with fail
          go_ret
          exact ⟨by rw [HF.out]; rfl,hB2⟩
        have g3:(x.p.n != y.p.n) = false:=by simp [c3]
        by_cases c4:x.p.cl = y.p.cl
        case neg =>
          have HF:Hid (b = false):=HDIF.out (fun e => c4 (by rw [e]))
          have g4:(x.p.cl != y.p.cl) = true:=by simp [c4]
          clear c0 c1 c2 c3 c4
          go_wp2_with fail
          go_ret
          exact ⟨by rw [HF.out]; rfl,hB2⟩
        have g4:(x.p.cl != y.p.cl) = false:=by simp [c4]
        by_cases c5:x.p.sz = y.p.sz
        case neg =>
          have HF:Hid (b = false):=HDIF.out (fun e => c5 (by rw [e]))
          have g5:(x.p.sz != y.p.sz) = true:=by simp [c5]
          clear c0 c1 c2 c3 c4 c5
          go_wp2_with fail
          go_ret
          exact ⟨by rw [HF.out]; rfl,hB2⟩
        have g5:(x.p.sz != y.p.sz) = false:=by simp [c5]
        by_cases c6:eqB x.p y.p = true
        case neg =>
          have HF:Hid (b = false):=HDIF.out (fun e => c6 (by rw [e]; simp [eqB]))
          have g6:∀ w0,(binOp .neq 34 (.agg #[.int .i64 x.p.bf,.int .i64 x.p.bt,.int .i64 x.p.bs_,.int .i64 x.p.bc,.int .i64 x.p.bd]) (.agg #[.int .i64 y.p.bf,.int .i64 y.p.bt,.int .i64 y.p.bs_,.int .i64 y.p.bc,.int .i64 y.p.bd])).run Tryd.prog w0 = .ok (.bool true) w0:=fun w0 => by rw [neqBd]; rw [Bool.eq_false_iff.2 c6]; rfl
          clear c0 c1 c2 c3 c4 c5 c6
          go_wp2_with fail
          go_ret
          exact ⟨by rw [HF.out]; rfl,hB2⟩
        have g6:∀ w0,(binOp .neq 34 (.agg #[.int .i64 x.p.bf,.int .i64 x.p.bt,.int .i64 x.p.bs_,.int .i64 x.p.bc,.int .i64 x.p.bd]) (.agg #[.int .i64 y.p.bf,.int .i64 y.p.bt,.int .i64 y.p.bs_,.int .i64 y.p.bc,.int .i64 y.p.bd])).run Tryd.prog w0 = .ok (.bool false) w0:=fun w0 => by rw [neqBd]; rw [c6]; rfl
        by_cases c7:x.p.ids = y.p.ids
        case neg =>
          have HF:Hid (b = false):=HDIF.out (fun e => c7 (by rw [e]))
          have g7:Hid (decide (x.p.ids = y.p.ids) = false):=decide_eq_false c7
          clear c0 c1 c2 c3 c4 c5 c6 c7
          go_wp2_with fail
          refine (fints_is x.A y.A x.k x.c y.k y.c x.p.ids y.p.ids w2 g7.out HXO.out.1 HYO.out.1 (by have:=HSX.out; omega) HXO.out.2.2 HYO.out.2.2).mono ?_
          rintro e w4 ⟨rfl,hb4⟩
          go_wp2_with fail
          go_ret
          exact ⟨by rw [HF.out]; rfl,hB2.trans (hb4.mono hs2)⟩
        have g7:Hid (decide (x.p.ids = y.p.ids) = true):=decide_eq_true c7
        have hxy:x.p = y.p:=Pa.ext_ c0 c1 c2 c3 c7 c4 c5 c6
        clear c0 c1 c2 c3 c4 c5 c6 c7
        have hq:∀ j,j < k + 1 → (gAx l j).p = (gAx l' j).p:=by
          intro j hj
          by_cases e:j = k
          · subst e
            rw [HX.out,HY.out]
            exact hxy
          · exact HQ.out j (by omega)
        have HQ2:=Lib.hid hq
        clear hq hxy
        go_wp2_with fail
        refine (fints_is x.A y.A x.k x.c y.k y.c x.p.ids y.p.ids w2 g7.out HXO.out.1 HYO.out.1 (by have:=HSX.out; omega) HXO.out.2.2 HYO.out.2.2).mono ?_
        rintro e w4 ⟨rfl,hb4⟩
        have hB4:Below w.heap.size w w4:=hB2.trans (hb4.mono hs2)
        clear hb4 hX hY hB2 hs2 HXO HYO x0 x1 x2 x3 x4 x5 x6 x7 x8 x9 x10 x11 x12 x13 x14 x15 x16 x17 x18 x19 x20 x21 x22 x23 y0 y1 y2 y3 y4 y5 y6 y7 y8 y9 y10 y11 y12 y13 y14 y15 y16 y17 y18 y19 y20 y21 y22 y23 lt_x lt_y
        go_wp2_with fail
        go_roundw
        case rel => exact ⟨k + 1,by omega,by go_num,HQ2,hB4⟩
        case measure => simp [intOf]; omega
      · obtain rfl:k = n:=by omega
        have HF:Hid (b = true):=by
          show b = true
          rw [← HBB.out]
          simp only [decide_eq_true_eq]
          refine List.ext_getElem (by simp; rw [HL.out,HL'.out]) fun j h1 h2 => ?_
          have h3:=HQ.out j (by simp [HL.out] at h1; exact h1)
          simp only [List.length_map] at h1 h2
          unfold gAx at h3
          rw [List.getD_eq_getElem?_getD,List.getD_eq_getElem?_getD,List.getElem?_eq_getElem h1,List.getElem?_eq_getElem h2] at h3
          simpa using h3
        go_wp2_with fail
        go_ret
        exact ⟨by rw [HF.out]; rfl,hB⟩
  · have hz:((n:Int) != (n':Int)) = true:=by rw [bne_iff_ne]; omega
    have HF:Hid (b = false):=by
      show b = false
      rw [← HBB.out]
      simp only [decide_eq_false_iff_not]
      intro e
      have:=congrArg List.length e
      simp [HL.out,HL'.out] at this
      exact hne this
    go_enter Tryd.func9,Tryd.ntmps9
    go_wp2_with fail
    go_ret
    exact ⟨by rw [HF.out]; rfl,Below.refl _ _⟩
set_option maxHeartbeats 8000000 in
set_option maxRecDepth 100000 in
theorem r25count_any (A:Option Addr) (n c:Nat) (l:List Ax) (d:Int) (w:World) (hl:l.length = n) (hn:n ≤ 1000000) (h:Sl w w.heap.size 24 A n c (flatAx l)) :
    Calls Tryd.prog 14 #[.slice A n c,.int .i64 d] w fun e w' => e = .returned (.int .i64 (cntF l d:Nat)) ∧ Below w.heap.size w w':=by
  have HL:=Lib.hid hl
  have HS:=Lib.hid h
  have HN:=Lib.hid hn
  clear hl h hn
  go_enter Tryd.func14,Tryd.ntmps14
  go_wp2_with fail
  go_loopw [5,6] (fun nv iv wr => ∃ k m:Nat,iv = .int .i64 k ∧ k ≤ n ∧ nv = .int .i64 m ∧ Hid (m = cntF (l.take k) d) ∧ m ≤ k ∧ Below w.heap.size w wr) (fun _ iv _ => n - (intOf iv).toNat)
  case atStart => exact ⟨0,0,rfl,by omega,rfl,by simp [Hid,cntF],by omega,Below.refl _ _⟩
  case round =>
    obtain ⟨k,m,rfl,hk,rfl,HM,hmk,hB⟩:=hrel
    have hs:=hB.size
    by_cases hkn:k < n
    · obtain ⟨ad,rfl,hab,hca⟩:=(HS.out.below hB).lst.axAt8 HL.out hkn
      have hnx:=cntF_next l d (k:=k) (by rw [HL.out]; exact hkn)
      obtain ⟨x,hx⟩:∃ x,gAx l k = x:=⟨_,rfl⟩
      rw [hx] at hca hnx
      have HNX:=Lib.hid hnx
      clear hx hnx
      have hn9:=HN.out
      have hw1:IntKind.i64.wrap ((m:Int) + 1) = (m:Int) + 1:=IntWalk.i64_in _ (by omega)
      have hw2:IntKind.i64.wrap ((k:Int) + 1) = (k:Int) + 1:=IntWalk.i64_in _ (by omega)
      have c_0:wr.cell? (ad.add (k * 24)) = some (.int .i64 x.p.dk):=hca 0 _ rfl
      clear hca
      by_cases hd:(x.p.dk == d) = true
      · have hm2:Hid (m + 1 = cntF (l.take (k + 1)) d):=by show m + 1 = _; rw [HNX.out,← HM.out,if_pos hd]
        go_wp2_with fail
        go_roundw
        case rel => exact ⟨k + 1,m + 1,by go_num,by omega,by go_num,hm2,by omega,hB⟩
        case measure => simp [intOf]; omega
      · have hd':(x.p.dk == d) = false:=Bool.eq_false_iff.2 hd
        have hm2:Hid (m = cntF (l.take (k + 1)) d):=by show m = _; rw [HNX.out,← HM.out,if_neg hd]; rfl
        clear hd
        go_wp2_with fail
        go_roundw
        case rel => exact ⟨k + 1,m,by go_num,by omega,rfl,hm2,by omega,hB⟩
        case measure => simp [intOf]; omega
    · obtain rfl:k = n:=by omega
      have hm2:Hid (m = cntF l d):=by
        show m = cntF l d
        have h:=HM.out
        rw [List.take_of_length_le (by rw [HL.out]; exact Nat.le_refl _)] at h
        exact h
      go_wp2_with fail
      go_ret
      exact ⟨by rw [← hm2.out]; rfl,hB⟩
end Go.Proofs.YtggdomeeienjbaaDoor
