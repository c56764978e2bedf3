/- Contracts and plain facts, several texts of mine in one: Small25, Ten25, Bytes, ArrB, Mix, R25, R25q0, R25q1, R25q2, R25q3. No condition. -/
import Derived.Test.YtggdomeeienjbaaDoorW3
import Derived.Test.YtggdomeeienjbaaDoorTie
import Derived.Test.YtggdomeeienjbaaDoorCards
import Derived.LaidMore
import Derived.LaidSub
import Derived.Stop.Joined
import Derived.SevenTiedAt
import Derived.Test.YtggdomeeienjbaaDoorOpen
import Derived.Test.YtggdomeeienjbaaDoorOpenS

/- Layer 25's small case comes out right. No condition but on the digits' table. -/
namespace Go.Proofs.YtggdomeeienjbaaDoor
open Go.ChangeShapes Go.WideShapes Go.ChangeAt Go.RowKit Go.Sort
set_option linter.unusedSimpArgs false
set_option linter.unusedVariables false
def l32:List Nat:=[2,20,0,0,0,0,0,0,0,0,10,3,4,5,7,9,0,0,0,0,0,4,6,0,0,0,0,2,1,0,5,5]
def pa1:Pa:=⟨3,[],zeroDr,20,[],0,0,0,0,0,0,0⟩
def pa2:Pa:=⟨4,[],zeroDr,0,[4],3,9,0,0,0,0,0⟩
def pa3:Pa:=⟨1,[99,32,99,111,110,116,97,99,116,32,55,32,51,10,99,32,99,111,110,116,97,99,116,32,55,32,51,10],zeroDr,0,[],0,0,0,0,0,0,0⟩
theorem acts32:actsF l32 = [pa1,pa2,pa3]:=by
  rw [actsF_next (by decide),actsF_next (by decide),actsF_next (by decide),actsF_nil (by decide)]
  decide +kernel
theorem dir25:dirF 0 1 1 2 70 65 5 = ⟨1,1,2,2,3,6,8,2,0,0,0,0,0⟩:=by decide +kernel
theorem l32_by:∀ x ∈ l32,x < 256:=by decide +kernel
set_option maxRecDepth 100000 in
theorem bs32 (w:World):(Instr.buildSlice 22 32 #[(0,.int .u8 2),(1,.int .u8 20),(2,.int .u8 0),(3,.int .u8 0),(4,.int .u8 0),(5,.int .u8 0),(6,.int .u8 0),(7,.int .u8 0),(8,.int .u8 0),(9,.int .u8 0),(10,.int .u8 10),(11,.int .u8 3),(12,.int .u8 4),(13,.int .u8 5),(14,.int .u8 7),(15,.int .u8 9),(16,.int .u8 0),(17,.int .u8 0),(18,.int .u8 0),(19,.int .u8 0),(20,.int .u8 0),(21,.int .u8 4),(22,.int .u8 6),(23,.int .u8 0),(24,.int .u8 0),(25,.int .u8 0),(26,.int .u8 0),(27,.int .u8 2),(28,.int .u8 1),(29,.int .u8 0),(30,.int .u8 5),(31,.int .u8 5)]).run Tryd.prog w = .ok (.slice (some ⟨w.heap.size,0,none⟩) 32 32) (w.alloc (.cells #[.int .u8 2,.int .u8 20,.int .u8 0,.int .u8 0,.int .u8 0,.int .u8 0,.int .u8 0,.int .u8 0,.int .u8 0,.int .u8 0,.int .u8 10,.int .u8 3,.int .u8 4,.int .u8 5,.int .u8 7,.int .u8 9,.int .u8 0,.int .u8 0,.int .u8 0,.int .u8 0,.int .u8 0,.int .u8 4,.int .u8 6,.int .u8 0,.int .u8 0,.int .u8 0,.int .u8 0,.int .u8 2,.int .u8 1,.int .u8 0,.int .u8 5,.int .u8 5] 5)):=by kernel_rfl
theorem wpList_bs32 {w:World} {ops:Array Oper} {rest:List Oper} {o:Oper} {a:Act} {Q:Exit → Act → World → Prop} (hgd:o.guard = none) (ho:o.op = .buildSlice 22 32 #[(0,.const (.int .u8 2)),(1,.const (.int .u8 20)),(2,.const (.int .u8 0)),(3,.const (.int .u8 0)),(4,.const (.int .u8 0)),(5,.const (.int .u8 0)),(6,.const (.int .u8 0)),(7,.const (.int .u8 0)),(8,.const (.int .u8 0)),(9,.const (.int .u8 0)),(10,.const (.int .u8 10)),(11,.const (.int .u8 3)),(12,.const (.int .u8 4)),(13,.const (.int .u8 5)),(14,.const (.int .u8 7)),(15,.const (.int .u8 9)),(16,.const (.int .u8 0)),(17,.const (.int .u8 0)),(18,.const (.int .u8 0)),(19,.const (.int .u8 0)),(20,.const (.int .u8 0)),(21,.const (.int .u8 4)),(22,.const (.int .u8 6)),(23,.const (.int .u8 0)),(24,.const (.int .u8 0)),(25,.const (.int .u8 0)),(26,.const (.int .u8 0)),(27,.const (.int .u8 2)),(28,.const (.int .u8 1)),(29,.const (.int .u8 0)),(30,.const (.int .u8 5)),(31,.const (.int .u8 5))])
    (h:wpList Tryd.prog ops Q rest (a.put o.dst (.slice (some ⟨w.heap.size,0,none⟩) 32 32)) (w.alloc (.cells #[.int .u8 2,.int .u8 20,.int .u8 0,.int .u8 0,.int .u8 0,.int .u8 0,.int .u8 0,.int .u8 0,.int .u8 0,.int .u8 0,.int .u8 10,.int .u8 3,.int .u8 4,.int .u8 5,.int .u8 7,.int .u8 9,.int .u8 0,.int .u8 0,.int .u8 0,.int .u8 0,.int .u8 0,.int .u8 4,.int .u8 6,.int .u8 0,.int .u8 0,.int .u8 0,.int .u8 0,.int .u8 2,.int .u8 1,.int .u8 0,.int .u8 5,.int .u8 5] 5))):wpList Tryd.prog ops Q (o :: rest) a w:=by
  refine wpList_op_run hgd (buildSlice_run ho (vals:=#[(0,.int .u8 2),(1,.int .u8 20),(2,.int .u8 0),(3,.int .u8 0),(4,.int .u8 0),(5,.int .u8 0),(6,.int .u8 0),(7,.int .u8 0),(8,.int .u8 0),(9,.int .u8 0),(10,.int .u8 10),(11,.int .u8 3),(12,.int .u8 4),(13,.int .u8 5),(14,.int .u8 7),(15,.int .u8 9),(16,.int .u8 0),(17,.int .u8 0),(18,.int .u8 0),(19,.int .u8 0),(20,.int .u8 0),(21,.int .u8 4),(22,.int .u8 6),(23,.int .u8 0),(24,.int .u8 0),(25,.int .u8 0),(26,.int .u8 0),(27,.int .u8 2),(28,.int .u8 1),(29,.int .u8 0),(30,.int .u8 5),(31,.int .u8 5)]) ?_ (bs32 w)) h
  simp [Act.eval]
set_option maxRecDepth 100000 in
theorem bld1 (w:World):(Instr.build 36 #[(0,.int .i64 3),(3,.int .i64 20)]).run Tryd.prog w = .ok (.agg #[.int .i64 3,.string ⟨#[]⟩,.int .i64 0,.int .i64 0,.int .i64 0,.int .i64 0,.int .i64 0,.int .i64 0,.int .i64 0,.int .i64 0,.int .i64 0,.int .i64 0,.int .i64 0,.int .i64 0,.int .i64 0,.int .i64 20,.slice none 0 0,.int .i64 0,.int .i64 0,.int .i64 0,.int .i64 0,.int .i64 0,.int .i64 0,.int .i64 0]) w:=by kernel_rfl
set_option maxRecDepth 100000 in
theorem bld2 (g:Nat) (w:World):(Instr.build 36 #[(0,.int .i64 4),(4,.slice (some ⟨g,0,none⟩) 1 1),(5,.int .i64 3),(6,.int .i64 9)]).run Tryd.prog w = .ok (.agg #[.int .i64 4,.string ⟨#[]⟩,.int .i64 0,.int .i64 0,.int .i64 0,.int .i64 0,.int .i64 0,.int .i64 0,.int .i64 0,.int .i64 0,.int .i64 0,.int .i64 0,.int .i64 0,.int .i64 0,.int .i64 0,.int .i64 0,.slice (some ⟨g,0,none⟩) 1 1,.int .i64 3,.int .i64 9,.int .i64 0,.int .i64 0,.int .i64 0,.int .i64 0,.int .i64 0]) w:=by kernel_rfl
set_option maxRecDepth 100000 in
theorem bld3 (w:World):(Instr.build 36 #[(0,.int .i64 1),(1,.string ⟨#[99,32,99,111,110,116,97,99,116,32,55,32,51,10,99,32,99,111,110,116,97,99,116,32,55,32,51,10]⟩)]).run Tryd.prog w = .ok (.agg #[.int .i64 1,.string ⟨#[99,32,99,111,110,116,97,99,116,32,55,32,51,10,99,32,99,111,110,116,97,99,116,32,55,32,51,10]⟩,.int .i64 0,.int .i64 0,.int .i64 0,.int .i64 0,.int .i64 0,.int .i64 0,.int .i64 0,.int .i64 0,.int .i64 0,.int .i64 0,.int .i64 0,.int .i64 0,.int .i64 0,.int .i64 0,.slice none 0 0,.int .i64 0,.int .i64 0,.int .i64 0,.int .i64 0,.int .i64 0,.int .i64 0,.int .i64 0]) w:=by kernel_rfl
set_option maxRecDepth 100000 in
theorem bs72 (g:Nat) (w:World):(Instr.buildSlice 24 3 #[(0,.agg #[.int .i64 3,.string ⟨#[]⟩,.int .i64 0,.int .i64 0,.int .i64 0,.int .i64 0,.int .i64 0,.int .i64 0,.int .i64 0,.int .i64 0,.int .i64 0,.int .i64 0,.int .i64 0,.int .i64 0,.int .i64 0,.int .i64 20,.slice none 0 0,.int .i64 0,.int .i64 0,.int .i64 0,.int .i64 0,.int .i64 0,.int .i64 0,.int .i64 0]),(1,.agg #[.int .i64 4,.string ⟨#[]⟩,.int .i64 0,.int .i64 0,.int .i64 0,.int .i64 0,.int .i64 0,.int .i64 0,.int .i64 0,.int .i64 0,.int .i64 0,.int .i64 0,.int .i64 0,.int .i64 0,.int .i64 0,.int .i64 0,.slice (some ⟨g,0,none⟩) 1 1,.int .i64 3,.int .i64 9,.int .i64 0,.int .i64 0,.int .i64 0,.int .i64 0,.int .i64 0]),(2,.agg #[.int .i64 1,.string ⟨#[99,32,99,111,110,116,97,99,116,32,55,32,51,10,99,32,99,111,110,116,97,99,116,32,55,32,51,10]⟩,.int .i64 0,.int .i64 0,.int .i64 0,.int .i64 0,.int .i64 0,.int .i64 0,.int .i64 0,.int .i64 0,.int .i64 0,.int .i64 0,.int .i64 0,.int .i64 0,.int .i64 0,.int .i64 0,.slice none 0 0,.int .i64 0,.int .i64 0,.int .i64 0,.int .i64 0,.int .i64 0,.int .i64 0,.int .i64 0])]).run Tryd.prog w = .ok (.slice (some ⟨w.heap.size,0,none⟩) 3 3) (w.alloc (.cells #[.int .i64 3,.string ⟨#[]⟩,.int .i64 0,.int .i64 0,.int .i64 0,.int .i64 0,.int .i64 0,.int .i64 0,.int .i64 0,.int .i64 0,.int .i64 0,.int .i64 0,.int .i64 0,.int .i64 0,.int .i64 0,.int .i64 20,.slice none 0 0,.int .i64 0,.int .i64 0,.int .i64 0,.int .i64 0,.int .i64 0,.int .i64 0,.int .i64 0,.int .i64 4,.string ⟨#[]⟩,.int .i64 0,.int .i64 0,.int .i64 0,.int .i64 0,.int .i64 0,.int .i64 0,.int .i64 0,.int .i64 0,.int .i64 0,.int .i64 0,.int .i64 0,.int .i64 0,.int .i64 0,.int .i64 0,.slice (some ⟨g,0,none⟩) 1 1,.int .i64 3,.int .i64 9,.int .i64 0,.int .i64 0,.int .i64 0,.int .i64 0,.int .i64 0,.int .i64 1,.string ⟨#[99,32,99,111,110,116,97,99,116,32,55,32,51,10,99,32,99,111,110,116,97,99,116,32,55,32,51,10]⟩,.int .i64 0,.int .i64 0,.int .i64 0,.int .i64 0,.int .i64 0,.int .i64 0,.int .i64 0,.int .i64 0,.int .i64 0,.int .i64 0,.int .i64 0,.int .i64 0,.int .i64 0,.int .i64 0,.slice none 0 0,.int .i64 0,.int .i64 0,.int .i64 0,.int .i64 0,.int .i64 0,.int .i64 0,.int .i64 0] 36)):=by kernel_rfl
theorem wpList_bs72 {w:World} {ops:Array Oper} {rest:List Oper} {o:Oper} {a:Act} {Q:Exit → Act → World → Prop} (hgd:o.guard = none) (x y z:Operand) (ho:o.op = .buildSlice 24 3 #[(0,x),(1,y),(2,z)]) (g:Nat)
    (hx:a.eval x = .agg #[.int .i64 3,.string ⟨#[]⟩,.int .i64 0,.int .i64 0,.int .i64 0,.int .i64 0,.int .i64 0,.int .i64 0,.int .i64 0,.int .i64 0,.int .i64 0,.int .i64 0,.int .i64 0,.int .i64 0,.int .i64 0,.int .i64 20,.slice none 0 0,.int .i64 0,.int .i64 0,.int .i64 0,.int .i64 0,.int .i64 0,.int .i64 0,.int .i64 0]) (hy:a.eval y = .agg #[.int .i64 4,.string ⟨#[]⟩,.int .i64 0,.int .i64 0,.int .i64 0,.int .i64 0,.int .i64 0,.int .i64 0,.int .i64 0,.int .i64 0,.int .i64 0,.int .i64 0,.int .i64 0,.int .i64 0,.int .i64 0,.int .i64 0,.slice (some ⟨g,0,none⟩) 1 1,.int .i64 3,.int .i64 9,.int .i64 0,.int .i64 0,.int .i64 0,.int .i64 0,.int .i64 0]) (hz:a.eval z = .agg #[.int .i64 1,.string ⟨#[99,32,99,111,110,116,97,99,116,32,55,32,51,10,99,32,99,111,110,116,97,99,116,32,55,32,51,10]⟩,.int .i64 0,.int .i64 0,.int .i64 0,.int .i64 0,.int .i64 0,.int .i64 0,.int .i64 0,.int .i64 0,.int .i64 0,.int .i64 0,.int .i64 0,.int .i64 0,.int .i64 0,.int .i64 0,.slice none 0 0,.int .i64 0,.int .i64 0,.int .i64 0,.int .i64 0,.int .i64 0,.int .i64 0,.int .i64 0])
    (h:wpList Tryd.prog ops Q rest (a.put o.dst (.slice (some ⟨w.heap.size,0,none⟩) 3 3)) (w.alloc (.cells #[.int .i64 3,.string ⟨#[]⟩,.int .i64 0,.int .i64 0,.int .i64 0,.int .i64 0,.int .i64 0,.int .i64 0,.int .i64 0,.int .i64 0,.int .i64 0,.int .i64 0,.int .i64 0,.int .i64 0,.int .i64 0,.int .i64 20,.slice none 0 0,.int .i64 0,.int .i64 0,.int .i64 0,.int .i64 0,.int .i64 0,.int .i64 0,.int .i64 0,.int .i64 4,.string ⟨#[]⟩,.int .i64 0,.int .i64 0,.int .i64 0,.int .i64 0,.int .i64 0,.int .i64 0,.int .i64 0,.int .i64 0,.int .i64 0,.int .i64 0,.int .i64 0,.int .i64 0,.int .i64 0,.int .i64 0,.slice (some ⟨g,0,none⟩) 1 1,.int .i64 3,.int .i64 9,.int .i64 0,.int .i64 0,.int .i64 0,.int .i64 0,.int .i64 0,.int .i64 1,.string ⟨#[99,32,99,111,110,116,97,99,116,32,55,32,51,10,99,32,99,111,110,116,97,99,116,32,55,32,51,10]⟩,.int .i64 0,.int .i64 0,.int .i64 0,.int .i64 0,.int .i64 0,.int .i64 0,.int .i64 0,.int .i64 0,.int .i64 0,.int .i64 0,.int .i64 0,.int .i64 0,.int .i64 0,.int .i64 0,.slice none 0 0,.int .i64 0,.int .i64 0,.int .i64 0,.int .i64 0,.int .i64 0,.int .i64 0,.int .i64 0] 36))):wpList Tryd.prog ops Q (o :: rest) a w:=by
  refine wpList_op_run hgd (buildSlice_run ho (vals:=#[(0,.agg #[.int .i64 3,.string ⟨#[]⟩,.int .i64 0,.int .i64 0,.int .i64 0,.int .i64 0,.int .i64 0,.int .i64 0,.int .i64 0,.int .i64 0,.int .i64 0,.int .i64 0,.int .i64 0,.int .i64 0,.int .i64 0,.int .i64 20,.slice none 0 0,.int .i64 0,.int .i64 0,.int .i64 0,.int .i64 0,.int .i64 0,.int .i64 0,.int .i64 0]),(1,.agg #[.int .i64 4,.string ⟨#[]⟩,.int .i64 0,.int .i64 0,.int .i64 0,.int .i64 0,.int .i64 0,.int .i64 0,.int .i64 0,.int .i64 0,.int .i64 0,.int .i64 0,.int .i64 0,.int .i64 0,.int .i64 0,.int .i64 0,.slice (some ⟨g,0,none⟩) 1 1,.int .i64 3,.int .i64 9,.int .i64 0,.int .i64 0,.int .i64 0,.int .i64 0,.int .i64 0]),(2,.agg #[.int .i64 1,.string ⟨#[99,32,99,111,110,116,97,99,116,32,55,32,51,10,99,32,99,111,110,116,97,99,116,32,55,32,51,10]⟩,.int .i64 0,.int .i64 0,.int .i64 0,.int .i64 0,.int .i64 0,.int .i64 0,.int .i64 0,.int .i64 0,.int .i64 0,.int .i64 0,.int .i64 0,.int .i64 0,.int .i64 0,.int .i64 0,.slice none 0 0,.int .i64 0,.int .i64 0,.int .i64 0,.int .i64 0,.int .i64 0,.int .i64 0,.int .i64 0])]) ?_ (bs72 g w)) h
  simp [hx,hy,hz]
theorem scount_is (A:Option Addr) (n c:Nat) (l:List Ax) (d K:Int) (w:World) (hl:l.length = n) (hn:n ≤ 1000000) (h:Sl w w.heap.size 24 A n c (flatAx l)) (hK:((cntF l d:Nat):Int) = K) :
    Calls Tryd.prog 13 #[.slice A n c,.int .i64 d] w fun e w' => e = .returned (.int .i64 K) ∧ Below w.heap.size w w':=by
  subst hK
  exact scount_any A n c l d w hl hn h
set_option maxHeartbeats 16000000 in
set_option maxRecDepth 100000 in
theorem small25_any (w:World) (ht:TenTab w):Calls Tryd.prog 6 #[] w fun e w' => e = .returned (.bool true) ∧ Below w.heap.size w w':=by
  have TT:=Lib.hid ht
  clear ht
  go_enter Tryd.func6,Tryd.ntmps6
  go_wp2_with (refine wpList_bs32 (by rfl) (by rfl) ?_)
  have hlit:=own_lit w 0 5 1 32 #[.int .u8 2,.int .u8 20,.int .u8 0,.int .u8 0,.int .u8 0,.int .u8 0,.int .u8 0,.int .u8 0,.int .u8 0,.int .u8 0,.int .u8 10,.int .u8 3,.int .u8 4,.int .u8 5,.int .u8 7,.int .u8 9,.int .u8 0,.int .u8 0,.int .u8 0,.int .u8 0,.int .u8 0,.int .u8 4,.int .u8 6,.int .u8 0,.int .u8 0,.int .u8 0,.int .u8 0,.int .u8 2,.int .u8 1,.int .u8 0,.int .u8 5,.int .u8 5] (by omega) rfl (by simp [maxLen])
  have hB:Below w.heap.size w (w.alloc (.cells #[.int .u8 2,.int .u8 20,.int .u8 0,.int .u8 0,.int .u8 0,.int .u8 0,.int .u8 0,.int .u8 0,.int .u8 0,.int .u8 0,.int .u8 10,.int .u8 3,.int .u8 4,.int .u8 5,.int .u8 7,.int .u8 9,.int .u8 0,.int .u8 0,.int .u8 0,.int .u8 0,.int .u8 0,.int .u8 4,.int .u8 6,.int .u8 0,.int .u8 0,.int .u8 0,.int .u8 0,.int .u8 2,.int .u8 1,.int .u8 0,.int .u8 5,.int .u8 5] 5)):=by (repeat (first | exact Below.refl _ _ | refine Below.alloc ?_ (by first | omega | (simp; done) | (simp; omega)) _ | refine Below.setCell ?_ (by first | omega | (simp; done) | (simp; omega)) _ | refine Below.drew ?_))
  have hs:=hB.size
  generalize w.alloc (.cells #[.int .u8 2,.int .u8 20,.int .u8 0,.int .u8 0,.int .u8 0,.int .u8 0,.int .u8 0,.int .u8 0,.int .u8 0,.int .u8 0,.int .u8 10,.int .u8 3,.int .u8 4,.int .u8 5,.int .u8 7,.int .u8 9,.int .u8 0,.int .u8 0,.int .u8 0,.int .u8 0,.int .u8 0,.int .u8 4,.int .u8 6,.int .u8 0,.int .u8 0,.int .u8 0,.int .u8 0,.int .u8 2,.int .u8 1,.int .u8 0,.int .u8 5,.int .u8 5] 5) = w1 at *
  refine (sacts_any (some ⟨w.heap.size,0,none⟩) 32 32 l32 rfl (by omega) l32_by w1 (TT.out.below hB) (Sl.of_own hlit)).mono ?_
  rintro e w2 ⟨v,L1,rfl,hI,hb⟩
  rw [acts32,show 32 / 10 = 3 from rfl] at hI
  replace hB:=hB.trans (hb.mono hs)
  replace hs:=hB.size
  clear hb hlit
  have ho:=hI.own
  obtain ⟨A1,c1,rfl⟩:=slice_of_own ho
  clear ho
  have HI:=Lib.hid hI
  clear hI
  go_upto_region 2 with fail
  have hint:=own_lit w2 0 3 1 1 #[.int .i64 4] (by omega) rfl (by simp [maxLen])
  go_upto_region 3 with (first | (refine wpList_build_run _ (by rfl) 36 #[(0,.const (.int .i64 3)),(3,.const (.int .i64 20))] (by rfl) #[(0,.int .i64 3),(3,.int .i64 20)] (by rfl) (bld1 _) ?_) | (refine wpList_build_run _ (by rfl) 36 #[(0,.const (.int .i64 4)),(4,.tmp 11),(5,.const (.int .i64 3)),(6,.const (.int .i64 9))] (by rfl) #[(0,.int .i64 4),(4,.slice (some ⟨w2.heap.size,0,none⟩) 1 1),(5,.int .i64 3),(6,.int .i64 9)] (by rfl) (bld2 w2.heap.size _) ?_) | (refine wpList_build_run _ (by rfl) 36 #[(0,.const (.int .i64 1)),(1,.const (.string ⟨#[99,32,99,111,110,116,97,99,116,32,55,32,51,10,99,32,99,111,110,116,97,99,116,32,55,32,51,10]⟩))] (by rfl) #[(0,.int .i64 1),(1,.string ⟨#[99,32,99,111,110,116,97,99,116,32,55,32,51,10,99,32,99,111,110,116,97,99,116,32,55,32,51,10]⟩)] (by rfl) (bld3 _) ?_) | (refine wpList_bs72 (by rfl) (.tmp 10) (.tmp 12) (.tmp 13) (by rfl) w2.heap.size (by rfl) (by rfl) (by rfl) ?_))
  have hbi:Below w2.heap.size w2 (w2.alloc (.cells #[.int .i64 4] 3)):=by (repeat (first | exact Below.refl _ _ | refine Below.alloc ?_ (by first | omega | (simp; done) | (simp; omega)) _ | refine Below.setCell ?_ (by first | omega | (simp; done) | (simp; omega)) _ | refine Below.drew ?_))
  have hrow:=own_lit (w2.alloc (.cells #[.int .i64 4] 3)) 0 36 24 3 #[.int .i64 3,.string ⟨#[]⟩,.int .i64 0,.int .i64 0,.int .i64 0,.int .i64 0,.int .i64 0,.int .i64 0,.int .i64 0,.int .i64 0,.int .i64 0,.int .i64 0,.int .i64 0,.int .i64 0,.int .i64 0,.int .i64 20,.slice none 0 0,.int .i64 0,.int .i64 0,.int .i64 0,.int .i64 0,.int .i64 0,.int .i64 0,.int .i64 0,.int .i64 4,.string ⟨#[]⟩,.int .i64 0,.int .i64 0,.int .i64 0,.int .i64 0,.int .i64 0,.int .i64 0,.int .i64 0,.int .i64 0,.int .i64 0,.int .i64 0,.int .i64 0,.int .i64 0,.int .i64 0,.int .i64 0,.slice (some ⟨w2.heap.size,0,none⟩) 1 1,.int .i64 3,.int .i64 9,.int .i64 0,.int .i64 0,.int .i64 0,.int .i64 0,.int .i64 0,.int .i64 1,.string ⟨#[99,32,99,111,110,116,97,99,116,32,55,32,51,10,99,32,99,111,110,116,97,99,116,32,55,32,51,10]⟩,.int .i64 0,.int .i64 0,.int .i64 0,.int .i64 0,.int .i64 0,.int .i64 0,.int .i64 0,.int .i64 0,.int .i64 0,.int .i64 0,.int .i64 0,.int .i64 0,.int .i64 0,.int .i64 0,.slice none 0 0,.int .i64 0,.int .i64 0,.int .i64 0,.int .i64 0,.int .i64 0,.int .i64 0,.int .i64 0] (by omega) rfl (by simp [maxLen])
  have hbr:Below (w2.alloc (.cells #[.int .i64 4] 3)).heap.size (w2.alloc (.cells #[.int .i64 4] 3)) ((w2.alloc (.cells #[.int .i64 4] 3)).alloc (.cells #[.int .i64 3,.string ⟨#[]⟩,.int .i64 0,.int .i64 0,.int .i64 0,.int .i64 0,.int .i64 0,.int .i64 0,.int .i64 0,.int .i64 0,.int .i64 0,.int .i64 0,.int .i64 0,.int .i64 0,.int .i64 0,.int .i64 20,.slice none 0 0,.int .i64 0,.int .i64 0,.int .i64 0,.int .i64 0,.int .i64 0,.int .i64 0,.int .i64 0,.int .i64 4,.string ⟨#[]⟩,.int .i64 0,.int .i64 0,.int .i64 0,.int .i64 0,.int .i64 0,.int .i64 0,.int .i64 0,.int .i64 0,.int .i64 0,.int .i64 0,.int .i64 0,.int .i64 0,.int .i64 0,.int .i64 0,.slice (some ⟨w2.heap.size,0,none⟩) 1 1,.int .i64 3,.int .i64 9,.int .i64 0,.int .i64 0,.int .i64 0,.int .i64 0,.int .i64 0,.int .i64 1,.string ⟨#[99,32,99,111,110,116,97,99,116,32,55,32,51,10,99,32,99,111,110,116,97,99,116,32,55,32,51,10]⟩,.int .i64 0,.int .i64 0,.int .i64 0,.int .i64 0,.int .i64 0,.int .i64 0,.int .i64 0,.int .i64 0,.int .i64 0,.int .i64 0,.int .i64 0,.int .i64 0,.int .i64 0,.int .i64 0,.slice none 0 0,.int .i64 0,.int .i64 0,.int .i64 0,.int .i64 0,.int .i64 0,.int .i64 0,.int .i64 0] 36)):=by (repeat (first | exact Below.refl _ _ | refine Below.alloc ?_ (by first | omega | (simp; done) | (simp; omega)) _ | refine Below.setCell ?_ (by first | omega | (simp; done) | (simp; omega)) _ | refine Below.drew ?_))
  have hb2:=hbi.trans (hbr.mono hbi.size)
  have hi2:=(Sl.of_own hint).up hbr
  have hr2:=Sl.of_own hrow
  replace hB:=hB.trans (hb2.mono hs)
  replace hs:=hB.size
  have HI2:=Lib.hid (HI.out.below hb2)
  clear HI hint hrow hbr hbi hb2
  generalize hg:w2.heap.size = g at *
  have e9:(w2.alloc (.cells #[.int .i64 4] 3)).heap.size = g + 1:=by rw [World.size_alloc,hg]
  rw [e9] at hr2
  try rw [e9]
  clear e9 hg
  generalize (w2.alloc (.cells #[.int .i64 4] 3)).alloc (.cells #[.int .i64 3,.string ⟨#[]⟩,.int .i64 0,.int .i64 0,.int .i64 0,.int .i64 0,.int .i64 0,.int .i64 0,.int .i64 0,.int .i64 0,.int .i64 0,.int .i64 0,.int .i64 0,.int .i64 0,.int .i64 0,.int .i64 20,.slice none 0 0,.int .i64 0,.int .i64 0,.int .i64 0,.int .i64 0,.int .i64 0,.int .i64 0,.int .i64 0,.int .i64 4,.string ⟨#[]⟩,.int .i64 0,.int .i64 0,.int .i64 0,.int .i64 0,.int .i64 0,.int .i64 0,.int .i64 0,.int .i64 0,.int .i64 0,.int .i64 0,.int .i64 0,.int .i64 0,.int .i64 0,.int .i64 0,.slice (some ⟨g,0,none⟩) 1 1,.int .i64 3,.int .i64 9,.int .i64 0,.int .i64 0,.int .i64 0,.int .i64 0,.int .i64 0,.int .i64 1,.string ⟨#[99,32,99,111,110,116,97,99,116,32,55,32,51,10,99,32,99,111,110,116,97,99,116,32,55,32,51,10]⟩,.int .i64 0,.int .i64 0,.int .i64 0,.int .i64 0,.int .i64 0,.int .i64 0,.int .i64 0,.int .i64 0,.int .i64 0,.int .i64 0,.int .i64 0,.int .i64 0,.int .i64 0,.int .i64 0,.slice none 0 0,.int .i64 0,.int .i64 0,.int .i64 0,.int .i64 0,.int .i64 0,.int .i64 0,.int .i64 0] 36) = w3 at *
  go_wp2_with fail
  refine (sdir_any 0 0 1 1 2 70 65 5 0 0 w3 (by decide) (by decide) (by decide) (by decide) (by decide) (by decide) (by decide) (by decide) (by decide) (by decide) _ dir25).mono ?_
  rintro e w4 ⟨rfl,hb⟩
  replace hi2:=hi2.up hb
  replace hr2:=hr2.up hb
  replace HI2:=Lib.hid (HI2.out.below hb)
  replace hB:=hB.trans (hb.mono hs)
  replace hs:=hB.size
  clear hb
  dsimp only
  go_upto_region 4 with fail
  have hD:=Blok.new w4 31 #[.int .i64 1,.int .i64 1,.int .i64 2,.int .i64 2,.int .i64 3,.int .i64 6,.int .i64 8,.int .i64 2,.int .i64 0,.int .i64 0,.int .i64 0,.int .i64 0,.int .i64 0]
  have hb:Below w4.heap.size w4 (w4.alloc (.cells #[.int .i64 1,.int .i64 1,.int .i64 2,.int .i64 2,.int .i64 3,.int .i64 6,.int .i64 8,.int .i64 2,.int .i64 0,.int .i64 0,.int .i64 0,.int .i64 0,.int .i64 0] 31)):=by (repeat (first | exact Below.refl _ _ | refine Below.alloc ?_ (by first | omega | (simp; done) | (simp; omega)) _ | refine Below.setCell ?_ (by first | omega | (simp; done) | (simp; omega)) _ | refine Below.drew ?_))
  replace hi2:=hi2.up hb
  replace hr2:=hr2.up hb
  replace HI2:=Lib.hid (HI2.out.below hb)
  replace hB:=hB.trans (hb.mono hs)
  replace hs:=hB.size
  clear hb
  generalize w4.alloc (.cells #[.int .i64 1,.int .i64 1,.int .i64 2,.int .i64 2,.int .i64 3,.int .i64 6,.int .i64 8,.int .i64 2,.int .i64 0,.int .i64 0,.int .i64 0,.int .i64 0,.int .i64 0] 31) = w5 at *
  generalize w4.heap.size = bD at *
  have HL2:Hid (∃ L2:List Ax,L2.length = 3 ∧ L2.map Ax.p = [pa1,pa2,pa3] ∧ Sl w5 w5.heap.size 24 (some ⟨g + 1,0,none⟩) 3 3 (flatAx L2) ∧ (∀ x ∈ L2,x.ok w5) ∧ Sl w5 w5.heap.size 24 (some ⟨g + 1,0,none⟩) 2 3 (flatAx (L2.take 2)) ∧ (L2.take 2).map Ax.p = [pa1,pa2]):=by
    refine ⟨[⟨pa1,none,0,0⟩,⟨pa2,some ⟨g,0,none⟩,1,1⟩,⟨pa3,none,0,0⟩],rfl,rfl,hr2,?_,hr2.upto (m:=2) (by omega),rfl⟩
    intro x hx
    rcases List.mem_cons.1 hx with rfl | hx
    · exact ⟨rfl,by show 0 ≤ 1000000; omega,Sl.nil0 _ _ _⟩
    rcases List.mem_cons.1 hx with rfl | hx
    · exact ⟨rfl,by show 1 ≤ 1000000; omega,hi2⟩
    rcases List.mem_cons.1 hx with rfl | hx
    · exact ⟨rfl,by show 0 ≤ 1000000; omega,Sl.nil0 _ _ _⟩
    cases hx
  clear hr2 hi2
  obtain ⟨L2,k1,k2,k3,k4,k5,k6⟩:=HL2.out
  obtain ⟨i1,i2,i3,i4⟩:=HI2.out
  have q1:decide (L1.map Ax.p = L2.map Ax.p) = true:=by rw [i2,k2]; exact decide_eq_true rfl
  have q2:decide (L1.map Ax.p = (L2.take 2).map Ax.p) = false:=by rw [i2,k6]; exact decide_eq_false (by simp)
  have q3:((cntF L1 4:Nat):Int) = 1:=by
    have e:cntF L1 4 = ((L1.map Ax.p).filter fun p => p.dk == 4).length:=by unfold cntF; rw [List.filter_map,List.length_map]; rfl
    rw [e,i2]
    decide
  have HQ1:=Lib.hid q1
  have HQ2:=Lib.hid q2
  have HQ3:=Lib.hid q3
  have HLN:=Lib.hid (⟨i1,k1,by rw [List.length_take,k1]; rfl⟩:L1.length = 3 ∧ L2.length = 3 ∧ (L2.take 2).length = 2)
  have HA:=Lib.hid (fun d os => (Sl.of_own i3).up (below_regrown w5 d os))
  have HB1:=Lib.hid (fun d os => k3.up (below_regrown w5 d os))
  have HB2:=Lib.hid (fun d os => k5.up (below_regrown w5 d os))
  have HKA:=Lib.hid (fun d os => fun (x:Ax) hx => (i4 x hx).ok.below (below_regrown w5 d os))
  have HKB:=Lib.hid (fun d os => fun (x:Ax) hx => (k4 x hx).below (below_regrown w5 d os))
  have HKC:=Lib.hid (fun d os => fun (x:Ax) (hx:x ∈ L2.take 2) => (k4 x (List.mem_of_mem_take hx)).below (below_regrown w5 d os))
  clear HL2 HI2 q1 q2 q3 i1 i2 i3 i4 k1 k2 k3 k4 k5 k6
  have hEQ:∀ w0:World,(binOp .eql 31 (.agg #[.int .i64 1,.int .i64 1,.int .i64 2,.int .i64 2,.int .i64 3,.int .i64 6,.int .i64 8,.int .i64 2,.int .i64 0,.int .i64 0,.int .i64 0,.int .i64 0,.int .i64 0]) (.agg #[.int .i64 1,.int .i64 1,.int .i64 2,.int .i64 2,.int .i64 3,.int .i64 6,.int .i64 8,.int .i64 2,.int .i64 0,.int .i64 0,.int .i64 0,.int .i64 0,.int .i64 0])).run Tryd.prog w0 = .ok (.bool true) w0:=fun w0 => by have h:=eqlDr ⟨1,1,2,2,3,6,8,2,0,0,0,0,0⟩ ⟨1,1,2,2,3,6,8,2,0,0,0,0,0⟩ w0; simpa using h
  have y0:w5.cell? ⟨bD,0,none⟩ = some (.int .i64 1):=hD.cell 0
  have y1:w5.cell? ⟨bD,1,none⟩ = some (.int .i64 1):=hD.cell 1
  have y2:w5.cell? ⟨bD,2,none⟩ = some (.int .i64 2):=hD.cell 2
  have y3:w5.cell? ⟨bD,3,none⟩ = some (.int .i64 2):=hD.cell 3
  have y4:w5.cell? ⟨bD,4,none⟩ = some (.int .i64 3):=hD.cell 4
  have y5:w5.cell? ⟨bD,5,none⟩ = some (.int .i64 6):=hD.cell 5
  have y6:w5.cell? ⟨bD,6,none⟩ = some (.int .i64 8):=hD.cell 6
  have y7:w5.cell? ⟨bD,7,none⟩ = some (.int .i64 2):=hD.cell 7
  have y8:w5.cell? ⟨bD,8,none⟩ = some (.int .i64 0):=hD.cell 8
  have y9:w5.cell? ⟨bD,9,none⟩ = some (.int .i64 0):=hD.cell 9
  have y10:w5.cell? ⟨bD,10,none⟩ = some (.int .i64 0):=hD.cell 10
  have y11:w5.cell? ⟨bD,11,none⟩ = some (.int .i64 0):=hD.cell 11
  have y12:w5.cell? ⟨bD,12,none⟩ = some (.int .i64 0):=hD.cell 12
  have lt_y:=hD.lt
  have q_y0:=fun d os => cell_regrown y0 d os
  have q_y1:=fun d os => cell_regrown y1 d os
  have q_y2:=fun d os => cell_regrown y2 d os
  have q_y3:=fun d os => cell_regrown y3 d os
  have q_y4:=fun d os => cell_regrown y4 d os
  have q_y5:=fun d os => cell_regrown y5 d os
  have q_y6:=fun d os => cell_regrown y6 d os
  have q_y7:=fun d os => cell_regrown y7 d os
  have q_y8:=fun d os => cell_regrown y8 d os
  have q_y9:=fun d os => cell_regrown y9 d os
  have q_y10:=fun d os => cell_regrown y10 d os
  have q_y11:=fun d os => cell_regrown y11 d os
  have q_y12:=fun d os => cell_regrown y12 d os
  try simp only [List.append]
  first | refine wp_region_text_below ?_ | refine wp_region_quiet_below (by kernel_rfl) (by kernel_rfl) ?_
  repeat (go_big_quiet_step ((first | (go_at_call 12; first | with_reducible exact Calls.regrown_of (ssame_any A1 (some ⟨g + 1,0,none⟩) 3 c1 3 3 L1 L2 _ HLN.out.1 HLN.out.2.1 (by omega) (by omega) (HA.out _ _) (HB1.out _ _) (HKA.out _ _) (HKB.out _ _) _ HQ1.out) | with_reducible exact Calls.regrown_of (ssame_any A1 (some ⟨g + 1,0,none⟩) 3 c1 2 3 L1 (L2.take 2) _ HLN.out.1 HLN.out.2.2 (by omega) (by omega) (HA.out _ _) (HB2.out _ _) (HKA.out _ _) (HKC.out _ _) _ HQ2.out)) | (go_at_call 13; with_reducible exact Calls.regrown_of (scount_is A1 3 c1 L1 4 1 _ HLN.out.1 (by omega) (HA.out _ _) HQ3.out)))))
  refine wpQuiet_nil ?_
  intro _ hqw
  obtain ⟨pq,hqw⟩:=hqw
  subst hqw
  go_wp2
  go_ret
  exact ⟨rfl,hB.trans ((below_regrown _ _ _).mono hs)⟩
end Go.Proofs.YtggdomeeienjbaaDoor

/- From a row's list of package-level variables to the fact that the walks want: the library's table of the powers of ten. -/
namespace Go.Proofs.YtggdomeeienjbaaDoor
open Go.ChangeShapes Go.WideShapes Go.ChangeAt Go.RowKit Go.Sort
set_option linter.unusedSimpArgs false
set_option linter.unusedVariables false

theorem ten_parts {W:World} (h:laidMetH Tryd.prog Rows.scriptPartsRow.laid W):TenTab W:=by
  have h1 := laidMetH.filter (fun x => x.1 == "internal/strconv.uint64pow10") h
  rw [MakeChecks.laidMetH_plain _ _ _ (by kernel_rfl)] at h1
  have h2 : laidMet Tryd.prog [("internal/strconv.uint64pow10", Lib.tabData .u64 Lib.pow10Tab)] W := h1
  exact Lib.tabIs_of_head (g:=1) (t:=105) (e:=98) (n:=20) (by kernel_rfl) (by kernel_rfl) Tryd.underlying105 Tryd.underlying98 (by kernel_rfl) (by kernel_rfl) h2
end Go.Proofs.YtggdomeeienjbaaDoor

/- An argument that is a slice of bytes, opened. No condition. -/
namespace Go.Proofs.YtggdomeeienjbaaDoor
open Go.ChangeShapes Go.WideShapes Go.ChangeAt Go.RowKit Go.Sort
set_option linter.unusedSimpArgs false
set_option linter.unusedVariables false
variable {H:Type} {enc:TypeId × Value → H} {P:Program}
theorem open_bytesS {w:World} {base b0:Nat} {r:Reach} {spare:Nat → Bool} {held:Bool} {t e:TypeId} {v:Value} {d:DataW H} {p:List MemPlace} (ht:P.underlying t = some (.slice e)) (he:P.underlying e = some (.int .u8)) (hK:P.cellsOf e = 1)
    (hv:Value.okWide P w r b0 t v) (h:DataW.Trod enc P w base spare held t v d p) :
    ∃ (A:Option Addr) (n c:Nat) (ns:List Nat),v = .slice A n c ∧ Sl w w.heap.size 1 A n c (cB ns) ∧ ns.length = n ∧ ∀ m ∈ ns,m < 256:=by
  obtain ⟨A,n,c,rfl⟩:=okWide_slice ht hv
  obtain ⟨fuel,hx⟩:=h
  rcases Go.Deep.open_slice ht hx with ⟨h0,_⟩ | ⟨a,len,cap,m,q',D,Pl,hcs,hb,hl,hm,hmm,_,hi⟩
  · have h0':Value.slice A n c = .slice none 0 0:=by simpa [Value.cells] using h0
    injection h0' with h1 h2 h3
    subst h1 h2 h3
    exact ⟨none,0,0,[],rfl,Sl.nil0 _ _ _,by simp,by simp⟩
  · have h0':Value.slice A n c = .slice (some a) len cap:=by simpa [Value.cells] using hcs
    injection h0' with h1 h2 h3
    subst h1 h2 h3
    have hnm:n ≤ m:=by rw [hmm]; split <;> omega
    have key:∀ i,i ≤ n → ∃ ns:List Nat,ns.length = i ∧ (∀ j u,(cB ns)[j]? = some u → w.cell? (a.add j) = some u) ∧ ∀ m ∈ ns,m < 256:=by
      intro i
      induction i with
      | zero => exact fun _ => ⟨[],by simp,by simp [cB],by simp⟩
      | succ i ih =>
        intro hin
        obtain ⟨ns,n1,n2,n3⟩:=ih (by omega)
        obtain ⟨cs',hc,htr⟩:=hi i (by omega)
        obtain ⟨_,hcl,hat⟩:=World.cells?_some hc
        obtain ⟨x,e1,_,e2⟩:=DataW.trod_int he htr
        have hx:0 ≤ x ∧ x ≤ 255:=by
          simp [Lit.wf,IntKind.min,IntKind.max,IntKind.signed,IntKind.bits] at e2
          omega
        refine ⟨ns ++ [x.toNat],by simp [n1],fun j u hu => ?_,fun y hy => ?_⟩
        · unfold cB at hu
          rw [List.map_append] at hu
          by_cases hj:j < ns.length
          · rw [List.getElem?_append_left (by simpa using hj)] at hu
            exact n2 j u hu
          · rw [List.getElem?_append_right (by simpa using hj)] at hu
            have hj0:j = ns.length:=by
              have:=(List.getElem?_eq_some_iff.1 hu).1
              simp at this
              omega
            subst hj0
            have h4:=hat 0 (by rw [hK]; omega)
            rw [add_plus,hK,Nat.mul_one,Nat.add_zero] at h4
            rw [n1,h4]
            have e3:cs'[0]? = some (.int .u8 x):=by rw [e1]; rfl
            rw [e3,← hu]
            simp
            omega
        · rcases List.mem_append.1 hy with hy | hy
          · exact n3 y hy
          · simp at hy; omega
    obtain ⟨ns,n1,n2,n3⟩:=key n (Nat.le_refl _)
    refine ⟨some a,n,c,ns,rfl,⟨⟨by simp [cB,n1],fun hn => ⟨a,rfl,?_,n2⟩⟩,hl,hm,fun e => by cases e⟩,n1,n3⟩
    have h0:0 < ns.length:=by omega
    have:=n2 0 _ (cB_at ns 0 h0)
    rw [add_zero_] at this
    exact block_lt_of_cell this
end Go.Proofs.YtggdomeeienjbaaDoor

/- An argument that is an array of bytes, opened. No condition. -/
namespace Go.Proofs.YtggdomeeienjbaaDoor
open Go.ChangeShapes Go.WideShapes Go.ChangeAt Go.RowKit Go.Sort
set_option linter.unusedSimpArgs false
set_option linter.unusedVariables false
variable {H:Type} {enc:TypeId × Value → H} {P:Program}
theorem okWide_array {w:World} {r:Reach} {base k:Nat} {t e:TypeId} {v:Value} (ht:P.underlying t = some (.array k e)) (h:Value.okWide P w r base t v):∃ cs,v = .agg cs ∧ cs.size = P.cellsOf t:=by
  simp only [Value.okWide,ht] at h
  obtain ⟨cs,h1,h2,_⟩:=h
  exact ⟨cs,h1,h2⟩
theorem bytes_of_cells:∀ {cs:List Value},(∀ c ∈ cs,∃ m:Nat,c = .int .u8 (m:Int) ∧ m < 256) → ∃ ns:List Nat,cs = cB ns ∧ ∀ m ∈ ns,m < 256
  | [],_ => ⟨[],rfl,by simp⟩
  | c :: cs,h => by
    obtain ⟨m,rfl,hm⟩:=h c (by simp)
    obtain ⟨ns,rfl,hn⟩:=bytes_of_cells (cs:=cs) (fun c hc => h c (by simp [hc]))
    exact ⟨m :: ns,rfl,by simpa [hm] using hn⟩
theorem open_arrB {w:World} {base b0 k:Nat} {r:Reach} {spare:Nat → Bool} {held:Bool} {t e:TypeId} {v:Value} {d:DataW H} {p:List MemPlace} (ht:P.underlying t = some (.array k e)) (he:P.underlying e = some (.int .u8)) (hK:P.cellsOf e = 1) (hC:P.cellsOf t = k)
    (hv:Value.okWide P w r b0 t v) (h:DataW.Trod enc P w base spare held t v d p) :
    ∃ ns:List Nat,v = .agg (cB ns).toArray ∧ ns.length = k ∧ ∀ m ∈ ns,m < 256:=by
  obtain ⟨cs,rfl,hsz⟩:=okWide_array ht hv
  obtain ⟨fuel,hx⟩:=h
  have key:∀ c ∈ cs.toList,∃ m:Nat,c = .int .u8 (m:Int) ∧ m < 256:=by
    obtain ⟨xs,m,_,_,hlen,hxl,hf⟩:=DataW.trod_array ht hx
    intro c hc
    obtain ⟨i,hi,rfl⟩:=List.getElem_of_mem hc
    have hik:i < k:=by rw [← hC,← hsz]; simpa using hi
    have h3:=hf i hik
    rw [List.getElem?_eq_getElem (by rw [hxl]; exact hik)] at h3
    obtain ⟨x,e1,_,e2⟩:=DataW.trod_int he h3
    have hx:0 ≤ x ∧ x ≤ 255:=by
      simp [Lit.wf,IntKind.min,IntKind.max,IntKind.signed,IntKind.bits] at e2
      omega
    have e3:List.take (P.cellsOf e) (List.drop (i * P.cellsOf e) (Value.agg cs).cells.toList) = [cs.toList[i]]:=by
      rw [hK,Nat.mul_one]
      show List.take 1 (List.drop i cs.toList) = _
      rw [List.drop_eq_getElem_cons hi]
      rfl
    rw [e1] at e3
    have e4:cs.toList[i] = .int .u8 x:=by injection e3 with h _; exact h.symm
    exact ⟨x.toNat,by rw [e4,Int.toNat_of_nonneg hx.1],by omega⟩
  obtain ⟨ns,h1,h2⟩:=bytes_of_cells key
  have e:cs = (cB ns).toArray:=by rw [← h1]
  refine ⟨ns,by rw [e],?_,h2⟩
  rw [← hC,← hsz,e]
  simp [cB_length]
end Go.Proofs.YtggdomeeienjbaaDoor

/- An argument that is a slice of structs of ints, texts and rows of ints, opened. No condition. -/
namespace Go.Proofs.YtggdomeeienjbaaDoor
open Go.ChangeShapes Go.WideShapes Go.ChangeAt Go.RowKit Go.Sort
set_option linter.unusedSimpArgs false
set_option linter.unusedVariables false
inductive Ck where
  | i
  | s
  | l
deriving DecidableEq
/-- A cell of that kind, in that world. -/
def Ck.ok (w:World):Ck → Value → Prop
  | .i,v => ∃ m,v = .int .i64 m ∧ (Lit.int .i64 m).wf = true
  | .s,v => ∃ s:ByteArray,v = .string s
  | .l,v => ∃ (A:Option Addr) (n c:Nat) (ns:List Int),v = .slice A n c ∧ Sl w w.heap.size 1 A n c (ns.map (Value.int .i64)) ∧ ns.length = n ∧ ∀ m ∈ ns,(Lit.int .i64 m).wf = true
def AllK (w:World):List Ck → List Value → Prop
  | [],cs => cs = []
  | k :: ks,cs => ∃ c cs',cs = c :: cs' ∧ k.ok w c ∧ AllK w ks cs'
theorem AllK.len {w:World}:∀ {ks:List Ck} {cs:List Value},AllK w ks cs → cs.length = ks.length
  | [],_,h => by
    have h':_ = []:=h
    subst h'; rfl
  | k :: ks,cs,h => by
    obtain ⟨c,cs',rfl,_,h2⟩:=h
    simp [AllK.len h2]
theorem AllK.append {w:World}:∀ {ks js:List Ck} {cs ds:List Value},AllK w ks cs → AllK w js ds → AllK w (ks ++ js) (cs ++ ds)
  | [],_,_,_,h,h2 => by
    have h':_ = []:=h
    subst h'; exact h2
  | k :: ks,js,cs,ds,h,h2 => by
    obtain ⟨c,cs',rfl,h1,h3⟩:=h
    exact ⟨c,cs' ++ ds,rfl,h1,AllK.append h3 h2⟩
def isI64:Option TypeDesc → Bool
  | some (.int .i64) => true
  | _ => false
theorem isI64_eq {d:Option TypeDesc} (h:isI64 d = true):d = some (.int .i64):=by
  unfold isI64 at h
  split at h
  · rfl
  · cases h
def mixFs (g:TypeId → Option (List Ck)) (sz:TypeId → Nat):Nat → List Field → Option (List Ck)
  | _,[] => some []
  | o,f :: fs => match g f.type with
    | some js => if f.offset = o ∧ sz f.type = js.length then (mixFs g sz (o + js.length) fs).map (js ++ ·) else none
    | none => none
def mixB (P:Program):Nat → TypeId → Option (List Ck)
  | 0,_ => none
  | n + 1,t => match P.underlying t with
    | some (.int .i64) => some [.i]
    | some .string => some [.s]
    | some (.slice e) => if isI64 (P.underlying e) && P.cellsOf e == 1 then some [.l] else none
    | some (.struct fs) => match mixFs (mixB P n) P.cellsOf 0 fs.toList with
      | some ks => if ks.length = P.cellsOf t then some ks else none
      | none => none
    | _ => none
theorem mixFs_cells {w:World} {g:TypeId → Option (List Ck)} {sz:TypeId → Nat} {cs:List Value}:∀ {fs:List Field} {o:Nat} {ks:List Ck},mixFs g sz o fs = some ks →
    (∀ f ∈ fs,∀ js,g f.type = some js → AllK w js ((cs.drop f.offset).take (sz f.type))) → AllK w ks ((cs.drop o).take ks.length)
  | [],o,ks,h,_ => by
    have e:ks = []:=by simpa [mixFs] using h.symm
    subst e
    simp [AllK]
  | f :: fs,o,ks,h,hf => by
    unfold mixFs at h
    split at h
    · rename_i js hjs
      split at h
      · rename_i hc
        obtain ⟨rs,h1,rfl⟩:=Option.map_eq_some_iff.1 h
        have h2:=hf f (by simp) js hjs
        rw [hc.1,hc.2] at h2
        have h3:=mixFs_cells h1 (fun f' hf' => hf f' (by simp [hf']))
        rw [List.length_append,List.take_add,List.drop_drop]
        exact h2.append h3
      · cases h
    · cases h
section
variable {H:Type} {enc:TypeId × Value → H} {P:Program}
theorem mix_cells {w:World} {base:Nat} {spare:Nat → Bool} {held:Bool}:∀ (n:Nat) {fuel:Nat} {t:TypeId} {cs:List Value} {x:DataW H × List MemPlace} {ks:List Ck},mixB P n t = some ks →
    DataW.trod enc P w base spare held fuel t cs = some x → AllK w ks cs
  | 0,_,_,_,_,_,h,_ => by simp [mixB] at h
  | n + 1,fuel,t,cs,x,ks,h,ht => by
    unfold mixB at h
    split at h
    · rename_i hu
      obtain ⟨m,rfl,_,hw⟩:=DataW.trod_int hu ht
      injection h with h; subst h
      exact ⟨_,_,rfl,⟨m,rfl,hw⟩,rfl⟩
    · rename_i hu
      obtain ⟨s,rfl,_,hw⟩:=DataW.trod_string hu ht
      injection h with h; subst h
      exact ⟨_,_,rfl,⟨s,rfl⟩,rfl⟩
    · rename_i e hu
      split at h
      · rename_i hc
        injection h with h; subst h
        simp only [Bool.and_eq_true,beq_iff_eq] at hc
        have he:=isI64_eq hc.1
        rcases Go.Deep.open_slice hu ht with ⟨rfl,_⟩ | ⟨a,len,cap,m,q',D,Pl,rfl,hb,hl,hm,hmm,_,hi⟩
        · exact ⟨_,_,rfl,⟨none,0,0,[],rfl,Sl.nil0 _ _ _,rfl,by simp⟩,rfl⟩
        · have hnm:len ≤ m:=by rw [hmm]; split <;> omega
          have key:∀ i,i ≤ len → ∃ ns:List Int,ns.length = i ∧ (∀ j u,(ns.map (Value.int .i64))[j]? = some u → w.cell? (a.add j) = some u) ∧ ∀ m ∈ ns,(Lit.int .i64 m).wf = true:=by
            intro i
            induction i with
            | zero => exact fun _ => ⟨[],by simp,by simp,by simp⟩
            | succ i ih =>
              intro hin
              obtain ⟨ns,n1,n2,n3⟩:=ih (by omega)
              obtain ⟨cs',hc',htr⟩:=hi i (by omega)
              obtain ⟨_,hcl,hat⟩:=World.cells?_some hc'
              obtain ⟨y,e1,_,e2⟩:=DataW.trod_int he htr
              refine ⟨ns ++ [y],by simp [n1],fun j u hu' => ?_,fun z hz => ?_⟩
              · rw [List.map_append] at hu'
                by_cases hj:j < ns.length
                · rw [List.getElem?_append_left (by simpa using hj)] at hu'
                  exact n2 j u hu'
                · rw [List.getElem?_append_right (by simpa using hj)] at hu'
                  have hj0:j = ns.length:=by
                    have:=(List.getElem?_eq_some_iff.1 hu').1
                    simp at this
                    omega
                  subst hj0
                  have h4:=hat 0 (by rw [hc.2]; omega)
                  rw [add_plus,hc.2,Nat.mul_one,Nat.add_zero] at h4
                  rw [n1,h4,e1,← hu']
                  simp
              · rcases List.mem_append.1 hz with hz | hz
                · exact n3 z hz
                · simp at hz; subst hz; exact e2
          obtain ⟨ns,n1,n2,n3⟩:=key len (Nat.le_refl _)
          refine ⟨_,_,rfl,⟨some a,len,cap,ns,rfl,⟨⟨by simp [n1],fun hn => ⟨a,rfl,?_,n2⟩⟩,hl,hm,fun e => by cases e⟩,n1,n3⟩,rfl⟩
          have h0:0 < ns.length:=by omega
          have:=n2 0 (.int .i64 ns[0]) (by simp)
          rw [add_zero_] at this
          exact block_lt_of_cell this
      · cases h
    · rename_i fs hu
      split at h
      · rename_i ks' hk
        split at h
        · rename_i hlen
          injection h with h; subst h
          obtain ⟨xs,m,_,_,hlc,hxl,hf⟩:=DataW.trod_struct hu ht
          have h1:=mixFs_cells (w:=w) (cs:=cs) hk (fun f hfm js hjs => by
            obtain ⟨j,hj,hjf⟩:=List.getElem_of_mem hfm
            have hj':fs[j]? = some f:=by
              rw [← Array.getElem?_toList,List.getElem?_eq_getElem hj,hjf]
            have h3:=hf j f hj'
            have hjx:xs[j]? = some (xs[j]'(by rw [hxl]; simpa using hj)):=List.getElem?_eq_getElem _
            rw [hjx] at h3
            exact mix_cells n hjs h3)
          rw [hlen,List.drop_zero,← hlc,List.take_length] at h1
          exact h1
        · cases h
      · cases h
    · cases h
theorem open_mix {w:World} {base b0:Nat} {r:Reach} {spare:Nat → Bool} {held:Bool} {t e:TypeId} {v:Value} {d:DataW H} {p:List MemPlace} (q:Nat) {K:Nat} {ks:List Ck} (ht:P.underlying t = some (.slice e)) (hf:mixB P q e = some ks) (hK:P.cellsOf e = K) (hpos:0 < K)
    (hv:Value.okWide P w r b0 t v) (h:DataW.Trod enc P w base spare held t v d p) :
    ∃ (A:Option Addr) (n c:Nat) (css:List (List Value)),v = .slice A n c ∧ Sl w w.heap.size K A n c css.flatten ∧ css.length = n ∧ ∀ cs ∈ css,AllK w ks cs:=by
  obtain ⟨A,n,c,rfl⟩:=okWide_slice ht hv
  obtain ⟨fuel,hx⟩:=h
  subst hK
  rcases Go.Deep.open_slice ht hx with ⟨h0,_⟩ | ⟨a,len,cap,m,q',D,Pl,hcs,hb,hl,hm,hmm,_,hi⟩
  · have h0':Value.slice A n c = .slice none 0 0:=by simpa [Value.cells] using h0
    injection h0' with h1 h2 h3
    subst h1 h2 h3
    exact ⟨none,0,0,[],rfl,Sl.nil0 _ _ _,rfl,by simp⟩
  · have h0':Value.slice A n c = .slice (some a) len cap:=by simpa [Value.cells] using hcs
    injection h0' with h1 h2 h3
    subst h1 h2 h3
    have hnm:n ≤ m:=by rw [hmm]; split <;> omega
    have key:∀ i,i ≤ n → ∃ css:List (List Value),css.length = i ∧ css.flatten.length = i * P.cellsOf e ∧ (∀ j u,css.flatten[j]? = some u → w.cell? (a.add j) = some u) ∧ ∀ cs ∈ css,AllK w ks cs:=by
      intro i
      induction i with
      | zero => exact fun _ => ⟨[],rfl,by simp,by simp,by simp⟩
      | succ i ih =>
        intro hin
        obtain ⟨css,n0,n1,n2,n3⟩:=ih (by omega)
        obtain ⟨cs',hc,htr⟩:=hi i (by omega)
        obtain ⟨_,hcl,hat⟩:=World.cells?_some hc
        have hak:=mix_cells q hf htr
        refine ⟨css ++ [cs'],by simp [n0],?_,fun j u hu => ?_,fun x hx => ?_⟩
        · rw [List.flatten_append,List.length_append,n1,Nat.add_mul,Nat.one_mul]
          simp [hcl]
        · rw [List.flatten_append] at hu
          by_cases hj:j < css.flatten.length
          · rw [List.getElem?_append_left hj] at hu
            exact n2 j u hu
          · rw [List.getElem?_append_right (by omega)] at hu
            have hu2:cs'[j - css.flatten.length]? = some u:=by simpa using hu
            have hjl:j - css.flatten.length < P.cellsOf e:=by
              have:=(List.getElem?_eq_some_iff.1 hu2).1
              omega
            have:=hat (j - css.flatten.length) hjl
            rw [add_plus,n1] at this
            rw [show i * P.cellsOf e + (j - i * P.cellsOf e) = j from by omega] at this
            rw [this,← n1,hu2]
        · rcases List.mem_append.1 hx with hx | hx
          · exact n3 x hx
          · simp at hx; subst hx; exact hak
    obtain ⟨css,n0,n1,n2,n3⟩:=key n (Nat.le_refl _)
    refine ⟨some a,n,c,css,rfl,⟨⟨n1,fun hn => ⟨a,rfl,?_,n2⟩⟩,hl,hm,fun e => by cases e⟩,n0,n3⟩
    have h0:0 < css.flatten.length:=by rw [n1]; exact Nat.mul_pos hn hpos
    have:=n2 0 (css.flatten[0]) (by simp)
    rw [add_zero_] at this
    exact block_lt_of_cell this
end
end Go.Proofs.YtggdomeeienjbaaDoor

/- The document's own answer for scripts: Directive. No condition but that bytes are bytes. -/
namespace Go.Proofs.YtggdomeeienjbaaDoor
open Go.ChangeShapes Go.WideShapes Go.ChangeAt Go.RowKit Go.Sort
set_option linter.unusedSimpArgs false
set_option linter.unusedVariables false
theorem tmod_is (b k q:Nat) (K:Int) (hK:K = (k:Int)) (h:b % k = q):(b:Int).tmod K = (q:Int):=by rw [hK,tmod_nat,h]
theorem wrap8 (q:Nat) (h:q < 256):IntKind.u8.wrap (q:Int) = (q:Int):=by
  have h1:(0:Int) ≤ (q:Int):=by omega
  unfold IntKind.wrap
  simp [IntKind.signed,IntKind.bits]
  omega
set_option maxHeartbeats 8000000 in
set_option maxRecDepth 100000 in
theorem r25dir_any (b0 b1 b2 b3 b4 b5 b6 b7 b8 b9:Nat) (w:World) (h0:b0 < 256) (h1:b1 < 256) (h2:b2 < 256) (h3:b3 < 256) (h4:b4 < 256) (h5:b5 < 256) (h6:b6 < 256) (h7:b7 < 256) (h8:b8 < 256) (h9:b9 < 256) (D:Dr) (hD:dirF b1 b2 b3 b4 b5 b6 b7 = D) :
    Calls Tryd.prog 11 #[.agg #[.int .u8 (b0:Nat),.int .u8 (b1:Nat),.int .u8 (b2:Nat),.int .u8 (b3:Nat),.int .u8 (b4:Nat),.int .u8 (b5:Nat),.int .u8 (b6:Nat),.int .u8 (b7:Nat),.int .u8 (b8:Nat),.int .u8 (b9:Nat)]] w fun e w' => e = .returned (.agg #[.int .i64 D.op,.int .i64 D.kd,.int .i64 D.id,.int .i64 D.fr,.int .i64 D.tn,.int .i64 D.st,.int .i64 D.en,.int .i64 D.rt,.int .i64 D.rf,.int .i64 D.rn,.int .i64 D.rs,.int .i64 D.re,.int .i64 D.ro]) ∧ Below w.heap.size w w':=by
  obtain ⟨q1,eq1⟩:∃ q,b1 % 6 = q:=⟨_,rfl⟩
  have lq1:q1 < 6:=by rw [← eq1]; exact Nat.mod_lt _ (by omega)
  have tq1:(b1:Int).tmod 6 = (q1:Int):=tmod_is _ 6 _ _ rfl eq1
  have xq1:IntKind.i64.wrap (q1:Int) = (q1:Int):=IntWalk.i64_in _ (by omega)
  obtain ⟨q2,eq2⟩:∃ q,b2 % 16 = q:=⟨_,rfl⟩
  have lq2:q2 < 16:=by rw [← eq2]; exact Nat.mod_lt _ (by omega)
  have tq2:(b2:Int).tmod 16 = (q2:Int):=tmod_is _ 16 _ _ rfl eq2
  have xq2:IntKind.i64.wrap (q2:Int) = (q2:Int):=IntWalk.i64_in _ (by omega)
  obtain ⟨q3,eq3⟩:∃ q,b3 % 4 = q:=⟨_,rfl⟩
  have lq3:q3 < 4:=by rw [← eq3]; exact Nat.mod_lt _ (by omega)
  have tq3:(b3:Int).tmod 4 = (q3:Int):=tmod_is _ 4 _ _ rfl eq3
  have xq3:IntKind.i64.wrap (q3:Int) = (q3:Int):=IntWalk.i64_in _ (by omega)
  obtain ⟨q4,eq4⟩:∃ q,b4 % 4 = q:=⟨_,rfl⟩
  have lq4:q4 < 4:=by rw [← eq4]; exact Nat.mod_lt _ (by omega)
  have tq4:(b4:Int).tmod 4 = (q4:Int):=tmod_is _ 4 _ _ rfl eq4
  have xq4:IntKind.i64.wrap (q4:Int) = (q4:Int):=IntWalk.i64_in _ (by omega)
  obtain ⟨q5,eq5⟩:∃ q,b5 % 64 = q:=⟨_,rfl⟩
  have lq5:q5 < 64:=by rw [← eq5]; exact Nat.mod_lt _ (by omega)
  have tq5:(b5:Int).tmod 64 = (q5:Int):=tmod_is _ 64 _ _ rfl eq5
  have xq5:IntKind.i64.wrap (q5:Int) = (q5:Int):=IntWalk.i64_in _ (by omega)
  obtain ⟨q7,eq7⟩:∃ q,b7 % 4 = q:=⟨_,rfl⟩
  have lq7:q7 < 4:=by rw [← eq7]; exact Nat.mod_lt _ (by omega)
  have tq7:(b7:Int).tmod 4 = (q7:Int):=tmod_is _ 4 _ _ rfl eq7
  have xq7:IntKind.i64.wrap (q7:Int) = (q7:Int):=IntWalk.i64_in _ (by omega)
  obtain ⟨p6,ep6⟩:∃ q,b6 % 8 = q:=⟨_,rfl⟩
  have lp6:p6 < 8:=by rw [← ep6]; exact Nat.mod_lt _ (by omega)
  have tp6:(b6:Int).tmod 8 = (p6:Int):=tmod_is _ 8 _ _ rfl ep6
  have xp6:IntKind.i64.wrap (p6:Int) = (p6:Int):=IntWalk.i64_in _ (by omega)
  obtain ⟨s6,es6⟩:∃ q,b6 % 64 = q:=⟨_,rfl⟩
  have ls6:s6 < 64:=by rw [← es6]; exact Nat.mod_lt _ (by omega)
  have ts6:(b6:Int).tmod 64 = (s6:Int):=tmod_is _ 64 _ _ rfl es6
  have xs6:IntKind.i64.wrap (s6:Int) = (s6:Int):=IntWalk.i64_in _ (by omega)
  have y1:IntKind.u8.wrap (q1:Int) = (q1:Int):=wrap8 _ (by omega)
  have vb2:IntKind.i64.wrap (b2:Int) = (b2:Int):=IntWalk.i64_in _ (by omega)
  have vb3:IntKind.i64.wrap (b3:Int) = (b3:Int):=IntWalk.i64_in _ (by omega)
  have vb4:IntKind.i64.wrap (b4:Int) = (b4:Int):=IntWalk.i64_in _ (by omega)
  have vb5:IntKind.i64.wrap (b5:Int) = (b5:Int):=IntWalk.i64_in _ (by omega)
  have vb6:IntKind.i64.wrap (b6:Int) = (b6:Int):=IntWalk.i64_in _ (by omega)
  have vb7:IntKind.i64.wrap (b7:Int) = (b7:Int):=IntWalk.i64_in _ (by omega)
  have wq2:IntKind.i64.wrap (1 + (q2:Int)) = 1 + (q2:Int):=IntWalk.i64_in _ (by omega)
  have wq3:IntKind.i64.wrap (1 + (q3:Int)) = 1 + (q3:Int):=IntWalk.i64_in _ (by omega)
  have wq4:IntKind.i64.wrap (1 + (q4:Int)) = 1 + (q4:Int):=IntWalk.i64_in _ (by omega)
  have wq7:IntKind.i64.wrap (1 + (q7:Int)) = 1 + (q7:Int):=IntWalk.i64_in _ (by omega)
  have wb5:IntKind.i64.wrap (1 + (b5:Int)) = 1 + (b5:Int):=IntWalk.i64_in _ (by omega)
  have ws:IntKind.i64.wrap ((q5:Int) + 1) = (q5:Int) + 1:=IntWalk.i64_in _ (by omega)
  have wt:IntKind.i64.wrap ((q5:Int) + 1 + (s6:Int)) = (q5:Int) + 1 + (s6:Int):=IntWalk.i64_in _ (by omega)
  have HD:Hid ((if q1 = 2 then (⟨1,2,0,0,0,0,0,0,(1 + q3:Nat),(1 + q4:Nat),0,(1 + b5:Nat),(p6:Nat)⟩:Dr) else if q1 = 3 then ⟨2,1,(1 + q2:Nat),0,0,0,0,0,0,0,0,0,0⟩ else if q1 = 4 then ⟨3,1,(1 + q2:Nat),0,0,0,0,(1 + q7:Nat),0,0,0,0,0⟩ else if q1 = 5 then ⟨2,2,0,0,0,0,0,0,(1 + q3:Nat),(1 + q4:Nat),0,0,0⟩ else ⟨1,1,(1 + q2:Nat),(1 + q3:Nat),(1 + q4:Nat),(q5:Nat),(q5 + 1 + s6:Nat),(1 + q7:Nat),0,0,0,0,0⟩) = D):=by show _ = D; rw [← hD,← eq1,← eq2,← eq3,← eq4,← eq5,← eq7,← ep6,← es6]; rfl
  clear hD eq1 eq2 eq3 eq4 eq5 eq7 ep6 es6 h0 h1 h2 h3 h4 h5 h6 h7 h8 h9
  have hB:Below w.heap.size w ((w.alloc (.cells #[.int .u8 (b0:Nat),.int .u8 (b1:Nat),.int .u8 (b2:Nat),.int .u8 (b3:Nat),.int .u8 (b4:Nat),.int .u8 (b5:Nat),.int .u8 (b6:Nat),.int .u8 (b7:Nat),.int .u8 (b8:Nat),.int .u8 (b9:Nat)] 23)).alloc (.cells #[.int .i64 0,.int .i64 0,.int .i64 0,.int .i64 0,.int .i64 0,.int .i64 0,.int .i64 0,.int .i64 0,.int .i64 0,.int .i64 0,.int .i64 0,.int .i64 0,.int .i64 0] 31)):=by (repeat (first | exact Below.refl _ _ | refine Below.alloc ?_ (by first | omega | (simp; done) | (simp; omega)) _ | refine Below.setCell ?_ (by first | omega | (simp; done) | (simp; omega)) _ | refine Below.drew ?_))
  have hX:=(Blok.new w 23 #[.int .u8 (b0:Nat),.int .u8 (b1:Nat),.int .u8 (b2:Nat),.int .u8 (b3:Nat),.int .u8 (b4:Nat),.int .u8 (b5:Nat),.int .u8 (b6:Nat),.int .u8 (b7:Nat),.int .u8 (b8:Nat),.int .u8 (b9:Nat)]).alloc (.cells #[.int .i64 0,.int .i64 0,.int .i64 0,.int .i64 0,.int .i64 0,.int .i64 0,.int .i64 0,.int .i64 0,.int .i64 0,.int .i64 0,.int .i64 0,.int .i64 0,.int .i64 0] 31)
  have hR:=Blok.new (w.alloc (.cells #[.int .u8 (b0:Nat),.int .u8 (b1:Nat),.int .u8 (b2:Nat),.int .u8 (b3:Nat),.int .u8 (b4:Nat),.int .u8 (b5:Nat),.int .u8 (b6:Nat),.int .u8 (b7:Nat),.int .u8 (b8:Nat),.int .u8 (b9:Nat)] 23)) 31 #[.int .i64 0,.int .i64 0,.int .i64 0,.int .i64 0,.int .i64 0,.int .i64 0,.int .i64 0,.int .i64 0,.int .i64 0,.int .i64 0,.int .i64 0,.int .i64 0,.int .i64 0]
  rw [World.size_alloc] at hR
  go_enter Tryd.func11,Tryd.ntmps11
  go_upto_region 1 with fail
  generalize ((w.alloc (.cells #[.int .u8 (b0:Nat),.int .u8 (b1:Nat),.int .u8 (b2:Nat),.int .u8 (b3:Nat),.int .u8 (b4:Nat),.int .u8 (b5:Nat),.int .u8 (b6:Nat),.int .u8 (b7:Nat),.int .u8 (b8:Nat),.int .u8 (b9:Nat)] 23)).alloc (.cells #[.int .i64 0,.int .i64 0,.int .i64 0,.int .i64 0,.int .i64 0,.int .i64 0,.int .i64 0,.int .i64 0,.int .i64 0,.int .i64 0,.int .i64 0,.int .i64 0,.int .i64 0] 31)) = w1 at *
  have z1:w1.cell? ⟨w.heap.size,1,none⟩ = some (.int .u8 (b1:Nat)):=hX.cell 1
  have z2:w1.cell? ⟨w.heap.size,2,none⟩ = some (.int .u8 (b2:Nat)):=hX.cell 2
  have z3:w1.cell? ⟨w.heap.size,3,none⟩ = some (.int .u8 (b3:Nat)):=hX.cell 3
  have z4:w1.cell? ⟨w.heap.size,4,none⟩ = some (.int .u8 (b4:Nat)):=hX.cell 4
  have z5:w1.cell? ⟨w.heap.size,5,none⟩ = some (.int .u8 (b5:Nat)):=hX.cell 5
  have z6:w1.cell? ⟨w.heap.size,6,none⟩ = some (.int .u8 (b6:Nat)):=hX.cell 6
  have z7:w1.cell? ⟨w.heap.size,7,none⟩ = some (.int .u8 (b7:Nat)):=hX.cell 7
  have lt_z:=hX.lt
  have r0:w1.cell? ⟨w.heap.size + 1,0,none⟩ = some (.int .i64 0):=hR.cell 0
  have f0:=hR.free 0
  have r1:w1.cell? ⟨w.heap.size + 1,1,none⟩ = some (.int .i64 0):=hR.cell 1
  have f1:=hR.free 1
  have r2:w1.cell? ⟨w.heap.size + 1,2,none⟩ = some (.int .i64 0):=hR.cell 2
  have f2:=hR.free 2
  have r3:w1.cell? ⟨w.heap.size + 1,3,none⟩ = some (.int .i64 0):=hR.cell 3
  have f3:=hR.free 3
  have r4:w1.cell? ⟨w.heap.size + 1,4,none⟩ = some (.int .i64 0):=hR.cell 4
  have f4:=hR.free 4
  have r5:w1.cell? ⟨w.heap.size + 1,5,none⟩ = some (.int .i64 0):=hR.cell 5
  have f5:=hR.free 5
  have r6:w1.cell? ⟨w.heap.size + 1,6,none⟩ = some (.int .i64 0):=hR.cell 6
  have f6:=hR.free 6
  have r7:w1.cell? ⟨w.heap.size + 1,7,none⟩ = some (.int .i64 0):=hR.cell 7
  have f7:=hR.free 7
  have r8:w1.cell? ⟨w.heap.size + 1,8,none⟩ = some (.int .i64 0):=hR.cell 8
  have f8:=hR.free 8
  have r9:w1.cell? ⟨w.heap.size + 1,9,none⟩ = some (.int .i64 0):=hR.cell 9
  have f9:=hR.free 9
  have r10:w1.cell? ⟨w.heap.size + 1,10,none⟩ = some (.int .i64 0):=hR.cell 10
  have f10:=hR.free 10
  have r11:w1.cell? ⟨w.heap.size + 1,11,none⟩ = some (.int .i64 0):=hR.cell 11
  have f11:=hR.free 11
  have r12:w1.cell? ⟨w.heap.size + 1,12,none⟩ = some (.int .i64 0):=hR.cell 12
  have f12:=hR.free 12
  have lt_r:=hR.lt
  have hq:q1 = 0 ∨ q1 = 1 ∨ q1 = 2 ∨ q1 = 3 ∨ q1 = 4 ∨ q1 = 5:=by omega
  clear lq1 lq2 lq3 lq4 lq5 lq7 lp6 ls6
  rcases hq with rfl | rfl | rfl | rfl | rfl | rfl
  · replace tq1:(b1:Int).tmod 6 = 0:=tq1
    clear y1
    go_wp2_with fail
    clear r0 f0 r1 f1 r2 f2 r3 f3 r4 f4 r5 f5 r6 f6 r7 f7 r8 f8 r9 f9 r10 f10 r11 f11 r12 f12 lt_r
    have hF:Blok (((((((((((((w1.setCell ⟨(w.heap.size + 1),0,none⟩ (.int .i64 (1))).setCell ⟨(w.heap.size + 1),1,none⟩ (.int .i64 (1))).setCell ⟨(w.heap.size + 1),2,none⟩ (.int .i64 (1 + (q2:Int)))).setCell ⟨(w.heap.size + 1),3,none⟩ (.int .i64 (1 + (q3:Int)))).setCell ⟨(w.heap.size + 1),4,none⟩ (.int .i64 (1 + (q4:Int)))).setCell ⟨(w.heap.size + 1),5,none⟩ (.int .i64 ((q5:Int)))).setCell ⟨(w.heap.size + 1),6,none⟩ (.int .i64 ((q5:Int) + 1 + (s6:Int)))).setCell ⟨(w.heap.size + 1),7,none⟩ (.int .i64 (1 + (q7:Int)))).setCell ⟨(w.heap.size + 1),8,none⟩ (.int .i64 (0))).setCell ⟨(w.heap.size + 1),9,none⟩ (.int .i64 (0))).setCell ⟨(w.heap.size + 1),10,none⟩ (.int .i64 (0))).setCell ⟨(w.heap.size + 1),11,none⟩ (.int .i64 (0))).setCell ⟨(w.heap.size + 1),12,none⟩ (.int .i64 (0))) (w.heap.size + 1) 31 #[.int .i64 (1),.int .i64 (1),.int .i64 (1 + (q2:Int)),.int .i64 (1 + (q3:Int)),.int .i64 (1 + (q4:Int)),.int .i64 ((q5:Int)),.int .i64 ((q5:Int) + 1 + (s6:Int)),.int .i64 (1 + (q7:Int)),.int .i64 (0),.int .i64 (0),.int .i64 (0),.int .i64 (0),.int .i64 (0)]:=by have h:=(((((((((((((hR.set_ 0 (.int .i64 (1))).set_ 1 (.int .i64 (1))).set_ 2 (.int .i64 (1 + (q2:Int)))).set_ 3 (.int .i64 (1 + (q3:Int)))).set_ 4 (.int .i64 (1 + (q4:Int)))).set_ 5 (.int .i64 ((q5:Int)))).set_ 6 (.int .i64 ((q5:Int) + 1 + (s6:Int)))).set_ 7 (.int .i64 (1 + (q7:Int)))).set_ 8 (.int .i64 (0))).set_ 9 (.int .i64 (0))).set_ 10 (.int .i64 (0))).set_ 11 (.int .i64 (0))).set_ 12 (.int .i64 (0))); simpa using h
    have hle0:w.heap.size ≤ (w.heap.size + 1):=by first | exact Nat.le_refl _ | omega
    have hWf:Below w.heap.size w (((((((((((((w1.setCell ⟨(w.heap.size + 1),0,none⟩ (.int .i64 (1))).setCell ⟨(w.heap.size + 1),1,none⟩ (.int .i64 (1))).setCell ⟨(w.heap.size + 1),2,none⟩ (.int .i64 (1 + (q2:Int)))).setCell ⟨(w.heap.size + 1),3,none⟩ (.int .i64 (1 + (q3:Int)))).setCell ⟨(w.heap.size + 1),4,none⟩ (.int .i64 (1 + (q4:Int)))).setCell ⟨(w.heap.size + 1),5,none⟩ (.int .i64 ((q5:Int)))).setCell ⟨(w.heap.size + 1),6,none⟩ (.int .i64 ((q5:Int) + 1 + (s6:Int)))).setCell ⟨(w.heap.size + 1),7,none⟩ (.int .i64 (1 + (q7:Int)))).setCell ⟨(w.heap.size + 1),8,none⟩ (.int .i64 (0))).setCell ⟨(w.heap.size + 1),9,none⟩ (.int .i64 (0))).setCell ⟨(w.heap.size + 1),10,none⟩ (.int .i64 (0))).setCell ⟨(w.heap.size + 1),11,none⟩ (.int .i64 (0))).setCell ⟨(w.heap.size + 1),12,none⟩ (.int .i64 (0))):=(((((((((((((hB.setCell (p:=⟨(w.heap.size + 1),0,none⟩) hle0 (.int .i64 (1))).setCell (p:=⟨(w.heap.size + 1),1,none⟩) hle0 (.int .i64 (1))).setCell (p:=⟨(w.heap.size + 1),2,none⟩) hle0 (.int .i64 (1 + (q2:Int)))).setCell (p:=⟨(w.heap.size + 1),3,none⟩) hle0 (.int .i64 (1 + (q3:Int)))).setCell (p:=⟨(w.heap.size + 1),4,none⟩) hle0 (.int .i64 (1 + (q4:Int)))).setCell (p:=⟨(w.heap.size + 1),5,none⟩) hle0 (.int .i64 ((q5:Int)))).setCell (p:=⟨(w.heap.size + 1),6,none⟩) hle0 (.int .i64 ((q5:Int) + 1 + (s6:Int)))).setCell (p:=⟨(w.heap.size + 1),7,none⟩) hle0 (.int .i64 (1 + (q7:Int)))).setCell (p:=⟨(w.heap.size + 1),8,none⟩) hle0 (.int .i64 (0))).setCell (p:=⟨(w.heap.size + 1),9,none⟩) hle0 (.int .i64 (0))).setCell (p:=⟨(w.heap.size + 1),10,none⟩) hle0 (.int .i64 (0))).setCell (p:=⟨(w.heap.size + 1),11,none⟩) hle0 (.int .i64 (0))).setCell (p:=⟨(w.heap.size + 1),12,none⟩) hle0 (.int .i64 (0)))
    have hlF:=hF.lt
    have hgw:w1.grownBy (((((((((((((w1.setCell ⟨(w.heap.size + 1),0,none⟩ (.int .i64 (1))).setCell ⟨(w.heap.size + 1),1,none⟩ (.int .i64 (1))).setCell ⟨(w.heap.size + 1),2,none⟩ (.int .i64 (1 + (q2:Int)))).setCell ⟨(w.heap.size + 1),3,none⟩ (.int .i64 (1 + (q3:Int)))).setCell ⟨(w.heap.size + 1),4,none⟩ (.int .i64 (1 + (q4:Int)))).setCell ⟨(w.heap.size + 1),5,none⟩ (.int .i64 ((q5:Int)))).setCell ⟨(w.heap.size + 1),6,none⟩ (.int .i64 ((q5:Int) + 1 + (s6:Int)))).setCell ⟨(w.heap.size + 1),7,none⟩ (.int .i64 (1 + (q7:Int)))).setCell ⟨(w.heap.size + 1),8,none⟩ (.int .i64 (0))).setCell ⟨(w.heap.size + 1),9,none⟩ (.int .i64 (0))).setCell ⟨(w.heap.size + 1),10,none⟩ (.int .i64 (0))).setCell ⟨(w.heap.size + 1),11,none⟩ (.int .i64 (0))).setCell ⟨(w.heap.size + 1),12,none⟩ (.int .i64 (0))) (some (w.heap.size + 1)):=grown_trans (grown_trans (grown_trans (grown_trans (grown_trans (grown_trans (grown_trans (grown_trans (grown_trans (grown_trans (grown_trans (grown_trans (grown_set _ _ _) (grown_set _ _ _)) (grown_set _ _ _)) (grown_set _ _ _)) (grown_set _ _ _)) (grown_set _ _ _)) (grown_set _ _ _)) (grown_set _ _ _)) (grown_set _ _ _)) (grown_set _ _ _)) (grown_set _ _ _)) (grown_set _ _ _)) (grown_set _ _ _)
    generalize (((((((((((((w1.setCell ⟨(w.heap.size + 1),0,none⟩ (.int .i64 (1))).setCell ⟨(w.heap.size + 1),1,none⟩ (.int .i64 (1))).setCell ⟨(w.heap.size + 1),2,none⟩ (.int .i64 (1 + (q2:Int)))).setCell ⟨(w.heap.size + 1),3,none⟩ (.int .i64 (1 + (q3:Int)))).setCell ⟨(w.heap.size + 1),4,none⟩ (.int .i64 (1 + (q4:Int)))).setCell ⟨(w.heap.size + 1),5,none⟩ (.int .i64 ((q5:Int)))).setCell ⟨(w.heap.size + 1),6,none⟩ (.int .i64 ((q5:Int) + 1 + (s6:Int)))).setCell ⟨(w.heap.size + 1),7,none⟩ (.int .i64 (1 + (q7:Int)))).setCell ⟨(w.heap.size + 1),8,none⟩ (.int .i64 (0))).setCell ⟨(w.heap.size + 1),9,none⟩ (.int .i64 (0))).setCell ⟨(w.heap.size + 1),10,none⟩ (.int .i64 (0))).setCell ⟨(w.heap.size + 1),11,none⟩ (.int .i64 (0))).setCell ⟨(w.heap.size + 1),12,none⟩ (.int .i64 (0))) = wf at *
    have r0:wf.cell? ⟨(w.heap.size + 1),0,none⟩ = some (.int .i64 (1)):=hF.cell 0
    have r1:wf.cell? ⟨(w.heap.size + 1),1,none⟩ = some (.int .i64 (1)):=hF.cell 1
    have r2:wf.cell? ⟨(w.heap.size + 1),2,none⟩ = some (.int .i64 (1 + (q2:Int))):=hF.cell 2
    have r3:wf.cell? ⟨(w.heap.size + 1),3,none⟩ = some (.int .i64 (1 + (q3:Int))):=hF.cell 3
    have r4:wf.cell? ⟨(w.heap.size + 1),4,none⟩ = some (.int .i64 (1 + (q4:Int))):=hF.cell 4
    have r5:wf.cell? ⟨(w.heap.size + 1),5,none⟩ = some (.int .i64 ((q5:Int))):=hF.cell 5
    have r6:wf.cell? ⟨(w.heap.size + 1),6,none⟩ = some (.int .i64 ((q5:Int) + 1 + (s6:Int))):=hF.cell 6
    have r7:wf.cell? ⟨(w.heap.size + 1),7,none⟩ = some (.int .i64 (1 + (q7:Int))):=hF.cell 7
    have r8:wf.cell? ⟨(w.heap.size + 1),8,none⟩ = some (.int .i64 (0)):=hF.cell 8
    have r9:wf.cell? ⟨(w.heap.size + 1),9,none⟩ = some (.int .i64 (0)):=hF.cell 9
    have r10:wf.cell? ⟨(w.heap.size + 1),10,none⟩ = some (.int .i64 (0)):=hF.cell 10
    have r11:wf.cell? ⟨(w.heap.size + 1),11,none⟩ = some (.int .i64 (0)):=hF.cell 11
    have r12:wf.cell? ⟨(w.heap.size + 1),12,none⟩ = some (.int .i64 (0)):=hF.cell 12
    refine bodyPost_ret (v:=.agg #[.int .i64 (1),.int .i64 (1),.int .i64 (1 + (q2:Int)),.int .i64 (1 + (q3:Int)),.int .i64 (1 + (q4:Int)),.int .i64 ((q5:Int)),.int .i64 ((q5:Int) + 1 + (s6:Int)),.int .i64 (1 + (q7:Int)),.int .i64 (0),.int .i64 (0),.int .i64 (0),.int .i64 (0),.int .i64 (0)]) (by simp [results,Tryd.results11,go_sem,r0,r1,r2,r3,r4,r5,r6,r7,r8,r9,r10,r11,r12,hlF]) rfl ?_
    exact ⟨by rw [← HD.out]; rfl,hWf⟩
  · replace tq1:(b1:Int).tmod 6 = 1:=tq1
    clear y1
    go_wp2_with fail
    clear r0 f0 r1 f1 r2 f2 r3 f3 r4 f4 r5 f5 r6 f6 r7 f7 r8 f8 r9 f9 r10 f10 r11 f11 r12 f12 lt_r
    have hF:Blok (((((((((((((w1.setCell ⟨(w.heap.size + 1),0,none⟩ (.int .i64 (1))).setCell ⟨(w.heap.size + 1),1,none⟩ (.int .i64 (1))).setCell ⟨(w.heap.size + 1),2,none⟩ (.int .i64 (1 + (q2:Int)))).setCell ⟨(w.heap.size + 1),3,none⟩ (.int .i64 (1 + (q3:Int)))).setCell ⟨(w.heap.size + 1),4,none⟩ (.int .i64 (1 + (q4:Int)))).setCell ⟨(w.heap.size + 1),5,none⟩ (.int .i64 ((q5:Int)))).setCell ⟨(w.heap.size + 1),6,none⟩ (.int .i64 ((q5:Int) + 1 + (s6:Int)))).setCell ⟨(w.heap.size + 1),7,none⟩ (.int .i64 (1 + (q7:Int)))).setCell ⟨(w.heap.size + 1),8,none⟩ (.int .i64 (0))).setCell ⟨(w.heap.size + 1),9,none⟩ (.int .i64 (0))).setCell ⟨(w.heap.size + 1),10,none⟩ (.int .i64 (0))).setCell ⟨(w.heap.size + 1),11,none⟩ (.int .i64 (0))).setCell ⟨(w.heap.size + 1),12,none⟩ (.int .i64 (0))) (w.heap.size + 1) 31 #[.int .i64 (1),.int .i64 (1),.int .i64 (1 + (q2:Int)),.int .i64 (1 + (q3:Int)),.int .i64 (1 + (q4:Int)),.int .i64 ((q5:Int)),.int .i64 ((q5:Int) + 1 + (s6:Int)),.int .i64 (1 + (q7:Int)),.int .i64 (0),.int .i64 (0),.int .i64 (0),.int .i64 (0),.int .i64 (0)]:=by have h:=(((((((((((((hR.set_ 0 (.int .i64 (1))).set_ 1 (.int .i64 (1))).set_ 2 (.int .i64 (1 + (q2:Int)))).set_ 3 (.int .i64 (1 + (q3:Int)))).set_ 4 (.int .i64 (1 + (q4:Int)))).set_ 5 (.int .i64 ((q5:Int)))).set_ 6 (.int .i64 ((q5:Int) + 1 + (s6:Int)))).set_ 7 (.int .i64 (1 + (q7:Int)))).set_ 8 (.int .i64 (0))).set_ 9 (.int .i64 (0))).set_ 10 (.int .i64 (0))).set_ 11 (.int .i64 (0))).set_ 12 (.int .i64 (0))); simpa using h
    have hle0:w.heap.size ≤ (w.heap.size + 1):=by first | exact Nat.le_refl _ | omega
    have hWf:Below w.heap.size w (((((((((((((w1.setCell ⟨(w.heap.size + 1),0,none⟩ (.int .i64 (1))).setCell ⟨(w.heap.size + 1),1,none⟩ (.int .i64 (1))).setCell ⟨(w.heap.size + 1),2,none⟩ (.int .i64 (1 + (q2:Int)))).setCell ⟨(w.heap.size + 1),3,none⟩ (.int .i64 (1 + (q3:Int)))).setCell ⟨(w.heap.size + 1),4,none⟩ (.int .i64 (1 + (q4:Int)))).setCell ⟨(w.heap.size + 1),5,none⟩ (.int .i64 ((q5:Int)))).setCell ⟨(w.heap.size + 1),6,none⟩ (.int .i64 ((q5:Int) + 1 + (s6:Int)))).setCell ⟨(w.heap.size + 1),7,none⟩ (.int .i64 (1 + (q7:Int)))).setCell ⟨(w.heap.size + 1),8,none⟩ (.int .i64 (0))).setCell ⟨(w.heap.size + 1),9,none⟩ (.int .i64 (0))).setCell ⟨(w.heap.size + 1),10,none⟩ (.int .i64 (0))).setCell ⟨(w.heap.size + 1),11,none⟩ (.int .i64 (0))).setCell ⟨(w.heap.size + 1),12,none⟩ (.int .i64 (0))):=(((((((((((((hB.setCell (p:=⟨(w.heap.size + 1),0,none⟩) hle0 (.int .i64 (1))).setCell (p:=⟨(w.heap.size + 1),1,none⟩) hle0 (.int .i64 (1))).setCell (p:=⟨(w.heap.size + 1),2,none⟩) hle0 (.int .i64 (1 + (q2:Int)))).setCell (p:=⟨(w.heap.size + 1),3,none⟩) hle0 (.int .i64 (1 + (q3:Int)))).setCell (p:=⟨(w.heap.size + 1),4,none⟩) hle0 (.int .i64 (1 + (q4:Int)))).setCell (p:=⟨(w.heap.size + 1),5,none⟩) hle0 (.int .i64 ((q5:Int)))).setCell (p:=⟨(w.heap.size + 1),6,none⟩) hle0 (.int .i64 ((q5:Int) + 1 + (s6:Int)))).setCell (p:=⟨(w.heap.size + 1),7,none⟩) hle0 (.int .i64 (1 + (q7:Int)))).setCell (p:=⟨(w.heap.size + 1),8,none⟩) hle0 (.int .i64 (0))).setCell (p:=⟨(w.heap.size + 1),9,none⟩) hle0 (.int .i64 (0))).setCell (p:=⟨(w.heap.size + 1),10,none⟩) hle0 (.int .i64 (0))).setCell (p:=⟨(w.heap.size + 1),11,none⟩) hle0 (.int .i64 (0))).setCell (p:=⟨(w.heap.size + 1),12,none⟩) hle0 (.int .i64 (0)))
    have hlF:=hF.lt
    have hgw:w1.grownBy (((((((((((((w1.setCell ⟨(w.heap.size + 1),0,none⟩ (.int .i64 (1))).setCell ⟨(w.heap.size + 1),1,none⟩ (.int .i64 (1))).setCell ⟨(w.heap.size + 1),2,none⟩ (.int .i64 (1 + (q2:Int)))).setCell ⟨(w.heap.size + 1),3,none⟩ (.int .i64 (1 + (q3:Int)))).setCell ⟨(w.heap.size + 1),4,none⟩ (.int .i64 (1 + (q4:Int)))).setCell ⟨(w.heap.size + 1),5,none⟩ (.int .i64 ((q5:Int)))).setCell ⟨(w.heap.size + 1),6,none⟩ (.int .i64 ((q5:Int) + 1 + (s6:Int)))).setCell ⟨(w.heap.size + 1),7,none⟩ (.int .i64 (1 + (q7:Int)))).setCell ⟨(w.heap.size + 1),8,none⟩ (.int .i64 (0))).setCell ⟨(w.heap.size + 1),9,none⟩ (.int .i64 (0))).setCell ⟨(w.heap.size + 1),10,none⟩ (.int .i64 (0))).setCell ⟨(w.heap.size + 1),11,none⟩ (.int .i64 (0))).setCell ⟨(w.heap.size + 1),12,none⟩ (.int .i64 (0))) (some (w.heap.size + 1)):=grown_trans (grown_trans (grown_trans (grown_trans (grown_trans (grown_trans (grown_trans (grown_trans (grown_trans (grown_trans (grown_trans (grown_trans (grown_set _ _ _) (grown_set _ _ _)) (grown_set _ _ _)) (grown_set _ _ _)) (grown_set _ _ _)) (grown_set _ _ _)) (grown_set _ _ _)) (grown_set _ _ _)) (grown_set _ _ _)) (grown_set _ _ _)) (grown_set _ _ _)) (grown_set _ _ _)) (grown_set _ _ _)
    generalize (((((((((((((w1.setCell ⟨(w.heap.size + 1),0,none⟩ (.int .i64 (1))).setCell ⟨(w.heap.size + 1),1,none⟩ (.int .i64 (1))).setCell ⟨(w.heap.size + 1),2,none⟩ (.int .i64 (1 + (q2:Int)))).setCell ⟨(w.heap.size + 1),3,none⟩ (.int .i64 (1 + (q3:Int)))).setCell ⟨(w.heap.size + 1),4,none⟩ (.int .i64 (1 + (q4:Int)))).setCell ⟨(w.heap.size + 1),5,none⟩ (.int .i64 ((q5:Int)))).setCell ⟨(w.heap.size + 1),6,none⟩ (.int .i64 ((q5:Int) + 1 + (s6:Int)))).setCell ⟨(w.heap.size + 1),7,none⟩ (.int .i64 (1 + (q7:Int)))).setCell ⟨(w.heap.size + 1),8,none⟩ (.int .i64 (0))).setCell ⟨(w.heap.size + 1),9,none⟩ (.int .i64 (0))).setCell ⟨(w.heap.size + 1),10,none⟩ (.int .i64 (0))).setCell ⟨(w.heap.size + 1),11,none⟩ (.int .i64 (0))).setCell ⟨(w.heap.size + 1),12,none⟩ (.int .i64 (0))) = wf at *
    have r0:wf.cell? ⟨(w.heap.size + 1),0,none⟩ = some (.int .i64 (1)):=hF.cell 0
    have r1:wf.cell? ⟨(w.heap.size + 1),1,none⟩ = some (.int .i64 (1)):=hF.cell 1
    have r2:wf.cell? ⟨(w.heap.size + 1),2,none⟩ = some (.int .i64 (1 + (q2:Int))):=hF.cell 2
    have r3:wf.cell? ⟨(w.heap.size + 1),3,none⟩ = some (.int .i64 (1 + (q3:Int))):=hF.cell 3
    have r4:wf.cell? ⟨(w.heap.size + 1),4,none⟩ = some (.int .i64 (1 + (q4:Int))):=hF.cell 4
    have r5:wf.cell? ⟨(w.heap.size + 1),5,none⟩ = some (.int .i64 ((q5:Int))):=hF.cell 5
    have r6:wf.cell? ⟨(w.heap.size + 1),6,none⟩ = some (.int .i64 ((q5:Int) + 1 + (s6:Int))):=hF.cell 6
    have r7:wf.cell? ⟨(w.heap.size + 1),7,none⟩ = some (.int .i64 (1 + (q7:Int))):=hF.cell 7
    have r8:wf.cell? ⟨(w.heap.size + 1),8,none⟩ = some (.int .i64 (0)):=hF.cell 8
    have r9:wf.cell? ⟨(w.heap.size + 1),9,none⟩ = some (.int .i64 (0)):=hF.cell 9
    have r10:wf.cell? ⟨(w.heap.size + 1),10,none⟩ = some (.int .i64 (0)):=hF.cell 10
    have r11:wf.cell? ⟨(w.heap.size + 1),11,none⟩ = some (.int .i64 (0)):=hF.cell 11
    have r12:wf.cell? ⟨(w.heap.size + 1),12,none⟩ = some (.int .i64 (0)):=hF.cell 12
    refine bodyPost_ret (v:=.agg #[.int .i64 (1),.int .i64 (1),.int .i64 (1 + (q2:Int)),.int .i64 (1 + (q3:Int)),.int .i64 (1 + (q4:Int)),.int .i64 ((q5:Int)),.int .i64 ((q5:Int) + 1 + (s6:Int)),.int .i64 (1 + (q7:Int)),.int .i64 (0),.int .i64 (0),.int .i64 (0),.int .i64 (0),.int .i64 (0)]) (by simp [results,Tryd.results11,go_sem,r0,r1,r2,r3,r4,r5,r6,r7,r8,r9,r10,r11,r12,hlF]) rfl ?_
    exact ⟨by rw [← HD.out]; rfl,hWf⟩
  · replace tq1:(b1:Int).tmod 6 = 2:=tq1
    clear y1
    go_wp2_with fail
    clear r0 f0 r1 f1 r2 f2 r3 f3 r4 f4 r5 f5 r6 f6 r7 f7 r8 f8 r9 f9 r10 f10 r11 f11 r12 f12 lt_r
    have hF:Blok (((((((((((((w1.setCell ⟨(w.heap.size + 1),0,none⟩ (.int .i64 (1))).setCell ⟨(w.heap.size + 1),1,none⟩ (.int .i64 (2))).setCell ⟨(w.heap.size + 1),2,none⟩ (.int .i64 (0))).setCell ⟨(w.heap.size + 1),3,none⟩ (.int .i64 (0))).setCell ⟨(w.heap.size + 1),4,none⟩ (.int .i64 (0))).setCell ⟨(w.heap.size + 1),5,none⟩ (.int .i64 (0))).setCell ⟨(w.heap.size + 1),6,none⟩ (.int .i64 (0))).setCell ⟨(w.heap.size + 1),7,none⟩ (.int .i64 (0))).setCell ⟨(w.heap.size + 1),8,none⟩ (.int .i64 (1 + (q3:Int)))).setCell ⟨(w.heap.size + 1),9,none⟩ (.int .i64 (1 + (q4:Int)))).setCell ⟨(w.heap.size + 1),10,none⟩ (.int .i64 (0))).setCell ⟨(w.heap.size + 1),11,none⟩ (.int .i64 (1 + (b5:Int)))).setCell ⟨(w.heap.size + 1),12,none⟩ (.int .i64 ((p6:Nat)))) (w.heap.size + 1) 31 #[.int .i64 (1),.int .i64 (2),.int .i64 (0),.int .i64 (0),.int .i64 (0),.int .i64 (0),.int .i64 (0),.int .i64 (0),.int .i64 (1 + (q3:Int)),.int .i64 (1 + (q4:Int)),.int .i64 (0),.int .i64 (1 + (b5:Int)),.int .i64 ((p6:Nat))]:=by have h:=(((((((((((((hR.set_ 0 (.int .i64 (1))).set_ 1 (.int .i64 (2))).set_ 2 (.int .i64 (0))).set_ 3 (.int .i64 (0))).set_ 4 (.int .i64 (0))).set_ 5 (.int .i64 (0))).set_ 6 (.int .i64 (0))).set_ 7 (.int .i64 (0))).set_ 8 (.int .i64 (1 + (q3:Int)))).set_ 9 (.int .i64 (1 + (q4:Int)))).set_ 10 (.int .i64 (0))).set_ 11 (.int .i64 (1 + (b5:Int)))).set_ 12 (.int .i64 ((p6:Nat)))); simpa using h
    have hle0:w.heap.size ≤ (w.heap.size + 1):=by first | exact Nat.le_refl _ | omega
    have hWf:Below w.heap.size w (((((((((((((w1.setCell ⟨(w.heap.size + 1),0,none⟩ (.int .i64 (1))).setCell ⟨(w.heap.size + 1),1,none⟩ (.int .i64 (2))).setCell ⟨(w.heap.size + 1),2,none⟩ (.int .i64 (0))).setCell ⟨(w.heap.size + 1),3,none⟩ (.int .i64 (0))).setCell ⟨(w.heap.size + 1),4,none⟩ (.int .i64 (0))).setCell ⟨(w.heap.size + 1),5,none⟩ (.int .i64 (0))).setCell ⟨(w.heap.size + 1),6,none⟩ (.int .i64 (0))).setCell ⟨(w.heap.size + 1),7,none⟩ (.int .i64 (0))).setCell ⟨(w.heap.size + 1),8,none⟩ (.int .i64 (1 + (q3:Int)))).setCell ⟨(w.heap.size + 1),9,none⟩ (.int .i64 (1 + (q4:Int)))).setCell ⟨(w.heap.size + 1),10,none⟩ (.int .i64 (0))).setCell ⟨(w.heap.size + 1),11,none⟩ (.int .i64 (1 + (b5:Int)))).setCell ⟨(w.heap.size + 1),12,none⟩ (.int .i64 ((p6:Nat)))):=(((((((((((((hB.setCell (p:=⟨(w.heap.size + 1),0,none⟩) hle0 (.int .i64 (1))).setCell (p:=⟨(w.heap.size + 1),1,none⟩) hle0 (.int .i64 (2))).setCell (p:=⟨(w.heap.size + 1),2,none⟩) hle0 (.int .i64 (0))).setCell (p:=⟨(w.heap.size + 1),3,none⟩) hle0 (.int .i64 (0))).setCell (p:=⟨(w.heap.size + 1),4,none⟩) hle0 (.int .i64 (0))).setCell (p:=⟨(w.heap.size + 1),5,none⟩) hle0 (.int .i64 (0))).setCell (p:=⟨(w.heap.size + 1),6,none⟩) hle0 (.int .i64 (0))).setCell (p:=⟨(w.heap.size + 1),7,none⟩) hle0 (.int .i64 (0))).setCell (p:=⟨(w.heap.size + 1),8,none⟩) hle0 (.int .i64 (1 + (q3:Int)))).setCell (p:=⟨(w.heap.size + 1),9,none⟩) hle0 (.int .i64 (1 + (q4:Int)))).setCell (p:=⟨(w.heap.size + 1),10,none⟩) hle0 (.int .i64 (0))).setCell (p:=⟨(w.heap.size + 1),11,none⟩) hle0 (.int .i64 (1 + (b5:Int)))).setCell (p:=⟨(w.heap.size + 1),12,none⟩) hle0 (.int .i64 ((p6:Nat))))
    have hlF:=hF.lt
    have hgw:w1.grownBy (((((((((((((w1.setCell ⟨(w.heap.size + 1),0,none⟩ (.int .i64 (1))).setCell ⟨(w.heap.size + 1),1,none⟩ (.int .i64 (2))).setCell ⟨(w.heap.size + 1),2,none⟩ (.int .i64 (0))).setCell ⟨(w.heap.size + 1),3,none⟩ (.int .i64 (0))).setCell ⟨(w.heap.size + 1),4,none⟩ (.int .i64 (0))).setCell ⟨(w.heap.size + 1),5,none⟩ (.int .i64 (0))).setCell ⟨(w.heap.size + 1),6,none⟩ (.int .i64 (0))).setCell ⟨(w.heap.size + 1),7,none⟩ (.int .i64 (0))).setCell ⟨(w.heap.size + 1),8,none⟩ (.int .i64 (1 + (q3:Int)))).setCell ⟨(w.heap.size + 1),9,none⟩ (.int .i64 (1 + (q4:Int)))).setCell ⟨(w.heap.size + 1),10,none⟩ (.int .i64 (0))).setCell ⟨(w.heap.size + 1),11,none⟩ (.int .i64 (1 + (b5:Int)))).setCell ⟨(w.heap.size + 1),12,none⟩ (.int .i64 ((p6:Nat)))) (some (w.heap.size + 1)):=grown_trans (grown_trans (grown_trans (grown_trans (grown_trans (grown_trans (grown_trans (grown_trans (grown_trans (grown_trans (grown_trans (grown_trans (grown_set _ _ _) (grown_set _ _ _)) (grown_set _ _ _)) (grown_set _ _ _)) (grown_set _ _ _)) (grown_set _ _ _)) (grown_set _ _ _)) (grown_set _ _ _)) (grown_set _ _ _)) (grown_set _ _ _)) (grown_set _ _ _)) (grown_set _ _ _)) (grown_set _ _ _)
    generalize (((((((((((((w1.setCell ⟨(w.heap.size + 1),0,none⟩ (.int .i64 (1))).setCell ⟨(w.heap.size + 1),1,none⟩ (.int .i64 (2))).setCell ⟨(w.heap.size + 1),2,none⟩ (.int .i64 (0))).setCell ⟨(w.heap.size + 1),3,none⟩ (.int .i64 (0))).setCell ⟨(w.heap.size + 1),4,none⟩ (.int .i64 (0))).setCell ⟨(w.heap.size + 1),5,none⟩ (.int .i64 (0))).setCell ⟨(w.heap.size + 1),6,none⟩ (.int .i64 (0))).setCell ⟨(w.heap.size + 1),7,none⟩ (.int .i64 (0))).setCell ⟨(w.heap.size + 1),8,none⟩ (.int .i64 (1 + (q3:Int)))).setCell ⟨(w.heap.size + 1),9,none⟩ (.int .i64 (1 + (q4:Int)))).setCell ⟨(w.heap.size + 1),10,none⟩ (.int .i64 (0))).setCell ⟨(w.heap.size + 1),11,none⟩ (.int .i64 (1 + (b5:Int)))).setCell ⟨(w.heap.size + 1),12,none⟩ (.int .i64 ((p6:Nat)))) = wf at *
    have r0:wf.cell? ⟨(w.heap.size + 1),0,none⟩ = some (.int .i64 (1)):=hF.cell 0
    have r1:wf.cell? ⟨(w.heap.size + 1),1,none⟩ = some (.int .i64 (2)):=hF.cell 1
    have r2:wf.cell? ⟨(w.heap.size + 1),2,none⟩ = some (.int .i64 (0)):=hF.cell 2
    have r3:wf.cell? ⟨(w.heap.size + 1),3,none⟩ = some (.int .i64 (0)):=hF.cell 3
    have r4:wf.cell? ⟨(w.heap.size + 1),4,none⟩ = some (.int .i64 (0)):=hF.cell 4
    have r5:wf.cell? ⟨(w.heap.size + 1),5,none⟩ = some (.int .i64 (0)):=hF.cell 5
    have r6:wf.cell? ⟨(w.heap.size + 1),6,none⟩ = some (.int .i64 (0)):=hF.cell 6
    have r7:wf.cell? ⟨(w.heap.size + 1),7,none⟩ = some (.int .i64 (0)):=hF.cell 7
    have r8:wf.cell? ⟨(w.heap.size + 1),8,none⟩ = some (.int .i64 (1 + (q3:Int))):=hF.cell 8
    have r9:wf.cell? ⟨(w.heap.size + 1),9,none⟩ = some (.int .i64 (1 + (q4:Int))):=hF.cell 9
    have r10:wf.cell? ⟨(w.heap.size + 1),10,none⟩ = some (.int .i64 (0)):=hF.cell 10
    have r11:wf.cell? ⟨(w.heap.size + 1),11,none⟩ = some (.int .i64 (1 + (b5:Int))):=hF.cell 11
    have r12:wf.cell? ⟨(w.heap.size + 1),12,none⟩ = some (.int .i64 ((p6:Nat))):=hF.cell 12
    refine bodyPost_ret (v:=.agg #[.int .i64 (1),.int .i64 (2),.int .i64 (0),.int .i64 (0),.int .i64 (0),.int .i64 (0),.int .i64 (0),.int .i64 (0),.int .i64 (1 + (q3:Int)),.int .i64 (1 + (q4:Int)),.int .i64 (0),.int .i64 (1 + (b5:Int)),.int .i64 ((p6:Nat))]) (by simp [results,Tryd.results11,go_sem,r0,r1,r2,r3,r4,r5,r6,r7,r8,r9,r10,r11,r12,hlF]) rfl ?_
    exact ⟨by rw [← HD.out]; rfl,hWf⟩
  · replace tq1:(b1:Int).tmod 6 = 3:=tq1
    clear y1
    go_wp2_with fail
    clear r0 f0 r1 f1 r2 f2 r3 f3 r4 f4 r5 f5 r6 f6 r7 f7 r8 f8 r9 f9 r10 f10 r11 f11 r12 f12 lt_r
    have hF:Blok (((((((((((((w1.setCell ⟨(w.heap.size + 1),0,none⟩ (.int .i64 (2))).setCell ⟨(w.heap.size + 1),1,none⟩ (.int .i64 (1))).setCell ⟨(w.heap.size + 1),2,none⟩ (.int .i64 (1 + (q2:Int)))).setCell ⟨(w.heap.size + 1),3,none⟩ (.int .i64 (0))).setCell ⟨(w.heap.size + 1),4,none⟩ (.int .i64 (0))).setCell ⟨(w.heap.size + 1),5,none⟩ (.int .i64 (0))).setCell ⟨(w.heap.size + 1),6,none⟩ (.int .i64 (0))).setCell ⟨(w.heap.size + 1),7,none⟩ (.int .i64 (0))).setCell ⟨(w.heap.size + 1),8,none⟩ (.int .i64 (0))).setCell ⟨(w.heap.size + 1),9,none⟩ (.int .i64 (0))).setCell ⟨(w.heap.size + 1),10,none⟩ (.int .i64 (0))).setCell ⟨(w.heap.size + 1),11,none⟩ (.int .i64 (0))).setCell ⟨(w.heap.size + 1),12,none⟩ (.int .i64 (0))) (w.heap.size + 1) 31 #[.int .i64 (2),.int .i64 (1),.int .i64 (1 + (q2:Int)),.int .i64 (0),.int .i64 (0),.int .i64 (0),.int .i64 (0),.int .i64 (0),.int .i64 (0),.int .i64 (0),.int .i64 (0),.int .i64 (0),.int .i64 (0)]:=by have h:=(((((((((((((hR.set_ 0 (.int .i64 (2))).set_ 1 (.int .i64 (1))).set_ 2 (.int .i64 (1 + (q2:Int)))).set_ 3 (.int .i64 (0))).set_ 4 (.int .i64 (0))).set_ 5 (.int .i64 (0))).set_ 6 (.int .i64 (0))).set_ 7 (.int .i64 (0))).set_ 8 (.int .i64 (0))).set_ 9 (.int .i64 (0))).set_ 10 (.int .i64 (0))).set_ 11 (.int .i64 (0))).set_ 12 (.int .i64 (0))); simpa using h
    have hle0:w.heap.size ≤ (w.heap.size + 1):=by first | exact Nat.le_refl _ | omega
    have hWf:Below w.heap.size w (((((((((((((w1.setCell ⟨(w.heap.size + 1),0,none⟩ (.int .i64 (2))).setCell ⟨(w.heap.size + 1),1,none⟩ (.int .i64 (1))).setCell ⟨(w.heap.size + 1),2,none⟩ (.int .i64 (1 + (q2:Int)))).setCell ⟨(w.heap.size + 1),3,none⟩ (.int .i64 (0))).setCell ⟨(w.heap.size + 1),4,none⟩ (.int .i64 (0))).setCell ⟨(w.heap.size + 1),5,none⟩ (.int .i64 (0))).setCell ⟨(w.heap.size + 1),6,none⟩ (.int .i64 (0))).setCell ⟨(w.heap.size + 1),7,none⟩ (.int .i64 (0))).setCell ⟨(w.heap.size + 1),8,none⟩ (.int .i64 (0))).setCell ⟨(w.heap.size + 1),9,none⟩ (.int .i64 (0))).setCell ⟨(w.heap.size + 1),10,none⟩ (.int .i64 (0))).setCell ⟨(w.heap.size + 1),11,none⟩ (.int .i64 (0))).setCell ⟨(w.heap.size + 1),12,none⟩ (.int .i64 (0))):=(((((((((((((hB.setCell (p:=⟨(w.heap.size + 1),0,none⟩) hle0 (.int .i64 (2))).setCell (p:=⟨(w.heap.size + 1),1,none⟩) hle0 (.int .i64 (1))).setCell (p:=⟨(w.heap.size + 1),2,none⟩) hle0 (.int .i64 (1 + (q2:Int)))).setCell (p:=⟨(w.heap.size + 1),3,none⟩) hle0 (.int .i64 (0))).setCell (p:=⟨(w.heap.size + 1),4,none⟩) hle0 (.int .i64 (0))).setCell (p:=⟨(w.heap.size + 1),5,none⟩) hle0 (.int .i64 (0))).setCell (p:=⟨(w.heap.size + 1),6,none⟩) hle0 (.int .i64 (0))).setCell (p:=⟨(w.heap.size + 1),7,none⟩) hle0 (.int .i64 (0))).setCell (p:=⟨(w.heap.size + 1),8,none⟩) hle0 (.int .i64 (0))).setCell (p:=⟨(w.heap.size + 1),9,none⟩) hle0 (.int .i64 (0))).setCell (p:=⟨(w.heap.size + 1),10,none⟩) hle0 (.int .i64 (0))).setCell (p:=⟨(w.heap.size + 1),11,none⟩) hle0 (.int .i64 (0))).setCell (p:=⟨(w.heap.size + 1),12,none⟩) hle0 (.int .i64 (0)))
    have hlF:=hF.lt
    have hgw:w1.grownBy (((((((((((((w1.setCell ⟨(w.heap.size + 1),0,none⟩ (.int .i64 (2))).setCell ⟨(w.heap.size + 1),1,none⟩ (.int .i64 (1))).setCell ⟨(w.heap.size + 1),2,none⟩ (.int .i64 (1 + (q2:Int)))).setCell ⟨(w.heap.size + 1),3,none⟩ (.int .i64 (0))).setCell ⟨(w.heap.size + 1),4,none⟩ (.int .i64 (0))).setCell ⟨(w.heap.size + 1),5,none⟩ (.int .i64 (0))).setCell ⟨(w.heap.size + 1),6,none⟩ (.int .i64 (0))).setCell ⟨(w.heap.size + 1),7,none⟩ (.int .i64 (0))).setCell ⟨(w.heap.size + 1),8,none⟩ (.int .i64 (0))).setCell ⟨(w.heap.size + 1),9,none⟩ (.int .i64 (0))).setCell ⟨(w.heap.size + 1),10,none⟩ (.int .i64 (0))).setCell ⟨(w.heap.size + 1),11,none⟩ (.int .i64 (0))).setCell ⟨(w.heap.size + 1),12,none⟩ (.int .i64 (0))) (some (w.heap.size + 1)):=grown_trans (grown_trans (grown_trans (grown_trans (grown_trans (grown_trans (grown_trans (grown_trans (grown_trans (grown_trans (grown_trans (grown_trans (grown_set _ _ _) (grown_set _ _ _)) (grown_set _ _ _)) (grown_set _ _ _)) (grown_set _ _ _)) (grown_set _ _ _)) (grown_set _ _ _)) (grown_set _ _ _)) (grown_set _ _ _)) (grown_set _ _ _)) (grown_set _ _ _)) (grown_set _ _ _)) (grown_set _ _ _)
    generalize (((((((((((((w1.setCell ⟨(w.heap.size + 1),0,none⟩ (.int .i64 (2))).setCell ⟨(w.heap.size + 1),1,none⟩ (.int .i64 (1))).setCell ⟨(w.heap.size + 1),2,none⟩ (.int .i64 (1 + (q2:Int)))).setCell ⟨(w.heap.size + 1),3,none⟩ (.int .i64 (0))).setCell ⟨(w.heap.size + 1),4,none⟩ (.int .i64 (0))).setCell ⟨(w.heap.size + 1),5,none⟩ (.int .i64 (0))).setCell ⟨(w.heap.size + 1),6,none⟩ (.int .i64 (0))).setCell ⟨(w.heap.size + 1),7,none⟩ (.int .i64 (0))).setCell ⟨(w.heap.size + 1),8,none⟩ (.int .i64 (0))).setCell ⟨(w.heap.size + 1),9,none⟩ (.int .i64 (0))).setCell ⟨(w.heap.size + 1),10,none⟩ (.int .i64 (0))).setCell ⟨(w.heap.size + 1),11,none⟩ (.int .i64 (0))).setCell ⟨(w.heap.size + 1),12,none⟩ (.int .i64 (0))) = wf at *
    have r0:wf.cell? ⟨(w.heap.size + 1),0,none⟩ = some (.int .i64 (2)):=hF.cell 0
    have r1:wf.cell? ⟨(w.heap.size + 1),1,none⟩ = some (.int .i64 (1)):=hF.cell 1
    have r2:wf.cell? ⟨(w.heap.size + 1),2,none⟩ = some (.int .i64 (1 + (q2:Int))):=hF.cell 2
    have r3:wf.cell? ⟨(w.heap.size + 1),3,none⟩ = some (.int .i64 (0)):=hF.cell 3
    have r4:wf.cell? ⟨(w.heap.size + 1),4,none⟩ = some (.int .i64 (0)):=hF.cell 4
    have r5:wf.cell? ⟨(w.heap.size + 1),5,none⟩ = some (.int .i64 (0)):=hF.cell 5
    have r6:wf.cell? ⟨(w.heap.size + 1),6,none⟩ = some (.int .i64 (0)):=hF.cell 6
    have r7:wf.cell? ⟨(w.heap.size + 1),7,none⟩ = some (.int .i64 (0)):=hF.cell 7
    have r8:wf.cell? ⟨(w.heap.size + 1),8,none⟩ = some (.int .i64 (0)):=hF.cell 8
    have r9:wf.cell? ⟨(w.heap.size + 1),9,none⟩ = some (.int .i64 (0)):=hF.cell 9
    have r10:wf.cell? ⟨(w.heap.size + 1),10,none⟩ = some (.int .i64 (0)):=hF.cell 10
    have r11:wf.cell? ⟨(w.heap.size + 1),11,none⟩ = some (.int .i64 (0)):=hF.cell 11
    have r12:wf.cell? ⟨(w.heap.size + 1),12,none⟩ = some (.int .i64 (0)):=hF.cell 12
    refine bodyPost_ret (v:=.agg #[.int .i64 (2),.int .i64 (1),.int .i64 (1 + (q2:Int)),.int .i64 (0),.int .i64 (0),.int .i64 (0),.int .i64 (0),.int .i64 (0),.int .i64 (0),.int .i64 (0),.int .i64 (0),.int .i64 (0),.int .i64 (0)]) (by simp [results,Tryd.results11,go_sem,r0,r1,r2,r3,r4,r5,r6,r7,r8,r9,r10,r11,r12,hlF]) rfl ?_
    exact ⟨by rw [← HD.out]; rfl,hWf⟩
  · replace tq1:(b1:Int).tmod 6 = 4:=tq1
    clear y1
    go_wp2_with fail
    clear r0 f0 r1 f1 r2 f2 r3 f3 r4 f4 r5 f5 r6 f6 r7 f7 r8 f8 r9 f9 r10 f10 r11 f11 r12 f12 lt_r
    have hF:Blok (((((((((((((w1.setCell ⟨(w.heap.size + 1),0,none⟩ (.int .i64 (3))).setCell ⟨(w.heap.size + 1),1,none⟩ (.int .i64 (1))).setCell ⟨(w.heap.size + 1),2,none⟩ (.int .i64 (1 + (q2:Int)))).setCell ⟨(w.heap.size + 1),3,none⟩ (.int .i64 (0))).setCell ⟨(w.heap.size + 1),4,none⟩ (.int .i64 (0))).setCell ⟨(w.heap.size + 1),5,none⟩ (.int .i64 (0))).setCell ⟨(w.heap.size + 1),6,none⟩ (.int .i64 (0))).setCell ⟨(w.heap.size + 1),7,none⟩ (.int .i64 (1 + (q7:Int)))).setCell ⟨(w.heap.size + 1),8,none⟩ (.int .i64 (0))).setCell ⟨(w.heap.size + 1),9,none⟩ (.int .i64 (0))).setCell ⟨(w.heap.size + 1),10,none⟩ (.int .i64 (0))).setCell ⟨(w.heap.size + 1),11,none⟩ (.int .i64 (0))).setCell ⟨(w.heap.size + 1),12,none⟩ (.int .i64 (0))) (w.heap.size + 1) 31 #[.int .i64 (3),.int .i64 (1),.int .i64 (1 + (q2:Int)),.int .i64 (0),.int .i64 (0),.int .i64 (0),.int .i64 (0),.int .i64 (1 + (q7:Int)),.int .i64 (0),.int .i64 (0),.int .i64 (0),.int .i64 (0),.int .i64 (0)]:=by have h:=(((((((((((((hR.set_ 0 (.int .i64 (3))).set_ 1 (.int .i64 (1))).set_ 2 (.int .i64 (1 + (q2:Int)))).set_ 3 (.int .i64 (0))).set_ 4 (.int .i64 (0))).set_ 5 (.int .i64 (0))).set_ 6 (.int .i64 (0))).set_ 7 (.int .i64 (1 + (q7:Int)))).set_ 8 (.int .i64 (0))).set_ 9 (.int .i64 (0))).set_ 10 (.int .i64 (0))).set_ 11 (.int .i64 (0))).set_ 12 (.int .i64 (0))); simpa using h
    have hle0:w.heap.size ≤ (w.heap.size + 1):=by first | exact Nat.le_refl _ | omega
    have hWf:Below w.heap.size w (((((((((((((w1.setCell ⟨(w.heap.size + 1),0,none⟩ (.int .i64 (3))).setCell ⟨(w.heap.size + 1),1,none⟩ (.int .i64 (1))).setCell ⟨(w.heap.size + 1),2,none⟩ (.int .i64 (1 + (q2:Int)))).setCell ⟨(w.heap.size + 1),3,none⟩ (.int .i64 (0))).setCell ⟨(w.heap.size + 1),4,none⟩ (.int .i64 (0))).setCell ⟨(w.heap.size + 1),5,none⟩ (.int .i64 (0))).setCell ⟨(w.heap.size + 1),6,none⟩ (.int .i64 (0))).setCell ⟨(w.heap.size + 1),7,none⟩ (.int .i64 (1 + (q7:Int)))).setCell ⟨(w.heap.size + 1),8,none⟩ (.int .i64 (0))).setCell ⟨(w.heap.size + 1),9,none⟩ (.int .i64 (0))).setCell ⟨(w.heap.size + 1),10,none⟩ (.int .i64 (0))).setCell ⟨(w.heap.size + 1),11,none⟩ (.int .i64 (0))).setCell ⟨(w.heap.size + 1),12,none⟩ (.int .i64 (0))):=(((((((((((((hB.setCell (p:=⟨(w.heap.size + 1),0,none⟩) hle0 (.int .i64 (3))).setCell (p:=⟨(w.heap.size + 1),1,none⟩) hle0 (.int .i64 (1))).setCell (p:=⟨(w.heap.size + 1),2,none⟩) hle0 (.int .i64 (1 + (q2:Int)))).setCell (p:=⟨(w.heap.size + 1),3,none⟩) hle0 (.int .i64 (0))).setCell (p:=⟨(w.heap.size + 1),4,none⟩) hle0 (.int .i64 (0))).setCell (p:=⟨(w.heap.size + 1),5,none⟩) hle0 (.int .i64 (0))).setCell (p:=⟨(w.heap.size + 1),6,none⟩) hle0 (.int .i64 (0))).setCell (p:=⟨(w.heap.size + 1),7,none⟩) hle0 (.int .i64 (1 + (q7:Int)))).setCell (p:=⟨(w.heap.size + 1),8,none⟩) hle0 (.int .i64 (0))).setCell (p:=⟨(w.heap.size + 1),9,none⟩) hle0 (.int .i64 (0))).setCell (p:=⟨(w.heap.size + 1),10,none⟩) hle0 (.int .i64 (0))).setCell (p:=⟨(w.heap.size + 1),11,none⟩) hle0 (.int .i64 (0))).setCell (p:=⟨(w.heap.size + 1),12,none⟩) hle0 (.int .i64 (0)))
    have hlF:=hF.lt
    have hgw:w1.grownBy (((((((((((((w1.setCell ⟨(w.heap.size + 1),0,none⟩ (.int .i64 (3))).setCell ⟨(w.heap.size + 1),1,none⟩ (.int .i64 (1))).setCell ⟨(w.heap.size + 1),2,none⟩ (.int .i64 (1 + (q2:Int)))).setCell ⟨(w.heap.size + 1),3,none⟩ (.int .i64 (0))).setCell ⟨(w.heap.size + 1),4,none⟩ (.int .i64 (0))).setCell ⟨(w.heap.size + 1),5,none⟩ (.int .i64 (0))).setCell ⟨(w.heap.size + 1),6,none⟩ (.int .i64 (0))).setCell ⟨(w.heap.size + 1),7,none⟩ (.int .i64 (1 + (q7:Int)))).setCell ⟨(w.heap.size + 1),8,none⟩ (.int .i64 (0))).setCell ⟨(w.heap.size + 1),9,none⟩ (.int .i64 (0))).setCell ⟨(w.heap.size + 1),10,none⟩ (.int .i64 (0))).setCell ⟨(w.heap.size + 1),11,none⟩ (.int .i64 (0))).setCell ⟨(w.heap.size + 1),12,none⟩ (.int .i64 (0))) (some (w.heap.size + 1)):=grown_trans (grown_trans (grown_trans (grown_trans (grown_trans (grown_trans (grown_trans (grown_trans (grown_trans (grown_trans (grown_trans (grown_trans (grown_set _ _ _) (grown_set _ _ _)) (grown_set _ _ _)) (grown_set _ _ _)) (grown_set _ _ _)) (grown_set _ _ _)) (grown_set _ _ _)) (grown_set _ _ _)) (grown_set _ _ _)) (grown_set _ _ _)) (grown_set _ _ _)) (grown_set _ _ _)) (grown_set _ _ _)
    generalize (((((((((((((w1.setCell ⟨(w.heap.size + 1),0,none⟩ (.int .i64 (3))).setCell ⟨(w.heap.size + 1),1,none⟩ (.int .i64 (1))).setCell ⟨(w.heap.size + 1),2,none⟩ (.int .i64 (1 + (q2:Int)))).setCell ⟨(w.heap.size + 1),3,none⟩ (.int .i64 (0))).setCell ⟨(w.heap.size + 1),4,none⟩ (.int .i64 (0))).setCell ⟨(w.heap.size + 1),5,none⟩ (.int .i64 (0))).setCell ⟨(w.heap.size + 1),6,none⟩ (.int .i64 (0))).setCell ⟨(w.heap.size + 1),7,none⟩ (.int .i64 (1 + (q7:Int)))).setCell ⟨(w.heap.size + 1),8,none⟩ (.int .i64 (0))).setCell ⟨(w.heap.size + 1),9,none⟩ (.int .i64 (0))).setCell ⟨(w.heap.size + 1),10,none⟩ (.int .i64 (0))).setCell ⟨(w.heap.size + 1),11,none⟩ (.int .i64 (0))).setCell ⟨(w.heap.size + 1),12,none⟩ (.int .i64 (0))) = wf at *
    have r0:wf.cell? ⟨(w.heap.size + 1),0,none⟩ = some (.int .i64 (3)):=hF.cell 0
    have r1:wf.cell? ⟨(w.heap.size + 1),1,none⟩ = some (.int .i64 (1)):=hF.cell 1
    have r2:wf.cell? ⟨(w.heap.size + 1),2,none⟩ = some (.int .i64 (1 + (q2:Int))):=hF.cell 2
    have r3:wf.cell? ⟨(w.heap.size + 1),3,none⟩ = some (.int .i64 (0)):=hF.cell 3
    have r4:wf.cell? ⟨(w.heap.size + 1),4,none⟩ = some (.int .i64 (0)):=hF.cell 4
    have r5:wf.cell? ⟨(w.heap.size + 1),5,none⟩ = some (.int .i64 (0)):=hF.cell 5
    have r6:wf.cell? ⟨(w.heap.size + 1),6,none⟩ = some (.int .i64 (0)):=hF.cell 6
    have r7:wf.cell? ⟨(w.heap.size + 1),7,none⟩ = some (.int .i64 (1 + (q7:Int))):=hF.cell 7
    have r8:wf.cell? ⟨(w.heap.size + 1),8,none⟩ = some (.int .i64 (0)):=hF.cell 8
    have r9:wf.cell? ⟨(w.heap.size + 1),9,none⟩ = some (.int .i64 (0)):=hF.cell 9
    have r10:wf.cell? ⟨(w.heap.size + 1),10,none⟩ = some (.int .i64 (0)):=hF.cell 10
    have r11:wf.cell? ⟨(w.heap.size + 1),11,none⟩ = some (.int .i64 (0)):=hF.cell 11
    have r12:wf.cell? ⟨(w.heap.size + 1),12,none⟩ = some (.int .i64 (0)):=hF.cell 12
    refine bodyPost_ret (v:=.agg #[.int .i64 (3),.int .i64 (1),.int .i64 (1 + (q2:Int)),.int .i64 (0),.int .i64 (0),.int .i64 (0),.int .i64 (0),.int .i64 (1 + (q7:Int)),.int .i64 (0),.int .i64 (0),.int .i64 (0),.int .i64 (0),.int .i64 (0)]) (by simp [results,Tryd.results11,go_sem,r0,r1,r2,r3,r4,r5,r6,r7,r8,r9,r10,r11,r12,hlF]) rfl ?_
    exact ⟨by rw [← HD.out]; rfl,hWf⟩
  · replace tq1:(b1:Int).tmod 6 = 5:=tq1
    clear y1
    go_wp2_with fail
    clear r0 f0 r1 f1 r2 f2 r3 f3 r4 f4 r5 f5 r6 f6 r7 f7 r8 f8 r9 f9 r10 f10 r11 f11 r12 f12 lt_r
    have hF:Blok (((((((((((((w1.setCell ⟨(w.heap.size + 1),0,none⟩ (.int .i64 (2))).setCell ⟨(w.heap.size + 1),1,none⟩ (.int .i64 (2))).setCell ⟨(w.heap.size + 1),2,none⟩ (.int .i64 (0))).setCell ⟨(w.heap.size + 1),3,none⟩ (.int .i64 (0))).setCell ⟨(w.heap.size + 1),4,none⟩ (.int .i64 (0))).setCell ⟨(w.heap.size + 1),5,none⟩ (.int .i64 (0))).setCell ⟨(w.heap.size + 1),6,none⟩ (.int .i64 (0))).setCell ⟨(w.heap.size + 1),7,none⟩ (.int .i64 (0))).setCell ⟨(w.heap.size + 1),8,none⟩ (.int .i64 (1 + (q3:Int)))).setCell ⟨(w.heap.size + 1),9,none⟩ (.int .i64 (1 + (q4:Int)))).setCell ⟨(w.heap.size + 1),10,none⟩ (.int .i64 (0))).setCell ⟨(w.heap.size + 1),11,none⟩ (.int .i64 (0))).setCell ⟨(w.heap.size + 1),12,none⟩ (.int .i64 (0))) (w.heap.size + 1) 31 #[.int .i64 (2),.int .i64 (2),.int .i64 (0),.int .i64 (0),.int .i64 (0),.int .i64 (0),.int .i64 (0),.int .i64 (0),.int .i64 (1 + (q3:Int)),.int .i64 (1 + (q4:Int)),.int .i64 (0),.int .i64 (0),.int .i64 (0)]:=by have h:=(((((((((((((hR.set_ 0 (.int .i64 (2))).set_ 1 (.int .i64 (2))).set_ 2 (.int .i64 (0))).set_ 3 (.int .i64 (0))).set_ 4 (.int .i64 (0))).set_ 5 (.int .i64 (0))).set_ 6 (.int .i64 (0))).set_ 7 (.int .i64 (0))).set_ 8 (.int .i64 (1 + (q3:Int)))).set_ 9 (.int .i64 (1 + (q4:Int)))).set_ 10 (.int .i64 (0))).set_ 11 (.int .i64 (0))).set_ 12 (.int .i64 (0))); simpa using h
    have hle0:w.heap.size ≤ (w.heap.size + 1):=by first | exact Nat.le_refl _ | omega
    have hWf:Below w.heap.size w (((((((((((((w1.setCell ⟨(w.heap.size + 1),0,none⟩ (.int .i64 (2))).setCell ⟨(w.heap.size + 1),1,none⟩ (.int .i64 (2))).setCell ⟨(w.heap.size + 1),2,none⟩ (.int .i64 (0))).setCell ⟨(w.heap.size + 1),3,none⟩ (.int .i64 (0))).setCell ⟨(w.heap.size + 1),4,none⟩ (.int .i64 (0))).setCell ⟨(w.heap.size + 1),5,none⟩ (.int .i64 (0))).setCell ⟨(w.heap.size + 1),6,none⟩ (.int .i64 (0))).setCell ⟨(w.heap.size + 1),7,none⟩ (.int .i64 (0))).setCell ⟨(w.heap.size + 1),8,none⟩ (.int .i64 (1 + (q3:Int)))).setCell ⟨(w.heap.size + 1),9,none⟩ (.int .i64 (1 + (q4:Int)))).setCell ⟨(w.heap.size + 1),10,none⟩ (.int .i64 (0))).setCell ⟨(w.heap.size + 1),11,none⟩ (.int .i64 (0))).setCell ⟨(w.heap.size + 1),12,none⟩ (.int .i64 (0))):=(((((((((((((hB.setCell (p:=⟨(w.heap.size + 1),0,none⟩) hle0 (.int .i64 (2))).setCell (p:=⟨(w.heap.size + 1),1,none⟩) hle0 (.int .i64 (2))).setCell (p:=⟨(w.heap.size + 1),2,none⟩) hle0 (.int .i64 (0))).setCell (p:=⟨(w.heap.size + 1),3,none⟩) hle0 (.int .i64 (0))).setCell (p:=⟨(w.heap.size + 1),4,none⟩) hle0 (.int .i64 (0))).setCell (p:=⟨(w.heap.size + 1),5,none⟩) hle0 (.int .i64 (0))).setCell (p:=⟨(w.heap.size + 1),6,none⟩) hle0 (.int .i64 (0))).setCell (p:=⟨(w.heap.size + 1),7,none⟩) hle0 (.int .i64 (0))).setCell (p:=⟨(w.heap.size + 1),8,none⟩) hle0 (.int .i64 (1 + (q3:Int)))).setCell (p:=⟨(w.heap.size + 1),9,none⟩) hle0 (.int .i64 (1 + (q4:Int)))).setCell (p:=⟨(w.heap.size + 1),10,none⟩) hle0 (.int .i64 (0))).setCell (p:=⟨(w.heap.size + 1),11,none⟩) hle0 (.int .i64 (0))).setCell (p:=⟨(w.heap.size + 1),12,none⟩) hle0 (.int .i64 (0)))
    have hlF:=hF.lt
    have hgw:w1.grownBy (((((((((((((w1.setCell ⟨(w.heap.size + 1),0,none⟩ (.int .i64 (2))).setCell ⟨(w.heap.size + 1),1,none⟩ (.int .i64 (2))).setCell ⟨(w.heap.size + 1),2,none⟩ (.int .i64 (0))).setCell ⟨(w.heap.size + 1),3,none⟩ (.int .i64 (0))).setCell ⟨(w.heap.size + 1),4,none⟩ (.int .i64 (0))).setCell ⟨(w.heap.size + 1),5,none⟩ (.int .i64 (0))).setCell ⟨(w.heap.size + 1),6,none⟩ (.int .i64 (0))).setCell ⟨(w.heap.size + 1),7,none⟩ (.int .i64 (0))).setCell ⟨(w.heap.size + 1),8,none⟩ (.int .i64 (1 + (q3:Int)))).setCell ⟨(w.heap.size + 1),9,none⟩ (.int .i64 (1 + (q4:Int)))).setCell ⟨(w.heap.size + 1),10,none⟩ (.int .i64 (0))).setCell ⟨(w.heap.size + 1),11,none⟩ (.int .i64 (0))).setCell ⟨(w.heap.size + 1),12,none⟩ (.int .i64 (0))) (some (w.heap.size + 1)):=grown_trans (grown_trans (grown_trans (grown_trans (grown_trans (grown_trans (grown_trans (grown_trans (grown_trans (grown_trans (grown_trans (grown_trans (grown_set _ _ _) (grown_set _ _ _)) (grown_set _ _ _)) (grown_set _ _ _)) (grown_set _ _ _)) (grown_set _ _ _)) (grown_set _ _ _)) (grown_set _ _ _)) (grown_set _ _ _)) (grown_set _ _ _)) (grown_set _ _ _)) (grown_set _ _ _)) (grown_set _ _ _)
    generalize (((((((((((((w1.setCell ⟨(w.heap.size + 1),0,none⟩ (.int .i64 (2))).setCell ⟨(w.heap.size + 1),1,none⟩ (.int .i64 (2))).setCell ⟨(w.heap.size + 1),2,none⟩ (.int .i64 (0))).setCell ⟨(w.heap.size + 1),3,none⟩ (.int .i64 (0))).setCell ⟨(w.heap.size + 1),4,none⟩ (.int .i64 (0))).setCell ⟨(w.heap.size + 1),5,none⟩ (.int .i64 (0))).setCell ⟨(w.heap.size + 1),6,none⟩ (.int .i64 (0))).setCell ⟨(w.heap.size + 1),7,none⟩ (.int .i64 (0))).setCell ⟨(w.heap.size + 1),8,none⟩ (.int .i64 (1 + (q3:Int)))).setCell ⟨(w.heap.size + 1),9,none⟩ (.int .i64 (1 + (q4:Int)))).setCell ⟨(w.heap.size + 1),10,none⟩ (.int .i64 (0))).setCell ⟨(w.heap.size + 1),11,none⟩ (.int .i64 (0))).setCell ⟨(w.heap.size + 1),12,none⟩ (.int .i64 (0))) = wf at *
    have r0:wf.cell? ⟨(w.heap.size + 1),0,none⟩ = some (.int .i64 (2)):=hF.cell 0
    have r1:wf.cell? ⟨(w.heap.size + 1),1,none⟩ = some (.int .i64 (2)):=hF.cell 1
    have r2:wf.cell? ⟨(w.heap.size + 1),2,none⟩ = some (.int .i64 (0)):=hF.cell 2
    have r3:wf.cell? ⟨(w.heap.size + 1),3,none⟩ = some (.int .i64 (0)):=hF.cell 3
    have r4:wf.cell? ⟨(w.heap.size + 1),4,none⟩ = some (.int .i64 (0)):=hF.cell 4
    have r5:wf.cell? ⟨(w.heap.size + 1),5,none⟩ = some (.int .i64 (0)):=hF.cell 5
    have r6:wf.cell? ⟨(w.heap.size + 1),6,none⟩ = some (.int .i64 (0)):=hF.cell 6
    have r7:wf.cell? ⟨(w.heap.size + 1),7,none⟩ = some (.int .i64 (0)):=hF.cell 7
    have r8:wf.cell? ⟨(w.heap.size + 1),8,none⟩ = some (.int .i64 (1 + (q3:Int))):=hF.cell 8
    have r9:wf.cell? ⟨(w.heap.size + 1),9,none⟩ = some (.int .i64 (1 + (q4:Int))):=hF.cell 9
    have r10:wf.cell? ⟨(w.heap.size + 1),10,none⟩ = some (.int .i64 (0)):=hF.cell 10
    have r11:wf.cell? ⟨(w.heap.size + 1),11,none⟩ = some (.int .i64 (0)):=hF.cell 11
    have r12:wf.cell? ⟨(w.heap.size + 1),12,none⟩ = some (.int .i64 (0)):=hF.cell 12
    refine bodyPost_ret (v:=.agg #[.int .i64 (2),.int .i64 (2),.int .i64 (0),.int .i64 (0),.int .i64 (0),.int .i64 (0),.int .i64 (0),.int .i64 (0),.int .i64 (1 + (q3:Int)),.int .i64 (1 + (q4:Int)),.int .i64 (0),.int .i64 (0),.int .i64 (0)]) (by simp [results,Tryd.results11,go_sem,r0,r1,r2,r3,r4,r5,r6,r7,r8,r9,r10,r11,r12,hlF]) rfl ?_
    exact ⟨by rw [← HD.out]; rfl,hWf⟩
end Go.Proofs.YtggdomeeienjbaaDoor

/- The document's own answer for scripts: act, kind 0. No condition but that bytes are bytes. -/
namespace Go.Proofs.YtggdomeeienjbaaDoor
open Go.ChangeShapes Go.WideShapes Go.ChangeAt Go.RowKit Go.Sort
set_option linter.unusedSimpArgs false
set_option linter.unusedVariables false
set_option maxHeartbeats 16000000 in
set_option maxRecDepth 100000 in
theorem r25act_0 (b0 b1 b2 b3 b4 b5 b6 b7 b8 b9:Nat) (w:World) (ht:TenTab w) (h0:b0 < 256) (h1:b1 < 256) (h2:b2 < 256) (h3:b3 < 256) (h4:b4 < 256) (h5:b5 < 256) (h6:b6 < 256) (h7:b7 < 256) (h8:b8 < 256) (h9:b9 < 256) (P:Pa) (hq:b0 % 7 = 0) (hP:(⟨1,linesF (dirF b1 b2 b3 b4 b5 b6 b7) b8,zeroDr,0,[],0,0,0,0,0,0,0⟩:Pa) = P) :
    Calls Tryd.prog 17 #[.agg #[.int .u8 (b0:Nat),.int .u8 (b1:Nat),.int .u8 (b2:Nat),.int .u8 (b3:Nat),.int .u8 (b4:Nat),.int .u8 (b5:Nat),.int .u8 (b6:Nat),.int .u8 (b7:Nat),.int .u8 (b8:Nat),.int .u8 (b9:Nat)]] w fun e w' => ∃ v,e = .returned v ∧ AV w.heap.size w' v P ∧ Below w.heap.size w w':=by
  have tq0:(b0:Int).tmod 7 = 0:=tmod_is _ 7 _ _ rfl hq
  have vb0:IntKind.i64.wrap (b0:Int) = (b0:Int):=IntWalk.i64_in _ (by omega)
  have vb1:IntKind.i64.wrap (b1:Int) = (b1:Int):=IntWalk.i64_in _ (by omega)
  have vb2:IntKind.i64.wrap (b2:Int) = (b2:Int):=IntWalk.i64_in _ (by omega)
  have vb3:IntKind.i64.wrap (b3:Int) = (b3:Int):=IntWalk.i64_in _ (by omega)
  have vb4:IntKind.i64.wrap (b4:Int) = (b4:Int):=IntWalk.i64_in _ (by omega)
  have vb5:IntKind.i64.wrap (b5:Int) = (b5:Int):=IntWalk.i64_in _ (by omega)
  have v45:IntKind.i64.wrap (4 * (b5:Int)) = 4 * (b5:Int):=IntWalk.i64_in _ (by omega)
  obtain ⟨D,eD⟩:∃ D,dirF b1 b2 b3 b4 b5 b6 b7 = D:=⟨_,rfl⟩
  obtain ⟨T,eT⟩:∃ T,linesF D b8 = T:=⟨_,rfl⟩
  rw [eD,eT] at hP
  have ED:=Lib.hid eD
  have ET:=Lib.hid eT
  clear eD eT
  obtain ⟨i0,hi0,hz0,hz1,hz2⟩:=info_parts infoDr
  have HP:=Lib.hid hP
  have TT:=Lib.hid ht
  have H0:=Lib.hid h0
  have H1:=Lib.hid h1
  have H2:=Lib.hid h2
  have H3:=Lib.hid h3
  have H4:=Lib.hid h4
  have H5:=Lib.hid h5
  have H6:=Lib.hid h6
  have H7:=Lib.hid h7
  have H8:=Lib.hid h8
  have H9:=Lib.hid h9
  clear hP ht hq  h0 h1 h2 h3 h4 h5 h6 h7 h8 h9
  have hB:Below w.heap.size w ((w.alloc (.cells #[.int .u8 (b0:Nat),.int .u8 (b1:Nat),.int .u8 (b2:Nat),.int .u8 (b3:Nat),.int .u8 (b4:Nat),.int .u8 (b5:Nat),.int .u8 (b6:Nat),.int .u8 (b7:Nat),.int .u8 (b8:Nat),.int .u8 (b9:Nat)] 23)).alloc (.cells #[.int .i64 0,.string ⟨#[]⟩,.int .i64 0,.int .i64 0,.int .i64 0,.int .i64 0,.int .i64 0,.int .i64 0,.int .i64 0,.int .i64 0,.int .i64 0,.int .i64 0,.int .i64 0,.int .i64 0,.int .i64 0,.int .i64 0,.slice none 0 0,.int .i64 0,.int .i64 0,.int .i64 0,.int .i64 0,.int .i64 0,.int .i64 0,.int .i64 0] 36)):=by (repeat (first | exact Below.refl _ _ | refine Below.alloc ?_ (by first | omega | (simp; done) | (simp; omega)) _ | refine Below.setCell ?_ (by first | omega | (simp; done) | (simp; omega)) _ | refine Below.drew ?_))
  have hX:=(Blok.new w 23 #[.int .u8 (b0:Nat),.int .u8 (b1:Nat),.int .u8 (b2:Nat),.int .u8 (b3:Nat),.int .u8 (b4:Nat),.int .u8 (b5:Nat),.int .u8 (b6:Nat),.int .u8 (b7:Nat),.int .u8 (b8:Nat),.int .u8 (b9:Nat)]).alloc (.cells #[.int .i64 0,.string ⟨#[]⟩,.int .i64 0,.int .i64 0,.int .i64 0,.int .i64 0,.int .i64 0,.int .i64 0,.int .i64 0,.int .i64 0,.int .i64 0,.int .i64 0,.int .i64 0,.int .i64 0,.int .i64 0,.int .i64 0,.slice none 0 0,.int .i64 0,.int .i64 0,.int .i64 0,.int .i64 0,.int .i64 0,.int .i64 0,.int .i64 0] 36)
  have hR:=Blok.new (w.alloc (.cells #[.int .u8 (b0:Nat),.int .u8 (b1:Nat),.int .u8 (b2:Nat),.int .u8 (b3:Nat),.int .u8 (b4:Nat),.int .u8 (b5:Nat),.int .u8 (b6:Nat),.int .u8 (b7:Nat),.int .u8 (b8:Nat),.int .u8 (b9:Nat)] 23)) 36 #[.int .i64 0,.string ⟨#[]⟩,.int .i64 0,.int .i64 0,.int .i64 0,.int .i64 0,.int .i64 0,.int .i64 0,.int .i64 0,.int .i64 0,.int .i64 0,.int .i64 0,.int .i64 0,.int .i64 0,.int .i64 0,.int .i64 0,.slice none 0 0,.int .i64 0,.int .i64 0,.int .i64 0,.int .i64 0,.int .i64 0,.int .i64 0,.int .i64 0]
  rw [World.size_alloc] at hR
  have hs:=hB.size
  go_enter Tryd.func17,Tryd.ntmps17
  go_upto_region 1 with fail
  generalize ((w.alloc (.cells #[.int .u8 (b0:Nat),.int .u8 (b1:Nat),.int .u8 (b2:Nat),.int .u8 (b3:Nat),.int .u8 (b4:Nat),.int .u8 (b5:Nat),.int .u8 (b6:Nat),.int .u8 (b7:Nat),.int .u8 (b8:Nat),.int .u8 (b9:Nat)] 23)).alloc (.cells #[.int .i64 0,.string ⟨#[]⟩,.int .i64 0,.int .i64 0,.int .i64 0,.int .i64 0,.int .i64 0,.int .i64 0,.int .i64 0,.int .i64 0,.int .i64 0,.int .i64 0,.int .i64 0,.int .i64 0,.int .i64 0,.int .i64 0,.slice none 0 0,.int .i64 0,.int .i64 0,.int .i64 0,.int .i64 0,.int .i64 0,.int .i64 0,.int .i64 0] 36)) = w1 at *
  have x0:w1.cell? ⟨w.heap.size,0,none⟩ = some (.int .u8 (b0:Nat)):=hX.cell 0
  have lt_x:=hX.lt
  go_upto_region 2 with (first | (refine wpList_store_row (by rfl) 36 (.tmp 3) (.tmp 13) (by rfl) w1.heap.size #[.int .i64 1,.string ⟨#[]⟩,.int .i64 0,.int .i64 0,.int .i64 0,.int .i64 0,.int .i64 0,.int .i64 0,.int .i64 0,.int .i64 0,.int .i64 0,.int .i64 0,.int .i64 0,.int .i64 0,.int .i64 0,.int .i64 0,.slice none 0 0,.int .i64 0,.int .i64 0,.int .i64 0,.int .i64 0,.int .i64 0,.int .i64 0,.int .i64 0] (by rfl) (by rfl) 36 #[.int .i64 0,.string ⟨#[]⟩,.int .i64 0,.int .i64 0,.int .i64 0,.int .i64 0,.int .i64 0,.int .i64 0,.int .i64 0,.int .i64 0,.int .i64 0,.int .i64 0,.int .i64 0,.int .i64 0,.int .i64 0,.int .i64 0,.slice none 0 0,.int .i64 0,.int .i64 0,.int .i64 0,.int .i64 0,.int .i64 0,.int .i64 0,.int .i64 0] (heap_alloc_new _ _) (by kernel_rfl) rfl (by simp [Value.oneCell']) ?_; rw [World.setRow_alloc_new]) | (refine wpList_build_run _ (by rfl) 36 #[(0,.tmp 12)] (by rfl) #[(0,.int .i64 1)] (by rfl) (bact 1 _) ?_))
  clear x0 lt_x
  have hA:=Blok.new w1 36 #[.int .i64 1,.string ⟨#[]⟩,.int .i64 0,.int .i64 0,.int .i64 0,.int .i64 0,.int .i64 0,.int .i64 0,.int .i64 0,.int .i64 0,.int .i64 0,.int .i64 0,.int .i64 0,.int .i64 0,.int .i64 0,.int .i64 0,.slice none 0 0,.int .i64 0,.int .i64 0,.int .i64 0,.int .i64 0,.int .i64 0,.int .i64 0,.int .i64 0]
  have hb:Below w1.heap.size w1 (w1.alloc (.cells #[.int .i64 1,.string ⟨#[]⟩,.int .i64 0,.int .i64 0,.int .i64 0,.int .i64 0,.int .i64 0,.int .i64 0,.int .i64 0,.int .i64 0,.int .i64 0,.int .i64 0,.int .i64 0,.int .i64 0,.int .i64 0,.int .i64 0,.slice none 0 0,.int .i64 0,.int .i64 0,.int .i64 0,.int .i64 0,.int .i64 0,.int .i64 0,.int .i64 0] 36)):=by (repeat (first | exact Below.refl _ _ | refine Below.alloc ?_ (by first | omega | (simp; done) | (simp; omega)) _ | refine Below.setCell ?_ (by first | omega | (simp; done) | (simp; omega)) _ | refine Below.drew ?_))
  have lR:=hR.lt
  replace hX:=hX.below hb hX.lt
  replace hR:=hR.below hb hR.lt
  replace hB:=hB.trans (hb.mono hs)
  replace hs:=hB.size
  clear hb
  generalize w1.alloc (.cells #[.int .i64 1,.string ⟨#[]⟩,.int .i64 0,.int .i64 0,.int .i64 0,.int .i64 0,.int .i64 0,.int .i64 0,.int .i64 0,.int .i64 0,.int .i64 0,.int .i64 0,.int .i64 0,.int .i64 0,.int .i64 0,.int .i64 0,.slice none 0 0,.int .i64 0,.int .i64 0,.int .i64 0,.int .i64 0,.int .i64 0,.int .i64 0,.int .i64 0] 36) = w2 at *
  generalize w1.heap.size = bA at *
  have k0:w2.cell? ⟨bA,0,none⟩ = some (.int .i64 1):=hA.cell 0
  have k1:w2.cell? ⟨bA,1,none⟩ = some (.string ⟨#[]⟩):=hA.cell 1
  have k2:w2.cell? ⟨bA,2,none⟩ = some (.int .i64 0):=hA.cell 2
  have k3:w2.cell? ⟨bA,3,none⟩ = some (.int .i64 0):=hA.cell 3
  have k4:w2.cell? ⟨bA,4,none⟩ = some (.int .i64 0):=hA.cell 4
  have k5:w2.cell? ⟨bA,5,none⟩ = some (.int .i64 0):=hA.cell 5
  have k6:w2.cell? ⟨bA,6,none⟩ = some (.int .i64 0):=hA.cell 6
  have k7:w2.cell? ⟨bA,7,none⟩ = some (.int .i64 0):=hA.cell 7
  have k8:w2.cell? ⟨bA,8,none⟩ = some (.int .i64 0):=hA.cell 8
  have k9:w2.cell? ⟨bA,9,none⟩ = some (.int .i64 0):=hA.cell 9
  have k10:w2.cell? ⟨bA,10,none⟩ = some (.int .i64 0):=hA.cell 10
  have k11:w2.cell? ⟨bA,11,none⟩ = some (.int .i64 0):=hA.cell 11
  have k12:w2.cell? ⟨bA,12,none⟩ = some (.int .i64 0):=hA.cell 12
  have k13:w2.cell? ⟨bA,13,none⟩ = some (.int .i64 0):=hA.cell 13
  have k14:w2.cell? ⟨bA,14,none⟩ = some (.int .i64 0):=hA.cell 14
  have k15:w2.cell? ⟨bA,15,none⟩ = some (.int .i64 0):=hA.cell 15
  have k16:w2.cell? ⟨bA,16,none⟩ = some (.slice none 0 0):=hA.cell 16
  have k17:w2.cell? ⟨bA,17,none⟩ = some (.int .i64 0):=hA.cell 17
  have k18:w2.cell? ⟨bA,18,none⟩ = some (.int .i64 0):=hA.cell 18
  have k19:w2.cell? ⟨bA,19,none⟩ = some (.int .i64 0):=hA.cell 19
  have k20:w2.cell? ⟨bA,20,none⟩ = some (.int .i64 0):=hA.cell 20
  have k21:w2.cell? ⟨bA,21,none⟩ = some (.int .i64 0):=hA.cell 21
  have k22:w2.cell? ⟨bA,22,none⟩ = some (.int .i64 0):=hA.cell 22
  have k23:w2.cell? ⟨bA,23,none⟩ = some (.int .i64 0):=hA.cell 23
  have lt_k:=hA.lt
  go_upto_region 6 with fail
  clear k0 k1 k2 k3 k4 k5 k6 k7 k8 k9 k10 k11 k12 k13 k14 k15 k16 k17 k18 k19 k20 k21 k22 k23 lt_k
  have x0:w2.cell? ⟨w.heap.size,0,none⟩ = some (.int .u8 (b0:Nat)):=hX.cell 0
  have x1:w2.cell? ⟨w.heap.size,1,none⟩ = some (.int .u8 (b1:Nat)):=hX.cell 1
  have x2:w2.cell? ⟨w.heap.size,2,none⟩ = some (.int .u8 (b2:Nat)):=hX.cell 2
  have x3:w2.cell? ⟨w.heap.size,3,none⟩ = some (.int .u8 (b3:Nat)):=hX.cell 3
  have x4:w2.cell? ⟨w.heap.size,4,none⟩ = some (.int .u8 (b4:Nat)):=hX.cell 4
  have x5:w2.cell? ⟨w.heap.size,5,none⟩ = some (.int .u8 (b5:Nat)):=hX.cell 5
  have x6:w2.cell? ⟨w.heap.size,6,none⟩ = some (.int .u8 (b6:Nat)):=hX.cell 6
  have x7:w2.cell? ⟨w.heap.size,7,none⟩ = some (.int .u8 (b7:Nat)):=hX.cell 7
  have x8:w2.cell? ⟨w.heap.size,8,none⟩ = some (.int .u8 (b8:Nat)):=hX.cell 8
  have x9:w2.cell? ⟨w.heap.size,9,none⟩ = some (.int .u8 (b9:Nat)):=hX.cell 9
  have lt_x:=hX.lt
  go_wp2_with fail
  refine (r25dir_any b0 b1 b2 b3 b4 b5 b6 b7 b8 b9 w2 H0.out H1.out H2.out H3.out H4.out H5.out H6.out H7.out H8.out H9.out D ED.out).mono ?_
  rintro e w3 ⟨rfl,hb⟩
  clear x0 x1 x2 x3 x4 x5 x6 x7 x8 x9 lt_x
  replace hX:=hX.below hb hX.lt
  replace hR:=hR.below hb hR.lt
  replace hA:=hA.below hb hA.lt
  replace hB:=hB.trans (hb.mono hs)
  replace hs:=hB.size
  clear hb
  go_upto_region 7 with fail
  have hY:=Blok.new w3 31 #[.int .i64 D.op,.int .i64 D.kd,.int .i64 D.id,.int .i64 D.fr,.int .i64 D.tn,.int .i64 D.st,.int .i64 D.en,.int .i64 D.rt,.int .i64 D.rf,.int .i64 D.rn,.int .i64 D.rs,.int .i64 D.re,.int .i64 D.ro]
  have hb:Below w3.heap.size w3 (w3.alloc (.cells #[.int .i64 D.op,.int .i64 D.kd,.int .i64 D.id,.int .i64 D.fr,.int .i64 D.tn,.int .i64 D.st,.int .i64 D.en,.int .i64 D.rt,.int .i64 D.rf,.int .i64 D.rn,.int .i64 D.rs,.int .i64 D.re,.int .i64 D.ro] 31)):=by (repeat (first | exact Below.refl _ _ | refine Below.alloc ?_ (by first | omega | (simp; done) | (simp; omega)) _ | refine Below.setCell ?_ (by first | omega | (simp; done) | (simp; omega)) _ | refine Below.drew ?_))
  replace hX:=hX.below hb hX.lt
  replace hR:=hR.below hb hR.lt
  replace hA:=hA.below hb hA.lt
  replace hB:=hB.trans (hb.mono hs)
  replace hs:=hB.size
  clear hb
  generalize w3.alloc (.cells #[.int .i64 D.op,.int .i64 D.kd,.int .i64 D.id,.int .i64 D.fr,.int .i64 D.tn,.int .i64 D.st,.int .i64 D.en,.int .i64 D.rt,.int .i64 D.rf,.int .i64 D.rn,.int .i64 D.rs,.int .i64 D.re,.int .i64 D.ro] 31) = w4 at *
  generalize w3.heap.size = bD at *
  have y0:w4.cell? ⟨bD,0,none⟩ = some (.int .i64 D.op):=hY.cell 0
  have y1:w4.cell? ⟨bD,1,none⟩ = some (.int .i64 D.kd):=hY.cell 1
  have y2:w4.cell? ⟨bD,2,none⟩ = some (.int .i64 D.id):=hY.cell 2
  have y3:w4.cell? ⟨bD,3,none⟩ = some (.int .i64 D.fr):=hY.cell 3
  have y4:w4.cell? ⟨bD,4,none⟩ = some (.int .i64 D.tn):=hY.cell 4
  have y5:w4.cell? ⟨bD,5,none⟩ = some (.int .i64 D.st):=hY.cell 5
  have y6:w4.cell? ⟨bD,6,none⟩ = some (.int .i64 D.en):=hY.cell 6
  have y7:w4.cell? ⟨bD,7,none⟩ = some (.int .i64 D.rt):=hY.cell 7
  have y8:w4.cell? ⟨bD,8,none⟩ = some (.int .i64 D.rf):=hY.cell 8
  have y9:w4.cell? ⟨bD,9,none⟩ = some (.int .i64 D.rn):=hY.cell 9
  have y10:w4.cell? ⟨bD,10,none⟩ = some (.int .i64 D.rs):=hY.cell 10
  have y11:w4.cell? ⟨bD,11,none⟩ = some (.int .i64 D.re):=hY.cell 11
  have y12:w4.cell? ⟨bD,12,none⟩ = some (.int .i64 D.ro):=hY.cell 12
  have lt_y:=hY.lt
  go_upto_region 8 with fail
  clear y0 y1 y2 y3 y4 y5 y6 y7 y8 y9 y10 y11 y12 lt_y
  have ho:=own_lit w4 w.heap.size 31 13 1 #[.int .i64 D.op,.int .i64 D.kd,.int .i64 D.id,.int .i64 D.fr,.int .i64 D.tn,.int .i64 D.st,.int .i64 D.en,.int .i64 D.rt,.int .i64 D.rf,.int .i64 D.rn,.int .i64 D.rs,.int .i64 D.re,.int .i64 D.ro] hs rfl (by simp [maxLen])
  have hb:Below w4.heap.size w4 (w4.alloc (.cells #[.int .i64 D.op,.int .i64 D.kd,.int .i64 D.id,.int .i64 D.fr,.int .i64 D.tn,.int .i64 D.st,.int .i64 D.en,.int .i64 D.rt,.int .i64 D.rf,.int .i64 D.rn,.int .i64 D.rs,.int .i64 D.re,.int .i64 D.ro] 31)):=by (repeat (first | exact Below.refl _ _ | refine Below.alloc ?_ (by first | omega | (simp; done) | (simp; omega)) _ | refine Below.setCell ?_ (by first | omega | (simp; done) | (simp; omega)) _ | refine Below.drew ?_))
  replace hX:=hX.below hb hX.lt
  replace hR:=hR.below hb hR.lt
  replace hA:=hA.below hb hA.lt
  replace hY:=hY.below hb hY.lt
  replace hB:=hB.trans (hb.mono hs)
  replace hs:=hB.size
  clear hb
  generalize w4.alloc (.cells #[.int .i64 D.op,.int .i64 D.kd,.int .i64 D.id,.int .i64 D.fr,.int .i64 D.tn,.int .i64 D.st,.int .i64 D.en,.int .i64 D.rt,.int .i64 D.rf,.int .i64 D.rn,.int .i64 D.rs,.int .i64 D.re,.int .i64 D.ro] 31) = w5 at *
  generalize w4.heap.size = gI at *
  have x8:w5.cell? ⟨w.heap.size,8,none⟩ = some (.int .u8 (b8:Nat)):=hX.cell 8
  have lt_x:=hX.lt
  have t2:(b8:Int).tmod (2:Int) = ((b8 % 2:Nat):Int):=tmod_nat b8 2
  rcases Nat.mod_two_eq_zero_or_one b8 with hb2 | hb2
  all_goals rw [hb2] at t2
  · replace t2:(b8:Int).tmod (2:Int) = 0:=t2
    obtain ⟨p,hp⟩:∃ p,printF [D] = p:=⟨_,rfl⟩
    have hpt:p.getD [120,10] = T:=by have h:=ET.out; unfold linesF at h; rw [if_neg (by omega),hp] at h; exact h
    have HPT:=Lib.hid hpt
    have HPP:=Lib.hid hp
    clear hpt hp hb2
    go_wp2_with fail
    refine (rtprint_any _ _ _ [D] rfl (by simp) w5 (Sl.of_own ho) p HPP.out).mono ?_
    rintro e w8 ⟨rfl,hb⟩
    clear x8 lt_x
    replace hX:=hX.below hb hX.lt
    replace hR:=hR.below hb hR.lt
    replace hA:=hA.below hb hA.lt
    replace hB:=hB.trans (hb.mono hs)
    replace hs:=hB.size
    clear hb ho hY
    by_cases hcs:p = none
    · subst hcs
      obtain rfl:[120,10] = T:=HPT.out
      dsimp only [printV]
      have k0:w8.cell? ⟨bA,0,none⟩ = some (.int .i64 1):=hA.cell 0
      have g0:=hA.free 0
      have k1:w8.cell? ⟨bA,1,none⟩ = some (.string ⟨#[]⟩):=hA.cell 1
      have g1:=hA.free 1
      have k2:w8.cell? ⟨bA,2,none⟩ = some (.int .i64 0):=hA.cell 2
      have g2:=hA.free 2
      have k3:w8.cell? ⟨bA,3,none⟩ = some (.int .i64 0):=hA.cell 3
      have g3:=hA.free 3
      have k4:w8.cell? ⟨bA,4,none⟩ = some (.int .i64 0):=hA.cell 4
      have g4:=hA.free 4
      have k5:w8.cell? ⟨bA,5,none⟩ = some (.int .i64 0):=hA.cell 5
      have g5:=hA.free 5
      have k6:w8.cell? ⟨bA,6,none⟩ = some (.int .i64 0):=hA.cell 6
      have g6:=hA.free 6
      have k7:w8.cell? ⟨bA,7,none⟩ = some (.int .i64 0):=hA.cell 7
      have g7:=hA.free 7
      have k8:w8.cell? ⟨bA,8,none⟩ = some (.int .i64 0):=hA.cell 8
      have g8:=hA.free 8
      have k9:w8.cell? ⟨bA,9,none⟩ = some (.int .i64 0):=hA.cell 9
      have g9:=hA.free 9
      have k10:w8.cell? ⟨bA,10,none⟩ = some (.int .i64 0):=hA.cell 10
      have g10:=hA.free 10
      have k11:w8.cell? ⟨bA,11,none⟩ = some (.int .i64 0):=hA.cell 11
      have g11:=hA.free 11
      have k12:w8.cell? ⟨bA,12,none⟩ = some (.int .i64 0):=hA.cell 12
      have g12:=hA.free 12
      have k13:w8.cell? ⟨bA,13,none⟩ = some (.int .i64 0):=hA.cell 13
      have g13:=hA.free 13
      have k14:w8.cell? ⟨bA,14,none⟩ = some (.int .i64 0):=hA.cell 14
      have g14:=hA.free 14
      have k15:w8.cell? ⟨bA,15,none⟩ = some (.int .i64 0):=hA.cell 15
      have g15:=hA.free 15
      have k16:w8.cell? ⟨bA,16,none⟩ = some (.slice none 0 0):=hA.cell 16
      have g16:=hA.free 16
      have k17:w8.cell? ⟨bA,17,none⟩ = some (.int .i64 0):=hA.cell 17
      have g17:=hA.free 17
      have k18:w8.cell? ⟨bA,18,none⟩ = some (.int .i64 0):=hA.cell 18
      have g18:=hA.free 18
      have k19:w8.cell? ⟨bA,19,none⟩ = some (.int .i64 0):=hA.cell 19
      have g19:=hA.free 19
      have k20:w8.cell? ⟨bA,20,none⟩ = some (.int .i64 0):=hA.cell 20
      have g20:=hA.free 20
      have k21:w8.cell? ⟨bA,21,none⟩ = some (.int .i64 0):=hA.cell 21
      have g21:=hA.free 21
      have k22:w8.cell? ⟨bA,22,none⟩ = some (.int .i64 0):=hA.cell 22
      have g22:=hA.free 22
      have k23:w8.cell? ⟨bA,23,none⟩ = some (.int .i64 0):=hA.cell 23
      have g23:=hA.free 23
      have lt_k:=hA.lt
      go_upto_region 27 with fail
      clear k0 g0 k1 g1 k2 g2 k3 g3 k4 g4 k5 g5 k6 g6 k7 g7 k8 g8 k9 g9 k10 g10 k11 g11 k12 g12 k13 g13 k14 g14 k15 g15 k16 g16 k17 g17 k18 g18 k19 g19 k20 g20 k21 g21 k22 g22 k23 g23 lt_k
      first | (rw [show (ByteArray.mk #[120,10]) = bs [120,10] from rfl]) | skip
      have hA2:Blok ((w8.setCell ⟨bA,1,none⟩ (.string (bs []))).setCell ⟨bA,1,none⟩ (.string (bs [120,10]))) bA 36 #[.int .i64 1,.string (bs [120,10]),.int .i64 0,.int .i64 0,.int .i64 0,.int .i64 0,.int .i64 0,.int .i64 0,.int .i64 0,.int .i64 0,.int .i64 0,.int .i64 0,.int .i64 0,.int .i64 0,.int .i64 0,.int .i64 0,.slice none 0 0,.int .i64 0,.int .i64 0,.int .i64 0,.int .i64 0,.int .i64 0,.int .i64 0,.int .i64 0]:=by exact ((hA.set_ 1 (.string (bs []))).set_ 1 (.string (bs [120,10])))
      replace hX:=((hX.far (p:=⟨bA,1,none⟩) (by simp only; omega) (.string (bs []))).far (p:=⟨bA,1,none⟩) (by simp only; omega) (.string (bs [120,10])))
      replace hR:=((hR.far (p:=⟨bA,1,none⟩) (by simp only; omega) (.string (bs []))).far (p:=⟨bA,1,none⟩) (by simp only; omega) (.string (bs [120,10])))
      replace hB:=((hB.setCell (p:=⟨bA,1,none⟩) (by simp only; omega) (.string (bs []))).setCell (p:=⟨bA,1,none⟩) (by simp only; omega) (.string (bs [120,10])))
      replace hs:=hB.size
      clear hA
      have hA:=hA2
      clear hA2
      generalize ((w8.setCell ⟨bA,1,none⟩ (.string (bs []))).setCell ⟨bA,1,none⟩ (.string (bs [120,10]))) = w9 at *
      have hF:=setRow_heap w9 (w.heap.size + 1) #[.int .i64 0,.string ⟨#[]⟩,.int .i64 0,.int .i64 0,.int .i64 0,.int .i64 0,.int .i64 0,.int .i64 0,.int .i64 0,.int .i64 0,.int .i64 0,.int .i64 0,.int .i64 0,.int .i64 0,.int .i64 0,.int .i64 0,.slice none 0 0,.int .i64 0,.int .i64 0,.int .i64 0,.int .i64 0,.int .i64 0,.int .i64 0,.int .i64 0] #[.int .i64 1,.string (bs [120,10]),.int .i64 0,.int .i64 0,.int .i64 0,.int .i64 0,.int .i64 0,.int .i64 0,.int .i64 0,.int .i64 0,.int .i64 0,.int .i64 0,.int .i64 0,.int .i64 0,.int .i64 0,.int .i64 0,.slice none 0 0,.int .i64 0,.int .i64 0,.int .i64 0,.int .i64 0,.int .i64 0,.int .i64 0,.int .i64 0] 36 (0,0) hR
      have hWf:=below_setRow hB (g:=w.heap.size + 1) (by omega) #[.int .i64 1,.string (bs [120,10]),.int .i64 0,.int .i64 0,.int .i64 0,.int .i64 0,.int .i64 0,.int .i64 0,.int .i64 0,.int .i64 0,.int .i64 0,.int .i64 0,.int .i64 0,.int .i64 0,.int .i64 0,.int .i64 0,.slice none 0 0,.int .i64 0,.int .i64 0,.int .i64 0,.int .i64 0,.int .i64 0,.int .i64 0,.int .i64 0]
      have hgw:=grown_setRow w9 (w.heap.size + 1) #[.int .i64 1,.string (bs [120,10]),.int .i64 0,.int .i64 0,.int .i64 0,.int .i64 0,.int .i64 0,.int .i64 0,.int .i64 0,.int .i64 0,.int .i64 0,.int .i64 0,.int .i64 0,.int .i64 0,.int .i64 0,.int .i64 0,.slice none 0 0,.int .i64 0,.int .i64 0,.int .i64 0,.int .i64 0,.int .i64 0,.int .i64 0,.int .i64 0]
      have hA':=hA
      have hR':=hR
      go_wp2_with (first | (refine wpList_load_row (by rfl) 36 (.tmp 3) (by rfl) bA (by rfl) 36 #[.int .i64 1,.string (bs [120,10]),.int .i64 0,.int .i64 0,.int .i64 0,.int .i64 0,.int .i64 0,.int .i64 0,.int .i64 0,.int .i64 0,.int .i64 0,.int .i64 0,.int .i64 0,.int .i64 0,.int .i64 0,.int .i64 0,.slice none 0 0,.int .i64 0,.int .i64 0,.int .i64 0,.int .i64 0,.int .i64 0,.int .i64 0,.int .i64 0] (0,0) _ hA' Tryd.underlying36 rfl (by kernel_rfl) ?_) | (refine wpList_store_row (by rfl) 36 (.tmp 2) (.tmp 126) (by rfl) (w.heap.size + 1) #[.int .i64 1,.string (bs [120,10]),.int .i64 0,.int .i64 0,.int .i64 0,.int .i64 0,.int .i64 0,.int .i64 0,.int .i64 0,.int .i64 0,.int .i64 0,.int .i64 0,.int .i64 0,.int .i64 0,.int .i64 0,.int .i64 0,.slice none 0 0,.int .i64 0,.int .i64 0,.int .i64 0,.int .i64 0,.int .i64 0,.int .i64 0,.int .i64 0] (by rfl) (by rfl) 36 #[.int .i64 0,.string ⟨#[]⟩,.int .i64 0,.int .i64 0,.int .i64 0,.int .i64 0,.int .i64 0,.int .i64 0,.int .i64 0,.int .i64 0,.int .i64 0,.int .i64 0,.int .i64 0,.int .i64 0,.int .i64 0,.int .i64 0,.slice none 0 0,.int .i64 0,.int .i64 0,.int .i64 0,.int .i64 0,.int .i64 0,.int .i64 0,.int .i64 0] hR' (by kernel_rfl) rfl (by simp [Value.oneCell']) ?_))
      refine bodyPost_ret (results_cell_row Tryd.results17 _ _ (w.heap.size + 1) 36 #[.int .i64 1,.string (bs [120,10]),.int .i64 0,.int .i64 0,.int .i64 0,.int .i64 0,.int .i64 0,.int .i64 0,.int .i64 0,.int .i64 0,.int .i64 0,.int .i64 0,.int .i64 0,.int .i64 0,.int .i64 0,.int .i64 0,.slice none 0 0,.int .i64 0,.int .i64 0,.int .i64 0,.int .i64 0,.int .i64 0,.int .i64 0,.int .i64 0] (0,0) _ (by rfl) hF Tryd.underlying36 rfl (by kernel_rfl)) rfl ?_
      exact ⟨_,rfl,⟨none,0,0,by rw [← HP.out]; rfl,by rw [← HP.out]; exact own_none _ _ _ _,by rw [← HP.out]; rfl⟩,hWf⟩
    · obtain ⟨s,rfl⟩:∃ s,p = some s:=by cases p with | none => exact absurd rfl hcs | some s => exact ⟨s,rfl⟩
      obtain rfl:s = T:=HPT.out
      clear hcs
      dsimp only [printV]
      have k0:w8.cell? ⟨bA,0,none⟩ = some (.int .i64 1):=hA.cell 0
      have g0:=hA.free 0
      have k1:w8.cell? ⟨bA,1,none⟩ = some (.string ⟨#[]⟩):=hA.cell 1
      have g1:=hA.free 1
      have k2:w8.cell? ⟨bA,2,none⟩ = some (.int .i64 0):=hA.cell 2
      have g2:=hA.free 2
      have k3:w8.cell? ⟨bA,3,none⟩ = some (.int .i64 0):=hA.cell 3
      have g3:=hA.free 3
      have k4:w8.cell? ⟨bA,4,none⟩ = some (.int .i64 0):=hA.cell 4
      have g4:=hA.free 4
      have k5:w8.cell? ⟨bA,5,none⟩ = some (.int .i64 0):=hA.cell 5
      have g5:=hA.free 5
      have k6:w8.cell? ⟨bA,6,none⟩ = some (.int .i64 0):=hA.cell 6
      have g6:=hA.free 6
      have k7:w8.cell? ⟨bA,7,none⟩ = some (.int .i64 0):=hA.cell 7
      have g7:=hA.free 7
      have k8:w8.cell? ⟨bA,8,none⟩ = some (.int .i64 0):=hA.cell 8
      have g8:=hA.free 8
      have k9:w8.cell? ⟨bA,9,none⟩ = some (.int .i64 0):=hA.cell 9
      have g9:=hA.free 9
      have k10:w8.cell? ⟨bA,10,none⟩ = some (.int .i64 0):=hA.cell 10
      have g10:=hA.free 10
      have k11:w8.cell? ⟨bA,11,none⟩ = some (.int .i64 0):=hA.cell 11
      have g11:=hA.free 11
      have k12:w8.cell? ⟨bA,12,none⟩ = some (.int .i64 0):=hA.cell 12
      have g12:=hA.free 12
      have k13:w8.cell? ⟨bA,13,none⟩ = some (.int .i64 0):=hA.cell 13
      have g13:=hA.free 13
      have k14:w8.cell? ⟨bA,14,none⟩ = some (.int .i64 0):=hA.cell 14
      have g14:=hA.free 14
      have k15:w8.cell? ⟨bA,15,none⟩ = some (.int .i64 0):=hA.cell 15
      have g15:=hA.free 15
      have k16:w8.cell? ⟨bA,16,none⟩ = some (.slice none 0 0):=hA.cell 16
      have g16:=hA.free 16
      have k17:w8.cell? ⟨bA,17,none⟩ = some (.int .i64 0):=hA.cell 17
      have g17:=hA.free 17
      have k18:w8.cell? ⟨bA,18,none⟩ = some (.int .i64 0):=hA.cell 18
      have g18:=hA.free 18
      have k19:w8.cell? ⟨bA,19,none⟩ = some (.int .i64 0):=hA.cell 19
      have g19:=hA.free 19
      have k20:w8.cell? ⟨bA,20,none⟩ = some (.int .i64 0):=hA.cell 20
      have g20:=hA.free 20
      have k21:w8.cell? ⟨bA,21,none⟩ = some (.int .i64 0):=hA.cell 21
      have g21:=hA.free 21
      have k22:w8.cell? ⟨bA,22,none⟩ = some (.int .i64 0):=hA.cell 22
      have g22:=hA.free 22
      have k23:w8.cell? ⟨bA,23,none⟩ = some (.int .i64 0):=hA.cell 23
      have g23:=hA.free 23
      have lt_k:=hA.lt
      go_upto_region 27 with fail
      clear k0 g0 k1 g1 k2 g2 k3 g3 k4 g4 k5 g5 k6 g6 k7 g7 k8 g8 k9 g9 k10 g10 k11 g11 k12 g12 k13 g13 k14 g14 k15 g15 k16 g16 k17 g17 k18 g18 k19 g19 k20 g20 k21 g21 k22 g22 k23 g23 lt_k
      have hA2:Blok (w8.setCell ⟨bA,1,none⟩ (.string (bs s))) bA 36 #[.int .i64 1,.string (bs s),.int .i64 0,.int .i64 0,.int .i64 0,.int .i64 0,.int .i64 0,.int .i64 0,.int .i64 0,.int .i64 0,.int .i64 0,.int .i64 0,.int .i64 0,.int .i64 0,.int .i64 0,.int .i64 0,.slice none 0 0,.int .i64 0,.int .i64 0,.int .i64 0,.int .i64 0,.int .i64 0,.int .i64 0,.int .i64 0]:=by exact (hA.set_ 1 (.string (bs s)))
      replace hX:=(hX.far (p:=⟨bA,1,none⟩) (by simp only; omega) (.string (bs s)))
      replace hR:=(hR.far (p:=⟨bA,1,none⟩) (by simp only; omega) (.string (bs s)))
      replace hB:=(hB.setCell (p:=⟨bA,1,none⟩) (by simp only; omega) (.string (bs s)))
      replace hs:=hB.size
      clear hA
      have hA:=hA2
      clear hA2
      generalize (w8.setCell ⟨bA,1,none⟩ (.string (bs s))) = w9 at *
      have hF:=setRow_heap w9 (w.heap.size + 1) #[.int .i64 0,.string ⟨#[]⟩,.int .i64 0,.int .i64 0,.int .i64 0,.int .i64 0,.int .i64 0,.int .i64 0,.int .i64 0,.int .i64 0,.int .i64 0,.int .i64 0,.int .i64 0,.int .i64 0,.int .i64 0,.int .i64 0,.slice none 0 0,.int .i64 0,.int .i64 0,.int .i64 0,.int .i64 0,.int .i64 0,.int .i64 0,.int .i64 0] #[.int .i64 1,.string (bs s),.int .i64 0,.int .i64 0,.int .i64 0,.int .i64 0,.int .i64 0,.int .i64 0,.int .i64 0,.int .i64 0,.int .i64 0,.int .i64 0,.int .i64 0,.int .i64 0,.int .i64 0,.int .i64 0,.slice none 0 0,.int .i64 0,.int .i64 0,.int .i64 0,.int .i64 0,.int .i64 0,.int .i64 0,.int .i64 0] 36 (0,0) hR
      have hWf:=below_setRow hB (g:=w.heap.size + 1) (by omega) #[.int .i64 1,.string (bs s),.int .i64 0,.int .i64 0,.int .i64 0,.int .i64 0,.int .i64 0,.int .i64 0,.int .i64 0,.int .i64 0,.int .i64 0,.int .i64 0,.int .i64 0,.int .i64 0,.int .i64 0,.int .i64 0,.slice none 0 0,.int .i64 0,.int .i64 0,.int .i64 0,.int .i64 0,.int .i64 0,.int .i64 0,.int .i64 0]
      have hgw:=grown_setRow w9 (w.heap.size + 1) #[.int .i64 1,.string (bs s),.int .i64 0,.int .i64 0,.int .i64 0,.int .i64 0,.int .i64 0,.int .i64 0,.int .i64 0,.int .i64 0,.int .i64 0,.int .i64 0,.int .i64 0,.int .i64 0,.int .i64 0,.int .i64 0,.slice none 0 0,.int .i64 0,.int .i64 0,.int .i64 0,.int .i64 0,.int .i64 0,.int .i64 0,.int .i64 0]
      have hA':=hA
      have hR':=hR
      go_wp2_with (first | (refine wpList_load_row (by rfl) 36 (.tmp 3) (by rfl) bA (by rfl) 36 #[.int .i64 1,.string (bs s),.int .i64 0,.int .i64 0,.int .i64 0,.int .i64 0,.int .i64 0,.int .i64 0,.int .i64 0,.int .i64 0,.int .i64 0,.int .i64 0,.int .i64 0,.int .i64 0,.int .i64 0,.int .i64 0,.slice none 0 0,.int .i64 0,.int .i64 0,.int .i64 0,.int .i64 0,.int .i64 0,.int .i64 0,.int .i64 0] (0,0) _ hA' Tryd.underlying36 rfl (by kernel_rfl) ?_) | (refine wpList_store_row (by rfl) 36 (.tmp 2) (.tmp 126) (by rfl) (w.heap.size + 1) #[.int .i64 1,.string (bs s),.int .i64 0,.int .i64 0,.int .i64 0,.int .i64 0,.int .i64 0,.int .i64 0,.int .i64 0,.int .i64 0,.int .i64 0,.int .i64 0,.int .i64 0,.int .i64 0,.int .i64 0,.int .i64 0,.slice none 0 0,.int .i64 0,.int .i64 0,.int .i64 0,.int .i64 0,.int .i64 0,.int .i64 0,.int .i64 0] (by rfl) (by rfl) 36 #[.int .i64 0,.string ⟨#[]⟩,.int .i64 0,.int .i64 0,.int .i64 0,.int .i64 0,.int .i64 0,.int .i64 0,.int .i64 0,.int .i64 0,.int .i64 0,.int .i64 0,.int .i64 0,.int .i64 0,.int .i64 0,.int .i64 0,.slice none 0 0,.int .i64 0,.int .i64 0,.int .i64 0,.int .i64 0,.int .i64 0,.int .i64 0,.int .i64 0] hR' (by kernel_rfl) rfl (by simp [Value.oneCell']) ?_))
      refine bodyPost_ret (results_cell_row Tryd.results17 _ _ (w.heap.size + 1) 36 #[.int .i64 1,.string (bs s),.int .i64 0,.int .i64 0,.int .i64 0,.int .i64 0,.int .i64 0,.int .i64 0,.int .i64 0,.int .i64 0,.int .i64 0,.int .i64 0,.int .i64 0,.int .i64 0,.int .i64 0,.int .i64 0,.slice none 0 0,.int .i64 0,.int .i64 0,.int .i64 0,.int .i64 0,.int .i64 0,.int .i64 0,.int .i64 0] (0,0) _ (by rfl) hF Tryd.underlying36 rfl (by kernel_rfl)) rfl ?_
      exact ⟨_,rfl,⟨none,0,0,by rw [← HP.out]; rfl,by rw [← HP.out]; exact own_none _ _ _ _,by rw [← HP.out]; rfl⟩,hWf⟩
  · replace t2:(b8:Int).tmod (2:Int) = 1:=t2
    obtain ⟨p,hp⟩:∃ p,printF [D,D] = p:=⟨_,rfl⟩
    have hpt:p.getD [120,10] = T:=by have h:=ET.out; unfold linesF at h; rw [if_pos hb2,hp] at h; exact h
    have HPT:=Lib.hid hpt
    have HPP:=Lib.hid hp
    clear hpt hp hb2
    go_upto_region 9 with fail
    clear x8 lt_x
    have y0:w5.cell? ⟨bD,0,none⟩ = some (.int .i64 D.op):=hY.cell 0
    have y1:w5.cell? ⟨bD,1,none⟩ = some (.int .i64 D.kd):=hY.cell 1
    have y2:w5.cell? ⟨bD,2,none⟩ = some (.int .i64 D.id):=hY.cell 2
    have y3:w5.cell? ⟨bD,3,none⟩ = some (.int .i64 D.fr):=hY.cell 3
    have y4:w5.cell? ⟨bD,4,none⟩ = some (.int .i64 D.tn):=hY.cell 4
    have y5:w5.cell? ⟨bD,5,none⟩ = some (.int .i64 D.st):=hY.cell 5
    have y6:w5.cell? ⟨bD,6,none⟩ = some (.int .i64 D.en):=hY.cell 6
    have y7:w5.cell? ⟨bD,7,none⟩ = some (.int .i64 D.rt):=hY.cell 7
    have y8:w5.cell? ⟨bD,8,none⟩ = some (.int .i64 D.rf):=hY.cell 8
    have y9:w5.cell? ⟨bD,9,none⟩ = some (.int .i64 D.rn):=hY.cell 9
    have y10:w5.cell? ⟨bD,10,none⟩ = some (.int .i64 D.rs):=hY.cell 10
    have y11:w5.cell? ⟨bD,11,none⟩ = some (.int .i64 D.re):=hY.cell 11
    have y12:w5.cell? ⟨bD,12,none⟩ = some (.int .i64 D.ro):=hY.cell 12
    have lt_y:=hY.lt
    go_upto_region 10 with (at_builtin; refine wpList_append_own _ rfl _ _ 46 rfl w.heap.size 31 i0 _ 13 104 Tryd.underlying46 hi0 hz0 hz1 hz2 rfl (by decide) _ _ _ rfl (ho.alloc _) ⟨w5.heap.size,0,none⟩ 1 1 [.int .i64 D.op,.int .i64 D.kd,.int .i64 D.id,.int .i64 D.fr,.int .i64 D.tn,.int .i64 D.st,.int .i64 D.en,.int .i64 D.rt,.int .i64 D.rf,.int .i64 D.rn,.int .i64 D.rs,.int .i64 D.re,.int .i64 D.ro] rfl rfl (by exact lit_cells w5 #[.int .i64 D.op,.int .i64 D.kd,.int .i64 D.id,.int .i64 D.fr,.int .i64 D.tn,.int .i64 D.st,.int .i64 D.en,.int .i64 D.rt,.int .i64 D.rf,.int .i64 D.rn,.int .i64 D.rs,.int .i64 D.re,.int .i64 D.ro] _ _ rfl) (by simp [Value.oneCell']) (by unfold maxLen; omega) (by omega) (by simp; omega) ?_; intro v' w6 hown' hgrow5 hnil5)
    clear y0 y1 y2 y3 y4 y5 y6 y7 y8 y9 y10 y11 y12 lt_y
    have hn1:=Blok.ne_own ho hX (by decide)
    have hn2:=Blok.ne_own ho hR (by decide)
    have hn3:=Blok.ne_own ho hA (by decide)
    have hbb:Below w5.heap.size w5 (w5.alloc (.cells #[.int .i64 D.op,.int .i64 D.kd,.int .i64 D.id,.int .i64 D.fr,.int .i64 D.tn,.int .i64 D.st,.int .i64 D.en,.int .i64 D.rt,.int .i64 D.rf,.int .i64 D.rn,.int .i64 D.rs,.int .i64 D.re,.int .i64 D.ro] 31)):=by (repeat (first | exact Below.refl _ _ | refine Below.alloc ?_ (by first | omega | (simp; done) | (simp; omega)) _ | refine Below.setCell ?_ (by first | omega | (simp; done) | (simp; omega)) _ | refine Below.drew ?_))
    have hB5:Below w.heap.size w w6:=(hB.alloc hs _).grown hgrow5 (by simp; omega) (fun q hq => (ho.lt q hq).1)
    replace hX:=(hX.below hbb hX.lt).grown hgrow5 (fun e => hn1 e.symm)
    replace hR:=(hR.below hbb hR.lt).grown hgrow5 (fun e => hn2 e.symm)
    replace hA:=(hA.below hbb hA.lt).grown hgrow5 (fun e => hn3 e.symm)
    clear hB hs ho hY hbb hn1 hn2 hn3
    have hB:=hB5
    have hs:=hB.size
    have ho:w6.ownsRow w.heap.size 31 13 v' 2 (flatDr [D,D]):=by exact hown'
    obtain ⟨A5,c5,rfl⟩:=slice_of_own ho
    clear hown' hgrow5 hnil5 hB5
    go_wp2_with fail
    refine (rtprint_any _ _ _ [D,D] rfl (by simp) w6 (Sl.of_own ho) p HPP.out).mono ?_
    rintro e w8 ⟨rfl,hb⟩
    replace hX:=hX.below hb hX.lt
    replace hR:=hR.below hb hR.lt
    replace hA:=hA.below hb hA.lt
    replace hB:=hB.trans (hb.mono hs)
    replace hs:=hB.size
    clear hb ho
    by_cases hcs:p = none
    · subst hcs
      obtain rfl:[120,10] = T:=HPT.out
      dsimp only [printV]
      have k0:w8.cell? ⟨bA,0,none⟩ = some (.int .i64 1):=hA.cell 0
      have g0:=hA.free 0
      have k1:w8.cell? ⟨bA,1,none⟩ = some (.string ⟨#[]⟩):=hA.cell 1
      have g1:=hA.free 1
      have k2:w8.cell? ⟨bA,2,none⟩ = some (.int .i64 0):=hA.cell 2
      have g2:=hA.free 2
      have k3:w8.cell? ⟨bA,3,none⟩ = some (.int .i64 0):=hA.cell 3
      have g3:=hA.free 3
      have k4:w8.cell? ⟨bA,4,none⟩ = some (.int .i64 0):=hA.cell 4
      have g4:=hA.free 4
      have k5:w8.cell? ⟨bA,5,none⟩ = some (.int .i64 0):=hA.cell 5
      have g5:=hA.free 5
      have k6:w8.cell? ⟨bA,6,none⟩ = some (.int .i64 0):=hA.cell 6
      have g6:=hA.free 6
      have k7:w8.cell? ⟨bA,7,none⟩ = some (.int .i64 0):=hA.cell 7
      have g7:=hA.free 7
      have k8:w8.cell? ⟨bA,8,none⟩ = some (.int .i64 0):=hA.cell 8
      have g8:=hA.free 8
      have k9:w8.cell? ⟨bA,9,none⟩ = some (.int .i64 0):=hA.cell 9
      have g9:=hA.free 9
      have k10:w8.cell? ⟨bA,10,none⟩ = some (.int .i64 0):=hA.cell 10
      have g10:=hA.free 10
      have k11:w8.cell? ⟨bA,11,none⟩ = some (.int .i64 0):=hA.cell 11
      have g11:=hA.free 11
      have k12:w8.cell? ⟨bA,12,none⟩ = some (.int .i64 0):=hA.cell 12
      have g12:=hA.free 12
      have k13:w8.cell? ⟨bA,13,none⟩ = some (.int .i64 0):=hA.cell 13
      have g13:=hA.free 13
      have k14:w8.cell? ⟨bA,14,none⟩ = some (.int .i64 0):=hA.cell 14
      have g14:=hA.free 14
      have k15:w8.cell? ⟨bA,15,none⟩ = some (.int .i64 0):=hA.cell 15
      have g15:=hA.free 15
      have k16:w8.cell? ⟨bA,16,none⟩ = some (.slice none 0 0):=hA.cell 16
      have g16:=hA.free 16
      have k17:w8.cell? ⟨bA,17,none⟩ = some (.int .i64 0):=hA.cell 17
      have g17:=hA.free 17
      have k18:w8.cell? ⟨bA,18,none⟩ = some (.int .i64 0):=hA.cell 18
      have g18:=hA.free 18
      have k19:w8.cell? ⟨bA,19,none⟩ = some (.int .i64 0):=hA.cell 19
      have g19:=hA.free 19
      have k20:w8.cell? ⟨bA,20,none⟩ = some (.int .i64 0):=hA.cell 20
      have g20:=hA.free 20
      have k21:w8.cell? ⟨bA,21,none⟩ = some (.int .i64 0):=hA.cell 21
      have g21:=hA.free 21
      have k22:w8.cell? ⟨bA,22,none⟩ = some (.int .i64 0):=hA.cell 22
      have g22:=hA.free 22
      have k23:w8.cell? ⟨bA,23,none⟩ = some (.int .i64 0):=hA.cell 23
      have g23:=hA.free 23
      have lt_k:=hA.lt
      go_upto_region 27 with fail
      clear k0 g0 k1 g1 k2 g2 k3 g3 k4 g4 k5 g5 k6 g6 k7 g7 k8 g8 k9 g9 k10 g10 k11 g11 k12 g12 k13 g13 k14 g14 k15 g15 k16 g16 k17 g17 k18 g18 k19 g19 k20 g20 k21 g21 k22 g22 k23 g23 lt_k
      first | (rw [show (ByteArray.mk #[120,10]) = bs [120,10] from rfl]) | skip
      have hA2:Blok ((w8.setCell ⟨bA,1,none⟩ (.string (bs []))).setCell ⟨bA,1,none⟩ (.string (bs [120,10]))) bA 36 #[.int .i64 1,.string (bs [120,10]),.int .i64 0,.int .i64 0,.int .i64 0,.int .i64 0,.int .i64 0,.int .i64 0,.int .i64 0,.int .i64 0,.int .i64 0,.int .i64 0,.int .i64 0,.int .i64 0,.int .i64 0,.int .i64 0,.slice none 0 0,.int .i64 0,.int .i64 0,.int .i64 0,.int .i64 0,.int .i64 0,.int .i64 0,.int .i64 0]:=by exact ((hA.set_ 1 (.string (bs []))).set_ 1 (.string (bs [120,10])))
      replace hX:=((hX.far (p:=⟨bA,1,none⟩) (by simp only; omega) (.string (bs []))).far (p:=⟨bA,1,none⟩) (by simp only; omega) (.string (bs [120,10])))
      replace hR:=((hR.far (p:=⟨bA,1,none⟩) (by simp only; omega) (.string (bs []))).far (p:=⟨bA,1,none⟩) (by simp only; omega) (.string (bs [120,10])))
      replace hB:=((hB.setCell (p:=⟨bA,1,none⟩) (by simp only; omega) (.string (bs []))).setCell (p:=⟨bA,1,none⟩) (by simp only; omega) (.string (bs [120,10])))
      replace hs:=hB.size
      clear hA
      have hA:=hA2
      clear hA2
      generalize ((w8.setCell ⟨bA,1,none⟩ (.string (bs []))).setCell ⟨bA,1,none⟩ (.string (bs [120,10]))) = w9 at *
      have hF:=setRow_heap w9 (w.heap.size + 1) #[.int .i64 0,.string ⟨#[]⟩,.int .i64 0,.int .i64 0,.int .i64 0,.int .i64 0,.int .i64 0,.int .i64 0,.int .i64 0,.int .i64 0,.int .i64 0,.int .i64 0,.int .i64 0,.int .i64 0,.int .i64 0,.int .i64 0,.slice none 0 0,.int .i64 0,.int .i64 0,.int .i64 0,.int .i64 0,.int .i64 0,.int .i64 0,.int .i64 0] #[.int .i64 1,.string (bs [120,10]),.int .i64 0,.int .i64 0,.int .i64 0,.int .i64 0,.int .i64 0,.int .i64 0,.int .i64 0,.int .i64 0,.int .i64 0,.int .i64 0,.int .i64 0,.int .i64 0,.int .i64 0,.int .i64 0,.slice none 0 0,.int .i64 0,.int .i64 0,.int .i64 0,.int .i64 0,.int .i64 0,.int .i64 0,.int .i64 0] 36 (0,0) hR
      have hWf:=below_setRow hB (g:=w.heap.size + 1) (by omega) #[.int .i64 1,.string (bs [120,10]),.int .i64 0,.int .i64 0,.int .i64 0,.int .i64 0,.int .i64 0,.int .i64 0,.int .i64 0,.int .i64 0,.int .i64 0,.int .i64 0,.int .i64 0,.int .i64 0,.int .i64 0,.int .i64 0,.slice none 0 0,.int .i64 0,.int .i64 0,.int .i64 0,.int .i64 0,.int .i64 0,.int .i64 0,.int .i64 0]
      have hgw:=grown_setRow w9 (w.heap.size + 1) #[.int .i64 1,.string (bs [120,10]),.int .i64 0,.int .i64 0,.int .i64 0,.int .i64 0,.int .i64 0,.int .i64 0,.int .i64 0,.int .i64 0,.int .i64 0,.int .i64 0,.int .i64 0,.int .i64 0,.int .i64 0,.int .i64 0,.slice none 0 0,.int .i64 0,.int .i64 0,.int .i64 0,.int .i64 0,.int .i64 0,.int .i64 0,.int .i64 0]
      have hA':=hA
      have hR':=hR
      go_wp2_with (first | (refine wpList_load_row (by rfl) 36 (.tmp 3) (by rfl) bA (by rfl) 36 #[.int .i64 1,.string (bs [120,10]),.int .i64 0,.int .i64 0,.int .i64 0,.int .i64 0,.int .i64 0,.int .i64 0,.int .i64 0,.int .i64 0,.int .i64 0,.int .i64 0,.int .i64 0,.int .i64 0,.int .i64 0,.int .i64 0,.slice none 0 0,.int .i64 0,.int .i64 0,.int .i64 0,.int .i64 0,.int .i64 0,.int .i64 0,.int .i64 0] (0,0) _ hA' Tryd.underlying36 rfl (by kernel_rfl) ?_) | (refine wpList_store_row (by rfl) 36 (.tmp 2) (.tmp 126) (by rfl) (w.heap.size + 1) #[.int .i64 1,.string (bs [120,10]),.int .i64 0,.int .i64 0,.int .i64 0,.int .i64 0,.int .i64 0,.int .i64 0,.int .i64 0,.int .i64 0,.int .i64 0,.int .i64 0,.int .i64 0,.int .i64 0,.int .i64 0,.int .i64 0,.slice none 0 0,.int .i64 0,.int .i64 0,.int .i64 0,.int .i64 0,.int .i64 0,.int .i64 0,.int .i64 0] (by rfl) (by rfl) 36 #[.int .i64 0,.string ⟨#[]⟩,.int .i64 0,.int .i64 0,.int .i64 0,.int .i64 0,.int .i64 0,.int .i64 0,.int .i64 0,.int .i64 0,.int .i64 0,.int .i64 0,.int .i64 0,.int .i64 0,.int .i64 0,.int .i64 0,.slice none 0 0,.int .i64 0,.int .i64 0,.int .i64 0,.int .i64 0,.int .i64 0,.int .i64 0,.int .i64 0] hR' (by kernel_rfl) rfl (by simp [Value.oneCell']) ?_))
      refine bodyPost_ret (results_cell_row Tryd.results17 _ _ (w.heap.size + 1) 36 #[.int .i64 1,.string (bs [120,10]),.int .i64 0,.int .i64 0,.int .i64 0,.int .i64 0,.int .i64 0,.int .i64 0,.int .i64 0,.int .i64 0,.int .i64 0,.int .i64 0,.int .i64 0,.int .i64 0,.int .i64 0,.int .i64 0,.slice none 0 0,.int .i64 0,.int .i64 0,.int .i64 0,.int .i64 0,.int .i64 0,.int .i64 0,.int .i64 0] (0,0) _ (by rfl) hF Tryd.underlying36 rfl (by kernel_rfl)) rfl ?_
      exact ⟨_,rfl,⟨none,0,0,by rw [← HP.out]; rfl,by rw [← HP.out]; exact own_none _ _ _ _,by rw [← HP.out]; rfl⟩,hWf⟩
    · obtain ⟨s,rfl⟩:∃ s,p = some s:=by cases p with | none => exact absurd rfl hcs | some s => exact ⟨s,rfl⟩
      obtain rfl:s = T:=HPT.out
      clear hcs
      dsimp only [printV]
      have k0:w8.cell? ⟨bA,0,none⟩ = some (.int .i64 1):=hA.cell 0
      have g0:=hA.free 0
      have k1:w8.cell? ⟨bA,1,none⟩ = some (.string ⟨#[]⟩):=hA.cell 1
      have g1:=hA.free 1
      have k2:w8.cell? ⟨bA,2,none⟩ = some (.int .i64 0):=hA.cell 2
      have g2:=hA.free 2
      have k3:w8.cell? ⟨bA,3,none⟩ = some (.int .i64 0):=hA.cell 3
      have g3:=hA.free 3
      have k4:w8.cell? ⟨bA,4,none⟩ = some (.int .i64 0):=hA.cell 4
      have g4:=hA.free 4
      have k5:w8.cell? ⟨bA,5,none⟩ = some (.int .i64 0):=hA.cell 5
      have g5:=hA.free 5
      have k6:w8.cell? ⟨bA,6,none⟩ = some (.int .i64 0):=hA.cell 6
      have g6:=hA.free 6
      have k7:w8.cell? ⟨bA,7,none⟩ = some (.int .i64 0):=hA.cell 7
      have g7:=hA.free 7
      have k8:w8.cell? ⟨bA,8,none⟩ = some (.int .i64 0):=hA.cell 8
      have g8:=hA.free 8
      have k9:w8.cell? ⟨bA,9,none⟩ = some (.int .i64 0):=hA.cell 9
      have g9:=hA.free 9
      have k10:w8.cell? ⟨bA,10,none⟩ = some (.int .i64 0):=hA.cell 10
      have g10:=hA.free 10
      have k11:w8.cell? ⟨bA,11,none⟩ = some (.int .i64 0):=hA.cell 11
      have g11:=hA.free 11
      have k12:w8.cell? ⟨bA,12,none⟩ = some (.int .i64 0):=hA.cell 12
      have g12:=hA.free 12
      have k13:w8.cell? ⟨bA,13,none⟩ = some (.int .i64 0):=hA.cell 13
      have g13:=hA.free 13
      have k14:w8.cell? ⟨bA,14,none⟩ = some (.int .i64 0):=hA.cell 14
      have g14:=hA.free 14
      have k15:w8.cell? ⟨bA,15,none⟩ = some (.int .i64 0):=hA.cell 15
      have g15:=hA.free 15
      have k16:w8.cell? ⟨bA,16,none⟩ = some (.slice none 0 0):=hA.cell 16
      have g16:=hA.free 16
      have k17:w8.cell? ⟨bA,17,none⟩ = some (.int .i64 0):=hA.cell 17
      have g17:=hA.free 17
      have k18:w8.cell? ⟨bA,18,none⟩ = some (.int .i64 0):=hA.cell 18
      have g18:=hA.free 18
      have k19:w8.cell? ⟨bA,19,none⟩ = some (.int .i64 0):=hA.cell 19
      have g19:=hA.free 19
      have k20:w8.cell? ⟨bA,20,none⟩ = some (.int .i64 0):=hA.cell 20
      have g20:=hA.free 20
      have k21:w8.cell? ⟨bA,21,none⟩ = some (.int .i64 0):=hA.cell 21
      have g21:=hA.free 21
      have k22:w8.cell? ⟨bA,22,none⟩ = some (.int .i64 0):=hA.cell 22
      have g22:=hA.free 22
      have k23:w8.cell? ⟨bA,23,none⟩ = some (.int .i64 0):=hA.cell 23
      have g23:=hA.free 23
      have lt_k:=hA.lt
      go_upto_region 27 with fail
      clear k0 g0 k1 g1 k2 g2 k3 g3 k4 g4 k5 g5 k6 g6 k7 g7 k8 g8 k9 g9 k10 g10 k11 g11 k12 g12 k13 g13 k14 g14 k15 g15 k16 g16 k17 g17 k18 g18 k19 g19 k20 g20 k21 g21 k22 g22 k23 g23 lt_k
      have hA2:Blok (w8.setCell ⟨bA,1,none⟩ (.string (bs s))) bA 36 #[.int .i64 1,.string (bs s),.int .i64 0,.int .i64 0,.int .i64 0,.int .i64 0,.int .i64 0,.int .i64 0,.int .i64 0,.int .i64 0,.int .i64 0,.int .i64 0,.int .i64 0,.int .i64 0,.int .i64 0,.int .i64 0,.slice none 0 0,.int .i64 0,.int .i64 0,.int .i64 0,.int .i64 0,.int .i64 0,.int .i64 0,.int .i64 0]:=by exact (hA.set_ 1 (.string (bs s)))
      replace hX:=(hX.far (p:=⟨bA,1,none⟩) (by simp only; omega) (.string (bs s)))
      replace hR:=(hR.far (p:=⟨bA,1,none⟩) (by simp only; omega) (.string (bs s)))
      replace hB:=(hB.setCell (p:=⟨bA,1,none⟩) (by simp only; omega) (.string (bs s)))
      replace hs:=hB.size
      clear hA
      have hA:=hA2
      clear hA2
      generalize (w8.setCell ⟨bA,1,none⟩ (.string (bs s))) = w9 at *
      have hF:=setRow_heap w9 (w.heap.size + 1) #[.int .i64 0,.string ⟨#[]⟩,.int .i64 0,.int .i64 0,.int .i64 0,.int .i64 0,.int .i64 0,.int .i64 0,.int .i64 0,.int .i64 0,.int .i64 0,.int .i64 0,.int .i64 0,.int .i64 0,.int .i64 0,.int .i64 0,.slice none 0 0,.int .i64 0,.int .i64 0,.int .i64 0,.int .i64 0,.int .i64 0,.int .i64 0,.int .i64 0] #[.int .i64 1,.string (bs s),.int .i64 0,.int .i64 0,.int .i64 0,.int .i64 0,.int .i64 0,.int .i64 0,.int .i64 0,.int .i64 0,.int .i64 0,.int .i64 0,.int .i64 0,.int .i64 0,.int .i64 0,.int .i64 0,.slice none 0 0,.int .i64 0,.int .i64 0,.int .i64 0,.int .i64 0,.int .i64 0,.int .i64 0,.int .i64 0] 36 (0,0) hR
      have hWf:=below_setRow hB (g:=w.heap.size + 1) (by omega) #[.int .i64 1,.string (bs s),.int .i64 0,.int .i64 0,.int .i64 0,.int .i64 0,.int .i64 0,.int .i64 0,.int .i64 0,.int .i64 0,.int .i64 0,.int .i64 0,.int .i64 0,.int .i64 0,.int .i64 0,.int .i64 0,.slice none 0 0,.int .i64 0,.int .i64 0,.int .i64 0,.int .i64 0,.int .i64 0,.int .i64 0,.int .i64 0]
      have hgw:=grown_setRow w9 (w.heap.size + 1) #[.int .i64 1,.string (bs s),.int .i64 0,.int .i64 0,.int .i64 0,.int .i64 0,.int .i64 0,.int .i64 0,.int .i64 0,.int .i64 0,.int .i64 0,.int .i64 0,.int .i64 0,.int .i64 0,.int .i64 0,.int .i64 0,.slice none 0 0,.int .i64 0,.int .i64 0,.int .i64 0,.int .i64 0,.int .i64 0,.int .i64 0,.int .i64 0]
      have hA':=hA
      have hR':=hR
      go_wp2_with (first | (refine wpList_load_row (by rfl) 36 (.tmp 3) (by rfl) bA (by rfl) 36 #[.int .i64 1,.string (bs s),.int .i64 0,.int .i64 0,.int .i64 0,.int .i64 0,.int .i64 0,.int .i64 0,.int .i64 0,.int .i64 0,.int .i64 0,.int .i64 0,.int .i64 0,.int .i64 0,.int .i64 0,.int .i64 0,.slice none 0 0,.int .i64 0,.int .i64 0,.int .i64 0,.int .i64 0,.int .i64 0,.int .i64 0,.int .i64 0] (0,0) _ hA' Tryd.underlying36 rfl (by kernel_rfl) ?_) | (refine wpList_store_row (by rfl) 36 (.tmp 2) (.tmp 126) (by rfl) (w.heap.size + 1) #[.int .i64 1,.string (bs s),.int .i64 0,.int .i64 0,.int .i64 0,.int .i64 0,.int .i64 0,.int .i64 0,.int .i64 0,.int .i64 0,.int .i64 0,.int .i64 0,.int .i64 0,.int .i64 0,.int .i64 0,.int .i64 0,.slice none 0 0,.int .i64 0,.int .i64 0,.int .i64 0,.int .i64 0,.int .i64 0,.int .i64 0,.int .i64 0] (by rfl) (by rfl) 36 #[.int .i64 0,.string ⟨#[]⟩,.int .i64 0,.int .i64 0,.int .i64 0,.int .i64 0,.int .i64 0,.int .i64 0,.int .i64 0,.int .i64 0,.int .i64 0,.int .i64 0,.int .i64 0,.int .i64 0,.int .i64 0,.int .i64 0,.slice none 0 0,.int .i64 0,.int .i64 0,.int .i64 0,.int .i64 0,.int .i64 0,.int .i64 0,.int .i64 0] hR' (by kernel_rfl) rfl (by simp [Value.oneCell']) ?_))
      refine bodyPost_ret (results_cell_row Tryd.results17 _ _ (w.heap.size + 1) 36 #[.int .i64 1,.string (bs s),.int .i64 0,.int .i64 0,.int .i64 0,.int .i64 0,.int .i64 0,.int .i64 0,.int .i64 0,.int .i64 0,.int .i64 0,.int .i64 0,.int .i64 0,.int .i64 0,.int .i64 0,.int .i64 0,.slice none 0 0,.int .i64 0,.int .i64 0,.int .i64 0,.int .i64 0,.int .i64 0,.int .i64 0,.int .i64 0] (0,0) _ (by rfl) hF Tryd.underlying36 rfl (by kernel_rfl)) rfl ?_
      exact ⟨_,rfl,⟨none,0,0,by rw [← HP.out]; rfl,by rw [← HP.out]; exact own_none _ _ _ _,by rw [← HP.out]; rfl⟩,hWf⟩
end Go.Proofs.YtggdomeeienjbaaDoor

/- The document's own answer for scripts: act, kind 1. No condition but that bytes are bytes. -/
namespace Go.Proofs.YtggdomeeienjbaaDoor
open Go.ChangeShapes Go.WideShapes Go.ChangeAt Go.RowKit Go.Sort
set_option linter.unusedSimpArgs false
set_option linter.unusedVariables false
set_option maxHeartbeats 16000000 in
set_option maxRecDepth 100000 in
theorem r25act_1 (b0 b1 b2 b3 b4 b5 b6 b7 b8 b9:Nat) (w:World) (ht:TenTab w) (h0:b0 < 256) (h1:b1 < 256) (h2:b2 < 256) (h3:b3 < 256) (h4:b4 < 256) (h5:b5 < 256) (h6:b6 < 256) (h7:b7 < 256) (h8:b8 < 256) (h9:b9 < 256) (P:Pa) (hq:b0 % 7 = 1) (hP:(⟨2,[],dirF b1 b2 b3 b4 b5 b6 b7,0,[],0,0,0,0,0,0,0⟩:Pa) = P) :
    Calls Tryd.prog 17 #[.agg #[.int .u8 (b0:Nat),.int .u8 (b1:Nat),.int .u8 (b2:Nat),.int .u8 (b3:Nat),.int .u8 (b4:Nat),.int .u8 (b5:Nat),.int .u8 (b6:Nat),.int .u8 (b7:Nat),.int .u8 (b8:Nat),.int .u8 (b9:Nat)]] w fun e w' => ∃ v,e = .returned v ∧ AV w.heap.size w' v P ∧ Below w.heap.size w w':=by
  have tq0:(b0:Int).tmod 7 = 1:=tmod_is _ 7 _ _ rfl hq
  have vb0:IntKind.i64.wrap (b0:Int) = (b0:Int):=IntWalk.i64_in _ (by omega)
  have vb1:IntKind.i64.wrap (b1:Int) = (b1:Int):=IntWalk.i64_in _ (by omega)
  have vb2:IntKind.i64.wrap (b2:Int) = (b2:Int):=IntWalk.i64_in _ (by omega)
  have vb3:IntKind.i64.wrap (b3:Int) = (b3:Int):=IntWalk.i64_in _ (by omega)
  have vb4:IntKind.i64.wrap (b4:Int) = (b4:Int):=IntWalk.i64_in _ (by omega)
  have vb5:IntKind.i64.wrap (b5:Int) = (b5:Int):=IntWalk.i64_in _ (by omega)
  have v45:IntKind.i64.wrap (4 * (b5:Int)) = 4 * (b5:Int):=IntWalk.i64_in _ (by omega)
  obtain ⟨D,eD⟩:∃ D,dirF b1 b2 b3 b4 b5 b6 b7 = D:=⟨_,rfl⟩
  rw [eD] at hP
  have ED:=Lib.hid eD
  clear eD
  have HP:=Lib.hid hP
  have TT:=Lib.hid ht
  have H0:=Lib.hid h0
  have H1:=Lib.hid h1
  have H2:=Lib.hid h2
  have H3:=Lib.hid h3
  have H4:=Lib.hid h4
  have H5:=Lib.hid h5
  have H6:=Lib.hid h6
  have H7:=Lib.hid h7
  have H8:=Lib.hid h8
  have H9:=Lib.hid h9
  clear hP ht hq  h0 h1 h2 h3 h4 h5 h6 h7 h8 h9
  have hB:Below w.heap.size w ((w.alloc (.cells #[.int .u8 (b0:Nat),.int .u8 (b1:Nat),.int .u8 (b2:Nat),.int .u8 (b3:Nat),.int .u8 (b4:Nat),.int .u8 (b5:Nat),.int .u8 (b6:Nat),.int .u8 (b7:Nat),.int .u8 (b8:Nat),.int .u8 (b9:Nat)] 23)).alloc (.cells #[.int .i64 0,.string ⟨#[]⟩,.int .i64 0,.int .i64 0,.int .i64 0,.int .i64 0,.int .i64 0,.int .i64 0,.int .i64 0,.int .i64 0,.int .i64 0,.int .i64 0,.int .i64 0,.int .i64 0,.int .i64 0,.int .i64 0,.slice none 0 0,.int .i64 0,.int .i64 0,.int .i64 0,.int .i64 0,.int .i64 0,.int .i64 0,.int .i64 0] 36)):=by (repeat (first | exact Below.refl _ _ | refine Below.alloc ?_ (by first | omega | (simp; done) | (simp; omega)) _ | refine Below.setCell ?_ (by first | omega | (simp; done) | (simp; omega)) _ | refine Below.drew ?_))
  have hX:=(Blok.new w 23 #[.int .u8 (b0:Nat),.int .u8 (b1:Nat),.int .u8 (b2:Nat),.int .u8 (b3:Nat),.int .u8 (b4:Nat),.int .u8 (b5:Nat),.int .u8 (b6:Nat),.int .u8 (b7:Nat),.int .u8 (b8:Nat),.int .u8 (b9:Nat)]).alloc (.cells #[.int .i64 0,.string ⟨#[]⟩,.int .i64 0,.int .i64 0,.int .i64 0,.int .i64 0,.int .i64 0,.int .i64 0,.int .i64 0,.int .i64 0,.int .i64 0,.int .i64 0,.int .i64 0,.int .i64 0,.int .i64 0,.int .i64 0,.slice none 0 0,.int .i64 0,.int .i64 0,.int .i64 0,.int .i64 0,.int .i64 0,.int .i64 0,.int .i64 0] 36)
  have hR:=Blok.new (w.alloc (.cells #[.int .u8 (b0:Nat),.int .u8 (b1:Nat),.int .u8 (b2:Nat),.int .u8 (b3:Nat),.int .u8 (b4:Nat),.int .u8 (b5:Nat),.int .u8 (b6:Nat),.int .u8 (b7:Nat),.int .u8 (b8:Nat),.int .u8 (b9:Nat)] 23)) 36 #[.int .i64 0,.string ⟨#[]⟩,.int .i64 0,.int .i64 0,.int .i64 0,.int .i64 0,.int .i64 0,.int .i64 0,.int .i64 0,.int .i64 0,.int .i64 0,.int .i64 0,.int .i64 0,.int .i64 0,.int .i64 0,.int .i64 0,.slice none 0 0,.int .i64 0,.int .i64 0,.int .i64 0,.int .i64 0,.int .i64 0,.int .i64 0,.int .i64 0]
  rw [World.size_alloc] at hR
  have hs:=hB.size
  go_enter Tryd.func17,Tryd.ntmps17
  go_upto_region 1 with fail
  generalize ((w.alloc (.cells #[.int .u8 (b0:Nat),.int .u8 (b1:Nat),.int .u8 (b2:Nat),.int .u8 (b3:Nat),.int .u8 (b4:Nat),.int .u8 (b5:Nat),.int .u8 (b6:Nat),.int .u8 (b7:Nat),.int .u8 (b8:Nat),.int .u8 (b9:Nat)] 23)).alloc (.cells #[.int .i64 0,.string ⟨#[]⟩,.int .i64 0,.int .i64 0,.int .i64 0,.int .i64 0,.int .i64 0,.int .i64 0,.int .i64 0,.int .i64 0,.int .i64 0,.int .i64 0,.int .i64 0,.int .i64 0,.int .i64 0,.int .i64 0,.slice none 0 0,.int .i64 0,.int .i64 0,.int .i64 0,.int .i64 0,.int .i64 0,.int .i64 0,.int .i64 0] 36)) = w1 at *
  have x0:w1.cell? ⟨w.heap.size,0,none⟩ = some (.int .u8 (b0:Nat)):=hX.cell 0
  have lt_x:=hX.lt
  go_upto_region 2 with (first | (refine wpList_store_row (by rfl) 36 (.tmp 3) (.tmp 13) (by rfl) w1.heap.size #[.int .i64 2,.string ⟨#[]⟩,.int .i64 0,.int .i64 0,.int .i64 0,.int .i64 0,.int .i64 0,.int .i64 0,.int .i64 0,.int .i64 0,.int .i64 0,.int .i64 0,.int .i64 0,.int .i64 0,.int .i64 0,.int .i64 0,.slice none 0 0,.int .i64 0,.int .i64 0,.int .i64 0,.int .i64 0,.int .i64 0,.int .i64 0,.int .i64 0] (by rfl) (by rfl) 36 #[.int .i64 0,.string ⟨#[]⟩,.int .i64 0,.int .i64 0,.int .i64 0,.int .i64 0,.int .i64 0,.int .i64 0,.int .i64 0,.int .i64 0,.int .i64 0,.int .i64 0,.int .i64 0,.int .i64 0,.int .i64 0,.int .i64 0,.slice none 0 0,.int .i64 0,.int .i64 0,.int .i64 0,.int .i64 0,.int .i64 0,.int .i64 0,.int .i64 0] (heap_alloc_new _ _) (by kernel_rfl) rfl (by simp [Value.oneCell']) ?_; rw [World.setRow_alloc_new]) | (refine wpList_build_run _ (by rfl) 36 #[(0,.tmp 12)] (by rfl) #[(0,.int .i64 2)] (by rfl) (bact 2 _) ?_))
  clear x0 lt_x
  have hA:=Blok.new w1 36 #[.int .i64 2,.string ⟨#[]⟩,.int .i64 0,.int .i64 0,.int .i64 0,.int .i64 0,.int .i64 0,.int .i64 0,.int .i64 0,.int .i64 0,.int .i64 0,.int .i64 0,.int .i64 0,.int .i64 0,.int .i64 0,.int .i64 0,.slice none 0 0,.int .i64 0,.int .i64 0,.int .i64 0,.int .i64 0,.int .i64 0,.int .i64 0,.int .i64 0]
  have hb:Below w1.heap.size w1 (w1.alloc (.cells #[.int .i64 2,.string ⟨#[]⟩,.int .i64 0,.int .i64 0,.int .i64 0,.int .i64 0,.int .i64 0,.int .i64 0,.int .i64 0,.int .i64 0,.int .i64 0,.int .i64 0,.int .i64 0,.int .i64 0,.int .i64 0,.int .i64 0,.slice none 0 0,.int .i64 0,.int .i64 0,.int .i64 0,.int .i64 0,.int .i64 0,.int .i64 0,.int .i64 0] 36)):=by (repeat (first | exact Below.refl _ _ | refine Below.alloc ?_ (by first | omega | (simp; done) | (simp; omega)) _ | refine Below.setCell ?_ (by first | omega | (simp; done) | (simp; omega)) _ | refine Below.drew ?_))
  have lR:=hR.lt
  replace hX:=hX.below hb hX.lt
  replace hR:=hR.below hb hR.lt
  replace hB:=hB.trans (hb.mono hs)
  replace hs:=hB.size
  clear hb
  generalize w1.alloc (.cells #[.int .i64 2,.string ⟨#[]⟩,.int .i64 0,.int .i64 0,.int .i64 0,.int .i64 0,.int .i64 0,.int .i64 0,.int .i64 0,.int .i64 0,.int .i64 0,.int .i64 0,.int .i64 0,.int .i64 0,.int .i64 0,.int .i64 0,.slice none 0 0,.int .i64 0,.int .i64 0,.int .i64 0,.int .i64 0,.int .i64 0,.int .i64 0,.int .i64 0] 36) = w2 at *
  generalize w1.heap.size = bA at *
  have k0:w2.cell? ⟨bA,0,none⟩ = some (.int .i64 2):=hA.cell 0
  have k1:w2.cell? ⟨bA,1,none⟩ = some (.string ⟨#[]⟩):=hA.cell 1
  have k2:w2.cell? ⟨bA,2,none⟩ = some (.int .i64 0):=hA.cell 2
  have k3:w2.cell? ⟨bA,3,none⟩ = some (.int .i64 0):=hA.cell 3
  have k4:w2.cell? ⟨bA,4,none⟩ = some (.int .i64 0):=hA.cell 4
  have k5:w2.cell? ⟨bA,5,none⟩ = some (.int .i64 0):=hA.cell 5
  have k6:w2.cell? ⟨bA,6,none⟩ = some (.int .i64 0):=hA.cell 6
  have k7:w2.cell? ⟨bA,7,none⟩ = some (.int .i64 0):=hA.cell 7
  have k8:w2.cell? ⟨bA,8,none⟩ = some (.int .i64 0):=hA.cell 8
  have k9:w2.cell? ⟨bA,9,none⟩ = some (.int .i64 0):=hA.cell 9
  have k10:w2.cell? ⟨bA,10,none⟩ = some (.int .i64 0):=hA.cell 10
  have k11:w2.cell? ⟨bA,11,none⟩ = some (.int .i64 0):=hA.cell 11
  have k12:w2.cell? ⟨bA,12,none⟩ = some (.int .i64 0):=hA.cell 12
  have k13:w2.cell? ⟨bA,13,none⟩ = some (.int .i64 0):=hA.cell 13
  have k14:w2.cell? ⟨bA,14,none⟩ = some (.int .i64 0):=hA.cell 14
  have k15:w2.cell? ⟨bA,15,none⟩ = some (.int .i64 0):=hA.cell 15
  have k16:w2.cell? ⟨bA,16,none⟩ = some (.slice none 0 0):=hA.cell 16
  have k17:w2.cell? ⟨bA,17,none⟩ = some (.int .i64 0):=hA.cell 17
  have k18:w2.cell? ⟨bA,18,none⟩ = some (.int .i64 0):=hA.cell 18
  have k19:w2.cell? ⟨bA,19,none⟩ = some (.int .i64 0):=hA.cell 19
  have k20:w2.cell? ⟨bA,20,none⟩ = some (.int .i64 0):=hA.cell 20
  have k21:w2.cell? ⟨bA,21,none⟩ = some (.int .i64 0):=hA.cell 21
  have k22:w2.cell? ⟨bA,22,none⟩ = some (.int .i64 0):=hA.cell 22
  have k23:w2.cell? ⟨bA,23,none⟩ = some (.int .i64 0):=hA.cell 23
  have lt_k:=hA.lt
  go_upto_region 15 with fail
  clear k0 k1 k2 k3 k4 k5 k6 k7 k8 k9 k10 k11 k12 k13 k14 k15 k16 k17 k18 k19 k20 k21 k22 k23 lt_k
  have x0:w2.cell? ⟨w.heap.size,0,none⟩ = some (.int .u8 (b0:Nat)):=hX.cell 0
  have x1:w2.cell? ⟨w.heap.size,1,none⟩ = some (.int .u8 (b1:Nat)):=hX.cell 1
  have x2:w2.cell? ⟨w.heap.size,2,none⟩ = some (.int .u8 (b2:Nat)):=hX.cell 2
  have x3:w2.cell? ⟨w.heap.size,3,none⟩ = some (.int .u8 (b3:Nat)):=hX.cell 3
  have x4:w2.cell? ⟨w.heap.size,4,none⟩ = some (.int .u8 (b4:Nat)):=hX.cell 4
  have x5:w2.cell? ⟨w.heap.size,5,none⟩ = some (.int .u8 (b5:Nat)):=hX.cell 5
  have x6:w2.cell? ⟨w.heap.size,6,none⟩ = some (.int .u8 (b6:Nat)):=hX.cell 6
  have x7:w2.cell? ⟨w.heap.size,7,none⟩ = some (.int .u8 (b7:Nat)):=hX.cell 7
  have x8:w2.cell? ⟨w.heap.size,8,none⟩ = some (.int .u8 (b8:Nat)):=hX.cell 8
  have x9:w2.cell? ⟨w.heap.size,9,none⟩ = some (.int .u8 (b9:Nat)):=hX.cell 9
  have lt_x:=hX.lt
  go_wp2_with fail
  refine (r25dir_any b0 b1 b2 b3 b4 b5 b6 b7 b8 b9 w2 H0.out H1.out H2.out H3.out H4.out H5.out H6.out H7.out H8.out H9.out D ED.out).mono ?_
  rintro e w3 ⟨rfl,hb⟩
  clear x0 x1 x2 x3 x4 x5 x6 x7 x8 x9 lt_x
  replace hX:=hX.below hb hX.lt
  replace hR:=hR.below hb hR.lt
  replace hA:=hA.below hb hA.lt
  replace hB:=hB.trans (hb.mono hs)
  replace hs:=hB.size
  clear hb
  have hth:=hA.there_ 2 13 (by simp)
  go_upto_region 27 with (refine wpList_store_mid (by rfl) 31 (.tmp 61) (.tmp 60) (by rfl) bA 2 #[.int .i64 D.op,.int .i64 D.kd,.int .i64 D.id,.int .i64 D.fr,.int .i64 D.tn,.int .i64 D.st,.int .i64 D.en,.int .i64 D.rt,.int .i64 D.rf,.int .i64 D.rn,.int .i64 D.rs,.int .i64 D.re,.int .i64 D.ro] (by rfl) (by rfl) hth (by kernel_rfl) (by simp [Value.oneCell']) ?_; obtain ⟨w4,hw4⟩:∃ x,x = w3.setCells bA 2 (#[.int .i64 D.op,.int .i64 D.kd,.int .i64 D.id,.int .i64 D.fr,.int .i64 D.tn,.int .i64 D.st,.int .i64 D.en,.int .i64 D.rt,.int .i64 D.rf,.int .i64 D.rn,.int .i64 D.rs,.int .i64 D.re,.int .i64 D.ro]:Array Value).toList:=⟨_,rfl⟩; rw [← hw4])
  have hgs:=grown_sets (b:=bA) [.int .i64 D.op,.int .i64 D.kd,.int .i64 D.id,.int .i64 D.fr,.int .i64 D.tn,.int .i64 D.st,.int .i64 D.en,.int .i64 D.rt,.int .i64 D.rf,.int .i64 D.rn,.int .i64 D.rs,.int .i64 D.re,.int .i64 D.ro] 2 w3
  have hA2:Blok w4 bA 36 #[.int .i64 2,.string ⟨#[]⟩,.int .i64 D.op,.int .i64 D.kd,.int .i64 D.id,.int .i64 D.fr,.int .i64 D.tn,.int .i64 D.st,.int .i64 D.en,.int .i64 D.rt,.int .i64 D.rf,.int .i64 D.rn,.int .i64 D.rs,.int .i64 D.re,.int .i64 D.ro,.int .i64 0,.slice none 0 0,.int .i64 0,.int .i64 0,.int .i64 0,.int .i64 0,.int .i64 0,.int .i64 0,.int .i64 0]:=by rw [hw4]; exact Blok.sets [.int .i64 D.op,.int .i64 D.kd,.int .i64 D.id,.int .i64 D.fr,.int .i64 D.tn,.int .i64 D.st,.int .i64 D.en,.int .i64 D.rt,.int .i64 D.rf,.int .i64 D.rn,.int .i64 D.rs,.int .i64 D.re,.int .i64 D.ro] 2 w3 [.int .i64 2,.string ⟨#[]⟩,.int .i64 0,.int .i64 0,.int .i64 0,.int .i64 0,.int .i64 0,.int .i64 0,.int .i64 0,.int .i64 0,.int .i64 0,.int .i64 0,.int .i64 0,.int .i64 0,.int .i64 0,.int .i64 0,.slice none 0 0,.int .i64 0,.int .i64 0,.int .i64 0,.int .i64 0,.int .i64 0,.int .i64 0,.int .i64 0] hA (by simp)
  have hX2:Blok w4 w.heap.size 23 #[.int .u8 (b0:Nat),.int .u8 (b1:Nat),.int .u8 (b2:Nat),.int .u8 (b3:Nat),.int .u8 (b4:Nat),.int .u8 (b5:Nat),.int .u8 (b6:Nat),.int .u8 (b7:Nat),.int .u8 (b8:Nat),.int .u8 (b9:Nat)]:=by rw [hw4]; exact hX.grown hgs (by simp only [ne_eq,Option.some.injEq]; omega)
  have hR2:Blok w4 (w.heap.size + 1) 36 #[.int .i64 0,.string ⟨#[]⟩,.int .i64 0,.int .i64 0,.int .i64 0,.int .i64 0,.int .i64 0,.int .i64 0,.int .i64 0,.int .i64 0,.int .i64 0,.int .i64 0,.int .i64 0,.int .i64 0,.int .i64 0,.int .i64 0,.slice none 0 0,.int .i64 0,.int .i64 0,.int .i64 0,.int .i64 0,.int .i64 0,.int .i64 0,.int .i64 0]:=by rw [hw4]; exact hR.grown hgs (by simp only [ne_eq,Option.some.injEq]; omega)
  have hB2:Below w.heap.size w w4:=by rw [hw4]; exact hB.grown hgs hs (fun k hk => by injection hk with hk; omega)
  clear hgs
  clear hA hX hR hB hs hth hw4
  have hA:=hA2
  have hX:=hX2
  have hR:=hR2
  have hB:=hB2
  have hs:=hB.size
  clear hA2 hX2 hR2 hB2
  have hF:=setRow_heap w4 (w.heap.size + 1) #[.int .i64 0,.string ⟨#[]⟩,.int .i64 0,.int .i64 0,.int .i64 0,.int .i64 0,.int .i64 0,.int .i64 0,.int .i64 0,.int .i64 0,.int .i64 0,.int .i64 0,.int .i64 0,.int .i64 0,.int .i64 0,.int .i64 0,.slice none 0 0,.int .i64 0,.int .i64 0,.int .i64 0,.int .i64 0,.int .i64 0,.int .i64 0,.int .i64 0] #[.int .i64 2,.string ⟨#[]⟩,.int .i64 D.op,.int .i64 D.kd,.int .i64 D.id,.int .i64 D.fr,.int .i64 D.tn,.int .i64 D.st,.int .i64 D.en,.int .i64 D.rt,.int .i64 D.rf,.int .i64 D.rn,.int .i64 D.rs,.int .i64 D.re,.int .i64 D.ro,.int .i64 0,.slice none 0 0,.int .i64 0,.int .i64 0,.int .i64 0,.int .i64 0,.int .i64 0,.int .i64 0,.int .i64 0] 36 (0,0) hR
  have hWf:=below_setRow hB (g:=w.heap.size + 1) (by omega) #[.int .i64 2,.string ⟨#[]⟩,.int .i64 D.op,.int .i64 D.kd,.int .i64 D.id,.int .i64 D.fr,.int .i64 D.tn,.int .i64 D.st,.int .i64 D.en,.int .i64 D.rt,.int .i64 D.rf,.int .i64 D.rn,.int .i64 D.rs,.int .i64 D.re,.int .i64 D.ro,.int .i64 0,.slice none 0 0,.int .i64 0,.int .i64 0,.int .i64 0,.int .i64 0,.int .i64 0,.int .i64 0,.int .i64 0]
  have hgw:=grown_setRow w4 (w.heap.size + 1) #[.int .i64 2,.string ⟨#[]⟩,.int .i64 D.op,.int .i64 D.kd,.int .i64 D.id,.int .i64 D.fr,.int .i64 D.tn,.int .i64 D.st,.int .i64 D.en,.int .i64 D.rt,.int .i64 D.rf,.int .i64 D.rn,.int .i64 D.rs,.int .i64 D.re,.int .i64 D.ro,.int .i64 0,.slice none 0 0,.int .i64 0,.int .i64 0,.int .i64 0,.int .i64 0,.int .i64 0,.int .i64 0,.int .i64 0]
  have hA':=hA
  have hR':=hR
  go_wp2_with (first | (refine wpList_load_row (by rfl) 36 (.tmp 3) (by rfl) bA (by rfl) 36 #[.int .i64 2,.string ⟨#[]⟩,.int .i64 D.op,.int .i64 D.kd,.int .i64 D.id,.int .i64 D.fr,.int .i64 D.tn,.int .i64 D.st,.int .i64 D.en,.int .i64 D.rt,.int .i64 D.rf,.int .i64 D.rn,.int .i64 D.rs,.int .i64 D.re,.int .i64 D.ro,.int .i64 0,.slice none 0 0,.int .i64 0,.int .i64 0,.int .i64 0,.int .i64 0,.int .i64 0,.int .i64 0,.int .i64 0] (0,0) _ hA' Tryd.underlying36 rfl (by kernel_rfl) ?_) | (refine wpList_store_row (by rfl) 36 (.tmp 2) (.tmp 126) (by rfl) (w.heap.size + 1) #[.int .i64 2,.string ⟨#[]⟩,.int .i64 D.op,.int .i64 D.kd,.int .i64 D.id,.int .i64 D.fr,.int .i64 D.tn,.int .i64 D.st,.int .i64 D.en,.int .i64 D.rt,.int .i64 D.rf,.int .i64 D.rn,.int .i64 D.rs,.int .i64 D.re,.int .i64 D.ro,.int .i64 0,.slice none 0 0,.int .i64 0,.int .i64 0,.int .i64 0,.int .i64 0,.int .i64 0,.int .i64 0,.int .i64 0] (by rfl) (by rfl) 36 #[.int .i64 0,.string ⟨#[]⟩,.int .i64 0,.int .i64 0,.int .i64 0,.int .i64 0,.int .i64 0,.int .i64 0,.int .i64 0,.int .i64 0,.int .i64 0,.int .i64 0,.int .i64 0,.int .i64 0,.int .i64 0,.int .i64 0,.slice none 0 0,.int .i64 0,.int .i64 0,.int .i64 0,.int .i64 0,.int .i64 0,.int .i64 0,.int .i64 0] hR' (by kernel_rfl) rfl (by simp [Value.oneCell']) ?_))
  refine bodyPost_ret (results_cell_row Tryd.results17 _ _ (w.heap.size + 1) 36 #[.int .i64 2,.string ⟨#[]⟩,.int .i64 D.op,.int .i64 D.kd,.int .i64 D.id,.int .i64 D.fr,.int .i64 D.tn,.int .i64 D.st,.int .i64 D.en,.int .i64 D.rt,.int .i64 D.rf,.int .i64 D.rn,.int .i64 D.rs,.int .i64 D.re,.int .i64 D.ro,.int .i64 0,.slice none 0 0,.int .i64 0,.int .i64 0,.int .i64 0,.int .i64 0,.int .i64 0,.int .i64 0,.int .i64 0] (0,0) _ (by rfl) hF Tryd.underlying36 rfl (by kernel_rfl)) rfl ?_
  exact ⟨_,rfl,⟨none,0,0,by rw [← HP.out]; rfl,by rw [← HP.out]; exact own_none _ _ _ _,by rw [← HP.out]; rfl⟩,hWf⟩
end Go.Proofs.YtggdomeeienjbaaDoor

/- The document's own answer for scripts: act, kind 2. No condition but that bytes are bytes. -/
namespace Go.Proofs.YtggdomeeienjbaaDoor
open Go.ChangeShapes Go.WideShapes Go.ChangeAt Go.RowKit Go.Sort
set_option linter.unusedSimpArgs false
set_option linter.unusedVariables false
set_option maxHeartbeats 16000000 in
set_option maxRecDepth 100000 in
theorem r25act_2 (b0 b1 b2 b3 b4 b5 b6 b7 b8 b9:Nat) (w:World) (ht:TenTab w) (h0:b0 < 256) (h1:b1 < 256) (h2:b2 < 256) (h3:b3 < 256) (h4:b4 < 256) (h5:b5 < 256) (h6:b6 < 256) (h7:b7 < 256) (h8:b8 < 256) (h9:b9 < 256) (P:Pa) (hq:b0 % 7 = 2) (hP:(⟨3,[],zeroDr,(b1:Nat),[],0,0,0,0,0,0,0⟩:Pa) = P) :
    Calls Tryd.prog 17 #[.agg #[.int .u8 (b0:Nat),.int .u8 (b1:Nat),.int .u8 (b2:Nat),.int .u8 (b3:Nat),.int .u8 (b4:Nat),.int .u8 (b5:Nat),.int .u8 (b6:Nat),.int .u8 (b7:Nat),.int .u8 (b8:Nat),.int .u8 (b9:Nat)]] w fun e w' => ∃ v,e = .returned v ∧ AV w.heap.size w' v P ∧ Below w.heap.size w w':=by
  have tq0:(b0:Int).tmod 7 = 2:=tmod_is _ 7 _ _ rfl hq
  have vb0:IntKind.i64.wrap (b0:Int) = (b0:Int):=IntWalk.i64_in _ (by omega)
  have vb1:IntKind.i64.wrap (b1:Int) = (b1:Int):=IntWalk.i64_in _ (by omega)
  have vb2:IntKind.i64.wrap (b2:Int) = (b2:Int):=IntWalk.i64_in _ (by omega)
  have vb3:IntKind.i64.wrap (b3:Int) = (b3:Int):=IntWalk.i64_in _ (by omega)
  have vb4:IntKind.i64.wrap (b4:Int) = (b4:Int):=IntWalk.i64_in _ (by omega)
  have vb5:IntKind.i64.wrap (b5:Int) = (b5:Int):=IntWalk.i64_in _ (by omega)
  have v45:IntKind.i64.wrap (4 * (b5:Int)) = 4 * (b5:Int):=IntWalk.i64_in _ (by omega)
  have HP:=Lib.hid hP
  have TT:=Lib.hid ht
  have H0:=Lib.hid h0
  have H1:=Lib.hid h1
  have H2:=Lib.hid h2
  have H3:=Lib.hid h3
  have H4:=Lib.hid h4
  have H5:=Lib.hid h5
  have H6:=Lib.hid h6
  have H7:=Lib.hid h7
  have H8:=Lib.hid h8
  have H9:=Lib.hid h9
  clear hP ht hq  h0 h1 h2 h3 h4 h5 h6 h7 h8 h9
  have hB:Below w.heap.size w ((w.alloc (.cells #[.int .u8 (b0:Nat),.int .u8 (b1:Nat),.int .u8 (b2:Nat),.int .u8 (b3:Nat),.int .u8 (b4:Nat),.int .u8 (b5:Nat),.int .u8 (b6:Nat),.int .u8 (b7:Nat),.int .u8 (b8:Nat),.int .u8 (b9:Nat)] 23)).alloc (.cells #[.int .i64 0,.string ⟨#[]⟩,.int .i64 0,.int .i64 0,.int .i64 0,.int .i64 0,.int .i64 0,.int .i64 0,.int .i64 0,.int .i64 0,.int .i64 0,.int .i64 0,.int .i64 0,.int .i64 0,.int .i64 0,.int .i64 0,.slice none 0 0,.int .i64 0,.int .i64 0,.int .i64 0,.int .i64 0,.int .i64 0,.int .i64 0,.int .i64 0] 36)):=by (repeat (first | exact Below.refl _ _ | refine Below.alloc ?_ (by first | omega | (simp; done) | (simp; omega)) _ | refine Below.setCell ?_ (by first | omega | (simp; done) | (simp; omega)) _ | refine Below.drew ?_))
  have hX:=(Blok.new w 23 #[.int .u8 (b0:Nat),.int .u8 (b1:Nat),.int .u8 (b2:Nat),.int .u8 (b3:Nat),.int .u8 (b4:Nat),.int .u8 (b5:Nat),.int .u8 (b6:Nat),.int .u8 (b7:Nat),.int .u8 (b8:Nat),.int .u8 (b9:Nat)]).alloc (.cells #[.int .i64 0,.string ⟨#[]⟩,.int .i64 0,.int .i64 0,.int .i64 0,.int .i64 0,.int .i64 0,.int .i64 0,.int .i64 0,.int .i64 0,.int .i64 0,.int .i64 0,.int .i64 0,.int .i64 0,.int .i64 0,.int .i64 0,.slice none 0 0,.int .i64 0,.int .i64 0,.int .i64 0,.int .i64 0,.int .i64 0,.int .i64 0,.int .i64 0] 36)
  have hR:=Blok.new (w.alloc (.cells #[.int .u8 (b0:Nat),.int .u8 (b1:Nat),.int .u8 (b2:Nat),.int .u8 (b3:Nat),.int .u8 (b4:Nat),.int .u8 (b5:Nat),.int .u8 (b6:Nat),.int .u8 (b7:Nat),.int .u8 (b8:Nat),.int .u8 (b9:Nat)] 23)) 36 #[.int .i64 0,.string ⟨#[]⟩,.int .i64 0,.int .i64 0,.int .i64 0,.int .i64 0,.int .i64 0,.int .i64 0,.int .i64 0,.int .i64 0,.int .i64 0,.int .i64 0,.int .i64 0,.int .i64 0,.int .i64 0,.int .i64 0,.slice none 0 0,.int .i64 0,.int .i64 0,.int .i64 0,.int .i64 0,.int .i64 0,.int .i64 0,.int .i64 0]
  rw [World.size_alloc] at hR
  have hs:=hB.size
  go_enter Tryd.func17,Tryd.ntmps17
  go_upto_region 1 with fail
  generalize ((w.alloc (.cells #[.int .u8 (b0:Nat),.int .u8 (b1:Nat),.int .u8 (b2:Nat),.int .u8 (b3:Nat),.int .u8 (b4:Nat),.int .u8 (b5:Nat),.int .u8 (b6:Nat),.int .u8 (b7:Nat),.int .u8 (b8:Nat),.int .u8 (b9:Nat)] 23)).alloc (.cells #[.int .i64 0,.string ⟨#[]⟩,.int .i64 0,.int .i64 0,.int .i64 0,.int .i64 0,.int .i64 0,.int .i64 0,.int .i64 0,.int .i64 0,.int .i64 0,.int .i64 0,.int .i64 0,.int .i64 0,.int .i64 0,.int .i64 0,.slice none 0 0,.int .i64 0,.int .i64 0,.int .i64 0,.int .i64 0,.int .i64 0,.int .i64 0,.int .i64 0] 36)) = w1 at *
  have x0:w1.cell? ⟨w.heap.size,0,none⟩ = some (.int .u8 (b0:Nat)):=hX.cell 0
  have lt_x:=hX.lt
  go_upto_region 2 with (first | (refine wpList_store_row (by rfl) 36 (.tmp 3) (.tmp 13) (by rfl) w1.heap.size #[.int .i64 3,.string ⟨#[]⟩,.int .i64 0,.int .i64 0,.int .i64 0,.int .i64 0,.int .i64 0,.int .i64 0,.int .i64 0,.int .i64 0,.int .i64 0,.int .i64 0,.int .i64 0,.int .i64 0,.int .i64 0,.int .i64 0,.slice none 0 0,.int .i64 0,.int .i64 0,.int .i64 0,.int .i64 0,.int .i64 0,.int .i64 0,.int .i64 0] (by rfl) (by rfl) 36 #[.int .i64 0,.string ⟨#[]⟩,.int .i64 0,.int .i64 0,.int .i64 0,.int .i64 0,.int .i64 0,.int .i64 0,.int .i64 0,.int .i64 0,.int .i64 0,.int .i64 0,.int .i64 0,.int .i64 0,.int .i64 0,.int .i64 0,.slice none 0 0,.int .i64 0,.int .i64 0,.int .i64 0,.int .i64 0,.int .i64 0,.int .i64 0,.int .i64 0] (heap_alloc_new _ _) (by kernel_rfl) rfl (by simp [Value.oneCell']) ?_; rw [World.setRow_alloc_new]) | (refine wpList_build_run _ (by rfl) 36 #[(0,.tmp 12)] (by rfl) #[(0,.int .i64 3)] (by rfl) (bact 3 _) ?_))
  clear x0 lt_x
  have hA:=Blok.new w1 36 #[.int .i64 3,.string ⟨#[]⟩,.int .i64 0,.int .i64 0,.int .i64 0,.int .i64 0,.int .i64 0,.int .i64 0,.int .i64 0,.int .i64 0,.int .i64 0,.int .i64 0,.int .i64 0,.int .i64 0,.int .i64 0,.int .i64 0,.slice none 0 0,.int .i64 0,.int .i64 0,.int .i64 0,.int .i64 0,.int .i64 0,.int .i64 0,.int .i64 0]
  have hb:Below w1.heap.size w1 (w1.alloc (.cells #[.int .i64 3,.string ⟨#[]⟩,.int .i64 0,.int .i64 0,.int .i64 0,.int .i64 0,.int .i64 0,.int .i64 0,.int .i64 0,.int .i64 0,.int .i64 0,.int .i64 0,.int .i64 0,.int .i64 0,.int .i64 0,.int .i64 0,.slice none 0 0,.int .i64 0,.int .i64 0,.int .i64 0,.int .i64 0,.int .i64 0,.int .i64 0,.int .i64 0] 36)):=by (repeat (first | exact Below.refl _ _ | refine Below.alloc ?_ (by first | omega | (simp; done) | (simp; omega)) _ | refine Below.setCell ?_ (by first | omega | (simp; done) | (simp; omega)) _ | refine Below.drew ?_))
  have lR:=hR.lt
  replace hX:=hX.below hb hX.lt
  replace hR:=hR.below hb hR.lt
  replace hB:=hB.trans (hb.mono hs)
  replace hs:=hB.size
  clear hb
  generalize w1.alloc (.cells #[.int .i64 3,.string ⟨#[]⟩,.int .i64 0,.int .i64 0,.int .i64 0,.int .i64 0,.int .i64 0,.int .i64 0,.int .i64 0,.int .i64 0,.int .i64 0,.int .i64 0,.int .i64 0,.int .i64 0,.int .i64 0,.int .i64 0,.slice none 0 0,.int .i64 0,.int .i64 0,.int .i64 0,.int .i64 0,.int .i64 0,.int .i64 0,.int .i64 0] 36) = w2 at *
  generalize w1.heap.size = bA at *
  have k0:w2.cell? ⟨bA,0,none⟩ = some (.int .i64 3):=hA.cell 0
  have k1:w2.cell? ⟨bA,1,none⟩ = some (.string ⟨#[]⟩):=hA.cell 1
  have k2:w2.cell? ⟨bA,2,none⟩ = some (.int .i64 0):=hA.cell 2
  have k3:w2.cell? ⟨bA,3,none⟩ = some (.int .i64 0):=hA.cell 3
  have k4:w2.cell? ⟨bA,4,none⟩ = some (.int .i64 0):=hA.cell 4
  have k5:w2.cell? ⟨bA,5,none⟩ = some (.int .i64 0):=hA.cell 5
  have k6:w2.cell? ⟨bA,6,none⟩ = some (.int .i64 0):=hA.cell 6
  have k7:w2.cell? ⟨bA,7,none⟩ = some (.int .i64 0):=hA.cell 7
  have k8:w2.cell? ⟨bA,8,none⟩ = some (.int .i64 0):=hA.cell 8
  have k9:w2.cell? ⟨bA,9,none⟩ = some (.int .i64 0):=hA.cell 9
  have k10:w2.cell? ⟨bA,10,none⟩ = some (.int .i64 0):=hA.cell 10
  have k11:w2.cell? ⟨bA,11,none⟩ = some (.int .i64 0):=hA.cell 11
  have k12:w2.cell? ⟨bA,12,none⟩ = some (.int .i64 0):=hA.cell 12
  have k13:w2.cell? ⟨bA,13,none⟩ = some (.int .i64 0):=hA.cell 13
  have k14:w2.cell? ⟨bA,14,none⟩ = some (.int .i64 0):=hA.cell 14
  have k15:w2.cell? ⟨bA,15,none⟩ = some (.int .i64 0):=hA.cell 15
  have k16:w2.cell? ⟨bA,16,none⟩ = some (.slice none 0 0):=hA.cell 16
  have k17:w2.cell? ⟨bA,17,none⟩ = some (.int .i64 0):=hA.cell 17
  have k18:w2.cell? ⟨bA,18,none⟩ = some (.int .i64 0):=hA.cell 18
  have k19:w2.cell? ⟨bA,19,none⟩ = some (.int .i64 0):=hA.cell 19
  have k20:w2.cell? ⟨bA,20,none⟩ = some (.int .i64 0):=hA.cell 20
  have k21:w2.cell? ⟨bA,21,none⟩ = some (.int .i64 0):=hA.cell 21
  have k22:w2.cell? ⟨bA,22,none⟩ = some (.int .i64 0):=hA.cell 22
  have k23:w2.cell? ⟨bA,23,none⟩ = some (.int .i64 0):=hA.cell 23
  have lt_k:=hA.lt
  go_upto_region 17 with fail
  clear k0 k1 k2 k3 k4 k5 k6 k7 k8 k9 k10 k11 k12 k13 k14 k15 k16 k17 k18 k19 k20 k21 k22 k23 lt_k
  have x1:w2.cell? ⟨w.heap.size,1,none⟩ = some (.int .u8 (b1:Nat)):=hX.cell 1
  have lt_x:=hX.lt
  have k0:w2.cell? ⟨bA,0,none⟩ = some (.int .i64 3):=hA.cell 0
  have g0:=hA.free 0
  have k1:w2.cell? ⟨bA,1,none⟩ = some (.string ⟨#[]⟩):=hA.cell 1
  have g1:=hA.free 1
  have k2:w2.cell? ⟨bA,2,none⟩ = some (.int .i64 0):=hA.cell 2
  have g2:=hA.free 2
  have k3:w2.cell? ⟨bA,3,none⟩ = some (.int .i64 0):=hA.cell 3
  have g3:=hA.free 3
  have k4:w2.cell? ⟨bA,4,none⟩ = some (.int .i64 0):=hA.cell 4
  have g4:=hA.free 4
  have k5:w2.cell? ⟨bA,5,none⟩ = some (.int .i64 0):=hA.cell 5
  have g5:=hA.free 5
  have k6:w2.cell? ⟨bA,6,none⟩ = some (.int .i64 0):=hA.cell 6
  have g6:=hA.free 6
  have k7:w2.cell? ⟨bA,7,none⟩ = some (.int .i64 0):=hA.cell 7
  have g7:=hA.free 7
  have k8:w2.cell? ⟨bA,8,none⟩ = some (.int .i64 0):=hA.cell 8
  have g8:=hA.free 8
  have k9:w2.cell? ⟨bA,9,none⟩ = some (.int .i64 0):=hA.cell 9
  have g9:=hA.free 9
  have k10:w2.cell? ⟨bA,10,none⟩ = some (.int .i64 0):=hA.cell 10
  have g10:=hA.free 10
  have k11:w2.cell? ⟨bA,11,none⟩ = some (.int .i64 0):=hA.cell 11
  have g11:=hA.free 11
  have k12:w2.cell? ⟨bA,12,none⟩ = some (.int .i64 0):=hA.cell 12
  have g12:=hA.free 12
  have k13:w2.cell? ⟨bA,13,none⟩ = some (.int .i64 0):=hA.cell 13
  have g13:=hA.free 13
  have k14:w2.cell? ⟨bA,14,none⟩ = some (.int .i64 0):=hA.cell 14
  have g14:=hA.free 14
  have k15:w2.cell? ⟨bA,15,none⟩ = some (.int .i64 0):=hA.cell 15
  have g15:=hA.free 15
  have k16:w2.cell? ⟨bA,16,none⟩ = some (.slice none 0 0):=hA.cell 16
  have g16:=hA.free 16
  have k17:w2.cell? ⟨bA,17,none⟩ = some (.int .i64 0):=hA.cell 17
  have g17:=hA.free 17
  have k18:w2.cell? ⟨bA,18,none⟩ = some (.int .i64 0):=hA.cell 18
  have g18:=hA.free 18
  have k19:w2.cell? ⟨bA,19,none⟩ = some (.int .i64 0):=hA.cell 19
  have g19:=hA.free 19
  have k20:w2.cell? ⟨bA,20,none⟩ = some (.int .i64 0):=hA.cell 20
  have g20:=hA.free 20
  have k21:w2.cell? ⟨bA,21,none⟩ = some (.int .i64 0):=hA.cell 21
  have g21:=hA.free 21
  have k22:w2.cell? ⟨bA,22,none⟩ = some (.int .i64 0):=hA.cell 22
  have g22:=hA.free 22
  have k23:w2.cell? ⟨bA,23,none⟩ = some (.int .i64 0):=hA.cell 23
  have g23:=hA.free 23
  have lt_k:=hA.lt
  go_upto_region 27 with fail
  clear k0 g0 k1 g1 k2 g2 k3 g3 k4 g4 k5 g5 k6 g6 k7 g7 k8 g8 k9 g9 k10 g10 k11 g11 k12 g12 k13 g13 k14 g14 k15 g15 k16 g16 k17 g17 k18 g18 k19 g19 k20 g20 k21 g21 k22 g22 k23 g23 lt_k
  clear x1 lt_x
  have hA2:Blok (w2.setCell ⟨bA,15,none⟩ (.int .i64 (b1:Int))) bA 36 #[.int .i64 3,.string ⟨#[]⟩,.int .i64 0,.int .i64 0,.int .i64 0,.int .i64 0,.int .i64 0,.int .i64 0,.int .i64 0,.int .i64 0,.int .i64 0,.int .i64 0,.int .i64 0,.int .i64 0,.int .i64 0,.int .i64 (b1:Int),.slice none 0 0,.int .i64 0,.int .i64 0,.int .i64 0,.int .i64 0,.int .i64 0,.int .i64 0,.int .i64 0]:=by exact (hA.set_ 15 (.int .i64 (b1:Int)))
  replace hX:=(hX.far (p:=⟨bA,15,none⟩) (by simp only; omega) (.int .i64 (b1:Int)))
  replace hR:=(hR.far (p:=⟨bA,15,none⟩) (by simp only; omega) (.int .i64 (b1:Int)))
  replace hB:=(hB.setCell (p:=⟨bA,15,none⟩) (by simp only; omega) (.int .i64 (b1:Int)))
  replace hs:=hB.size
  clear hA
  have hA:=hA2
  clear hA2
  generalize (w2.setCell ⟨bA,15,none⟩ (.int .i64 (b1:Int))) = w4 at *
  have hF:=setRow_heap w4 (w.heap.size + 1) #[.int .i64 0,.string ⟨#[]⟩,.int .i64 0,.int .i64 0,.int .i64 0,.int .i64 0,.int .i64 0,.int .i64 0,.int .i64 0,.int .i64 0,.int .i64 0,.int .i64 0,.int .i64 0,.int .i64 0,.int .i64 0,.int .i64 0,.slice none 0 0,.int .i64 0,.int .i64 0,.int .i64 0,.int .i64 0,.int .i64 0,.int .i64 0,.int .i64 0] #[.int .i64 3,.string ⟨#[]⟩,.int .i64 0,.int .i64 0,.int .i64 0,.int .i64 0,.int .i64 0,.int .i64 0,.int .i64 0,.int .i64 0,.int .i64 0,.int .i64 0,.int .i64 0,.int .i64 0,.int .i64 0,.int .i64 (b1:Int),.slice none 0 0,.int .i64 0,.int .i64 0,.int .i64 0,.int .i64 0,.int .i64 0,.int .i64 0,.int .i64 0] 36 (0,0) hR
  have hWf:=below_setRow hB (g:=w.heap.size + 1) (by omega) #[.int .i64 3,.string ⟨#[]⟩,.int .i64 0,.int .i64 0,.int .i64 0,.int .i64 0,.int .i64 0,.int .i64 0,.int .i64 0,.int .i64 0,.int .i64 0,.int .i64 0,.int .i64 0,.int .i64 0,.int .i64 0,.int .i64 (b1:Int),.slice none 0 0,.int .i64 0,.int .i64 0,.int .i64 0,.int .i64 0,.int .i64 0,.int .i64 0,.int .i64 0]
  have hgw:=grown_setRow w4 (w.heap.size + 1) #[.int .i64 3,.string ⟨#[]⟩,.int .i64 0,.int .i64 0,.int .i64 0,.int .i64 0,.int .i64 0,.int .i64 0,.int .i64 0,.int .i64 0,.int .i64 0,.int .i64 0,.int .i64 0,.int .i64 0,.int .i64 0,.int .i64 (b1:Int),.slice none 0 0,.int .i64 0,.int .i64 0,.int .i64 0,.int .i64 0,.int .i64 0,.int .i64 0,.int .i64 0]
  have hA':=hA
  have hR':=hR
  go_wp2_with (first | (refine wpList_load_row (by rfl) 36 (.tmp 3) (by rfl) bA (by rfl) 36 #[.int .i64 3,.string ⟨#[]⟩,.int .i64 0,.int .i64 0,.int .i64 0,.int .i64 0,.int .i64 0,.int .i64 0,.int .i64 0,.int .i64 0,.int .i64 0,.int .i64 0,.int .i64 0,.int .i64 0,.int .i64 0,.int .i64 (b1:Int),.slice none 0 0,.int .i64 0,.int .i64 0,.int .i64 0,.int .i64 0,.int .i64 0,.int .i64 0,.int .i64 0] (0,0) _ hA' Tryd.underlying36 rfl (by kernel_rfl) ?_) | (refine wpList_store_row (by rfl) 36 (.tmp 2) (.tmp 126) (by rfl) (w.heap.size + 1) #[.int .i64 3,.string ⟨#[]⟩,.int .i64 0,.int .i64 0,.int .i64 0,.int .i64 0,.int .i64 0,.int .i64 0,.int .i64 0,.int .i64 0,.int .i64 0,.int .i64 0,.int .i64 0,.int .i64 0,.int .i64 0,.int .i64 (b1:Int),.slice none 0 0,.int .i64 0,.int .i64 0,.int .i64 0,.int .i64 0,.int .i64 0,.int .i64 0,.int .i64 0] (by rfl) (by rfl) 36 #[.int .i64 0,.string ⟨#[]⟩,.int .i64 0,.int .i64 0,.int .i64 0,.int .i64 0,.int .i64 0,.int .i64 0,.int .i64 0,.int .i64 0,.int .i64 0,.int .i64 0,.int .i64 0,.int .i64 0,.int .i64 0,.int .i64 0,.slice none 0 0,.int .i64 0,.int .i64 0,.int .i64 0,.int .i64 0,.int .i64 0,.int .i64 0,.int .i64 0] hR' (by kernel_rfl) rfl (by simp [Value.oneCell']) ?_))
  refine bodyPost_ret (results_cell_row Tryd.results17 _ _ (w.heap.size + 1) 36 #[.int .i64 3,.string ⟨#[]⟩,.int .i64 0,.int .i64 0,.int .i64 0,.int .i64 0,.int .i64 0,.int .i64 0,.int .i64 0,.int .i64 0,.int .i64 0,.int .i64 0,.int .i64 0,.int .i64 0,.int .i64 0,.int .i64 (b1:Int),.slice none 0 0,.int .i64 0,.int .i64 0,.int .i64 0,.int .i64 0,.int .i64 0,.int .i64 0,.int .i64 0] (0,0) _ (by rfl) hF Tryd.underlying36 rfl (by kernel_rfl)) rfl ?_
  exact ⟨_,rfl,⟨none,0,0,by rw [← HP.out]; rfl,by rw [← HP.out]; exact own_none _ _ _ _,by rw [← HP.out]; rfl⟩,hWf⟩
end Go.Proofs.YtggdomeeienjbaaDoor

/- The document's own answer for scripts: act, kind 3. No condition but that bytes are bytes. -/
namespace Go.Proofs.YtggdomeeienjbaaDoor
open Go.ChangeShapes Go.WideShapes Go.ChangeAt Go.RowKit Go.Sort
set_option linter.unusedSimpArgs false
set_option linter.unusedVariables false
set_option maxHeartbeats 16000000 in
set_option maxRecDepth 100000 in
theorem r25act_3 (b0 b1 b2 b3 b4 b5 b6 b7 b8 b9:Nat) (w:World) (ht:TenTab w) (h0:b0 < 256) (h1:b1 < 256) (h2:b2 < 256) (h3:b3 < 256) (h4:b4 < 256) (h5:b5 < 256) (h6:b6 < 256) (h7:b7 < 256) (h8:b8 < 256) (h9:b9 < 256) (P:Pa) (hq:b0 % 7 = 3) (hP:(⟨4,[],zeroDr,0,idsF b1 b2 b3,(b4 % 4:Nat),(b5:Nat),0,0,0,0,0⟩:Pa) = P) :
    Calls Tryd.prog 17 #[.agg #[.int .u8 (b0:Nat),.int .u8 (b1:Nat),.int .u8 (b2:Nat),.int .u8 (b3:Nat),.int .u8 (b4:Nat),.int .u8 (b5:Nat),.int .u8 (b6:Nat),.int .u8 (b7:Nat),.int .u8 (b8:Nat),.int .u8 (b9:Nat)]] w fun e w' => ∃ v,e = .returned v ∧ AV w.heap.size w' v P ∧ Below w.heap.size w w':=by
  have tq0:(b0:Int).tmod 7 = 3:=tmod_is _ 7 _ _ rfl hq
  obtain ⟨q4,eq4⟩:∃ q,b4 % 4 = q:=⟨_,rfl⟩
  have lq4:q4 < 4:=by rw [← eq4]; exact Nat.mod_lt _ (by omega)
  have tq4:(b4:Int).tmod 4 = (q4:Int):=tmod_is _ 4 _ _ rfl eq4
  have xq4:IntKind.i64.wrap (q4:Int) = (q4:Int):=IntWalk.i64_in _ (by omega)
  have wq4:IntKind.i64.wrap (1 + (q4:Int)) = 1 + (q4:Int):=IntWalk.i64_in _ (by omega)
  rw [eq4] at hP
  obtain ⟨q1,eq1⟩:∃ q,b1 % 16 = q:=⟨_,rfl⟩
  have lq1:q1 < 16:=by rw [← eq1]; exact Nat.mod_lt _ (by omega)
  have tq1:(b1:Int).tmod 16 = (q1:Int):=tmod_is _ 16 _ _ rfl eq1
  have xq1:IntKind.i64.wrap (q1:Int) = (q1:Int):=IntWalk.i64_in _ (by omega)
  have wq1:IntKind.i64.wrap (1 + (q1:Int)) = 1 + (q1:Int):=IntWalk.i64_in _ (by omega)
  obtain ⟨q3,eq3⟩:∃ q,b3 % 16 = q:=⟨_,rfl⟩
  have lq3:q3 < 16:=by rw [← eq3]; exact Nat.mod_lt _ (by omega)
  have tq3:(b3:Int).tmod 16 = (q3:Int):=tmod_is _ 16 _ _ rfl eq3
  have xq3:IntKind.i64.wrap (q3:Int) = (q3:Int):=IntWalk.i64_in _ (by omega)
  have wq3:IntKind.i64.wrap (1 + (q3:Int)) = 1 + (q3:Int):=IntWalk.i64_in _ (by omega)
  have vb0:IntKind.i64.wrap (b0:Int) = (b0:Int):=IntWalk.i64_in _ (by omega)
  have vb1:IntKind.i64.wrap (b1:Int) = (b1:Int):=IntWalk.i64_in _ (by omega)
  have vb2:IntKind.i64.wrap (b2:Int) = (b2:Int):=IntWalk.i64_in _ (by omega)
  have vb3:IntKind.i64.wrap (b3:Int) = (b3:Int):=IntWalk.i64_in _ (by omega)
  have vb4:IntKind.i64.wrap (b4:Int) = (b4:Int):=IntWalk.i64_in _ (by omega)
  have vb5:IntKind.i64.wrap (b5:Int) = (b5:Int):=IntWalk.i64_in _ (by omega)
  have v45:IntKind.i64.wrap (4 * (b5:Int)) = 4 * (b5:Int):=IntWalk.i64_in _ (by omega)
  obtain ⟨L,eL⟩:∃ L,idsF b1 b2 b3 = L:=⟨_,rfl⟩
  rw [eL] at hP
  have HL:=Lib.hid (show L = if b2 % 2 = 1 then [(1 + (q1:Int)),(1 + (q3:Int))] else [(1 + (q1:Int))] by rw [← eL,← eq1,← eq3]; unfold idsF; simp)
  clear eL
  obtain ⟨i0,hi0,hz0,hz1,hz2⟩:=info_parts infoI04
  have HP:=Lib.hid hP
  have TT:=Lib.hid ht
  have H0:=Lib.hid h0
  have H1:=Lib.hid h1
  have H2:=Lib.hid h2
  have H3:=Lib.hid h3
  have H4:=Lib.hid h4
  have H5:=Lib.hid h5
  have H6:=Lib.hid h6
  have H7:=Lib.hid h7
  have H8:=Lib.hid h8
  have H9:=Lib.hid h9
  clear hP ht hq eq4 lq4 eq1 lq1 eq3 lq3 h0 h1 h2 h3 h4 h5 h6 h7 h8 h9
  have hB:Below w.heap.size w ((w.alloc (.cells #[.int .u8 (b0:Nat),.int .u8 (b1:Nat),.int .u8 (b2:Nat),.int .u8 (b3:Nat),.int .u8 (b4:Nat),.int .u8 (b5:Nat),.int .u8 (b6:Nat),.int .u8 (b7:Nat),.int .u8 (b8:Nat),.int .u8 (b9:Nat)] 23)).alloc (.cells #[.int .i64 0,.string ⟨#[]⟩,.int .i64 0,.int .i64 0,.int .i64 0,.int .i64 0,.int .i64 0,.int .i64 0,.int .i64 0,.int .i64 0,.int .i64 0,.int .i64 0,.int .i64 0,.int .i64 0,.int .i64 0,.int .i64 0,.slice none 0 0,.int .i64 0,.int .i64 0,.int .i64 0,.int .i64 0,.int .i64 0,.int .i64 0,.int .i64 0] 36)):=by (repeat (first | exact Below.refl _ _ | refine Below.alloc ?_ (by first | omega | (simp; done) | (simp; omega)) _ | refine Below.setCell ?_ (by first | omega | (simp; done) | (simp; omega)) _ | refine Below.drew ?_))
  have hX:=(Blok.new w 23 #[.int .u8 (b0:Nat),.int .u8 (b1:Nat),.int .u8 (b2:Nat),.int .u8 (b3:Nat),.int .u8 (b4:Nat),.int .u8 (b5:Nat),.int .u8 (b6:Nat),.int .u8 (b7:Nat),.int .u8 (b8:Nat),.int .u8 (b9:Nat)]).alloc (.cells #[.int .i64 0,.string ⟨#[]⟩,.int .i64 0,.int .i64 0,.int .i64 0,.int .i64 0,.int .i64 0,.int .i64 0,.int .i64 0,.int .i64 0,.int .i64 0,.int .i64 0,.int .i64 0,.int .i64 0,.int .i64 0,.int .i64 0,.slice none 0 0,.int .i64 0,.int .i64 0,.int .i64 0,.int .i64 0,.int .i64 0,.int .i64 0,.int .i64 0] 36)
  have hR:=Blok.new (w.alloc (.cells #[.int .u8 (b0:Nat),.int .u8 (b1:Nat),.int .u8 (b2:Nat),.int .u8 (b3:Nat),.int .u8 (b4:Nat),.int .u8 (b5:Nat),.int .u8 (b6:Nat),.int .u8 (b7:Nat),.int .u8 (b8:Nat),.int .u8 (b9:Nat)] 23)) 36 #[.int .i64 0,.string ⟨#[]⟩,.int .i64 0,.int .i64 0,.int .i64 0,.int .i64 0,.int .i64 0,.int .i64 0,.int .i64 0,.int .i64 0,.int .i64 0,.int .i64 0,.int .i64 0,.int .i64 0,.int .i64 0,.int .i64 0,.slice none 0 0,.int .i64 0,.int .i64 0,.int .i64 0,.int .i64 0,.int .i64 0,.int .i64 0,.int .i64 0]
  rw [World.size_alloc] at hR
  have hs:=hB.size
  go_enter Tryd.func17,Tryd.ntmps17
  go_upto_region 1 with fail
  generalize ((w.alloc (.cells #[.int .u8 (b0:Nat),.int .u8 (b1:Nat),.int .u8 (b2:Nat),.int .u8 (b3:Nat),.int .u8 (b4:Nat),.int .u8 (b5:Nat),.int .u8 (b6:Nat),.int .u8 (b7:Nat),.int .u8 (b8:Nat),.int .u8 (b9:Nat)] 23)).alloc (.cells #[.int .i64 0,.string ⟨#[]⟩,.int .i64 0,.int .i64 0,.int .i64 0,.int .i64 0,.int .i64 0,.int .i64 0,.int .i64 0,.int .i64 0,.int .i64 0,.int .i64 0,.int .i64 0,.int .i64 0,.int .i64 0,.int .i64 0,.slice none 0 0,.int .i64 0,.int .i64 0,.int .i64 0,.int .i64 0,.int .i64 0,.int .i64 0,.int .i64 0] 36)) = w1 at *
  have x0:w1.cell? ⟨w.heap.size,0,none⟩ = some (.int .u8 (b0:Nat)):=hX.cell 0
  have lt_x:=hX.lt
  go_upto_region 2 with (first | (refine wpList_store_row (by rfl) 36 (.tmp 3) (.tmp 13) (by rfl) w1.heap.size #[.int .i64 4,.string ⟨#[]⟩,.int .i64 0,.int .i64 0,.int .i64 0,.int .i64 0,.int .i64 0,.int .i64 0,.int .i64 0,.int .i64 0,.int .i64 0,.int .i64 0,.int .i64 0,.int .i64 0,.int .i64 0,.int .i64 0,.slice none 0 0,.int .i64 0,.int .i64 0,.int .i64 0,.int .i64 0,.int .i64 0,.int .i64 0,.int .i64 0] (by rfl) (by rfl) 36 #[.int .i64 0,.string ⟨#[]⟩,.int .i64 0,.int .i64 0,.int .i64 0,.int .i64 0,.int .i64 0,.int .i64 0,.int .i64 0,.int .i64 0,.int .i64 0,.int .i64 0,.int .i64 0,.int .i64 0,.int .i64 0,.int .i64 0,.slice none 0 0,.int .i64 0,.int .i64 0,.int .i64 0,.int .i64 0,.int .i64 0,.int .i64 0,.int .i64 0] (heap_alloc_new _ _) (by kernel_rfl) rfl (by simp [Value.oneCell']) ?_; rw [World.setRow_alloc_new]) | (refine wpList_build_run _ (by rfl) 36 #[(0,.tmp 12)] (by rfl) #[(0,.int .i64 4)] (by rfl) (bact 4 _) ?_))
  clear x0 lt_x
  have hA:=Blok.new w1 36 #[.int .i64 4,.string ⟨#[]⟩,.int .i64 0,.int .i64 0,.int .i64 0,.int .i64 0,.int .i64 0,.int .i64 0,.int .i64 0,.int .i64 0,.int .i64 0,.int .i64 0,.int .i64 0,.int .i64 0,.int .i64 0,.int .i64 0,.slice none 0 0,.int .i64 0,.int .i64 0,.int .i64 0,.int .i64 0,.int .i64 0,.int .i64 0,.int .i64 0]
  have hb:Below w1.heap.size w1 (w1.alloc (.cells #[.int .i64 4,.string ⟨#[]⟩,.int .i64 0,.int .i64 0,.int .i64 0,.int .i64 0,.int .i64 0,.int .i64 0,.int .i64 0,.int .i64 0,.int .i64 0,.int .i64 0,.int .i64 0,.int .i64 0,.int .i64 0,.int .i64 0,.slice none 0 0,.int .i64 0,.int .i64 0,.int .i64 0,.int .i64 0,.int .i64 0,.int .i64 0,.int .i64 0] 36)):=by (repeat (first | exact Below.refl _ _ | refine Below.alloc ?_ (by first | omega | (simp; done) | (simp; omega)) _ | refine Below.setCell ?_ (by first | omega | (simp; done) | (simp; omega)) _ | refine Below.drew ?_))
  have lR:=hR.lt
  replace hX:=hX.below hb hX.lt
  replace hR:=hR.below hb hR.lt
  replace hB:=hB.trans (hb.mono hs)
  replace hs:=hB.size
  clear hb
  generalize w1.alloc (.cells #[.int .i64 4,.string ⟨#[]⟩,.int .i64 0,.int .i64 0,.int .i64 0,.int .i64 0,.int .i64 0,.int .i64 0,.int .i64 0,.int .i64 0,.int .i64 0,.int .i64 0,.int .i64 0,.int .i64 0,.int .i64 0,.int .i64 0,.slice none 0 0,.int .i64 0,.int .i64 0,.int .i64 0,.int .i64 0,.int .i64 0,.int .i64 0,.int .i64 0] 36) = w2 at *
  generalize w1.heap.size = bA at *
  have k0:w2.cell? ⟨bA,0,none⟩ = some (.int .i64 4):=hA.cell 0
  have k1:w2.cell? ⟨bA,1,none⟩ = some (.string ⟨#[]⟩):=hA.cell 1
  have k2:w2.cell? ⟨bA,2,none⟩ = some (.int .i64 0):=hA.cell 2
  have k3:w2.cell? ⟨bA,3,none⟩ = some (.int .i64 0):=hA.cell 3
  have k4:w2.cell? ⟨bA,4,none⟩ = some (.int .i64 0):=hA.cell 4
  have k5:w2.cell? ⟨bA,5,none⟩ = some (.int .i64 0):=hA.cell 5
  have k6:w2.cell? ⟨bA,6,none⟩ = some (.int .i64 0):=hA.cell 6
  have k7:w2.cell? ⟨bA,7,none⟩ = some (.int .i64 0):=hA.cell 7
  have k8:w2.cell? ⟨bA,8,none⟩ = some (.int .i64 0):=hA.cell 8
  have k9:w2.cell? ⟨bA,9,none⟩ = some (.int .i64 0):=hA.cell 9
  have k10:w2.cell? ⟨bA,10,none⟩ = some (.int .i64 0):=hA.cell 10
  have k11:w2.cell? ⟨bA,11,none⟩ = some (.int .i64 0):=hA.cell 11
  have k12:w2.cell? ⟨bA,12,none⟩ = some (.int .i64 0):=hA.cell 12
  have k13:w2.cell? ⟨bA,13,none⟩ = some (.int .i64 0):=hA.cell 13
  have k14:w2.cell? ⟨bA,14,none⟩ = some (.int .i64 0):=hA.cell 14
  have k15:w2.cell? ⟨bA,15,none⟩ = some (.int .i64 0):=hA.cell 15
  have k16:w2.cell? ⟨bA,16,none⟩ = some (.slice none 0 0):=hA.cell 16
  have k17:w2.cell? ⟨bA,17,none⟩ = some (.int .i64 0):=hA.cell 17
  have k18:w2.cell? ⟨bA,18,none⟩ = some (.int .i64 0):=hA.cell 18
  have k19:w2.cell? ⟨bA,19,none⟩ = some (.int .i64 0):=hA.cell 19
  have k20:w2.cell? ⟨bA,20,none⟩ = some (.int .i64 0):=hA.cell 20
  have k21:w2.cell? ⟨bA,21,none⟩ = some (.int .i64 0):=hA.cell 21
  have k22:w2.cell? ⟨bA,22,none⟩ = some (.int .i64 0):=hA.cell 22
  have k23:w2.cell? ⟨bA,23,none⟩ = some (.int .i64 0):=hA.cell 23
  have lt_k:=hA.lt
  go_upto_region 20 with fail
  clear k0 k1 k2 k3 k4 k5 k6 k7 k8 k9 k10 k11 k12 k13 k14 k15 k16 k17 k18 k19 k20 k21 k22 k23 lt_k
  have x1:w2.cell? ⟨w.heap.size,1,none⟩ = some (.int .u8 (b1:Nat)):=hX.cell 1
  have lt_x:=hX.lt
  have k0:w2.cell? ⟨bA,0,none⟩ = some (.int .i64 4):=hA.cell 0
  have g0:=hA.free 0
  have k1:w2.cell? ⟨bA,1,none⟩ = some (.string ⟨#[]⟩):=hA.cell 1
  have g1:=hA.free 1
  have k2:w2.cell? ⟨bA,2,none⟩ = some (.int .i64 0):=hA.cell 2
  have g2:=hA.free 2
  have k3:w2.cell? ⟨bA,3,none⟩ = some (.int .i64 0):=hA.cell 3
  have g3:=hA.free 3
  have k4:w2.cell? ⟨bA,4,none⟩ = some (.int .i64 0):=hA.cell 4
  have g4:=hA.free 4
  have k5:w2.cell? ⟨bA,5,none⟩ = some (.int .i64 0):=hA.cell 5
  have g5:=hA.free 5
  have k6:w2.cell? ⟨bA,6,none⟩ = some (.int .i64 0):=hA.cell 6
  have g6:=hA.free 6
  have k7:w2.cell? ⟨bA,7,none⟩ = some (.int .i64 0):=hA.cell 7
  have g7:=hA.free 7
  have k8:w2.cell? ⟨bA,8,none⟩ = some (.int .i64 0):=hA.cell 8
  have g8:=hA.free 8
  have k9:w2.cell? ⟨bA,9,none⟩ = some (.int .i64 0):=hA.cell 9
  have g9:=hA.free 9
  have k10:w2.cell? ⟨bA,10,none⟩ = some (.int .i64 0):=hA.cell 10
  have g10:=hA.free 10
  have k11:w2.cell? ⟨bA,11,none⟩ = some (.int .i64 0):=hA.cell 11
  have g11:=hA.free 11
  have k12:w2.cell? ⟨bA,12,none⟩ = some (.int .i64 0):=hA.cell 12
  have g12:=hA.free 12
  have k13:w2.cell? ⟨bA,13,none⟩ = some (.int .i64 0):=hA.cell 13
  have g13:=hA.free 13
  have k14:w2.cell? ⟨bA,14,none⟩ = some (.int .i64 0):=hA.cell 14
  have g14:=hA.free 14
  have k15:w2.cell? ⟨bA,15,none⟩ = some (.int .i64 0):=hA.cell 15
  have g15:=hA.free 15
  have k16:w2.cell? ⟨bA,16,none⟩ = some (.slice none 0 0):=hA.cell 16
  have g16:=hA.free 16
  have k17:w2.cell? ⟨bA,17,none⟩ = some (.int .i64 0):=hA.cell 17
  have g17:=hA.free 17
  have k18:w2.cell? ⟨bA,18,none⟩ = some (.int .i64 0):=hA.cell 18
  have g18:=hA.free 18
  have k19:w2.cell? ⟨bA,19,none⟩ = some (.int .i64 0):=hA.cell 19
  have g19:=hA.free 19
  have k20:w2.cell? ⟨bA,20,none⟩ = some (.int .i64 0):=hA.cell 20
  have g20:=hA.free 20
  have k21:w2.cell? ⟨bA,21,none⟩ = some (.int .i64 0):=hA.cell 21
  have g21:=hA.free 21
  have k22:w2.cell? ⟨bA,22,none⟩ = some (.int .i64 0):=hA.cell 22
  have g22:=hA.free 22
  have k23:w2.cell? ⟨bA,23,none⟩ = some (.int .i64 0):=hA.cell 23
  have g23:=hA.free 23
  have lt_k:=hA.lt
  go_upto_region 21 with fail
  clear k0 g0 k1 g1 k2 g2 k3 g3 k4 g4 k5 g5 k6 g6 k7 g7 k8 g8 k9 g9 k10 g10 k11 g11 k12 g12 k13 g13 k14 g14 k15 g15 k16 g16 k17 g17 k18 g18 k19 g19 k20 g20 k21 g21 k22 g22 k23 g23 lt_k
  clear x1 lt_x
  have hgs:(w2.setCell ⟨bA,16,none⟩ (.slice (some ⟨w2.heap.size,0,none⟩) 1 1)).heap.size = w2.heap.size:=by simp
  have hA2:Blok (w2.setCell ⟨bA,16,none⟩ (.slice (some ⟨w2.heap.size,0,none⟩) 1 1)) bA 36 #[.int .i64 4,.string ⟨#[]⟩,.int .i64 0,.int .i64 0,.int .i64 0,.int .i64 0,.int .i64 0,.int .i64 0,.int .i64 0,.int .i64 0,.int .i64 0,.int .i64 0,.int .i64 0,.int .i64 0,.int .i64 0,.int .i64 0,.slice (some ⟨w2.heap.size,0,none⟩) 1 1,.int .i64 0,.int .i64 0,.int .i64 0,.int .i64 0,.int .i64 0,.int .i64 0,.int .i64 0]:=by exact (hA.set_ 16 (.slice (some ⟨w2.heap.size,0,none⟩) 1 1))
  replace hX:=(hX.far (p:=⟨bA,16,none⟩) (by simp only; omega) (.slice (some ⟨w2.heap.size,0,none⟩) 1 1))
  replace hR:=(hR.far (p:=⟨bA,16,none⟩) (by simp only; omega) (.slice (some ⟨w2.heap.size,0,none⟩) 1 1))
  replace hB:=(hB.setCell (p:=⟨bA,16,none⟩) (by simp only; omega) (.slice (some ⟨w2.heap.size,0,none⟩) 1 1))
  replace hs:=hB.size
  clear hA
  have hA:=hA2
  clear hA2
  generalize (w2.setCell ⟨bA,16,none⟩ (.slice (some ⟨w2.heap.size,0,none⟩) 1 1)) = w3 at *
  have ho:=own_lit w3 w.heap.size 3 1 1 #[.int .i64 (1 + (q1:Int))] hs rfl (by simp [maxLen])
  have hb:Below w3.heap.size w3 (w3.alloc (.cells #[.int .i64 (1 + (q1:Int))] 3)):=by (repeat (first | exact Below.refl _ _ | refine Below.alloc ?_ (by first | omega | (simp; done) | (simp; omega)) _ | refine Below.setCell ?_ (by first | omega | (simp; done) | (simp; omega)) _ | refine Below.drew ?_))
  replace hX:=hX.below hb hX.lt
  replace hR:=hR.below hb hR.lt
  replace hA:=hA.below hb hA.lt
  replace hB:=hB.trans (hb.mono hs)
  replace hs:=hB.size
  clear hb
  generalize w3.alloc (.cells #[.int .i64 (1 + (q1:Int))] 3) = w4 at *
  rw [hgs] at ho
  clear hgs
  generalize w2.heap.size = gI at *
  have hne:=Blok.ne_own ho hA (by decide)
  have hne2:=Blok.ne_own ho hR (by decide)
  have t2:(b2:Int).tmod (2:Int) = ((b2 % 2:Nat):Int):=tmod_nat b2 2
  rcases Nat.mod_two_eq_zero_or_one b2 with hb2 | hb2
  all_goals rw [hb2] at t2
  · replace t2:(b2:Int).tmod (2:Int) = 0:=t2
    have hL:L = [(1 + (q1:Int))]:=by rw [HL.out,if_neg (by omega)]
    subst hL
    have x2:w4.cell? ⟨w.heap.size,2,none⟩ = some (.int .u8 (b2:Nat)):=hX.cell 2
    have x4:w4.cell? ⟨w.heap.size,4,none⟩ = some (.int .u8 (b4:Nat)):=hX.cell 4
    have x5:w4.cell? ⟨w.heap.size,5,none⟩ = some (.int .u8 (b5:Nat)):=hX.cell 5
    have lt_x:=hX.lt
    have k0:w4.cell? ⟨bA,0,none⟩ = some (.int .i64 4):=hA.cell 0
    have g0:=hA.free 0
    have k1:w4.cell? ⟨bA,1,none⟩ = some (.string ⟨#[]⟩):=hA.cell 1
    have g1:=hA.free 1
    have k2:w4.cell? ⟨bA,2,none⟩ = some (.int .i64 0):=hA.cell 2
    have g2:=hA.free 2
    have k3:w4.cell? ⟨bA,3,none⟩ = some (.int .i64 0):=hA.cell 3
    have g3:=hA.free 3
    have k4:w4.cell? ⟨bA,4,none⟩ = some (.int .i64 0):=hA.cell 4
    have g4:=hA.free 4
    have k5:w4.cell? ⟨bA,5,none⟩ = some (.int .i64 0):=hA.cell 5
    have g5:=hA.free 5
    have k6:w4.cell? ⟨bA,6,none⟩ = some (.int .i64 0):=hA.cell 6
    have g6:=hA.free 6
    have k7:w4.cell? ⟨bA,7,none⟩ = some (.int .i64 0):=hA.cell 7
    have g7:=hA.free 7
    have k8:w4.cell? ⟨bA,8,none⟩ = some (.int .i64 0):=hA.cell 8
    have g8:=hA.free 8
    have k9:w4.cell? ⟨bA,9,none⟩ = some (.int .i64 0):=hA.cell 9
    have g9:=hA.free 9
    have k10:w4.cell? ⟨bA,10,none⟩ = some (.int .i64 0):=hA.cell 10
    have g10:=hA.free 10
    have k11:w4.cell? ⟨bA,11,none⟩ = some (.int .i64 0):=hA.cell 11
    have g11:=hA.free 11
    have k12:w4.cell? ⟨bA,12,none⟩ = some (.int .i64 0):=hA.cell 12
    have g12:=hA.free 12
    have k13:w4.cell? ⟨bA,13,none⟩ = some (.int .i64 0):=hA.cell 13
    have g13:=hA.free 13
    have k14:w4.cell? ⟨bA,14,none⟩ = some (.int .i64 0):=hA.cell 14
    have g14:=hA.free 14
    have k15:w4.cell? ⟨bA,15,none⟩ = some (.int .i64 0):=hA.cell 15
    have g15:=hA.free 15
    have k16:w4.cell? ⟨bA,16,none⟩ = some (.slice (some ⟨gI,0,none⟩) 1 1):=hA.cell 16
    have g16:=hA.free 16
    have k17:w4.cell? ⟨bA,17,none⟩ = some (.int .i64 0):=hA.cell 17
    have g17:=hA.free 17
    have k18:w4.cell? ⟨bA,18,none⟩ = some (.int .i64 0):=hA.cell 18
    have g18:=hA.free 18
    have k19:w4.cell? ⟨bA,19,none⟩ = some (.int .i64 0):=hA.cell 19
    have g19:=hA.free 19
    have k20:w4.cell? ⟨bA,20,none⟩ = some (.int .i64 0):=hA.cell 20
    have g20:=hA.free 20
    have k21:w4.cell? ⟨bA,21,none⟩ = some (.int .i64 0):=hA.cell 21
    have g21:=hA.free 21
    have k22:w4.cell? ⟨bA,22,none⟩ = some (.int .i64 0):=hA.cell 22
    have g22:=hA.free 22
    have k23:w4.cell? ⟨bA,23,none⟩ = some (.int .i64 0):=hA.cell 23
    have g23:=hA.free 23
    have lt_k:=hA.lt
    go_upto_region 27 with fail
    clear k0 g0 k1 g1 k2 g2 k3 g3 k4 g4 k5 g5 k6 g6 k7 g7 k8 g8 k9 g9 k10 g10 k11 g11 k12 g12 k13 g13 k14 g14 k15 g15 k16 g16 k17 g17 k18 g18 k19 g19 k20 g20 k21 g21 k22 g22 k23 g23 lt_k
    clear x2 x4 x5 lt_x
    have hown:=ho
    have ho4:=ownsRow_setCell_other (ownsRow_setCell_other hown (a:=⟨bA,17,none⟩) hne (.int .i64 (q4:Int))) (a:=⟨bA,18,none⟩) hne (.int .i64 (b5:Int))
    clear hown ho
    have hown:=ho4
    clear ho4
    have hA2:Blok ((w4.setCell ⟨bA,17,none⟩ (.int .i64 (q4:Int))).setCell ⟨bA,18,none⟩ (.int .i64 (b5:Int))) bA 36 #[.int .i64 4,.string ⟨#[]⟩,.int .i64 0,.int .i64 0,.int .i64 0,.int .i64 0,.int .i64 0,.int .i64 0,.int .i64 0,.int .i64 0,.int .i64 0,.int .i64 0,.int .i64 0,.int .i64 0,.int .i64 0,.int .i64 0,.slice (some ⟨gI,0,none⟩) 1 1,.int .i64 (q4:Int),.int .i64 (b5:Int),.int .i64 0,.int .i64 0,.int .i64 0,.int .i64 0,.int .i64 0]:=by exact ((hA.set_ 17 (.int .i64 (q4:Int))).set_ 18 (.int .i64 (b5:Int)))
    replace hX:=((hX.far (p:=⟨bA,17,none⟩) (by simp only; omega) (.int .i64 (q4:Int))).far (p:=⟨bA,18,none⟩) (by simp only; omega) (.int .i64 (b5:Int)))
    replace hR:=((hR.far (p:=⟨bA,17,none⟩) (by simp only; omega) (.int .i64 (q4:Int))).far (p:=⟨bA,18,none⟩) (by simp only; omega) (.int .i64 (b5:Int)))
    replace hB:=((hB.setCell (p:=⟨bA,17,none⟩) (by simp only; omega) (.int .i64 (q4:Int))).setCell (p:=⟨bA,18,none⟩) (by simp only; omega) (.int .i64 (b5:Int)))
    replace hs:=hB.size
    clear hA
    have hA:=hA2
    clear hA2
    generalize ((w4.setCell ⟨bA,17,none⟩ (.int .i64 (q4:Int))).setCell ⟨bA,18,none⟩ (.int .i64 (b5:Int))) = w9 at *
    have hown2:w9.ownsRow w.heap.size 3 1 (.slice (some ⟨gI,0,none⟩) 1 1) 1 [.int .i64 (1 + (q1:Int))]:=hown
    clear hown
    have hown:=hown2
    clear hown2
    have hF:=setRow_heap w9 (w.heap.size + 1) #[.int .i64 0,.string ⟨#[]⟩,.int .i64 0,.int .i64 0,.int .i64 0,.int .i64 0,.int .i64 0,.int .i64 0,.int .i64 0,.int .i64 0,.int .i64 0,.int .i64 0,.int .i64 0,.int .i64 0,.int .i64 0,.int .i64 0,.slice none 0 0,.int .i64 0,.int .i64 0,.int .i64 0,.int .i64 0,.int .i64 0,.int .i64 0,.int .i64 0] #[.int .i64 4,.string ⟨#[]⟩,.int .i64 0,.int .i64 0,.int .i64 0,.int .i64 0,.int .i64 0,.int .i64 0,.int .i64 0,.int .i64 0,.int .i64 0,.int .i64 0,.int .i64 0,.int .i64 0,.int .i64 0,.int .i64 0,.slice (some ⟨gI,0,none⟩) 1 1,.int .i64 (q4:Int),.int .i64 (b5:Int),.int .i64 0,.int .i64 0,.int .i64 0,.int .i64 0,.int .i64 0] 36 (0,0) hR
    have hWf:=below_setRow hB (g:=w.heap.size + 1) (by omega) #[.int .i64 4,.string ⟨#[]⟩,.int .i64 0,.int .i64 0,.int .i64 0,.int .i64 0,.int .i64 0,.int .i64 0,.int .i64 0,.int .i64 0,.int .i64 0,.int .i64 0,.int .i64 0,.int .i64 0,.int .i64 0,.int .i64 0,.slice (some ⟨gI,0,none⟩) 1 1,.int .i64 (q4:Int),.int .i64 (b5:Int),.int .i64 0,.int .i64 0,.int .i64 0,.int .i64 0,.int .i64 0]
    have hgw:=grown_setRow w9 (w.heap.size + 1) #[.int .i64 4,.string ⟨#[]⟩,.int .i64 0,.int .i64 0,.int .i64 0,.int .i64 0,.int .i64 0,.int .i64 0,.int .i64 0,.int .i64 0,.int .i64 0,.int .i64 0,.int .i64 0,.int .i64 0,.int .i64 0,.int .i64 0,.slice (some ⟨gI,0,none⟩) 1 1,.int .i64 (q4:Int),.int .i64 (b5:Int),.int .i64 0,.int .i64 0,.int .i64 0,.int .i64 0,.int .i64 0]
    have hA':=hA
    have hR':=hR
    go_wp2_with (first | (refine wpList_load_row (by rfl) 36 (.tmp 3) (by rfl) bA (by rfl) 36 #[.int .i64 4,.string ⟨#[]⟩,.int .i64 0,.int .i64 0,.int .i64 0,.int .i64 0,.int .i64 0,.int .i64 0,.int .i64 0,.int .i64 0,.int .i64 0,.int .i64 0,.int .i64 0,.int .i64 0,.int .i64 0,.int .i64 0,.slice (some ⟨gI,0,none⟩) 1 1,.int .i64 (q4:Int),.int .i64 (b5:Int),.int .i64 0,.int .i64 0,.int .i64 0,.int .i64 0,.int .i64 0] (0,0) _ hA' Tryd.underlying36 rfl (by kernel_rfl) ?_) | (refine wpList_store_row (by rfl) 36 (.tmp 2) (.tmp 126) (by rfl) (w.heap.size + 1) #[.int .i64 4,.string ⟨#[]⟩,.int .i64 0,.int .i64 0,.int .i64 0,.int .i64 0,.int .i64 0,.int .i64 0,.int .i64 0,.int .i64 0,.int .i64 0,.int .i64 0,.int .i64 0,.int .i64 0,.int .i64 0,.int .i64 0,.slice (some ⟨gI,0,none⟩) 1 1,.int .i64 (q4:Int),.int .i64 (b5:Int),.int .i64 0,.int .i64 0,.int .i64 0,.int .i64 0,.int .i64 0] (by rfl) (by rfl) 36 #[.int .i64 0,.string ⟨#[]⟩,.int .i64 0,.int .i64 0,.int .i64 0,.int .i64 0,.int .i64 0,.int .i64 0,.int .i64 0,.int .i64 0,.int .i64 0,.int .i64 0,.int .i64 0,.int .i64 0,.int .i64 0,.int .i64 0,.slice none 0 0,.int .i64 0,.int .i64 0,.int .i64 0,.int .i64 0,.int .i64 0,.int .i64 0,.int .i64 0] hR' (by kernel_rfl) rfl (by simp [Value.oneCell']) ?_))
    refine bodyPost_ret (results_cell_row Tryd.results17 _ _ (w.heap.size + 1) 36 #[.int .i64 4,.string ⟨#[]⟩,.int .i64 0,.int .i64 0,.int .i64 0,.int .i64 0,.int .i64 0,.int .i64 0,.int .i64 0,.int .i64 0,.int .i64 0,.int .i64 0,.int .i64 0,.int .i64 0,.int .i64 0,.int .i64 0,.slice (some ⟨gI,0,none⟩) 1 1,.int .i64 (q4:Int),.int .i64 (b5:Int),.int .i64 0,.int .i64 0,.int .i64 0,.int .i64 0,.int .i64 0] (0,0) _ (by rfl) hF Tryd.underlying36 rfl (by kernel_rfl)) rfl ?_
    have hwf:=hown.kept hgw (.inr hne2)
    exact ⟨_,rfl,⟨(some ⟨gI,0,none⟩),1,1,by rw [← HP.out]; rfl,by rw [← HP.out]; exact hwf,by rw [← HP.out]; rfl⟩,hWf⟩
  · replace t2:(b2:Int).tmod (2:Int) = 1:=t2
    have hL:L = [(1 + (q1:Int)),(1 + (q3:Int))]:=by rw [HL.out,if_pos hb2]
    subst hL
    have x2:w4.cell? ⟨w.heap.size,2,none⟩ = some (.int .u8 (b2:Nat)):=hX.cell 2
    have lt_x:=hX.lt
    go_upto_region 22 with fail
    clear x2 lt_x
    have x3:w4.cell? ⟨w.heap.size,3,none⟩ = some (.int .u8 (b3:Nat)):=hX.cell 3
    have lt_x:=hX.lt
    have k0:w4.cell? ⟨bA,0,none⟩ = some (.int .i64 4):=hA.cell 0
    have g0:=hA.free 0
    have k1:w4.cell? ⟨bA,1,none⟩ = some (.string ⟨#[]⟩):=hA.cell 1
    have g1:=hA.free 1
    have k2:w4.cell? ⟨bA,2,none⟩ = some (.int .i64 0):=hA.cell 2
    have g2:=hA.free 2
    have k3:w4.cell? ⟨bA,3,none⟩ = some (.int .i64 0):=hA.cell 3
    have g3:=hA.free 3
    have k4:w4.cell? ⟨bA,4,none⟩ = some (.int .i64 0):=hA.cell 4
    have g4:=hA.free 4
    have k5:w4.cell? ⟨bA,5,none⟩ = some (.int .i64 0):=hA.cell 5
    have g5:=hA.free 5
    have k6:w4.cell? ⟨bA,6,none⟩ = some (.int .i64 0):=hA.cell 6
    have g6:=hA.free 6
    have k7:w4.cell? ⟨bA,7,none⟩ = some (.int .i64 0):=hA.cell 7
    have g7:=hA.free 7
    have k8:w4.cell? ⟨bA,8,none⟩ = some (.int .i64 0):=hA.cell 8
    have g8:=hA.free 8
    have k9:w4.cell? ⟨bA,9,none⟩ = some (.int .i64 0):=hA.cell 9
    have g9:=hA.free 9
    have k10:w4.cell? ⟨bA,10,none⟩ = some (.int .i64 0):=hA.cell 10
    have g10:=hA.free 10
    have k11:w4.cell? ⟨bA,11,none⟩ = some (.int .i64 0):=hA.cell 11
    have g11:=hA.free 11
    have k12:w4.cell? ⟨bA,12,none⟩ = some (.int .i64 0):=hA.cell 12
    have g12:=hA.free 12
    have k13:w4.cell? ⟨bA,13,none⟩ = some (.int .i64 0):=hA.cell 13
    have g13:=hA.free 13
    have k14:w4.cell? ⟨bA,14,none⟩ = some (.int .i64 0):=hA.cell 14
    have g14:=hA.free 14
    have k15:w4.cell? ⟨bA,15,none⟩ = some (.int .i64 0):=hA.cell 15
    have g15:=hA.free 15
    have k16:w4.cell? ⟨bA,16,none⟩ = some (.slice (some ⟨gI,0,none⟩) 1 1):=hA.cell 16
    have g16:=hA.free 16
    have k17:w4.cell? ⟨bA,17,none⟩ = some (.int .i64 0):=hA.cell 17
    have g17:=hA.free 17
    have k18:w4.cell? ⟨bA,18,none⟩ = some (.int .i64 0):=hA.cell 18
    have g18:=hA.free 18
    have k19:w4.cell? ⟨bA,19,none⟩ = some (.int .i64 0):=hA.cell 19
    have g19:=hA.free 19
    have k20:w4.cell? ⟨bA,20,none⟩ = some (.int .i64 0):=hA.cell 20
    have g20:=hA.free 20
    have k21:w4.cell? ⟨bA,21,none⟩ = some (.int .i64 0):=hA.cell 21
    have g21:=hA.free 21
    have k22:w4.cell? ⟨bA,22,none⟩ = some (.int .i64 0):=hA.cell 22
    have g22:=hA.free 22
    have k23:w4.cell? ⟨bA,23,none⟩ = some (.int .i64 0):=hA.cell 23
    have g23:=hA.free 23
    have lt_k:=hA.lt
    have hbb:Below w4.heap.size w4 (w4.alloc (.cells #[.int .i64 (1 + (q3:Int))] 3)):=by (repeat (first | exact Below.refl _ _ | refine Below.alloc ?_ (by first | omega | (simp; done) | (simp; omega)) _ | refine Below.setCell ?_ (by first | omega | (simp; done) | (simp; omega)) _ | refine Below.drew ?_))
    go_upto_region 23 with (at_builtin; refine wpList_append_own _ rfl _ _ 32 rfl w.heap.size 3 i0 _ 1 8 Tryd.underlying32 hi0 hz0 hz1 hz2 rfl (by decide) _ _ _ rfl (ho.alloc _) ⟨w4.heap.size,0,none⟩ 1 1 [.int .i64 (1 + (q3:Int))] rfl rfl (by exact lit_cells w4 #[.int .i64 (1 + (q3:Int))] _ _ rfl) (by simp [Value.oneCell']) (by unfold maxLen; omega) (by omega) (by simp; omega) ?_; intro v' w5 hown' hgrow5 hnil5; have hown9:w5.ownsRow w.heap.size 3 1 v' 2 [.int .i64 (1 + (q1:Int)),.int .i64 (1 + (q3:Int))]:=(by exact hown'); clear hown' hnil5; obtain ⟨A5,c5,rfl⟩:=slice_of_own hown9; have hA5:=(hA.below hbb hA.lt).grown hgrow5 (fun e => hne e.symm); have c16:=hA5.cell 16; have cf16:=hA5.free 16; have cl16:=hA5.lt; simp only [List.getElem?_toArray,List.getElem?_cons_succ,List.getElem?_cons_zero] at c16)
    clear k0 g0 k1 g1 k2 g2 k3 g3 k4 g4 k5 g5 k6 g6 k7 g7 k8 g8 k9 g9 k10 g10 k11 g11 k12 g12 k13 g13 k14 g14 k15 g15 k16 g16 k17 g17 k18 g18 k19 g19 k20 g20 k21 g21 k22 g22 k23 g23 lt_k
    clear x3 lt_x
    clear c16 cf16 cl16
    have hX5:=(hX.below hbb hX.lt).grown hgrow5 (fun e => (Blok.ne_own ho hX (by decide)) e.symm)
    have hR5:=(hR.below hbb hR.lt).grown hgrow5 (fun e => hne2 e.symm)
    have hB5:Below w.heap.size w w5:=(hB.alloc hs _).grown hgrow5 (by simp; omega) (fun q hq => (ho.lt q hq).1)
    clear hA hX hR hB hs hbb ho hne hne2
    have hA:=hA5
    have hX:=hX5
    have hR:=hR5
    have hB:=hB5
    have hs:=hB.size
    clear hA5 hX5 hR5 hB5 hgrow5
    have ho:=hown9
    clear hown9
    have hne:=Blok.ne_own ho hA (by decide)
    have hne2:=Blok.ne_own ho hR (by decide)
    have ho4:=ownsRow_setCell_other ho (a:=⟨bA,16,none⟩) hne (.slice A5 2 c5)
    clear ho
    have ho:=ho4
    clear ho4
    have hA2:Blok (w5.setCell ⟨bA,16,none⟩ (.slice A5 2 c5)) bA 36 #[.int .i64 4,.string ⟨#[]⟩,.int .i64 0,.int .i64 0,.int .i64 0,.int .i64 0,.int .i64 0,.int .i64 0,.int .i64 0,.int .i64 0,.int .i64 0,.int .i64 0,.int .i64 0,.int .i64 0,.int .i64 0,.int .i64 0,.slice A5 2 c5,.int .i64 0,.int .i64 0,.int .i64 0,.int .i64 0,.int .i64 0,.int .i64 0,.int .i64 0]:=by exact (hA.set_ 16 (.slice A5 2 c5))
    replace hX:=(hX.far (p:=⟨bA,16,none⟩) (by simp only; omega) (.slice A5 2 c5))
    replace hR:=(hR.far (p:=⟨bA,16,none⟩) (by simp only; omega) (.slice A5 2 c5))
    replace hB:=(hB.setCell (p:=⟨bA,16,none⟩) (by simp only; omega) (.slice A5 2 c5))
    replace hs:=hB.size
    clear hA
    have hA:=hA2
    clear hA2
    generalize (w5.setCell ⟨bA,16,none⟩ (.slice A5 2 c5)) = w6 at *
    have x4:w6.cell? ⟨w.heap.size,4,none⟩ = some (.int .u8 (b4:Nat)):=hX.cell 4
    have x5:w6.cell? ⟨w.heap.size,5,none⟩ = some (.int .u8 (b5:Nat)):=hX.cell 5
    have lt_x:=hX.lt
    have k0:w6.cell? ⟨bA,0,none⟩ = some (.int .i64 4):=hA.cell 0
    have g0:=hA.free 0
    have k1:w6.cell? ⟨bA,1,none⟩ = some (.string ⟨#[]⟩):=hA.cell 1
    have g1:=hA.free 1
    have k2:w6.cell? ⟨bA,2,none⟩ = some (.int .i64 0):=hA.cell 2
    have g2:=hA.free 2
    have k3:w6.cell? ⟨bA,3,none⟩ = some (.int .i64 0):=hA.cell 3
    have g3:=hA.free 3
    have k4:w6.cell? ⟨bA,4,none⟩ = some (.int .i64 0):=hA.cell 4
    have g4:=hA.free 4
    have k5:w6.cell? ⟨bA,5,none⟩ = some (.int .i64 0):=hA.cell 5
    have g5:=hA.free 5
    have k6:w6.cell? ⟨bA,6,none⟩ = some (.int .i64 0):=hA.cell 6
    have g6:=hA.free 6
    have k7:w6.cell? ⟨bA,7,none⟩ = some (.int .i64 0):=hA.cell 7
    have g7:=hA.free 7
    have k8:w6.cell? ⟨bA,8,none⟩ = some (.int .i64 0):=hA.cell 8
    have g8:=hA.free 8
    have k9:w6.cell? ⟨bA,9,none⟩ = some (.int .i64 0):=hA.cell 9
    have g9:=hA.free 9
    have k10:w6.cell? ⟨bA,10,none⟩ = some (.int .i64 0):=hA.cell 10
    have g10:=hA.free 10
    have k11:w6.cell? ⟨bA,11,none⟩ = some (.int .i64 0):=hA.cell 11
    have g11:=hA.free 11
    have k12:w6.cell? ⟨bA,12,none⟩ = some (.int .i64 0):=hA.cell 12
    have g12:=hA.free 12
    have k13:w6.cell? ⟨bA,13,none⟩ = some (.int .i64 0):=hA.cell 13
    have g13:=hA.free 13
    have k14:w6.cell? ⟨bA,14,none⟩ = some (.int .i64 0):=hA.cell 14
    have g14:=hA.free 14
    have k15:w6.cell? ⟨bA,15,none⟩ = some (.int .i64 0):=hA.cell 15
    have g15:=hA.free 15
    have k16:w6.cell? ⟨bA,16,none⟩ = some (.slice A5 2 c5):=hA.cell 16
    have g16:=hA.free 16
    have k17:w6.cell? ⟨bA,17,none⟩ = some (.int .i64 0):=hA.cell 17
    have g17:=hA.free 17
    have k18:w6.cell? ⟨bA,18,none⟩ = some (.int .i64 0):=hA.cell 18
    have g18:=hA.free 18
    have k19:w6.cell? ⟨bA,19,none⟩ = some (.int .i64 0):=hA.cell 19
    have g19:=hA.free 19
    have k20:w6.cell? ⟨bA,20,none⟩ = some (.int .i64 0):=hA.cell 20
    have g20:=hA.free 20
    have k21:w6.cell? ⟨bA,21,none⟩ = some (.int .i64 0):=hA.cell 21
    have g21:=hA.free 21
    have k22:w6.cell? ⟨bA,22,none⟩ = some (.int .i64 0):=hA.cell 22
    have g22:=hA.free 22
    have k23:w6.cell? ⟨bA,23,none⟩ = some (.int .i64 0):=hA.cell 23
    have g23:=hA.free 23
    have lt_k:=hA.lt
    go_upto_region 27 with fail
    clear k0 g0 k1 g1 k2 g2 k3 g3 k4 g4 k5 g5 k6 g6 k7 g7 k8 g8 k9 g9 k10 g10 k11 g11 k12 g12 k13 g13 k14 g14 k15 g15 k16 g16 k17 g17 k18 g18 k19 g19 k20 g20 k21 g21 k22 g22 k23 g23 lt_k
    clear x4 x5 lt_x
    have hown:=ho
    have ho4:=ownsRow_setCell_other (ownsRow_setCell_other hown (a:=⟨bA,17,none⟩) hne (.int .i64 (q4:Int))) (a:=⟨bA,18,none⟩) hne (.int .i64 (b5:Int))
    clear hown ho
    have hown:=ho4
    clear ho4
    have hA2:Blok ((w6.setCell ⟨bA,17,none⟩ (.int .i64 (q4:Int))).setCell ⟨bA,18,none⟩ (.int .i64 (b5:Int))) bA 36 #[.int .i64 4,.string ⟨#[]⟩,.int .i64 0,.int .i64 0,.int .i64 0,.int .i64 0,.int .i64 0,.int .i64 0,.int .i64 0,.int .i64 0,.int .i64 0,.int .i64 0,.int .i64 0,.int .i64 0,.int .i64 0,.int .i64 0,.slice A5 2 c5,.int .i64 (q4:Int),.int .i64 (b5:Int),.int .i64 0,.int .i64 0,.int .i64 0,.int .i64 0,.int .i64 0]:=by exact ((hA.set_ 17 (.int .i64 (q4:Int))).set_ 18 (.int .i64 (b5:Int)))
    replace hX:=((hX.far (p:=⟨bA,17,none⟩) (by simp only; omega) (.int .i64 (q4:Int))).far (p:=⟨bA,18,none⟩) (by simp only; omega) (.int .i64 (b5:Int)))
    replace hR:=((hR.far (p:=⟨bA,17,none⟩) (by simp only; omega) (.int .i64 (q4:Int))).far (p:=⟨bA,18,none⟩) (by simp only; omega) (.int .i64 (b5:Int)))
    replace hB:=((hB.setCell (p:=⟨bA,17,none⟩) (by simp only; omega) (.int .i64 (q4:Int))).setCell (p:=⟨bA,18,none⟩) (by simp only; omega) (.int .i64 (b5:Int)))
    replace hs:=hB.size
    clear hA
    have hA:=hA2
    clear hA2
    generalize ((w6.setCell ⟨bA,17,none⟩ (.int .i64 (q4:Int))).setCell ⟨bA,18,none⟩ (.int .i64 (b5:Int))) = w9 at *
    have hown2:w9.ownsRow w.heap.size 3 1 (.slice A5 2 c5) 2 [.int .i64 (1 + (q1:Int)),.int .i64 (1 + (q3:Int))]:=hown
    clear hown
    have hown:=hown2
    clear hown2
    have hF:=setRow_heap w9 (w.heap.size + 1) #[.int .i64 0,.string ⟨#[]⟩,.int .i64 0,.int .i64 0,.int .i64 0,.int .i64 0,.int .i64 0,.int .i64 0,.int .i64 0,.int .i64 0,.int .i64 0,.int .i64 0,.int .i64 0,.int .i64 0,.int .i64 0,.int .i64 0,.slice none 0 0,.int .i64 0,.int .i64 0,.int .i64 0,.int .i64 0,.int .i64 0,.int .i64 0,.int .i64 0] #[.int .i64 4,.string ⟨#[]⟩,.int .i64 0,.int .i64 0,.int .i64 0,.int .i64 0,.int .i64 0,.int .i64 0,.int .i64 0,.int .i64 0,.int .i64 0,.int .i64 0,.int .i64 0,.int .i64 0,.int .i64 0,.int .i64 0,.slice A5 2 c5,.int .i64 (q4:Int),.int .i64 (b5:Int),.int .i64 0,.int .i64 0,.int .i64 0,.int .i64 0,.int .i64 0] 36 (0,0) hR
    have hWf:=below_setRow hB (g:=w.heap.size + 1) (by omega) #[.int .i64 4,.string ⟨#[]⟩,.int .i64 0,.int .i64 0,.int .i64 0,.int .i64 0,.int .i64 0,.int .i64 0,.int .i64 0,.int .i64 0,.int .i64 0,.int .i64 0,.int .i64 0,.int .i64 0,.int .i64 0,.int .i64 0,.slice A5 2 c5,.int .i64 (q4:Int),.int .i64 (b5:Int),.int .i64 0,.int .i64 0,.int .i64 0,.int .i64 0,.int .i64 0]
    have hgw:=grown_setRow w9 (w.heap.size + 1) #[.int .i64 4,.string ⟨#[]⟩,.int .i64 0,.int .i64 0,.int .i64 0,.int .i64 0,.int .i64 0,.int .i64 0,.int .i64 0,.int .i64 0,.int .i64 0,.int .i64 0,.int .i64 0,.int .i64 0,.int .i64 0,.int .i64 0,.slice A5 2 c5,.int .i64 (q4:Int),.int .i64 (b5:Int),.int .i64 0,.int .i64 0,.int .i64 0,.int .i64 0,.int .i64 0]
    have hA':=hA
    have hR':=hR
    go_wp2_with (first | (refine wpList_load_row (by rfl) 36 (.tmp 3) (by rfl) bA (by rfl) 36 #[.int .i64 4,.string ⟨#[]⟩,.int .i64 0,.int .i64 0,.int .i64 0,.int .i64 0,.int .i64 0,.int .i64 0,.int .i64 0,.int .i64 0,.int .i64 0,.int .i64 0,.int .i64 0,.int .i64 0,.int .i64 0,.int .i64 0,.slice A5 2 c5,.int .i64 (q4:Int),.int .i64 (b5:Int),.int .i64 0,.int .i64 0,.int .i64 0,.int .i64 0,.int .i64 0] (0,0) _ hA' Tryd.underlying36 rfl (by kernel_rfl) ?_) | (refine wpList_store_row (by rfl) 36 (.tmp 2) (.tmp 126) (by rfl) (w.heap.size + 1) #[.int .i64 4,.string ⟨#[]⟩,.int .i64 0,.int .i64 0,.int .i64 0,.int .i64 0,.int .i64 0,.int .i64 0,.int .i64 0,.int .i64 0,.int .i64 0,.int .i64 0,.int .i64 0,.int .i64 0,.int .i64 0,.int .i64 0,.slice A5 2 c5,.int .i64 (q4:Int),.int .i64 (b5:Int),.int .i64 0,.int .i64 0,.int .i64 0,.int .i64 0,.int .i64 0] (by rfl) (by rfl) 36 #[.int .i64 0,.string ⟨#[]⟩,.int .i64 0,.int .i64 0,.int .i64 0,.int .i64 0,.int .i64 0,.int .i64 0,.int .i64 0,.int .i64 0,.int .i64 0,.int .i64 0,.int .i64 0,.int .i64 0,.int .i64 0,.int .i64 0,.slice none 0 0,.int .i64 0,.int .i64 0,.int .i64 0,.int .i64 0,.int .i64 0,.int .i64 0,.int .i64 0] hR' (by kernel_rfl) rfl (by simp [Value.oneCell']) ?_))
    refine bodyPost_ret (results_cell_row Tryd.results17 _ _ (w.heap.size + 1) 36 #[.int .i64 4,.string ⟨#[]⟩,.int .i64 0,.int .i64 0,.int .i64 0,.int .i64 0,.int .i64 0,.int .i64 0,.int .i64 0,.int .i64 0,.int .i64 0,.int .i64 0,.int .i64 0,.int .i64 0,.int .i64 0,.int .i64 0,.slice A5 2 c5,.int .i64 (q4:Int),.int .i64 (b5:Int),.int .i64 0,.int .i64 0,.int .i64 0,.int .i64 0,.int .i64 0] (0,0) _ (by rfl) hF Tryd.underlying36 rfl (by kernel_rfl)) rfl ?_
    have hwf:=hown.kept hgw (.inr hne2)
    exact ⟨_,rfl,⟨A5,2,c5,by rw [← HP.out]; rfl,by rw [← HP.out]; exact hwf,by rw [← HP.out]; rfl⟩,hWf⟩
end Go.Proofs.YtggdomeeienjbaaDoor
