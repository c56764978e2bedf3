/- Several texts of mine in one: MapV, Path. No condition. -/
import Derived.Test.YtodcoockhkghdaaGreatChecked
import Derived.Test.YtodcoockhkghdaaGreatGQ0
import Derived.Maps.OwnOps
import Derived.Maps.OwnSet
import Derived.Maps.Views
import Derived.Test.YtodcoockhkghdaaGreatGQ8
import Derived.Test.YtodcoockhkghdaaGreatGQ3
namespace Go.Proofs.YtodcoockhkghdaaGreat
open Go.ChangeShapes Go.WideShapes Go.ChangeAt Go.RowKit Go.Sort
set_option linter.unusedSimpArgs false
set_option linter.unusedVariables false
open Go.Maps (Keyed)
set_option maxRecDepth 100000
def heldV (v:Value):Option (DataW Value × List MemPlace):=some (.held v,[])
noncomputable def setS (S:Lit → Option Value) (kl:Lit) (v:Value):Lit → Option Value:=fun j => @ite _ (j = kl) (Classical.propDecidable _) (some v) (S j)
theorem setS_same (S:Lit → Option Value) (kl:Lit) (v:Value):setS S kl v kl = some v:=if_pos rfl
theorem setS_other (S:Lit → Option Value) {kl j:Lit} (v:Value) (h:j ≠ kl):setS S kl v j = S j:=if_neg h
def MapV (w:World) (k:TypeId) (b n:Nat) (S:Lit → Option Value):Prop:=
 ∃ D:DataW Value,w.ownsMap Tryz.prog k heldV b n D ∧ ∀ kl,WideAt.IsKeyLit kl → Maps.has D kl = (S kl).isSome ∧ ∀ v,S kl = some v → ∀ z,D.atKey kl z = .held v
theorem MapV.made (w:World) (k:TypeId):MapV (w.alloc (.map #[] 0)) k w.heap.size 0 (fun _ => none):=
 ⟨.map [],World.ownsMap_made _ _ _ _,fun kl _ => ⟨rfl,fun v h => by cases h⟩⟩
theorem MapV.lt {w:World} {k:TypeId} {b n:Nat} {S:Lit → Option Value} (h:MapV w k b n S):b < w.heap.size:=let ⟨_,h,_⟩:=h; h.lt
theorem MapV.kept {w w':World} {k:TypeId} {b n:Nat} {S:Lit → Option Value} {row:Option Nat} (h:MapV w k b n S) (hg:w.grownBy w' row) (hne:some b ≠ row):MapV w' k b n S:=let ⟨D,h1,h2⟩:=h; ⟨D,h1.kept hg hne,h2⟩
theorem MapV.below {w w':World} {k:TypeId} {b n:Nat} {S:Lit → Option Value} (h:MapV w k b n S) (hb:Below w.heap.size w w'):MapV w' k b n S:=h.kept (grown_of_below (row:=none) hb) (by simp)
theorem MapV.alloc {w:World} {k:TypeId} {b n:Nat} {S:Lit → Option Value} (h:MapV w k b n S) (o:Obj):MapV (w.alloc o) k b n S:=let ⟨D,h1,h2⟩:=h; ⟨D,h1.alloc o,h2⟩
theorem MapV.drew {w:World} {k:TypeId} {b n:Nat} {S:Lit → Option Value} (h:MapV w k b n S):MapV w.drew k b n S:=h
theorem MapV.congr {w:World} {k:TypeId} {b n:Nat} {S S':Lit → Option Value} (h:MapV w k b n S) (e:∀ kl,S kl = S' kl):MapV w k b n S':=by
 have:S = S':=funext e
 rw [← this]; exact h
theorem MapV.look {w:World} {k t e:TypeId} {b n:Nat} {S:Lit → Option Value} (h:MapV w k b n S) (K:Keyed Tryz.prog k) (ht:Tryz.prog.underlying t = some (.map k e)) {z:Value} (hz:(zeroValue e).run Tryz.prog w = .ok z w) {key:Value} {kl:Lit} (hkey:keyOf Tryz.prog k key = some kl) (hl:WideAt.IsKeyLit kl) :
  (Instr.lookup t (.map (some b)) key false).run Tryz.prog w = .ok ((S kl).getD z) w:=by
 obtain ⟨D,h1,h2⟩:=h
 obtain ⟨v,ps,hrun,hv⟩:=h1.lookup K ht hz (z:=z) (zd:=.held z) (zp:=[]) rfl hkey
 obtain ⟨g1,g2⟩:=h2 kl hl
 simp only [heldV,Option.some.injEq,Prod.mk.injEq] at hv
 rw [hrun]
 cases hs:S kl with
 | none =>
  rw [hs] at g1
  rw [Maps.atKey_of_not_has g1] at hv
  injection hv.1 with hv
  rw [hv]; rfl
 | some x =>
  rw [g2 x hs] at hv
  injection hv.1 with hv
  rw [hv]; rfl
theorem MapV.look_ok {w:World} {k t e:TypeId} {b n:Nat} {S:Lit → Option Value} (h:MapV w k b n S) (K:Keyed Tryz.prog k) (ht:Tryz.prog.underlying t = some (.map k e)) {z:Value} (hz:(zeroValue e).run Tryz.prog w = .ok z w) {key:Value} {kl:Lit} (hkey:keyOf Tryz.prog k key = some kl) (hl:WideAt.IsKeyLit kl) :
  (Instr.lookup t (.map (some b)) key true).run Tryz.prog w = .ok (.tuple #[(S kl).getD z,.bool (S kl).isSome]) w:=by
 obtain ⟨D,h1,h2⟩:=h
 obtain ⟨v,ps,hrun,hv⟩:=h1.look_ok K ht hz (z:=z) (zd:=.held z) (zp:=[]) rfl hkey
 obtain ⟨g1,g2⟩:=h2 kl hl
 simp only [heldV,Option.some.injEq,Prod.mk.injEq] at hv
 rw [hrun,g1]
 cases hs:S kl with
 | none =>
  rw [hs] at g1
  rw [Maps.atKey_of_not_has g1] at hv
  injection hv.1 with hv
  rw [hv]; rfl
 | some x =>
  rw [g2 x hs] at hv
  injection hv.1 with hv
  rw [hv]; rfl
theorem MapV.put {w:World} {k t e:TypeId} {b n:Nat} {S:Lit → Option Value} (h:MapV w k b n S) (K:Keyed Tryz.prog k) (ht:Tryz.prog.underlying t = some (.map k e)) (hn:n < maxLen) {key:Value} {kl:Lit} (hkey:keyOf Tryz.prog k key = some kl) (hl:WideAt.IsKeyLit kl) (v:Value) :
  ∃ w',(Instr.mapUpdate t (.map (some b)) key v).run Tryz.prog w = .ok () w' ∧ MapV w' k b (n + 1) (setS S kl v) ∧ w.grownBy w' (some b):=by
 obtain ⟨D,h1,h2⟩:=h
 have hm:=h1.isMap
 obtain ⟨w',hrun,hown,ht2⟩:=h1.store K ht hn hkey (val:=v) (d:=.held v) (ps:=[]) rfl
 refine ⟨w',hrun,⟨_,hown,fun j hj => ?_⟩,ht2.grown⟩
 by_cases e:j = kl
 ·subst e
  rw [Maps.has_put_same hm hj]
  rw [setS_same]
  refine ⟨by simp,fun x hx z => ?_⟩
  rw [Maps.atKey_put_same hm hj]
  simp only [Option.some.injEq] at hx
  rw [hx]
 ·rw [Maps.has_put_other e]
  rw [setS_other _ _ e]
  refine ⟨(h2 j hj).1,fun x hx z => ?_⟩
  rw [Maps.atKey_put_other e]
  exact (h2 j hj).2 x hx z
theorem MapV.len {w:World} {k t e:TypeId} {b n:Nat} {S:Lit → Option Value} (h:MapV w k b n S) (ht:Tryz.prog.underlying t = some (.map k e)) (ty:TypeId) :
  ∃ q:Nat,(Builtin.len_ #[t] ty #[.map (some b)]).run Tryz.prog w = .ok (.int .i64 q) w ∧ q ≤ n ∧ ∀ kl,WideAt.IsKeyLit kl → (S kl).isSome = true → 0 < q:=by
 obtain ⟨D,h1,h2⟩:=h
 refine ⟨_,h1.len ht ty,h1.size_le,fun kl hl hs => ?_⟩
 rw [← (h2 kl hl).1] at hs
 obtain ⟨es,rfl⟩:=h1.isMap
 rw [Maps.has_eq] at hs
 rw [Maps.size_eq]
 cases es with
 | nil => simp at hs
 | cons x r => simp
theorem keyI (k:Int) (hk:(Lit.int .i64 k).wf = true):keyOf Tryz.prog 3 (.int .i64 k) = some (.int .i64 k):=Maps.keyOf_int_mk Tryz.underlying3 hk
theorem keyedV:Keyed Tryz.prog 3:=Maps.int_keyed Tryz.underlying3
theorem isKeyI (k:Int):WideAt.IsKeyLit (.int .i64 k):=by simp [WideAt.IsKeyLit]
theorem wpList_look_map {ops:Array Oper} {rest:List Oper} {o:Oper} {a:Act} {w:World} {Q:Exit → Act → World → Prop} (hg:o.guard = none) (m x:Operand) (t:TypeId) (hop:o.op = Op.lookup t m x false) (k e:TypeId) (b n:Nat) (S:Lit → Option Value)
  (hm:a.eval m = .map (some b)) (h:MapV w k b n S) (K:Keyed Tryz.prog k) (ht:Tryz.prog.underlying t = some (.map k e)) {z:Value} (hz:(zeroValue e).run Tryz.prog w = .ok z w) (key:Value) (kl:Lit) (hx:a.eval x = key) (hkey:keyOf Tryz.prog k key = some kl) (hl:WideAt.IsKeyLit kl)
  (v:Value) (hv:(S kl).getD z = v) (hK:wpList Tryz.prog ops Q rest (a.put o.dst v) w):wpList Tryz.prog ops Q (o :: rest) a w:=by
 refine wpList_plain hg fun K' hK' => ?_
 subst hv
 unfold Oper.wp
 simp [execOp,hop,hm,hx,h.look K ht hz hkey hl,Result.andThen]
 exact hK' _ _ hK
theorem wpList_lookok_map {ops:Array Oper} {rest:List Oper} {o:Oper} {a:Act} {w:World} {Q:Exit → Act → World → Prop} (hg:o.guard = none) (m x:Operand) (t:TypeId) (hop:o.op = Op.lookup t m x true) (k e:TypeId) (b n:Nat) (S:Lit → Option Value)
  (hm:a.eval m = .map (some b)) (h:MapV w k b n S) (K:Keyed Tryz.prog k) (ht:Tryz.prog.underlying t = some (.map k e)) {z:Value} (hz:(zeroValue e).run Tryz.prog w = .ok z w) (key:Value) (kl:Lit) (hx:a.eval x = key) (hkey:keyOf Tryz.prog k key = some kl) (hl:WideAt.IsKeyLit kl)
  (v:Value) (hv:(S kl).getD z = v) (c:Bool) (hc:(S kl).isSome = c) (hK:wpList Tryz.prog ops Q rest (a.put o.dst (.tuple #[v,.bool c])) w):wpList Tryz.prog ops Q (o :: rest) a w:=by
 refine wpList_plain hg fun K' hK' => ?_
 subst hv
 subst hc
 unfold Oper.wp
 simp [execOp,hop,hm,hx,h.look_ok K ht hz hkey hl,Result.andThen]
 exact hK' _ _ hK
theorem wpList_put_map {ops:Array Oper} {rest:List Oper} {o:Oper} {a:Act} {w:World} {Q:Exit → Act → World → Prop} (hg:o.guard = none) (m x y:Operand) (t:TypeId) (hop:o.op = Op.mapUpdate t m x y) (k e:TypeId) (b n:Nat) (S:Lit → Option Value)
  (hm:a.eval m = .map (some b)) (h:MapV w k b n S) (K:Keyed Tryz.prog k) (ht:Tryz.prog.underlying t = some (.map k e)) (hn:n < maxLen) (key:Value) (kl:Lit) (hx:a.eval x = key) (hkey:keyOf Tryz.prog k key = some kl) (hl:WideAt.IsKeyLit kl)
  (v:Value) (hy:a.eval y = v)
  (hK:∀ w',MapV w' k b (n + 1) (setS S kl v) → w.grownBy w' (some b) → wpList Tryz.prog ops Q rest (a.put o.dst undef) w'):wpList Tryz.prog ops Q (o :: rest) a w:=by
 refine wpList_plain hg fun K' hK' => ?_
 obtain ⟨w',hrun,h1,h2⟩:=h.put K ht hn hkey hl v
 unfold Oper.wp
 simp [execOp,hop,hm,hx,hy,hrun,Result.andThen]
 exact hK' _ _ (hK w' h1 h2)
end Go.Proofs.YtodcoockhkghdaaGreat
namespace Go.Proofs.YtodcoockhkghdaaGreat
open Go.ChangeShapes Go.WideShapes Go.ChangeAt Go.RowKit Go.Sort
set_option linter.unusedSimpArgs false
set_option linter.unusedVariables false
theorem hok_is (x:Ed) (b:Bool) (h:x.ok = b) (w:World):Calls Tryz.prog 128 #[.agg #[.int .i64 x.id,.int .i64 x.fr,.int .i64 x.tn,.int .i64 x.op,.int .i64 x.en,.int .i64 x.ra,.int .i64 x.ow,.int .i64 x.ro]] w fun e w' => e = .returned (.bool b) ∧ Below w.heap.size w w':=hright_is b h w
set_option maxHeartbeats 4000000 in
set_option maxRecDepth 100000 in
theorem pright_any (A:Option Addr) (n c:Nat) (d:List Ed) (w:World) (hd:d.length = n) (hn:n ≤ 1000000) (h:Sl w w.heap.size 8 A n c (flatEd d)) (b:Bool) (hb:rightE d = b) :
  Calls Tryz.prog 84 #[.slice A n c] w fun e w' => e = .returned (.bool b) ∧ Below w.heap.size w w':=by
 have HD:=Lib.hid hd
 have HBB:=Lib.hid hb
 clear hd hb
 go_enter Tryz.func84,Tryz.ntmps84
 go_wp2
 go_loopw [7] (fun i wr => ∃ k:Nat,k ≤ n ∧ i = .int .i64 k ∧ Hid (∀ j,j < k → stepE d j = true) ∧ Below w.heap.size w wr) (fun i _ => n - (intOf i).toNat)
 case atStart => exact ⟨0,by omega,rfl,(fun j hj => by omega),Below.refl _ _⟩
 case round =>
  obtain ⟨k,hk,rfl,HQ,hB⟩:=hrel
  by_cases hkn:k < n
  ·have hl:=h.below hB
   obtain ⟨ad,rfl,hab,c0,c1,c2,c3,c4,c5,c6,c7⟩:=hl.lst.atEd HD.out hkn
   have hsw:=hB.size
   obtain ⟨x,hx⟩:∃ x,gEd d k = x:=⟨_,rfl⟩
   rw [hx] at c0 c1 c2 c3 c4 c5 c6 c7
   have HX:=Lib.hid hx
   clear hx
   have hBa:Below wr.heap.size wr (wr.alloc (.cells #[.int .i64 x.id,.int .i64 x.fr,.int .i64 x.tn,.int .i64 x.op,.int .i64 x.en,.int .i64 x.ra,.int .i64 x.ow,.int .i64 x.ro] 86)):=by (repeat (first | exact Below.refl _ _ | refine Below.alloc ?_ (by first | omega | (simp; done) | (simp; omega)) _ | refine Below.setCell ?_ (by first | omega | (simp; done) | (simp; omega)) _ | refine Below.drew ?_))
   have hX:=Blok.new wr 86 #[.int .i64 x.id,.int .i64 x.fr,.int .i64 x.tn,.int .i64 x.op,.int .i64 x.en,.int .i64 x.ra,.int .i64 x.ow,.int .i64 x.ro]
   have hB2:=hB.trans (hBa.mono hB.size)
   have hl2:=hl.below (hBa.mono hB.size)
   obtain ⟨o,ho⟩:∃ o,x.ok = o:=⟨_,rfl⟩
   have HO:=Lib.hid ho
   clear ho
   go_wp2_with fail
   clear c0 c1 c2 c3 c4 c5 c6 c7 hB hl hBa
   generalize wr.alloc (.cells #[.int .i64 x.id,.int .i64 x.fr,.int .i64 x.tn,.int .i64 x.op,.int .i64 x.en,.int .i64 x.ra,.int .i64 x.ow,.int .i64 x.ro] 86) = wx at *
   generalize wr.heap.size = bb at *
   have x0:wx.cell? ⟨bb,0,none⟩ = some (.int .i64 x.id):=hX.cell 0
   have x1:wx.cell? ⟨bb,1,none⟩ = some (.int .i64 x.fr):=hX.cell 1
   have x2:wx.cell? ⟨bb,2,none⟩ = some (.int .i64 x.tn):=hX.cell 2
   have x3:wx.cell? ⟨bb,3,none⟩ = some (.int .i64 x.op):=hX.cell 3
   have x4:wx.cell? ⟨bb,4,none⟩ = some (.int .i64 x.en):=hX.cell 4
   have x5:wx.cell? ⟨bb,5,none⟩ = some (.int .i64 x.ra):=hX.cell 5
   have x6:wx.cell? ⟨bb,6,none⟩ = some (.int .i64 x.ow):=hX.cell 6
   have x7:wx.cell? ⟨bb,7,none⟩ = some (.int .i64 x.ro):=hX.cell 7
   have lt_x:=hX.lt
   have hcase:k = 0 ∨ ∃ p,k = p + 1:=by cases k with | zero => exact .inl rfl | succ p => exact .inr ⟨p,rfl⟩
   rcases hcase with rfl | ⟨p,rfl⟩
   ·have hd0:decide (((0:Nat):Int) > 0) = false:=by simp
    cases o with
    | false =>
     have hf:rightE d = false:=rightE_false (i:=0) (by rw [HD.out]; exact hkn) (by unfold stepE; rw [HX.out,HO.out]; rfl)
     have HF:=Lib.hid (HBB.out.symm.trans hf)
     clear hf HBB
     have q_x0:=fun d os => cell_regrown x0 d os
     have q_x1:=fun d os => cell_regrown x1 d os
     have q_x2:=fun d os => cell_regrown x2 d os
     have q_x3:=fun d os => cell_regrown x3 d os
     have q_x4:=fun d os => cell_regrown x4 d os
     have q_x5:=fun d os => cell_regrown x5 d os
     have q_x6:=fun d os => cell_regrown x6 d os
     have q_x7:=fun d os => cell_regrown x7 d os
     try simp only [List.append]
     first | refine wp_region_text_below ?_ | refine wp_region_quiet_below (by kernel_rfl) (by kernel_rfl) ?_
     repeat (go_big_quiet_step (((go_at_call 128; with_reducible exact Calls.regrown_of (hok_is x false HO.out _)))))
     refine wpQuiet_nil ?_
     intro _ hqw
     obtain ⟨pq,hqw⟩:=hqw
     subst hqw
     clear q_x0 q_x1 q_x2 q_x3 q_x4 q_x5 q_x6 q_x7
     have hb3:=below_regrown wx pq.d pq.os
     generalize grow (redrawn wx pq.d) pq.os = wq at *
     go_wp2
     go_ret
     exact ⟨by rw [HF.out]; rfl,hB2.trans (hb3.mono hB2.size)⟩
    | true =>
     have HN:Hid (∀ j,j < 0 + 1 → stepE d j = true):=fun j hj => by
      obtain rfl:j = 0:=by omega
      unfold stepE
      rw [HX.out,HO.out]; rfl
     have q_x0:=fun d os => cell_regrown x0 d os
     have q_x1:=fun d os => cell_regrown x1 d os
     have q_x2:=fun d os => cell_regrown x2 d os
     have q_x3:=fun d os => cell_regrown x3 d os
     have q_x4:=fun d os => cell_regrown x4 d os
     have q_x5:=fun d os => cell_regrown x5 d os
     have q_x6:=fun d os => cell_regrown x6 d os
     have q_x7:=fun d os => cell_regrown x7 d os
     try simp only [List.append]
     first | refine wp_region_text_below ?_ | refine wp_region_quiet_below (by kernel_rfl) (by kernel_rfl) ?_
     repeat (go_big_quiet_step (((go_at_call 128; with_reducible exact Calls.regrown_of (hok_is x true HO.out _)))))
     refine wpQuiet_nil ?_
     intro _ hqw
     obtain ⟨pq,hqw⟩:=hqw
     subst hqw
     clear q_x0 q_x1 q_x2 q_x3 q_x4 q_x5 q_x6 q_x7
     have hb3:=below_regrown wx pq.d pq.os
     clear x0 x1 x2 x3 x4 x5 x6 x7 lt_x hX
     generalize grow (redrawn wx pq.d) pq.os = wq at *
     go_wp2
     go_roundw
     case rel => exact ⟨1,by omega,rfl,HN,hB2.trans (hb3.mono hB2.size)⟩
     case measure => simp [intOf]; omega
   ·have hp:p < n:=by omega
    obtain ⟨ad',he,_,p0,_,_,_,_,_,_,_⟩:=hl2.lst.atEd HD.out hp
    injection he with he
    subst he
    obtain ⟨pi,hpi⟩:∃ q,(gEd d p).id = q:=⟨_,rfl⟩
    rw [hpi] at p0
    have HP:=Lib.hid hpi
    clear hpi
    have hd0:decide (((p + 1:Nat):Int) > 0) = true:=decide_eq_true (by omega)
    have t0:IntKind.i64.wrap (((p + 1:Nat):Int) - 1) = (p:Int):=by
     rw [IntWalk.i64_in _ (by omega)]; omega
    cases o with
    | false =>
     have hf:rightE d = false:=rightE_false (i:=p + 1) (by rw [HD.out]; exact hkn) (by unfold stepE; rw [HX.out,HO.out]; rfl)
     have HF:=Lib.hid (HBB.out.symm.trans hf)
     clear hf HBB
     have q_x0:=fun d os => cell_regrown x0 d os
     have q_x1:=fun d os => cell_regrown x1 d os
     have q_x2:=fun d os => cell_regrown x2 d os
     have q_x3:=fun d os => cell_regrown x3 d os
     have q_x4:=fun d os => cell_regrown x4 d os
     have q_x5:=fun d os => cell_regrown x5 d os
     have q_x6:=fun d os => cell_regrown x6 d os
     have q_x7:=fun d os => cell_regrown x7 d os
     have q_p0:=fun d os => cell_regrown p0 d os
     try simp only [List.append]
     first | refine wp_region_text_below ?_ | refine wp_region_quiet_below (by kernel_rfl) (by kernel_rfl) ?_
     repeat (go_big_quiet_step (((go_at_call 128; with_reducible exact Calls.regrown_of (hok_is x false HO.out _)))))
     refine wpQuiet_nil ?_
     intro _ hqw
     obtain ⟨pq,hqw⟩:=hqw
     subst hqw
     clear q_x0 q_x1 q_x2 q_x3 q_x4 q_x5 q_x6 q_x7 q_p0
     have hb3:=below_regrown wx pq.d pq.os
     generalize grow (redrawn wx pq.d) pq.os = wq at *
     go_wp2
     go_ret
     exact ⟨by rw [HF.out]; rfl,hB2.trans (hb3.mono hB2.size)⟩
    | true =>
     obtain ⟨lt,hlt⟩:∃ q,decide (pi < x.id) = q:=⟨_,rfl⟩
     have g0:decide (x.id ≤ pi) = !lt:=by
      rw [← hlt]
      by_cases h9:pi < x.id
      ·simp [h9]
      ·simp [h9]; omega
     have hst:stepE d (p + 1) = lt:=by
      unfold stepE
      rw [Nat.add_sub_cancel,HX.out,HO.out,HP.out,hlt]
      simp
     have HST:=Lib.hid hst
     clear hst hlt
     cases lt with
     | false =>
      have hf:rightE d = false:=rightE_false (i:=p + 1) (by rw [HD.out]; exact hkn) HST.out
      have HF:=Lib.hid (HBB.out.symm.trans hf)
      clear hf HBB
      simp only [Bool.not_false] at g0
      have q_x0:=fun d os => cell_regrown x0 d os
      have q_x1:=fun d os => cell_regrown x1 d os
      have q_x2:=fun d os => cell_regrown x2 d os
      have q_x3:=fun d os => cell_regrown x3 d os
      have q_x4:=fun d os => cell_regrown x4 d os
      have q_x5:=fun d os => cell_regrown x5 d os
      have q_x6:=fun d os => cell_regrown x6 d os
      have q_x7:=fun d os => cell_regrown x7 d os
      have q_p0:=fun d os => cell_regrown p0 d os
      try simp only [List.append]
      first | refine wp_region_text_below ?_ | refine wp_region_quiet_below (by kernel_rfl) (by kernel_rfl) ?_
      repeat (go_big_quiet_step (((go_at_call 128; with_reducible exact Calls.regrown_of (hok_is x true HO.out _)))))
      refine wpQuiet_nil ?_
      intro _ hqw
      obtain ⟨pq,hqw⟩:=hqw
      subst hqw
      clear q_x0 q_x1 q_x2 q_x3 q_x4 q_x5 q_x6 q_x7 q_p0
      have hb3:=below_regrown wx pq.d pq.os
      generalize grow (redrawn wx pq.d) pq.os = wq at *
      go_wp2
      go_ret
      exact ⟨by rw [HF.out]; rfl,hB2.trans (hb3.mono hB2.size)⟩
     | true =>
      have HN:Hid (∀ j,j < p + 1 + 1 → stepE d j = true):=fun j hj => by
       by_cases e:j = p + 1
       ·rw [e]; exact HST.out
       ·exact HQ.out j (by omega)
      simp only [Bool.not_true] at g0
      have q_x0:=fun d os => cell_regrown x0 d os
      have q_x1:=fun d os => cell_regrown x1 d os
      have q_x2:=fun d os => cell_regrown x2 d os
      have q_x3:=fun d os => cell_regrown x3 d os
      have q_x4:=fun d os => cell_regrown x4 d os
      have q_x5:=fun d os => cell_regrown x5 d os
      have q_x6:=fun d os => cell_regrown x6 d os
      have q_x7:=fun d os => cell_regrown x7 d os
      have q_p0:=fun d os => cell_regrown p0 d os
      try simp only [List.append]
      first | refine wp_region_text_below ?_ | refine wp_region_quiet_below (by kernel_rfl) (by kernel_rfl) ?_
      repeat (go_big_quiet_step (((go_at_call 128; with_reducible exact Calls.regrown_of (hok_is x true HO.out _)))))
      refine wpQuiet_nil ?_
      intro _ hqw
      obtain ⟨pq,hqw⟩:=hqw
      subst hqw
      clear q_x0 q_x1 q_x2 q_x3 q_x4 q_x5 q_x6 q_x7 q_p0
      have hb3:=below_regrown wx pq.d pq.os
      clear x0 x1 x2 x3 x4 x5 x6 x7 lt_x hX p0 g0 t0 hd0
      generalize grow (redrawn wx pq.d) pq.os = wq at *
      go_wp2
      go_roundw
      case rel => exact ⟨p + 1 + 1,by omega,by go_num,HN,hB2.trans (hb3.mono hB2.size)⟩
      case measure => simp [intOf]; omega
  ·obtain rfl:k = n:=by omega
   have hf:rightE d = true:=rightE_true.2 (fun i hi => HQ.out i (by rw [HD.out] at hi; exact hi))
   have HF:=Lib.hid (HBB.out.symm.trans hf)
   clear hf HBB
   go_wp2
   go_ret
   exact ⟨by rw [HF.out]; rfl,hB⟩
set_option maxHeartbeats 2000000 in
theorem pasked_any (A:Option Addr) (n c:Nat) (d:List Ed) (q now size:Int) (w:World) (hd:d.length = n) (hn:n ≤ 1000000) (h:Sl w w.heap.size 8 A n c (flatEd d)) (b:Bool) (hb:askE d q now size = b) :
  Calls Tryz.prog 45 #[.slice A n c,.int .i64 q,.int .i64 now,.int .i64 size] w fun e w' => e = .returned (.bool b) ∧ Below w.heap.size w w':=by
 subst hb
 unfold askE
 obtain ⟨b1,e1⟩:∃ t,nodeB q = t:=⟨_,rfl⟩
 obtain ⟨b2,e2⟩:∃ t,inB now 0 1099511627776 = t:=⟨_,rfl⟩
 obtain ⟨b3,e3⟩:∃ t,inB size 0 1099511627775 = t:=⟨_,rfl⟩
 obtain ⟨b4,e4⟩:∃ t,rightE d = t:=⟨_,rfl⟩
 rw [e1,e2,e3,e4]
 have E1:=Lib.hid e1
 have E2:=Lib.hid e2
 have E3:=Lib.hid e3
 have E4:=Lib.hid e4
 have HP:=Lib.hid (pright_any A n c d w hd hn h b4 e4)
 clear e1 e2 e3 e4 hd h
 cases b1 <;> cases b2 <;> cases b3 <;> cases b4
 all_goals
  go_enter Tryz.func45,Tryz.ntmps45
  go_wp2_with (first
   | (go_at_call 37; (with_reducible refine Calls.mono (node_is _ E1.out _) ?_); rintro e w' ⟨rfl,rfl⟩)
   | (go_at_call 38; (with_reducible refine Calls.mono (in_is _ E2.out _) ?_); rintro e w' ⟨rfl,rfl⟩)
   | (go_at_call 38; (with_reducible refine Calls.mono (in_is _ E3.out _) ?_); rintro e w' ⟨rfl,rfl⟩)
   | (go_at_call 84; (with_reducible refine Calls.mono HP.out ?_); rintro e w' ⟨rfl,hb⟩))
  go_ret
  first | exact ⟨rfl,Below.refl _ _⟩ | exact ⟨rfl,hb⟩
end Go.Proofs.YtodcoockhkghdaaGreat
