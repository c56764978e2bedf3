/- Several texts of mine in one: Step, Ranges2, Ranges3, Ranges4, Ranges5, Ranges6, Ranges7, Small07, OpenS, RangesTwice, StepD, OpenR, OpenP. No condition. -/
import Derived.Test.YtodcoockhkghdaaGreatGQ7
import Derived.Test.YtodcoockhkghdaaGreatGQ0
import Derived.Test.YtodcoockhkghdaaGreatRows
import Derived.ChangeSame
import Derived.Lib.SmallJoins
namespace Go.Proofs.YtodcoockhkghdaaGreat
open Go.ChangeShapes Go.WideShapes Go.ChangeAt Go.RowKit Go.Sort
set_option linter.unusedSimpArgs false
set_option linter.unusedVariables false
theorem step_call {P:Program} {ops:Array Oper} {o:Oper} {a:Act} {w:World} {K:Act → World → Prop} {Q:Exit → Act → World → Prop} {E:Prop} (hgd:o.guard = none) (f:FuncId) (xs:Array Operand) (ats:Array TypeId)
  (ho : o.op = .call { callee := .value (.func f), args := xs, argTypes := ats }) (vals : Array Value) (hv : #[] ++ xs.map a.eval ++ #[] = vals) {fn : Func} (hf : P.funcs[f]? = some fn) (hb : fn.body.isNone = false) (hnm : (fn.name == "runtime.NumGoroutine") = false)
  (h:Calls P f vals w fun e w' => ∃ v,e = .returned v ∧ K (a.put o.dst v) w') :
  if Region.wanted o (yielded ops a.tmps) = true then Oper.wp P o a w K Q else E:=by
 rw [if_pos (by simp [Region.wanted,hgd])]
 obtain ⟨dst,op,ty,pos,after,guard⟩:=o
 simp only at ho
 subst ho
 unfold Oper.wp
 rw [execOp_call_go,hv]
 have e:(callFunc f vals).run P w = .ok (.enter f vals) w:=by
  have h1 : fn.name ≠ "runtime.NumGoroutine" := by simpa using hnm
  have h2:fn.body ≠ none:=by intro e; rw [e] at hb; cases hb
  simp [callFunc,run_program,hf]
  rw [if_neg h1,if_neg h2]
 rw [e]
 refine h.mono ?_
 rintro e w' ⟨v,rfl,hK⟩
 exact hK
end Go.Proofs.YtodcoockhkghdaaGreat
namespace Go.Proofs.YtodcoockhkghdaaGreat.Kr
open Go.ChangeShapes Go.WideShapes Go.ChangeAt Go.RowKit Go.Sort
set_option linter.unusedSimpArgs false
set_option linter.unusedVariables false
def okR (r:Rg):Bool:=rangeB r.fr r.tn r.st r.en r.ow
def stepB (d:List Rg) (i:Nat):Bool:=okR (gRg d i) && (i == 0 || (decide (cmpR (gRg d (i - 1)) (gRg d i) < 0) && !overR (gRg d (i - 1)) (gRg d i)))
def rightB (d:List Rg):Bool:=decide (d.length ≤ 4096) && (List.range d.length).all (stepB d)
theorem rightB_true {d:List Rg}:rightB d = true ↔ d.length ≤ 4096 ∧ ∀ i,i < d.length → stepB d i = true:=by
 simp [rightB,List.all_eq_true]
theorem rightB_false {d:List Rg} {i:Nat} (hi:i < d.length) (h:stepB d i = false):rightB d = false:=by
 rw [Bool.eq_false_iff]
 intro e
 rw [(rightB_true.1 e).2 i hi] at h
 cases h
structure PredI (g:FuncId) (lb:Array Value) (n:Nat) (W:World) (p:Nat → Bool):Prop where
 run:∀ vals w,(callFunc g vals).run Tryz.prog w = .ok (.enter g vals) w
 tells:∀ w',Below W.heap.size W w' → ∀ i:Nat,i < n → Calls Tryz.prog g (#[.int .i64 i] ++ lb) w' fun e w'' => e = .returned (.bool (p i)) ∧ Below w'.heap.size w' w''
set_option maxHeartbeats 1000000 in
set_option maxRecDepth 100000 in
theorem search_any (n:Nat) (g:FuncId) (lb:Array Value) (p:Nat → Bool) (w:World) (hn:n ≤ 1000000) (hp:PredI g lb n w p) :
  Calls Tryz.prog 131 #[.int .i64 n,.func (.func g) #[] lb] w fun e w' => ∃ i:Nat,e = .returned (.int .i64 i) ∧ i ≤ n ∧ (i = 0 ∨ p (i - 1) = false) ∧ (i = n ∨ p i = true) ∧ Below w.heap.size w w':=by
 have hcf:=hp.run
 have HP:=Lib.hid hp
 clear hp
 go_enter Tryz.func131,Tryz.ntmps131
 go_wp2
 go_loopw [5,6] (fun iv jv wr => ∃ i j:Nat,iv = .int .i64 i ∧ jv = .int .i64 j ∧ i ≤ j ∧ j ≤ n ∧ Hid (i = 0 ∨ p (i - 1) = false) ∧ Hid (j = n ∨ p j = true) ∧ Below w.heap.size w wr) (fun iv jv _ => (intOf jv - intOf iv).toNat)
 case atStart => exact ⟨0,n,rfl,rfl,by omega,Nat.le_refl _,.inl rfl,.inl rfl,Below.refl _ _⟩
 case round =>
  obtain ⟨i,j,rfl,rfl,hij,hjn,HI,HJ,hB⟩:=hrel
  have hs:=hB.size
  by_cases hlt:i < j
  ·obtain ⟨m,hm⟩:∃ m:Nat,(i + j) / 2 = m:=⟨_,rfl⟩
   have hmi:((i:Int) + (j:Int)) / 2 = (m:Int):=by omega
   have hm1:i ≤ m:=by omega
   have hm2:m < j:=by omega
   have HM:=Lib.hid hmi
   clear hm hmi
   have ht:=HP.out.tells wr hB m (by omega)
   cases hpm:p m
   all_goals
    rw [hpm] at ht
    have HPM:=Lib.hid hpm
    have HT:=Lib.hid ht
    clear hpm ht
    go_wp2_with fail
    rw [HM.out]
    refine HT.out.mono ?_
    rintro e w1 ⟨rfl,hb1⟩
    have hB2:=hB.trans (hb1.mono hs)
    clear hb1 hB
    go_wp2
    go_roundw
    case rel => first
     | exact ⟨m + 1,j,by go_num,rfl,by omega,by omega,(.inr (by rw [Nat.add_sub_cancel]; exact HPM.out)),HJ,hB2⟩
     | exact ⟨i,m,rfl,rfl,by omega,by omega,HI,(.inr HPM.out),hB2⟩
    case measure => simp [intOf]; omega
  ·obtain rfl:i = j:=by omega
   go_wp2
   go_ret
   exact ⟨i,rfl,hjn,HI.out,HJ.out,hB⟩
def passP (d:List Rg) (cf ct ce:Int) (i:Nat):Bool:=decide (0 < waysI (gRg d i) ⟨cf,ct,0,0,0⟩) || (waysI (gRg d i) ⟨cf,ct,0,0,0⟩ == 0 && decide (ce ≤ (gRg d i).en))
set_option maxHeartbeats 1000000 in
set_option maxRecDepth 100000 in
theorem owlt1_any (A:Option Addr) (n c:Nat) (d:List Rg) (ci cf ct cs ce cr:Int) (i gl gw gc:Nat) (w:World) (hd:d.length = n) (hn:n ≤ 1000000) (h:Sl w w.heap.size 5 A n c (flatRg d)) (hi:i < n)
  (hL:Blok w gl 23 #[.slice A n c]) (hW:Blok w gw 100 #[.int .i64 cf,.int .i64 ct,.int .i64 0,.int .i64 0,.int .i64 0]) (hC:Blok w gc 59 #[.int .i64 ci,.int .i64 cf,.int .i64 ct,.int .i64 cs,.int .i64 ce,.int .i64 cr]) :
  Calls Tryz.prog 132 #[.int .i64 i,.pointer (some ⟨gl,0,none⟩),.pointer (some ⟨gw,0,none⟩),.pointer (some ⟨gc,0,none⟩)] w fun e w' => e = .returned (.bool (passP d cf ct ce i)) ∧ Below w.heap.size w w':=by
 obtain ⟨ad,rfl,hab,c0,c1,c2,c3,c4⟩:=h.lst.atRg hd hi
 obtain ⟨x,hx⟩:∃ x,gRg d i = x:=⟨_,rfl⟩
 rw [hx] at c0 c1 c2 c3 c4
 obtain ⟨y,hy⟩:∃ y,waysI x ⟨cf,ct,0,0,0⟩ = y:=⟨_,rfl⟩
 have hfin:passP d cf ct ce i = (decide (0 < y) || (y == 0 && decide (ce ≤ x.en))):=by unfold passP; rw [hx,hy]
 rw [hfin]
 have HY:=Lib.hid hy
 have l0:w.cell? ⟨gl,0,none⟩ = some (.slice (some ad) n c):=hL.cell 0
 have w0:w.cell? ⟨gw,0,none⟩ = some (.int .i64 cf):=hW.cell 0
 have w1:w.cell? ⟨gw,1,none⟩ = some (.int .i64 ct):=hW.cell 1
 have w2:w.cell? ⟨gw,2,none⟩ = some (.int .i64 0):=hW.cell 2
 have w3:w.cell? ⟨gw,3,none⟩ = some (.int .i64 0):=hW.cell 3
 have w4:w.cell? ⟨gw,4,none⟩ = some (.int .i64 0):=hW.cell 4
 have k4:w.cell? ⟨gc,4,none⟩ = some (.int .i64 ce):=hC.cell 4
 have hil:(i:Int) < (n:Int):=by omega
 clear hx hy hfin hd hL hW hC
 go_enter Tryz.func132,Tryz.ntmps132
 go_wp2_with fail
 have q_l0:=fun d os => cell_regrown l0 d os
 have q_w0:=fun d os => cell_regrown w0 d os
 have q_w1:=fun d os => cell_regrown w1 d os
 have q_w2:=fun d os => cell_regrown w2 d os
 have q_w3:=fun d os => cell_regrown w3 d os
 have q_w4:=fun d os => cell_regrown w4 d os
 have q_c0:=fun d os => cell_regrown c0 d os
 have q_c1:=fun d os => cell_regrown c1 d os
 have q_c2:=fun d os => cell_regrown c2 d os
 have q_c3:=fun d os => cell_regrown c3 d os
 have q_c4:=fun d os => cell_regrown c4 d os
 try simp only [List.append]
 first | refine wp_region_text_below ?_ | refine wp_region_quiet_below (by kernel_rfl) (by kernel_rfl) ?_
 repeat (go_big_quiet_step ((go_at_call 133; with_reducible exact Calls.regrown_of (HY.out ▸ ways_any x ⟨cf,ct,0,0,0⟩ _))))
 refine wpQuiet_nil ?_
 intro _ hqw
 obtain ⟨pq,hqw⟩:=hqw
 subst hqw
 clear q_l0 q_w0 q_w1 q_w2 q_w3 q_w4 q_c0 q_c1 q_c2 q_c3 q_c4
 have hB:=below_regrown w pq.d pq.os
 have l0':(grow (redrawn w pq.d) pq.os).cell? ⟨gl,0,none⟩ = some (.slice (some ad) n c):=cell_regrown l0 _ _
 have k4':(grow (redrawn w pq.d) pq.os).cell? ⟨gc,4,none⟩ = some (.int .i64 ce):=cell_regrown k4 _ _
 have c3':(grow (redrawn w pq.d) pq.os).cell? ⟨(ad.add (i * 5)).block,(ad.add (i * 5)).off + 3,none⟩ = some (.int .i64 x.en):=cell_regrown c3 _ _
 clear l0 w0 w1 w2 w3 w4 c0 c1 c2 c3 c4 k4 h
 generalize grow (redrawn w pq.d) pq.os = wq at *
 have hs:=hB.size
 by_cases hy1:0 < y
 ·have hd1:decide (0 < y) = true:=by simpa using hy1
  go_wp2_with fail
  have q_l0':=fun d os => cell_regrown l0' d os
  have q_k4':=fun d os => cell_regrown k4' d os
  have q_c3':=fun d os => cell_regrown c3' d os
  try simp only [List.append]
  first | refine wp_region_text_below ?_ | refine wp_region_quiet_below (by kernel_rfl) (by kernel_rfl) ?_
  repeat (go_big_quiet_step ((fail)))
  refine wpQuiet_nil ?_
  intro _ hqw
  obtain ⟨pq,hqw⟩:=hqw
  subst hqw
  clear q_l0' q_k4' q_c3'
  have hb2:=below_regrown wq pq.d pq.os
  go_wp2
  go_ret
  exact ⟨by simp [hd1],hB.trans (hb2.mono hs)⟩
 ·have hd1:decide (0 < y) = false:=by simpa using hy1
  by_cases hy0:y = 0
  ·have hd2:(y == 0) = true:=by simpa using hy0
   go_wp2_with fail
   have q_l0':=fun d os => cell_regrown l0' d os
   have q_k4':=fun d os => cell_regrown k4' d os
   have q_c3':=fun d os => cell_regrown c3' d os
   try simp only [List.append]
   first | refine wp_region_text_below ?_ | refine wp_region_quiet_below (by kernel_rfl) (by kernel_rfl) ?_
   repeat (go_big_quiet_step ((fail)))
   refine wpQuiet_nil ?_
   intro _ hqw
   obtain ⟨pq,hqw⟩:=hqw
   subst hqw
   clear q_l0' q_k4' q_c3'
   have hb2:=below_regrown wq pq.d pq.os
   go_wp2
   go_ret
   exact ⟨by simp [hd1,hd2],hB.trans (hb2.mono hs)⟩
  ·have hd2:(y == 0) = false:=by simpa using hy0
   go_wp2_with fail
   have q_l0':=fun d os => cell_regrown l0' d os
   have q_k4':=fun d os => cell_regrown k4' d os
   have q_c3':=fun d os => cell_regrown c3' d os
   try simp only [List.append]
   first | refine wp_region_text_below ?_ | refine wp_region_quiet_below (by kernel_rfl) (by kernel_rfl) ?_
   repeat (go_big_quiet_step ((fail)))
   refine wpQuiet_nil ?_
   intro _ hqw
   obtain ⟨pq,hqw⟩:=hqw
   subst hqw
   clear q_l0' q_k4' q_c3'
   have hb2:=below_regrown wq pq.d pq.os
   go_wp2
   go_ret
   exact ⟨by simp [hd1,hd2],hB.trans (hb2.mono hs)⟩
theorem pred_owlt (A:Option Addr) (n c:Nat) (d:List Rg) (ci cf ct cs ce cr:Int) (gl gw gc:Nat) (w:World) (hd:d.length = n) (hn:n ≤ 1000000) (h:Sl w w.heap.size 5 A n c (flatRg d))
  (hL:Blok w gl 23 #[.slice A n c]) (hW:Blok w gw 100 #[.int .i64 cf,.int .i64 ct,.int .i64 0,.int .i64 0,.int .i64 0]) (hC:Blok w gc 59 #[.int .i64 ci,.int .i64 cf,.int .i64 ct,.int .i64 cs,.int .i64 ce,.int .i64 cr]) :
  PredI 132 #[.pointer (some ⟨gl,0,none⟩),.pointer (some ⟨gw,0,none⟩),.pointer (some ⟨gc,0,none⟩)] n w (passP d cf ct ce):=
 ⟨enter_run Tryz.func132 rfl rfl,fun w' hb i hi => owlt1_any A n c d ci cf ct cs ce cr i gl gw gc w' hd hn (h.up hb) hi (hL.below hb hL.lt) (hW.below hb hW.lt) (hC.below hb hC.lt)⟩
def owR (d:List Rg) (cf ct cs:Int) (n i:Nat):Int × Bool:=if i = n ∨ waysI (gRg d i) ⟨cf,ct,0,0,0⟩ ≠ 0 ∨ cs < (gRg d i).st then (0,false) else ((gRg d i).ow,true)
def AskAt (d:List Rg) (cf ct ce:Int) (n i:Nat):Prop:=i ≤ n ∧ (i = 0 ∨ passP d cf ct ce (i - 1) = false) ∧ (i = n ∨ passP d cf ct ce i = true)
set_option maxHeartbeats 2000000 in
set_option maxRecDepth 100000 in
theorem owlt_any (A:Option Addr) (n c:Nat) (d:List Rg) (ci cf ct cs ce cr:Int) (w:World) (hd:d.length = n) (hn:n ≤ 1000000) (h:Sl w w.heap.size 5 A n c (flatRg d)) :
  Calls Tryz.prog 87 #[.slice A n c,.agg #[.int .i64 ci,.int .i64 cf,.int .i64 ct,.int .i64 cs,.int .i64 ce,.int .i64 cr]] w fun e w' => ∃ i o b,e = .returned (.tuple #[.int .i64 o,.bool b]) ∧ AskAt d cf ct ce n i ∧ owR d cf ct cs n i = (o,b) ∧ Below w.heap.size w w':=by
 have HD:=Lib.hid hd
 have hB:Below w.heap.size w (((w.alloc (.cells #[.slice A n c] 23)).alloc (.cells #[.int .i64 ci,.int .i64 cf,.int .i64 ct,.int .i64 cs,.int .i64 ce,.int .i64 cr] 59)).alloc (.cells #[.int .i64 cf,.int .i64 ct,.int .i64 0,.int .i64 0,.int .i64 0] 100)):=by (repeat (first | exact Below.refl _ _ | refine Below.alloc ?_ (by first | omega | (simp; done) | (simp; omega)) _ | refine Below.setCell ?_ (by first | omega | (simp; done) | (simp; omega)) _ | refine Below.drew ?_))
 have hL:=((Blok.new w 23 #[.slice A n c]).alloc (.cells #[.int .i64 ci,.int .i64 cf,.int .i64 ct,.int .i64 cs,.int .i64 ce,.int .i64 cr] 59)).alloc (.cells #[.int .i64 cf,.int .i64 ct,.int .i64 0,.int .i64 0,.int .i64 0] 100)
 have hC:=(Blok.new (w.alloc (.cells #[.slice A n c] 23)) 59 #[.int .i64 ci,.int .i64 cf,.int .i64 ct,.int .i64 cs,.int .i64 ce,.int .i64 cr]).alloc (.cells #[.int .i64 cf,.int .i64 ct,.int .i64 0,.int .i64 0,.int .i64 0] 100)
 have hW:=Blok.new ((w.alloc (.cells #[.slice A n c] 23)).alloc (.cells #[.int .i64 ci,.int .i64 cf,.int .i64 ct,.int .i64 cs,.int .i64 ce,.int .i64 cr] 59)) 100 #[.int .i64 cf,.int .i64 ct,.int .i64 0,.int .i64 0,.int .i64 0]
 simp only [World.size_alloc] at hC hW
 have hs:=h.up hB
 have hz:=hB.size
 clear h hd
 go_enter Tryz.func87,Tryz.ntmps87
 go_wp2_with fail
 generalize (((w.alloc (.cells #[.slice A n c] 23)).alloc (.cells #[.int .i64 ci,.int .i64 cf,.int .i64 ct,.int .i64 cs,.int .i64 ce,.int .i64 cr] 59)).alloc (.cells #[.int .i64 cf,.int .i64 ct,.int .i64 0,.int .i64 0,.int .i64 0] 100)) = w2 at *
 refine (search_any n _ _ _ w2 hn (pred_owlt A n c d ci cf ct cs ce cr _ _ _ w2 HD.out hn hs hL hW hC)).mono ?_
 rintro e w3 ⟨i,rfl,hi,h1,h2,hb3⟩
 have HA:Hid (AskAt d cf ct ce n i):=⟨hi,h1,h2⟩
 replace hL:=hL.below hb3 hL.lt
 replace hC:=hC.below hb3 hC.lt
 replace hW:=hW.below hb3 hW.lt
 replace hs:=hs.up hb3
 replace hB:=hB.trans (hb3.mono hz)
 replace hz:=hB.size
 clear hb3 h1 h2
 have l0:w3.cell? ⟨w.heap.size,0,none⟩ = some (.slice A n c):=hL.cell 0
 by_cases hin:i = n
 ·subst hin
  have hib:((i:Int) == (i:Int)) = true:=by simp
  have hr:owR d cf ct cs i i = (0,false):=by unfold owR; rw [if_pos (.inl rfl)]
  have HR:=Lib.hid hr
  clear hr hL hC hW hs
  go_wp2_with fail
  have q_l0:=fun d os => cell_regrown l0 d os
  try simp only [List.append]
  first | refine wp_region_text_below ?_ | refine wp_region_quiet_below (by kernel_rfl) (by kernel_rfl) ?_
  repeat (go_big_quiet_step ((fail)))
  refine wpQuiet_nil ?_
  intro _ hqw
  obtain ⟨pq,hqw⟩:=hqw
  subst hqw
  clear q_l0
  have hb4:=below_regrown w3 pq.d pq.os
  go_wp2
  go_ret2
  exact ⟨i,0,false,rfl,HA.out,HR.out,hB.trans (hb4.mono hz)⟩
 ·have hib:((i:Int) == (n:Int)) = false:=beq_eq_false_iff_ne.2 (by omega)
  have hil:i < n:=by omega
  have hilI:(i:Int) < (n:Int):=by omega
  obtain ⟨ad,rfl,hab,c0,c1,c2,c3,c4⟩:=hs.lst.atRg HD.out hil
  obtain ⟨x,hx⟩:∃ x,gRg d i = x:=⟨_,rfl⟩
  rw [hx] at c0 c1 c2 c3 c4
  obtain ⟨y,hy⟩:∃ y,waysI x ⟨cf,ct,0,0,0⟩ = y:=⟨_,rfl⟩
  have w0:w3.cell? ⟨w.heap.size + 1 + 1,0,none⟩ = some (.int .i64 cf):=hW.cell 0
  have w1:w3.cell? ⟨w.heap.size + 1 + 1,1,none⟩ = some (.int .i64 ct):=hW.cell 1
  have w2':w3.cell? ⟨w.heap.size + 1 + 1,2,none⟩ = some (.int .i64 0):=hW.cell 2
  have w3':w3.cell? ⟨w.heap.size + 1 + 1,3,none⟩ = some (.int .i64 0):=hW.cell 3
  have w4':w3.cell? ⟨w.heap.size + 1 + 1,4,none⟩ = some (.int .i64 0):=hW.cell 4
  have k3:w3.cell? ⟨w.heap.size + 1,3,none⟩ = some (.int .i64 cs):=hC.cell 3
  have HX:=Lib.hid hx
  have HY:=Lib.hid hy
  clear hL hC hW
  by_cases hy0:y = 0
  ·have hyb:(y != 0) = false:=by simp [hy0]
   by_cases hst:cs < x.st
   ·have hdst:decide (cs < x.st) = true:=by simpa using hst
    have hr:owR d cf ct cs n i = (0,false):=by unfold owR; rw [if_pos (.inr (.inr (by rw [hx]; exact hst)))]
    have HR:=Lib.hid hr
    clear hr hx hy hy0 hs
    go_wp2_with fail
    have q_l0:=fun d os => cell_regrown l0 d os
    have q_w0:=fun d os => cell_regrown w0 d os
    have q_w1:=fun d os => cell_regrown w1 d os
    have q_w2':=fun d os => cell_regrown w2' d os
    have q_w3':=fun d os => cell_regrown w3' d os
    have q_w4':=fun d os => cell_regrown w4' d os
    have q_k3:=fun d os => cell_regrown k3 d os
    have q_c0:=fun d os => cell_regrown c0 d os
    have q_c1:=fun d os => cell_regrown c1 d os
    have q_c2:=fun d os => cell_regrown c2 d os
    have q_c3:=fun d os => cell_regrown c3 d os
    have q_c4:=fun d os => cell_regrown c4 d os
    try simp only [List.append]
    first | refine wp_region_text_below ?_ | refine wp_region_quiet_below (by kernel_rfl) (by kernel_rfl) ?_
    repeat (go_big_quiet_step ((go_at_call 133; with_reducible exact Calls.regrown_of (HY.out ▸ ways_any x ⟨cf,ct,0,0,0⟩ _))))
    refine wpQuiet_nil ?_
    intro _ hqw
    obtain ⟨pq,hqw⟩:=hqw
    subst hqw
    clear q_l0 q_w0 q_w1 q_w2' q_w3' q_w4' q_k3 q_c0 q_c1 q_c2 q_c3 q_c4
    have hb4:=below_regrown w3 pq.d pq.os
    clear c0 c1 c2 c3 c4 w0 w1 w2' w3' w4' k3 l0
    go_wp2
    go_ret2
    exact ⟨i,0,false,rfl,HA.out,HR.out,hB.trans (hb4.mono hz)⟩
   ·have hdst:decide (cs < x.st) = false:=by simpa using hst
    have hr:owR d cf ct cs n i = (x.ow,true):=by
     unfold owR
     rw [if_neg,hx]
     rw [hx,hy]
     rintro (e | e | e)
     ·exact hin e
     ·exact e hy0
     ·exact hst e
    have HR:=Lib.hid hr
    clear hr hx hy hy0
    go_wp2_with fail
    have q_l0:=fun d os => cell_regrown l0 d os
    have q_w0:=fun d os => cell_regrown w0 d os
    have q_w1:=fun d os => cell_regrown w1 d os
    have q_w2':=fun d os => cell_regrown w2' d os
    have q_w3':=fun d os => cell_regrown w3' d os
    have q_w4':=fun d os => cell_regrown w4' d os
    have q_k3:=fun d os => cell_regrown k3 d os
    have q_c0:=fun d os => cell_regrown c0 d os
    have q_c1:=fun d os => cell_regrown c1 d os
    have q_c2:=fun d os => cell_regrown c2 d os
    have q_c3:=fun d os => cell_regrown c3 d os
    have q_c4:=fun d os => cell_regrown c4 d os
    try simp only [List.append]
    first | refine wp_region_text_below ?_ | refine wp_region_quiet_below (by kernel_rfl) (by kernel_rfl) ?_
    repeat (go_big_quiet_step ((go_at_call 133; with_reducible exact Calls.regrown_of (HY.out ▸ ways_any x ⟨cf,ct,0,0,0⟩ _))))
    refine wpQuiet_nil ?_
    intro _ hqw
    obtain ⟨pq,hqw⟩:=hqw
    subst hqw
    clear q_l0 q_w0 q_w1 q_w2' q_w3' q_w4' q_k3 q_c0 q_c1 q_c2 q_c3 q_c4
    have hb4:=below_regrown w3 pq.d pq.os
    have l0':(grow (redrawn w3 pq.d) pq.os).cell? ⟨w.heap.size,0,none⟩ = some (.slice (some ad) n c):=cell_regrown l0 _ _
    have c4':(grow (redrawn w3 pq.d) pq.os).cell? ⟨(ad.add (i * 5)).block,(ad.add (i * 5)).off + 4,none⟩ = some (.int .i64 x.ow):=cell_regrown c4 _ _
    clear c0 c1 c2 c3 c4 w0 w1 w2' w3' w4' k3 l0 hs
    generalize grow (redrawn w3 pq.d) pq.os = wq at *
    go_wp2
    go_ret2
    exact ⟨i,x.ow,true,rfl,HA.out,HR.out,hB.trans (hb4.mono hz)⟩
  ·have hyb:(y != 0) = true:=by simpa using hy0
   have hr:owR d cf ct cs n i = (0,false):=by unfold owR; rw [if_pos (.inr (.inl (by rw [hx,hy]; exact hy0)))]
   have HR:=Lib.hid hr
   clear hr hx hy hy0 hs
   go_wp2_with fail
   have q_l0:=fun d os => cell_regrown l0 d os
   have q_w0:=fun d os => cell_regrown w0 d os
   have q_w1:=fun d os => cell_regrown w1 d os
   have q_w2':=fun d os => cell_regrown w2' d os
   have q_w3':=fun d os => cell_regrown w3' d os
   have q_w4':=fun d os => cell_regrown w4' d os
   have q_k3:=fun d os => cell_regrown k3 d os
   have q_c0:=fun d os => cell_regrown c0 d os
   have q_c1:=fun d os => cell_regrown c1 d os
   have q_c2:=fun d os => cell_regrown c2 d os
   have q_c3:=fun d os => cell_regrown c3 d os
   have q_c4:=fun d os => cell_regrown c4 d os
   try simp only [List.append]
   first | refine wp_region_text_below ?_ | refine wp_region_quiet_below (by kernel_rfl) (by kernel_rfl) ?_
   repeat (go_big_quiet_step ((go_at_call 133; with_reducible exact Calls.regrown_of (HY.out ▸ ways_any x ⟨cf,ct,0,0,0⟩ _))))
   refine wpQuiet_nil ?_
   intro _ hqw
   obtain ⟨pq,hqw⟩:=hqw
   subst hqw
   clear q_l0 q_w0 q_w1 q_w2' q_w3' q_w4' q_k3 q_c0 q_c1 q_c2 q_c3 q_c4
   have hb4:=below_regrown w3 pq.d pq.os
   clear c0 c1 c2 c3 c4 w0 w1 w2' w3' w4' k3 l0
   go_wp2
   go_ret2
   exact ⟨i,0,false,rfl,HA.out,HR.out,hB.trans (hb4.mono hz)⟩
theorem own_below {w w':World} {base:Nat} {e:TypeId} {size n:Nat} {v:Value} {xs:List Value} (h:w.ownsRow base e size v n xs) (hb:Below w.heap.size w w'):w'.ownsRow base e size v n xs:=
 h.kept (grown_of_below (row:=some w.heap.size) hb) (.inr (fun e => by have:=(h.lt _ e).2; omega))
instance (d:List Rg) (cf ct ce:Int) (n i:Nat):Decidable (AskAt d cf ct ce n i):=by unfold AskAt; infer_instance
end Go.Proofs.YtodcoockhkghdaaGreat.Kr
namespace Go.Proofs.YtodcoockhkghdaaGreat
open Go.ChangeShapes Go.WideShapes Go.ChangeAt Go.RowKit Go.Sort
set_option linter.unusedSimpArgs false
set_option linter.unusedVariables false
variable {H:Type} {enc:TypeId × Value → H} {P:Program}
theorem open_rowsS {w:World} {base b0:Nat} {r:Reach} {spare:Nat → Bool} {held:Bool} {t e:TypeId} {v:Value} {d:DataW H} {p:List MemPlace} (q:Nat) {K:Nat} (ht:P.underlying t = some (.slice e)) (hf:flatB P q e = true) (hK:P.cellsOf e = K) (hpos:0 < K)
  (hv:Value.okWide P w r b0 t v) (h:DataW.Trod enc P w base spare held t v d p) :
  ∃ (A:Option Addr) (n c:Nat) (ns:List Int),v = .slice A n c ∧ Sl w w.heap.size K A n c (ns.map (Value.int .i64)) ∧ ns.length = n * K ∧ ∀ m ∈ ns,(Lit.int .i64 m).wf = true:=by
 obtain ⟨A,n,c,ns,rfl,h1,h2,h3,h4,h5⟩:=open_rows q ht hf hK hpos hv h
 refine ⟨A,n,c,ns,rfl,⟨h3,h1,h2,fun hA => ?_⟩,h4,h5⟩
 subst hA
 obtain ⟨fuel,hx⟩:=h
 rcases Go.Deep.open_slice ht hx with ⟨h0,_⟩ | ⟨a,len,cap,m,q',D,Pl,hcs,_⟩
 ·have h0':Value.slice none n c = .slice none 0 0:=by simpa [Value.cells] using h0
  injection h0'
 ·simp [Value.cells] at hcs
end Go.Proofs.YtodcoockhkghdaaGreat
namespace Go.Proofs.YtodcoockhkghdaaGreat.Kr
open Go.ChangeShapes Go.WideShapes Go.ChangeAt Go.RowKit Go.Sort
set_option linter.unusedSimpArgs false
set_option linter.unusedVariables false
theorem okR_span {r:Rg} (h:okR r = true):r.st < r.en ∧ 0 ≤ r.ow ∧ r.ow ≤ 2147483647:=by
 unfold okR rangeB spanB inB at h
 simp at h
 omega
theorem mem_gRg {d:List Rg} {y:Rg} (h:y ∈ d):∃ j,j < d.length ∧ gRg d j = y:=by
 obtain ⟨j,hj,e⟩:=List.mem_iff_getElem.1 h
 exact ⟨j,hj,by unfold gRg; rw [List.getD_eq_getElem?_getD,List.getElem?_eq_getElem hj,e]; rfl⟩
end Go.Proofs.YtodcoockhkghdaaGreat.Kr
namespace Go.Proofs.YtodcoockhkghdaaGreat
open Go.ChangeShapes Go.WideShapes Go.ChangeAt Go.RowKit Go.Sort
set_option linter.unusedSimpArgs false
set_option linter.unusedVariables false
theorem step_dyn {P:Program} {ops:Array Oper} {o:Oper} {a:Act} {w:World} {K:Act → World → Prop} {Q:Exit → Act → World → Prop} {E:Prop} (hgd:o.guard = none) (c:Operand) (xs:Array Operand) (ats:Array TypeId)
  (ho : o.op = .call { callee := .value c, args := xs, argTypes := ats }) (f : FuncId) (cb : Array Value) (hc : a.eval c = .func (.func f) #[] cb) (vals : Array Value) (hv : xs.map a.eval ++ cb = vals) {fn : Func} (hf : P.funcs[f]? = some fn) (hb : fn.body.isNone = false) (hnm : (fn.name == "runtime.NumGoroutine") = false)
  (h:Calls P f vals w fun e w' => ∃ v,e = .returned v ∧ K (a.put o.dst v) w') :
  if Region.wanted o (yielded ops a.tmps) = true then Oper.wp P o a w K Q else E:=by
 rw [if_pos (by simp [Region.wanted,hgd])]
 obtain ⟨dst,op,ty,pos,after,guard⟩:=o
 simp only at ho
 subst ho
 unfold Oper.wp
 have e0:execOp a.eval { dst,op:=.call { callee:=.value c,args:=xs,argTypes:=ats },type:=ty,pos,after,guard } = callFunc f vals:=by
  rw [← hv]
  simp [execOp,resolve,Deferred.ofValue,hc,invoke]
 rw [e0]
 have e:(callFunc f vals).run P w = .ok (.enter f vals) w:=by
  have h1 : fn.name ≠ "runtime.NumGoroutine" := by simpa using hnm
  have h2:fn.body ≠ none:=by intro e; rw [e] at hb; cases hb
  simp [callFunc,run_program,hf]
  rw [if_neg h1,if_neg h2]
 rw [e]
 refine h.mono ?_
 rintro e w' ⟨v,rfl,hK⟩
 exact hK
end Go.Proofs.YtodcoockhkghdaaGreat
namespace Go.Proofs.YtodcoockhkghdaaGreat
open Go.ChangeShapes Go.WideShapes Go.ChangeAt Go.RowKit Go.Sort
set_option linter.unusedSimpArgs false
set_option linter.unusedVariables false
variable {H:Type} {enc:TypeId × Value → H} {P:Program}
theorem rows_of_trod {w:World} {base:Nat} {spare:Nat → Bool} {held:Bool} {t e:TypeId} {fuel:Nat} {cs:List Value} {x:DataW H × List MemPlace} (q:Nat) {K:Nat} (ht:P.underlying t = some (.slice e)) (hf:flatB P q e = true) (hK:P.cellsOf e = K) (hpos:0 < K)
  (hx:DataW.trod enc P w base spare held fuel t cs = some x) :
  ∃ (A:Option Addr) (n c:Nat) (ns:List Int),cs = [.slice A n c] ∧ Sl w w.heap.size K A n c (ns.map (Value.int .i64)) ∧ ns.length = n * K ∧ ∀ m ∈ ns,(Lit.int .i64 m).wf = true:=by
 subst hK
 rcases Go.Deep.open_slice ht hx with ⟨rfl,_⟩ | ⟨a,n,c,m,q',D,Pl,rfl,hb,hl,hm,hmm,_,hi⟩
 ·exact ⟨none,0,0,[],rfl,Sl.nil0 _ _ _,by simp,by simp⟩
 ·have hnm:n ≤ m:=by rw [hmm]; split <;> omega
  have key:∀ i,i ≤ n → ∃ ns:List Int,ns.length = i * P.cellsOf e ∧ (∀ j u,(ns.map (Value.int .i64))[j]? = some u → w.cell? (a.add j) = some u) ∧ ∀ m ∈ ns,(Lit.int .i64 m).wf = true:=by
   intro i
   induction i with
   | zero => exact fun _ => ⟨[],by simp,by simp,by simp⟩
   | succ i ih =>
    intro hin
    obtain ⟨ns,n1,n2,n3⟩:=ih (by omega)
    obtain ⟨cs',hc,htr⟩:=hi i (by omega)
    obtain ⟨_,hcl,hat⟩:=World.cells?_some hc
    obtain ⟨ms,e1,e2⟩:=ints_of_cells (flat_cell q hf htr)
    refine ⟨ns ++ ms,?_,fun j u hu => ?_,fun x hx => ?_⟩
    ·have hml:ms.length = P.cellsOf e:=by rw [← hcl,e1]; simp
     rw [List.length_append,n1,hml,Nat.add_mul,Nat.one_mul]
    ·rw [List.map_append] at hu
     by_cases hj:j < ns.length
     ·rw [List.getElem?_append_left (by simpa using hj)] at hu
      exact n2 j u hu
     ·rw [List.getElem?_append_right (by simpa using hj)] at hu
      have hjl:j - ns.length < P.cellsOf e:=by
       have:=(List.getElem?_eq_some_iff.1 hu).1
       rw [List.length_map] at this
       rw [← e1,hcl] at this
       simpa using this
      have:=hat (j - ns.length) hjl
      rw [add_plus,n1] at this
      rw [show i * P.cellsOf e + (j - i * P.cellsOf e) = j from by omega] at this
      rw [this,e1,← n1]
      simpa using hu
    ·rcases List.mem_append.1 hx with hx | hx
     ·exact n3 x hx
     ·exact e2 x hx
  obtain ⟨ns,n1,n2,n3⟩:=key n (Nat.le_refl _)
  refine ⟨some a,n,c,ns,rfl,⟨⟨by simpa using n1,fun hn => ⟨a,rfl,?_,n2⟩⟩,hl,hm,fun h => by cases h⟩,n1,n3⟩
  have h0:0 < ns.length:=by rw [n1]; exact Nat.mul_pos hn hpos
  have:=n2 0 (.int .i64 ns[0]) (by simp)
  rw [add_zero_] at this
  exact block_lt_of_cell this
end Go.Proofs.YtodcoockhkghdaaGreat
namespace Go.Proofs.YtodcoockhkghdaaGreat
open Go.ChangeShapes Go.WideShapes Go.ChangeAt Go.RowKit Go.Sort
set_option linter.unusedSimpArgs false
set_option linter.unusedVariables false
variable {H:Type} {enc:TypeId × Value → H} {P:Program}
theorem open_plan {w:World} {base b0:Nat} {r:Reach} {spare:Nat → Bool} {held:Bool} {t e0 e1:TypeId} {f0 f1 f2 f3:Field} {v:Value} {d:DataW H} {p:List MemPlace} (q:Nat) {K0 K1:Nat} (hs:P.underlying t = some (.struct #[f0,f1,f2,f3]))
  (hfo:(f0.offset == 0 && P.cellsOf f0.type == 1 && f1.offset == 1 && P.cellsOf f1.type == 1 && f2.offset == 2 && P.cellsOf f2.type == 1 && f3.offset == 3 && P.cellsOf f3.type == 1 && P.cellsOf t == 4) = true)
  (ht0:P.underlying f0.type = some (.slice e0)) (ht1:P.underlying f1.type = some (.slice e1)) (hi2:P.underlying f2.type = some (.int .i64)) (hi3:P.underlying f3.type = some (.int .i64)) (hf0:flatB P q e0 = true) (hf1:flatB P q e1 = true) (hK0:P.cellsOf e0 = K0) (hpos0:0 < K0) (hK1:P.cellsOf e1 = K1) (hpos1:0 < K1)
  (hv:Value.okWide P w r b0 t v) (h:DataW.Trod enc P w base spare held t v d p) :
  ∃ (A:Option Addr) (n c:Nat) (ns:List Int) (B:Option Addr) (m k:Nat) (ms:List Int) (x y:Int),v = .agg #[.slice A n c,.slice B m k,.int .i64 x,.int .i64 y] ∧
   Sl w w.heap.size K0 A n c (ns.map (Value.int .i64)) ∧ ns.length = n * K0 ∧ (∀ u ∈ ns,(Lit.int .i64 u).wf = true) ∧
   Sl w w.heap.size K1 B m k (ms.map (Value.int .i64)) ∧ ms.length = m * K1 ∧ (∀ u ∈ ms,(Lit.int .i64 u).wf = true) ∧ (Lit.int .i64 x).wf = true ∧ (Lit.int .i64 y).wf = true:=by
 simp only [Bool.and_eq_true,beq_iff_eq] at hfo
 obtain ⟨⟨⟨⟨⟨⟨⟨⟨o0,k0⟩,o1⟩,k1⟩,o2⟩,k2⟩,o3⟩,k3⟩,kt⟩:=hfo
 obtain ⟨cs,rfl,hsz⟩:=okWide_struct hs hv
 obtain ⟨fuel,hx⟩:=h
 obtain ⟨y0,y1,y2,y3,n,_,hl,t0,t1,t2,t3⟩:=Go.Joins.trod_struct4 hs hx
 rw [o0,k0] at t0
 rw [o1,k1] at t1
 rw [o2,k2] at t2
 rw [o3,k3] at t3
 obtain ⟨l⟩:=cs
 rw [kt] at hsz
 have hl2:l.length = 4:=hsz
 match l,hl2 with
 | [c0,c1,c2,c3],_ =>
  change DataW.trod enc P w base spare held n f0.type [c0] = some y0 at t0
  change DataW.trod enc P w base spare held n f1.type [c1] = some y1 at t1
  change DataW.trod enc P w base spare held n f2.type [c2] = some y2 at t2
  change DataW.trod enc P w base spare held n f3.type [c3] = some y3 at t3
  obtain ⟨A,n0,c,ns,g1,g2,g3,g4⟩:=rows_of_trod q ht0 hf0 hK0 hpos0 t0
  obtain ⟨B,m,k,ms,j1,j2,j3,j4⟩:=rows_of_trod q ht1 hf1 hK1 hpos1 t1
  obtain ⟨x,h1,_,h3⟩:=DataW.trod_int hi2 t2
  obtain ⟨y,i1,_,i3⟩:=DataW.trod_int hi3 t3
  injection g1 with g1
  injection j1 with j1
  injection h1 with h1
  injection i1 with i1
  subst g1 j1 h1 i1
  exact ⟨A,n0,c,ns,B,m,k,ms,x,y,rfl,g2,g3,g4,j2,j3,j4,h3,i3⟩
end Go.Proofs.YtodcoockhkghdaaGreat
