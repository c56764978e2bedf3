/- The document's own contacts: which stands ahead, Compare, overlap, Find. -/
import Derived.Test.YtolaabllhibkdaaGreatContactsAct
import Derived.Test.YtolaabllhibkdaaGreatGN
namespace Go.Proofs.YtolaabllhibkdaaGreat.Kc
open Go.ChangeShapes Go.WideShapes Go.ChangeAt Go.RowKit Go.Sort
set_option linter.unusedSimpArgs false
set_option linter.unusedVariables false
set_option maxHeartbeats 1000000 in
set_option maxRecDepth 100000 in
theorem rless_any (a b:Co) (v:Bool) (hv:decide (cmpC a b < 0) = v) (w:World):Calls Tryz.prog 72 #[.agg #[.int .i64 a.id,.int .i64 a.fr,.int .i64 a.tn,.int .i64 a.st,.int .i64 a.en,.int .i64 a.rt],.agg #[.int .i64 b.id,.int .i64 b.fr,.int .i64 b.tn,.int .i64 b.st,.int .i64 b.en,.int .i64 b.rt]] w fun e w' => e = .returned (.bool v) ∧ Below w.heap.size w w':=by
 have hB:Below w.heap.size w ((w.alloc (.cells #[.int .i64 a.id,.int .i64 a.fr,.int .i64 a.tn,.int .i64 a.st,.int .i64 a.en,.int .i64 a.rt] 33)).alloc (.cells #[.int .i64 b.id,.int .i64 b.fr,.int .i64 b.tn,.int .i64 b.st,.int .i64 b.en,.int .i64 b.rt] 33)):=by (repeat (first | exact Below.refl _ _ | refine Below.alloc ?_ (by first | omega | (simp; done) | (simp; omega)) _ | refine Below.setCell ?_ (by first | omega | (simp; done) | (simp; omega)) _ | refine Below.drew ?_))
 have hlt:v = true ↔ ltC a b:=by rw [← hv,decide_eq_true_eq]; exact cmpC_lt
 have HV:=Lib.hid hlt
 clear hv hlt
 by_cases h1:a.fr = b.fr
 ·have d1:(a.fr != b.fr) = false:=by simp [h1]
  by_cases h2:a.tn = b.tn
  ·have d2:(a.tn != b.tn) = false:=by simp [h2]
   by_cases h3:a.st = b.st
   ·have d3:(a.st != b.st) = false:=by simp [h3]
    have hr:v = decide (a.id < b.id):=by rw [Bool.eq_iff_iff,HV.out,decide_eq_true_eq]; unfold ltC; omega
    have HR:=Lib.hid hr
    clear hr h1 h2 h3
    go_enter Tryz.func72,Tryz.ntmps72
    go_wp2
    go_ret
    exact ⟨by rw [HR.out]; rfl,hB⟩
   ·have d3:(a.st != b.st) = true:=by simp [h3]
    have hr:v = decide (a.st < b.st):=by rw [Bool.eq_iff_iff,HV.out,decide_eq_true_eq]; unfold ltC; omega
    have HR:=Lib.hid hr
    clear hr h1 h2 h3
    go_enter Tryz.func72,Tryz.ntmps72
    go_wp2
    go_ret
    exact ⟨by rw [HR.out]; rfl,hB⟩
  ·have d2:(a.tn != b.tn) = true:=by simp [h2]
   have hr:v = decide (a.tn < b.tn):=by rw [Bool.eq_iff_iff,HV.out,decide_eq_true_eq]; unfold ltC; omega
   have HR:=Lib.hid hr
   clear hr h1 h2
   go_enter Tryz.func72,Tryz.ntmps72
   go_wp2
   go_ret
   exact ⟨by rw [HR.out]; rfl,hB⟩
 ·have d1:(a.fr != b.fr) = true:=by simp [h1]
  have hr:v = decide (a.fr < b.fr):=by rw [Bool.eq_iff_iff,HV.out,decide_eq_true_eq]; unfold ltC; omega
  have HR:=Lib.hid hr
  clear hr h1
  go_enter Tryz.func72,Tryz.ntmps72
  go_wp2
  go_ret
  exact ⟨by rw [HR.out]; rfl,hB⟩
set_option maxHeartbeats 1000000 in
set_option maxRecDepth 100000 in
theorem roverlap_any (a b:Co) (v:Bool) (hv:overC a b = v) (w:World):Calls Tryz.prog 73 #[.agg #[.int .i64 a.id,.int .i64 a.fr,.int .i64 a.tn,.int .i64 a.st,.int .i64 a.en,.int .i64 a.rt],.agg #[.int .i64 b.id,.int .i64 b.fr,.int .i64 b.tn,.int .i64 b.st,.int .i64 b.en,.int .i64 b.rt]] w fun e w' => e = .returned (.bool v) ∧ Below w.heap.size w w':=by
 have hB:Below w.heap.size w ((w.alloc (.cells #[.int .i64 a.id,.int .i64 a.fr,.int .i64 a.tn,.int .i64 a.st,.int .i64 a.en,.int .i64 a.rt] 33)).alloc (.cells #[.int .i64 b.id,.int .i64 b.fr,.int .i64 b.tn,.int .i64 b.st,.int .i64 b.en,.int .i64 b.rt] 33)):=by (repeat (first | exact Below.refl _ _ | refine Below.alloc ?_ (by first | omega | (simp; done) | (simp; omega)) _ | refine Below.setCell ?_ (by first | omega | (simp; done) | (simp; omega)) _ | refine Below.drew ?_))
 have HV:=Lib.hid hv
 clear hv
 by_cases h1:a.fr = b.fr <;> by_cases h2:a.tn = b.tn <;> by_cases h3:a.st < b.en <;> by_cases h4:b.st < a.en
 all_goals
  have hr:v = decide (a.fr = b.fr ∧ a.tn = b.tn ∧ a.st < b.en ∧ b.st < a.en):=HV.out.symm
  simp only [h1,h2,h3,h4,and_true,and_false,and_self,decide_true,decide_false,false_and,true_and] at hr
  have d1:(a.fr == b.fr) = decide (a.fr = b.fr):=by rw [Bool.eq_iff_iff]; simp
  have d2:(a.tn == b.tn) = decide (a.tn = b.tn):=by rw [Bool.eq_iff_iff]; simp
  obtain ⟨p3,d3⟩:∃ p,decide (a.st < b.en) = p:=⟨_,rfl⟩
  obtain ⟨p4,d4⟩:∃ p,decide (b.st < a.en) = p:=⟨_,rfl⟩
  have e3:=d3
  have e4:=d4
  simp only [h1,h2,decide_true,decide_false] at d1 d2
  simp only [h3,h4,decide_true,decide_false] at e3 e4
  subst e3 e4
  have HR:=Lib.hid hr
  have H1:=Lib.hid h1
  have H2:=Lib.hid h2
  clear hr h1 h2 h3 h4
  go_enter Tryz.func73,Tryz.ntmps73
  go_wp2
  go_ret
  have h1:=H1.out
  have h2:=H2.out
  exact ⟨by rw [HR.out]; first | rfl | simp [*],by first | exact hB | (rw [h1] at hB; exact hB) | (rw [h2] at hB; exact hB) | (rw [h1,h2] at hB; exact hB)⟩
theorem foundC_at {d:List Co} {id:Int} {i:Nat} (hi:i < d.length) (h:(gCo d i).id = id) (hn:∀ j,j < i → (gCo d j).id ≠ id):foundC d id = gCo d i ∧ idIn d id = true:=by
 have hg:gCo d i = d[i]:=gCo_eq hi
 refine ⟨?_,?_⟩
 ·unfold foundC
  have:d.find? (fun x => x.id == id) = some d[i]:=by
   rw [List.find?_eq_some_iff_getElem]
   refine ⟨by rw [← hg]; simp [h],i,hi,rfl,fun j hj => ?_⟩
   have hjl:j < d.length:=by omega
   have:=hn j hj
   rw [gCo_eq hjl] at this
   simpa using this
  rw [this,hg]; rfl
 ·unfold idIn
  rw [List.any_eq_true]
  exact ⟨d[i],List.getElem_mem hi,by rw [← hg]; simp [h]⟩
theorem foundC_none {d:List Co} {id:Int} (hn:∀ j,j < d.length → (gCo d j).id ≠ id):foundC d id = ⟨0,0,0,0,0,0⟩ ∧ idIn d id = false:=by
 have hall:∀ x ∈ d,¬ (x.id == id) = true:=fun x hx => by
  obtain ⟨j,hj,rfl⟩:=List.mem_iff_getElem.1 hx
  have:=hn j hj
  rw [gCo_eq hj] at this
  simpa using this
 refine ⟨?_,?_⟩
 ·unfold foundC
  rw [List.find?_eq_none.2 hall]; rfl
 ·unfold idIn
  rw [List.any_eq_false]
  exact hall
set_option maxHeartbeats 1000000 in
set_option maxRecDepth 100000 in
theorem rfind6_any (A:Option Addr) (n c:Nat) (d:List Co) (id:Int) (w:World) (hd:d.length = n) (hn:n ≤ 1000000) (h:Sl w w.heap.size 6 A n c (flatCo d)) (x:Co) (b:Bool) (hx:foundC d id = x) (hb:idIn d id = b) :
  Calls Tryz.prog 85 #[.slice A n c,.int .i64 id] w fun e w' => e = .returned (.tuple #[.agg #[.int .i64 x.id,.int .i64 x.fr,.int .i64 x.tn,.int .i64 x.st,.int .i64 x.en,.int .i64 x.rt],.bool b]) ∧ Below w.heap.size w w':=by
 have hBa:Below w.heap.size w (w.alloc (.cells #[.int .i64 0,.int .i64 0,.int .i64 0,.int .i64 0,.int .i64 0,.int .i64 0] 33)):=by (repeat (first | exact Below.refl _ _ | refine Below.alloc ?_ (by first | omega | (simp; done) | (simp; omega)) _ | refine Below.setCell ?_ (by first | omega | (simp; done) | (simp; omega)) _ | refine Below.drew ?_))
 have hX:=Blok.new w 33 #[.int .i64 0,.int .i64 0,.int .i64 0,.int .i64 0,.int .i64 0,.int .i64 0]
 have hl:=h.up hBa
 have HD:=Lib.hid hd
 have HXX:=Lib.hid hx
 have HBX:=Lib.hid hb
 clear h hd hx hb
 go_enter Tryz.func85,Tryz.ntmps85
 go_wp2
 generalize w.alloc (.cells #[.int .i64 0,.int .i64 0,.int .i64 0,.int .i64 0,.int .i64 0,.int .i64 0] 33) = w2 at *
 have HL:=Lib.hid hl
 have HX:=Lib.hid hX
 have HB:=Lib.hid hBa
 clear hl hX hBa
 go_loopw [6] (fun iv wr => ∃ (i:Nat),iv = .int .i64 i ∧ i ≤ n ∧ Hid (∀ j,j < i → (gCo d j).id ≠ id) ∧ w2 = wr) (fun iv _ => n - (intOf iv).toNat)
 case atStart => exact ⟨0,rfl,by omega,fun j hj => by omega,rfl⟩
 case round =>
  obtain ⟨i,rfl,hi,HN,rfl⟩:=hrel
  have hX:=HX.out
  have hBa:=HB.out
  have hlt:=hX.lt
  by_cases hin:i < n
  ·obtain ⟨ad,rfl,hab,c0,c1,c2,c3,c4,c5⟩:=HL.out.lst.atCo HD.out hin
   by_cases he:(gCo d i).id = id
   ·obtain ⟨f1,f2⟩:=foundC_at (by rw [HD.out]; exact hin) he HN.out
    rw [HXX.out] at f1
    rw [HBX.out] at f2
    subst f2
    have hq:((gCo d i).id == id) = true:=beq_iff_eq.2 he
    rw [← f1] at c0 c1 c2 c3 c4 c5 hq
    have HXB:=Lib.hid hX
    have r0:w2.cell? ⟨w.heap.size,0,none⟩ = some (.int .i64 0):=hX.cell 0
    have f_0:=hX.free 0
    have r1:w2.cell? ⟨w.heap.size,1,none⟩ = some (.int .i64 0):=hX.cell 1
    have f_1:=hX.free 1
    have r2:w2.cell? ⟨w.heap.size,2,none⟩ = some (.int .i64 0):=hX.cell 2
    have f_2:=hX.free 2
    have r3:w2.cell? ⟨w.heap.size,3,none⟩ = some (.int .i64 0):=hX.cell 3
    have f_3:=hX.free 3
    have r4:w2.cell? ⟨w.heap.size,4,none⟩ = some (.int .i64 0):=hX.cell 4
    have f_4:=hX.free 4
    have r5:w2.cell? ⟨w.heap.size,5,none⟩ = some (.int .i64 0):=hX.cell 5
    have f_5:=hX.free 5
    clear he f1 HX HB hX
    go_wp2
    have hX:=HXB.out
    clear r0 r1 r2 r3 r4 r5
    have hF:Blok ((((((w2.setCell ⟨w.heap.size,0,none⟩ (.int .i64 x.id)).setCell ⟨w.heap.size,1,none⟩ (.int .i64 x.fr)).setCell ⟨w.heap.size,2,none⟩ (.int .i64 x.tn)).setCell ⟨w.heap.size,3,none⟩ (.int .i64 x.st)).setCell ⟨w.heap.size,4,none⟩ (.int .i64 x.en)).setCell ⟨w.heap.size,5,none⟩ (.int .i64 x.rt)) w.heap.size 33 #[.int .i64 x.id,.int .i64 x.fr,.int .i64 x.tn,.int .i64 x.st,.int .i64 x.en,.int .i64 x.rt]:=by have h:=((((((hX.set_ 0 (.int .i64 x.id)).set_ 1 (.int .i64 x.fr)).set_ 2 (.int .i64 x.tn)).set_ 3 (.int .i64 x.st)).set_ 4 (.int .i64 x.en)).set_ 5 (.int .i64 x.rt)); simpa using h
    have hle0:w.heap.size ≤ w.heap.size:=by first | exact Nat.le_refl _ | omega
    have hWf:Below w.heap.size w ((((((w2.setCell ⟨w.heap.size,0,none⟩ (.int .i64 x.id)).setCell ⟨w.heap.size,1,none⟩ (.int .i64 x.fr)).setCell ⟨w.heap.size,2,none⟩ (.int .i64 x.tn)).setCell ⟨w.heap.size,3,none⟩ (.int .i64 x.st)).setCell ⟨w.heap.size,4,none⟩ (.int .i64 x.en)).setCell ⟨w.heap.size,5,none⟩ (.int .i64 x.rt)):=((((((hBa.setCell (p:=⟨w.heap.size,0,none⟩) hle0 (.int .i64 x.id)).setCell (p:=⟨w.heap.size,1,none⟩) hle0 (.int .i64 x.fr)).setCell (p:=⟨w.heap.size,2,none⟩) hle0 (.int .i64 x.tn)).setCell (p:=⟨w.heap.size,3,none⟩) hle0 (.int .i64 x.st)).setCell (p:=⟨w.heap.size,4,none⟩) hle0 (.int .i64 x.en)).setCell (p:=⟨w.heap.size,5,none⟩) hle0 (.int .i64 x.rt))
    have hlF:=hF.lt
    generalize ((((((w2.setCell ⟨w.heap.size,0,none⟩ (.int .i64 x.id)).setCell ⟨w.heap.size,1,none⟩ (.int .i64 x.fr)).setCell ⟨w.heap.size,2,none⟩ (.int .i64 x.tn)).setCell ⟨w.heap.size,3,none⟩ (.int .i64 x.st)).setCell ⟨w.heap.size,4,none⟩ (.int .i64 x.en)).setCell ⟨w.heap.size,5,none⟩ (.int .i64 x.rt)) = wf at *
    have r0:wf.cell? ⟨w.heap.size,0,none⟩ = some (.int .i64 x.id):=hF.cell 0
    have r1:wf.cell? ⟨w.heap.size,1,none⟩ = some (.int .i64 x.fr):=hF.cell 1
    have r2:wf.cell? ⟨w.heap.size,2,none⟩ = some (.int .i64 x.tn):=hF.cell 2
    have r3:wf.cell? ⟨w.heap.size,3,none⟩ = some (.int .i64 x.st):=hF.cell 3
    have r4:wf.cell? ⟨w.heap.size,4,none⟩ = some (.int .i64 x.en):=hF.cell 4
    have r5:wf.cell? ⟨w.heap.size,5,none⟩ = some (.int .i64 x.rt):=hF.cell 5
    refine bodyPost_ret (v:=.tuple #[.agg #[.int .i64 x.id,.int .i64 x.fr,.int .i64 x.tn,.int .i64 x.st,.int .i64 x.en,.int .i64 x.rt],.bool true]) (by simp [results,Tryz.results85,go_sem,r0,r1,r2,r3,r4,r5,hlF]) rfl ?_
    exact ⟨rfl,hWf⟩
   ·have hq:((gCo d i).id == id) = false:=beq_eq_false_iff_ne.2 he
    have HN2:Hid (∀ j,j < i + 1 → (gCo d j).id ≠ id):=fun j hj => by
     by_cases e:j = i
     ·subst e; exact he
     ·exact HN.out j (by omega)
    clear he hX
    go_wp2_with fail
    go_roundw
    case rel => exact ⟨i + 1,by go_num,by omega,HN2,by first | rfl | trivial⟩
    case measure => simp [intOf]; omega
  ·obtain ⟨f1,f2⟩:=foundC_none (d:=d) (id:=id) (fun j hj => HN.out j (by rw [HD.out] at hj; omega))
   rw [HXX.out] at f1
   rw [HBX.out] at f2
   subst f1 f2
   have HXB:=Lib.hid hX
   have r0:w2.cell? ⟨w.heap.size,0,none⟩ = some (.int .i64 0):=hX.cell 0
   have f_0:=hX.free 0
   have r1:w2.cell? ⟨w.heap.size,1,none⟩ = some (.int .i64 0):=hX.cell 1
   have f_1:=hX.free 1
   have r2:w2.cell? ⟨w.heap.size,2,none⟩ = some (.int .i64 0):=hX.cell 2
   have f_2:=hX.free 2
   have r3:w2.cell? ⟨w.heap.size,3,none⟩ = some (.int .i64 0):=hX.cell 3
   have f_3:=hX.free 3
   have r4:w2.cell? ⟨w.heap.size,4,none⟩ = some (.int .i64 0):=hX.cell 4
   have f_4:=hX.free 4
   have r5:w2.cell? ⟨w.heap.size,5,none⟩ = some (.int .i64 0):=hX.cell 5
   have f_5:=hX.free 5
   clear hX HN
   go_wp2
   have hX:=HXB.out
   clear r0 r1 r2 r3 r4 r5
   have hF:Blok ((((((w2.setCell ⟨w.heap.size,0,none⟩ (.int .i64 0)).setCell ⟨w.heap.size,1,none⟩ (.int .i64 0)).setCell ⟨w.heap.size,2,none⟩ (.int .i64 0)).setCell ⟨w.heap.size,3,none⟩ (.int .i64 0)).setCell ⟨w.heap.size,4,none⟩ (.int .i64 0)).setCell ⟨w.heap.size,5,none⟩ (.int .i64 0)) w.heap.size 33 #[.int .i64 0,.int .i64 0,.int .i64 0,.int .i64 0,.int .i64 0,.int .i64 0]:=by have h:=((((((hX.set_ 0 (.int .i64 0)).set_ 1 (.int .i64 0)).set_ 2 (.int .i64 0)).set_ 3 (.int .i64 0)).set_ 4 (.int .i64 0)).set_ 5 (.int .i64 0)); simpa using h
   have hle0:w.heap.size ≤ w.heap.size:=by first | exact Nat.le_refl _ | omega
   have hWf:Below w.heap.size w ((((((w2.setCell ⟨w.heap.size,0,none⟩ (.int .i64 0)).setCell ⟨w.heap.size,1,none⟩ (.int .i64 0)).setCell ⟨w.heap.size,2,none⟩ (.int .i64 0)).setCell ⟨w.heap.size,3,none⟩ (.int .i64 0)).setCell ⟨w.heap.size,4,none⟩ (.int .i64 0)).setCell ⟨w.heap.size,5,none⟩ (.int .i64 0)):=((((((hBa.setCell (p:=⟨w.heap.size,0,none⟩) hle0 (.int .i64 0)).setCell (p:=⟨w.heap.size,1,none⟩) hle0 (.int .i64 0)).setCell (p:=⟨w.heap.size,2,none⟩) hle0 (.int .i64 0)).setCell (p:=⟨w.heap.size,3,none⟩) hle0 (.int .i64 0)).setCell (p:=⟨w.heap.size,4,none⟩) hle0 (.int .i64 0)).setCell (p:=⟨w.heap.size,5,none⟩) hle0 (.int .i64 0))
   have hlF:=hF.lt
   generalize ((((((w2.setCell ⟨w.heap.size,0,none⟩ (.int .i64 0)).setCell ⟨w.heap.size,1,none⟩ (.int .i64 0)).setCell ⟨w.heap.size,2,none⟩ (.int .i64 0)).setCell ⟨w.heap.size,3,none⟩ (.int .i64 0)).setCell ⟨w.heap.size,4,none⟩ (.int .i64 0)).setCell ⟨w.heap.size,5,none⟩ (.int .i64 0)) = wf at *
   have r0:wf.cell? ⟨w.heap.size,0,none⟩ = some (.int .i64 0):=hF.cell 0
   have r1:wf.cell? ⟨w.heap.size,1,none⟩ = some (.int .i64 0):=hF.cell 1
   have r2:wf.cell? ⟨w.heap.size,2,none⟩ = some (.int .i64 0):=hF.cell 2
   have r3:wf.cell? ⟨w.heap.size,3,none⟩ = some (.int .i64 0):=hF.cell 3
   have r4:wf.cell? ⟨w.heap.size,4,none⟩ = some (.int .i64 0):=hF.cell 4
   have r5:wf.cell? ⟨w.heap.size,5,none⟩ = some (.int .i64 0):=hF.cell 5
   refine bodyPost_ret (v:=.tuple #[.agg #[.int .i64 0,.int .i64 0,.int .i64 0,.int .i64 0,.int .i64 0,.int .i64 0],.bool false]) (by simp [results,Tryz.results85,go_sem,r0,r1,r2,r3,r4,r5,hlF]) rfl ?_
   exact ⟨rfl,hWf⟩
end Go.Proofs.YtolaabllhibkdaaGreat.Kc
