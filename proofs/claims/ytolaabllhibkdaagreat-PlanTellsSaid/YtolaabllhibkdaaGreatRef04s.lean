/- The document's own answer for layer 4, as XRef04, over less (for a plan's seat). -/
import Derived.Test.YtolaabllhibkdaaGreatGR
import Derived.Test.YtolaabllhibkdaaGreatGQ
import Derived.Test.YtolaabllhibkdaaGreatGP
import Derived.Test.YtolaabllhibkdaaGreatGN
namespace Go.Proofs.YtolaabllhibkdaaGreat
open Go.ChangeShapes Go.WideShapes Go.ChangeAt Go.RowKit Go.Sort
set_option linter.unusedSimpArgs false
set_option linter.unusedVariables false
set_option maxHeartbeats 4000000 in
set_option maxRecDepth 100000 in
theorem nocon_any (c:Co) (w:World) (b:Bool) (hb:decide (c = ⟨0,0,0,0,0,0⟩) = b):Calls Tryz.prog 83 #[.agg #[.int .i64 c.id,.int .i64 c.fr,.int .i64 c.tn,.int .i64 c.st,.int .i64 c.en,.int .i64 c.rt]] w fun e w' => e = .returned (.bool b) ∧ Below w.heap.size w w':=by
 have hEQ:∀ w0:World,(binOp .eql 33 (.agg #[.int .i64 c.id,.int .i64 c.fr,.int .i64 c.tn,.int .i64 c.st,.int .i64 c.en,.int .i64 c.rt]) (.agg #[.int .i64 0,.int .i64 0,.int .i64 0,.int .i64 0,.int .i64 0,.int .i64 0])).run Tryz.prog w0 = .ok (.bool b) w0:=fun w0 => by have h:=eqlCo c ⟨0,0,0,0,0,0⟩ w0; rw [hb] at h; exact h
 clear hb
 go_enter Tryz.func83,Tryz.ntmps83
 go_wp2_with fail
 go_ret
 exact ⟨rfl,by (repeat (first | exact Below.refl _ _ | refine Below.alloc ?_ (by first | omega | (simp; done) | (simp; omega)) _ | refine Below.setCell ?_ (by first | omega | (simp; done) | (simp; omega)) _ | refine Below.drew ?_))⟩
set_option maxHeartbeats 4000000 in
set_option maxRecDepth 100000 in
theorem norng_any (c:Rg) (w:World) (b:Bool) (hb:decide (c = ⟨0,0,0,0,0⟩) = b):Calls Tryz.prog 81 #[.agg #[.int .i64 c.fr,.int .i64 c.tn,.int .i64 c.st,.int .i64 c.en,.int .i64 c.ow]] w fun e w' => e = .returned (.bool b) ∧ Below w.heap.size w w':=by
 have hEQ:∀ w0:World,(binOp .eql 35 (.agg #[.int .i64 c.fr,.int .i64 c.tn,.int .i64 c.st,.int .i64 c.en,.int .i64 c.ow]) (.agg #[.int .i64 0,.int .i64 0,.int .i64 0,.int .i64 0,.int .i64 0])).run Tryz.prog w0 = .ok (.bool b) w0:=fun w0 => by have h:=eqlRg c ⟨0,0,0,0,0⟩ w0; rw [hb] at h; exact h
 clear hb
 go_enter Tryz.func81,Tryz.ntmps81
 go_wp2_with fail
 go_ret
 exact ⟨rfl,by (repeat (first | exact Below.refl _ _ | refine Below.alloc ?_ (by first | omega | (simp; done) | (simp; omega)) _ | refine Below.setCell ?_ (by first | omega | (simp; done) | (simp; omega)) _ | refine Below.drew ?_))⟩
set_option maxHeartbeats 4000000 in
set_option maxRecDepth 100000 in
theorem whole_any (id rt:Int) (w:World):Calls Tryz.prog 82 #[.int .i64 id,.int .i64 rt] w fun e w' => e = .returned (.agg #[.int .i64 id,.int .i64 1,.int .i64 2,.int .i64 0,.int .i64 1,.int .i64 rt]) ∧ Below w.heap.size w w':=by
 go_enter Tryz.func82,Tryz.ntmps82
 go_wp2_with fail
 have hX:=Blok.new w 33 #[.int .i64 0,.int .i64 0,.int .i64 0,.int .i64 0,.int .i64 0,.int .i64 0]
 have hF:Blok (((((((w.alloc (.cells #[.int .i64 0,.int .i64 0,.int .i64 0,.int .i64 0,.int .i64 0,.int .i64 0] 33)).setCell ⟨w.heap.size,0,none⟩ (.int .i64 id)).setCell ⟨w.heap.size,1,none⟩ (.int .i64 1)).setCell ⟨w.heap.size,2,none⟩ (.int .i64 2)).setCell ⟨w.heap.size,3,none⟩ (.int .i64 0)).setCell ⟨w.heap.size,4,none⟩ (.int .i64 1)).setCell ⟨w.heap.size,5,none⟩ (.int .i64 rt)) w.heap.size 33 #[.int .i64 id,.int .i64 1,.int .i64 2,.int .i64 0,.int .i64 1,.int .i64 rt]:=by have h:=((((((hX.set_ 0 (.int .i64 id)).set_ 1 (.int .i64 1)).set_ 2 (.int .i64 2)).set_ 3 (.int .i64 0)).set_ 4 (.int .i64 1)).set_ 5 (.int .i64 rt)); simpa using h
 have hle0:w.heap.size ≤ w.heap.size:=by first | exact Nat.le_refl _ | omega
 have hWf:Below w.heap.size w (((((((w.alloc (.cells #[.int .i64 0,.int .i64 0,.int .i64 0,.int .i64 0,.int .i64 0,.int .i64 0] 33)).setCell ⟨w.heap.size,0,none⟩ (.int .i64 id)).setCell ⟨w.heap.size,1,none⟩ (.int .i64 1)).setCell ⟨w.heap.size,2,none⟩ (.int .i64 2)).setCell ⟨w.heap.size,3,none⟩ (.int .i64 0)).setCell ⟨w.heap.size,4,none⟩ (.int .i64 1)).setCell ⟨w.heap.size,5,none⟩ (.int .i64 rt)):=((((((((Below.refl w.heap.size w).alloc (Nat.le_refl _) _).setCell (p:=⟨w.heap.size,0,none⟩) hle0 (.int .i64 id)).setCell (p:=⟨w.heap.size,1,none⟩) hle0 (.int .i64 1)).setCell (p:=⟨w.heap.size,2,none⟩) hle0 (.int .i64 2)).setCell (p:=⟨w.heap.size,3,none⟩) hle0 (.int .i64 0)).setCell (p:=⟨w.heap.size,4,none⟩) hle0 (.int .i64 1)).setCell (p:=⟨w.heap.size,5,none⟩) hle0 (.int .i64 rt))
 have hlF:=hF.lt
 generalize (((((((w.alloc (.cells #[.int .i64 0,.int .i64 0,.int .i64 0,.int .i64 0,.int .i64 0,.int .i64 0] 33)).setCell ⟨w.heap.size,0,none⟩ (.int .i64 id)).setCell ⟨w.heap.size,1,none⟩ (.int .i64 1)).setCell ⟨w.heap.size,2,none⟩ (.int .i64 2)).setCell ⟨w.heap.size,3,none⟩ (.int .i64 0)).setCell ⟨w.heap.size,4,none⟩ (.int .i64 1)).setCell ⟨w.heap.size,5,none⟩ (.int .i64 rt)) = wf at *
 have r0:wf.cell? ⟨w.heap.size,0,none⟩ = some (.int .i64 id):=hF.cell 0
 have r1:wf.cell? ⟨w.heap.size,1,none⟩ = some (.int .i64 1):=hF.cell 1
 have r2:wf.cell? ⟨w.heap.size,2,none⟩ = some (.int .i64 2):=hF.cell 2
 have r3:wf.cell? ⟨w.heap.size,3,none⟩ = some (.int .i64 0):=hF.cell 3
 have r4:wf.cell? ⟨w.heap.size,4,none⟩ = some (.int .i64 1):=hF.cell 4
 have r5:wf.cell? ⟨w.heap.size,5,none⟩ = some (.int .i64 rt):=hF.cell 5
 refine bodyPost_ret (v:=.agg #[.int .i64 id,.int .i64 1,.int .i64 2,.int .i64 0,.int .i64 1,.int .i64 rt]) (by simp [results,Tryz.results82,go_sem,r0,r1,r2,r3,r4,r5,hlF]) rfl ?_
 exact ⟨rfl,by (repeat (first | exact Below.refl _ _ | refine Below.alloc ?_ (by first | omega | (simp; done) | (simp; omega)) _ | refine Below.setCell ?_ (by first | omega | (simp; done) | (simp; omega)) _ | refine Below.drew ?_))⟩
theorem right_1 {op id fr tn st en rt rf rn rs re ro:Int} (b:Bool) (h:rightD ⟨op,1,id,fr,tn,st,en,rt,rf,rn,rs,re,ro⟩ = b) :
  (¬ ((⟨rf,rn,rs,re,ro⟩:Rg) = ⟨0,0,0,0,0⟩) → b = false) ∧ ((⟨rf,rn,rs,re,ro⟩:Rg) = ⟨0,0,0,0,0⟩ →
   (op = 1 → contactB id fr tn st en rt = b) ∧
   (op = 2 → if (⟨id,fr,tn,st,en,rt⟩:Co) = ⟨id,0,0,0,0,0⟩ then contactB id 1 2 0 1 1 = b else b = false) ∧
   (op = 3 → if (⟨id,fr,tn,st,en,rt⟩:Co) = ⟨id,0,0,0,0,rt⟩ then contactB id 1 2 0 1 rt = b else b = false) ∧
   (op ≠ 1 → op ≠ 2 → op ≠ 3 → b = false)):=by
 subst h
 by_cases h1:op = 1
 ·subst h1
  have e:rightD ⟨1,1,id,fr,tn,st,en,rt,rf,rn,rs,re,ro⟩ = (contactB id fr tn st en rt && decide ((⟨rf,rn,rs,re,ro⟩:Rg) = ⟨0,0,0,0,0⟩)):=by
   show (true && (contactB id fr tn st en rt && decide ((⟨1,1,id,fr,tn,st,en,rt,rf,rn,rs,re,ro⟩:Dr) = ⟨1,1,id,fr,tn,st,en,rt,0,0,0,0,0⟩))) = _
   rw [Bool.true_and]
   congr 1
   rw [Bool.eq_iff_iff,decide_eq_true_eq,decide_eq_true_eq]
   simp only [Dr.mk.injEq,Rg.mk.injEq,true_and]
  rw [e]
  refine ⟨fun h => by simp [h],fun h => ⟨fun _ => by simp [h],fun h => by omega,fun h => by omega,fun h => by omega⟩⟩
 by_cases h2:op = 2
 ·subst h2
  have e:rightD ⟨2,1,id,fr,tn,st,en,rt,rf,rn,rs,re,ro⟩ = (inB id 1 1048576 && decide ((⟨id,fr,tn,st,en,rt⟩:Co) = ⟨id,0,0,0,0,0⟩ ∧ (⟨rf,rn,rs,re,ro⟩:Rg) = ⟨0,0,0,0,0⟩)):=by
   show (true && (inB id 1 1048576 && decide ((⟨2,1,id,fr,tn,st,en,rt,rf,rn,rs,re,ro⟩:Dr) = ⟨2,1,id,0,0,0,0,0,0,0,0,0,0⟩))) = _
   rw [Bool.true_and]
   congr 1
   rw [Bool.eq_iff_iff,decide_eq_true_eq,decide_eq_true_eq]
   simp only [Dr.mk.injEq,Rg.mk.injEq,Co.mk.injEq,true_and,and_assoc]
  have ec:contactB id 1 2 0 1 1 = inB id 1 1048576:=by rw [Bool.eq_iff_iff,contactB_spec,inB_spec]; omega
  rw [e]
  refine ⟨fun h => by simp [h],fun h => ⟨fun h => by omega,fun _ => ?_,fun h => by omega,fun _ h => by omega⟩⟩
  split
  ·rename_i hc; rw [ec]; simp [hc,h]
  ·rename_i hc; simp [hc]
 by_cases h3:op = 3
 ·subst h3
  have e:rightD ⟨3,1,id,fr,tn,st,en,rt,rf,rn,rs,re,ro⟩ = ((inB id 1 1048576 && inB rt 1 2147483647) && decide ((⟨id,fr,tn,st,en,rt⟩:Co) = ⟨id,0,0,0,0,rt⟩ ∧ (⟨rf,rn,rs,re,ro⟩:Rg) = ⟨0,0,0,0,0⟩)):=by
   show (true && ((inB id 1 1048576 && inB rt 1 2147483647) && decide ((⟨3,1,id,fr,tn,st,en,rt,rf,rn,rs,re,ro⟩:Dr) = ⟨3,1,id,0,0,0,0,rt,0,0,0,0,0⟩))) = _
   rw [Bool.true_and]
   congr 1
   rw [Bool.eq_iff_iff,decide_eq_true_eq,decide_eq_true_eq]
   simp only [Dr.mk.injEq,Rg.mk.injEq,Co.mk.injEq,true_and,and_assoc]
  have ec:contactB id 1 2 0 1 rt = (inB id 1 1048576 && inB rt 1 2147483647):=by rw [Bool.eq_iff_iff,contactB_spec,Bool.and_eq_true,inB_spec,inB_spec]; omega
  rw [e]
  refine ⟨fun h => by simp [h],fun h => ⟨fun h => by omega,fun h => by omega,fun _ => ?_,fun _ _ h => by omega⟩⟩
  split
  ·rename_i hc; rw [ec]; simp [hc,h]
  ·rename_i hc; simp [hc]
 have e:rightD ⟨op,1,id,fr,tn,st,en,rt,rf,rn,rs,re,ro⟩ = false:=by
  unfold rightD knownD formV
  simp [h1,h2,h3]
 rw [e]
 refine ⟨fun _ => rfl,fun _ => ⟨fun h => by omega,fun h => by omega,fun h => by omega,fun _ _ _ => rfl⟩⟩
theorem right_2 {op id fr tn st en rt rf rn rs re ro:Int} (b:Bool) (h:rightD ⟨op,2,id,fr,tn,st,en,rt,rf,rn,rs,re,ro⟩ = b) :
  (¬ ((⟨id,fr,tn,st,en,rt⟩:Co) = ⟨0,0,0,0,0,0⟩) → b = false) ∧ ((⟨id,fr,tn,st,en,rt⟩:Co) = ⟨0,0,0,0,0,0⟩ →
   (op = 1 → rangeB rf rn rs re ro = b) ∧
   (op = 2 → if (⟨rf,rn,rs,re,ro⟩:Rg) = ⟨rf,rn,rs,0,0⟩ then rangeB rf rn rs 2147483647 ro = b else b = false) ∧
   (op = 3 → if re = 0 then rangeB rf rn rs 2147483647 ro = b else b = false) ∧
   (op ≠ 1 → op ≠ 2 → op ≠ 3 → b = false)):=by
 subst h
 by_cases h1:op = 1
 ·subst h1
  have e:rightD ⟨1,2,id,fr,tn,st,en,rt,rf,rn,rs,re,ro⟩ = (rangeB rf rn rs re ro && decide ((⟨id,fr,tn,st,en,rt⟩:Co) = ⟨0,0,0,0,0,0⟩)):=by
   show (true && (rangeB rf rn rs re ro && decide ((⟨1,2,id,fr,tn,st,en,rt,rf,rn,rs,re,ro⟩:Dr) = ⟨1,2,0,0,0,0,0,0,rf,rn,rs,re,ro⟩))) = _
   rw [Bool.true_and]
   congr 1
   rw [Bool.eq_iff_iff,decide_eq_true_eq,decide_eq_true_eq]
   simp only [Dr.mk.injEq,Co.mk.injEq,true_and,and_true]
  rw [e]
  refine ⟨fun h => by simp [h],fun h => ⟨fun _ => by simp [h],fun h => by omega,fun h => by omega,fun h => by omega⟩⟩
 by_cases h2:op = 2
 ·subst h2
  have e:rightD ⟨2,2,id,fr,tn,st,en,rt,rf,rn,rs,re,ro⟩ = (beginB rf rn rs && decide ((⟨id,fr,tn,st,en,rt⟩:Co) = ⟨0,0,0,0,0,0⟩ ∧ (⟨rf,rn,rs,re,ro⟩:Rg) = ⟨rf,rn,rs,0,0⟩)):=by
   show (true && (beginB rf rn rs && decide ((⟨2,2,id,fr,tn,st,en,rt,rf,rn,rs,re,ro⟩:Dr) = ⟨2,2,0,0,0,0,0,0,rf,rn,rs,0,0⟩))) = _
   rw [Bool.true_and]
   congr 1
   rw [Bool.eq_iff_iff,decide_eq_true_eq,decide_eq_true_eq]
   simp only [Dr.mk.injEq,Rg.mk.injEq,Co.mk.injEq,true_and,and_true,and_assoc]
  rw [e]
  refine ⟨fun h => by simp [h],fun h => ⟨fun h => by omega,fun _ => ?_,fun h => by omega,fun _ h => by omega⟩⟩
  split
  ·rename_i hc
   have ho:ro = 0:=by injection hc
   have ec:rangeB rf rn rs 2147483647 ro = beginB rf rn rs:=by
    subst ho
    rw [Bool.eq_iff_iff,rangeB_spec]; unfold beginB; simp only [Bool.and_eq_true,nodeB_spec,inB_spec,bne_iff_ne]; omega
   rw [ec]; simp [hc,h]
  ·rename_i hc; simp [hc]
 by_cases h3:op = 3
 ·subst h3
  have e:rightD ⟨3,2,id,fr,tn,st,en,rt,rf,rn,rs,re,ro⟩ = ((beginB rf rn rs && inB ro 0 2147483647) && decide ((⟨id,fr,tn,st,en,rt⟩:Co) = ⟨0,0,0,0,0,0⟩ ∧ re = 0)):=by
   show (true && ((beginB rf rn rs && inB ro 0 2147483647) && decide ((⟨3,2,id,fr,tn,st,en,rt,rf,rn,rs,re,ro⟩:Dr) = ⟨3,2,0,0,0,0,0,0,rf,rn,rs,0,ro⟩))) = _
   rw [Bool.true_and]
   congr 1
   rw [Bool.eq_iff_iff,decide_eq_true_eq,decide_eq_true_eq]
   simp only [Dr.mk.injEq,Co.mk.injEq,true_and,and_true,and_assoc]
  have ec:rangeB rf rn rs 2147483647 ro = (beginB rf rn rs && inB ro 0 2147483647):=by
   rw [Bool.eq_iff_iff,rangeB_spec]; unfold beginB; simp only [Bool.and_eq_true,nodeB_spec,inB_spec,bne_iff_ne]; omega
  rw [e]
  refine ⟨fun h => by simp [h],fun h => ⟨fun h => by omega,fun h => by omega,fun _ => ?_,fun _ _ h => by omega⟩⟩
  split
  ·rename_i hc; rw [ec]; simp [hc,h]
  ·rename_i hc; simp [hc]
 have e:rightD ⟨op,2,id,fr,tn,st,en,rt,rf,rn,rs,re,ro⟩ = false:=by
  unfold rightD knownD formV
  simp [h1,h2,h3]
 rw [e]
 refine ⟨fun _ => rfl,fun _ => ⟨fun h => by omega,fun h => by omega,fun h => by omega,fun _ _ _ => rfl⟩⟩
theorem right_0 {op kd id fr tn st en rt rf rn rs re ro:Int} (h1:kd ≠ 1) (h2:kd ≠ 2) (b:Bool) (h:rightD ⟨op,kd,id,fr,tn,st,en,rt,rf,rn,rs,re,ro⟩ = b):b = false:=by
 subst h
 unfold rightD knownD formV
 simp [h1,h2]
theorem rrange_is {fr tn st en ow:Int} (b:Bool) (h:rangeB fr tn st en ow = b) (w:World) :
  Calls Tryz.prog 74 #[.agg #[.int .i64 fr,.int .i64 tn,.int .i64 st,.int .i64 en,.int .i64 ow]] w fun e w' => e = .returned (.bool b) ∧ Below w.heap.size w w':=h ▸ rrange_any fr tn st en ow w
set_option maxHeartbeats 8000000 in
set_option maxRecDepth 100000 in
theorem rr04_1 (op id fr tn st en rt rf rn rs re ro:Int) (b:Bool) (hb:rightD ⟨op,1,id,fr,tn,st,en,rt,rf,rn,rs,re,ro⟩ = b) (w:World):Calls Tryz.prog 48 #[.agg #[.int .i64 op,.int .i64 1,.int .i64 id,.int .i64 fr,.int .i64 tn,.int .i64 st,.int .i64 en,.int .i64 rt,.int .i64 rf,.int .i64 rn,.int .i64 rs,.int .i64 re,.int .i64 ro]] w fun e w' => e = .returned (.bool b) ∧ Below w.heap.size w w':=by
 obtain ⟨hN,hY⟩:=right_1 b hb
 clear hb
 go_enter Tryz.func48,Tryz.ntmps48
 go_upto_region 1 with fail
 have hX:=Blok.new w 37 #[.int .i64 op,.int .i64 1,.int .i64 id,.int .i64 fr,.int .i64 tn,.int .i64 st,.int .i64 en,.int .i64 rt,.int .i64 rf,.int .i64 rn,.int .i64 rs,.int .i64 re,.int .i64 ro]
 have hB:Below w.heap.size w (w.alloc (.cells #[.int .i64 op,.int .i64 1,.int .i64 id,.int .i64 fr,.int .i64 tn,.int .i64 st,.int .i64 en,.int .i64 rt,.int .i64 rf,.int .i64 rn,.int .i64 rs,.int .i64 re,.int .i64 ro] 37)):=by (repeat (first | exact Below.refl _ _ | refine Below.alloc ?_ (by first | omega | (simp; done) | (simp; omega)) _ | refine Below.setCell ?_ (by first | omega | (simp; done) | (simp; omega)) _ | refine Below.drew ?_))
 have hs:=hB.size
 generalize w.alloc (.cells #[.int .i64 op,.int .i64 1,.int .i64 id,.int .i64 fr,.int .i64 tn,.int .i64 st,.int .i64 en,.int .i64 rt,.int .i64 rf,.int .i64 rn,.int .i64 rs,.int .i64 re,.int .i64 ro] 37) = w0 at *
 have y0:w0.cell? ⟨w.heap.size,0,none⟩ = some (.int .i64 op):=hX.cell 0
 have y1:w0.cell? ⟨w.heap.size,1,none⟩ = some (.int .i64 1):=hX.cell 1
 have y2:w0.cell? ⟨w.heap.size,2,none⟩ = some (.int .i64 id):=hX.cell 2
 have y3:w0.cell? ⟨w.heap.size,3,none⟩ = some (.int .i64 fr):=hX.cell 3
 have y4:w0.cell? ⟨w.heap.size,4,none⟩ = some (.int .i64 tn):=hX.cell 4
 have y5:w0.cell? ⟨w.heap.size,5,none⟩ = some (.int .i64 st):=hX.cell 5
 have y6:w0.cell? ⟨w.heap.size,6,none⟩ = some (.int .i64 en):=hX.cell 6
 have y7:w0.cell? ⟨w.heap.size,7,none⟩ = some (.int .i64 rt):=hX.cell 7
 have y8:w0.cell? ⟨w.heap.size,8,none⟩ = some (.int .i64 rf):=hX.cell 8
 have y9:w0.cell? ⟨w.heap.size,9,none⟩ = some (.int .i64 rn):=hX.cell 9
 have y10:w0.cell? ⟨w.heap.size,10,none⟩ = some (.int .i64 rs):=hX.cell 10
 have y11:w0.cell? ⟨w.heap.size,11,none⟩ = some (.int .i64 re):=hX.cell 11
 have y12:w0.cell? ⟨w.heap.size,12,none⟩ = some (.int .i64 ro):=hX.cell 12
 have lt_y:=hX.lt
 go_wp2_with fail
 clear y0 y1 y2 y3 y4 y5 y6 y7 y8 y9 y10 y11 y12 lt_y
 by_cases hr:(⟨rf,rn,rs,re,ro⟩:Rg) = ⟨0,0,0,0,0⟩
 ·obtain ⟨k1,k2,k3,k4⟩:=hY hr
  have HR:=Lib.hid (decide_eq_true hr)
  injection hr with r0 r1 r2 r3 r4
  subst r0 r1 r2 r3 r4
  clear hN hY
  refine (norng_any ⟨0,0,0,0,0⟩ w0 true HR.out).mono ?_
  rintro e w1 ⟨rfl,hb⟩
  replace hX:=hX.below hb hX.lt
  replace hB:=hB.trans (hb.mono hs)
  replace hs:=hB.size
  clear hb
  by_cases h1:op = 1
  ·subst h1
   have HC:=Lib.hid (k1 rfl)
   clear k1 k2 k3 k4 HR
   have y0:w1.cell? ⟨w.heap.size,0,none⟩ = some (.int .i64 1):=hX.cell 0
   have y1:w1.cell? ⟨w.heap.size,1,none⟩ = some (.int .i64 1):=hX.cell 1
   have y2:w1.cell? ⟨w.heap.size,2,none⟩ = some (.int .i64 id):=hX.cell 2
   have y3:w1.cell? ⟨w.heap.size,3,none⟩ = some (.int .i64 fr):=hX.cell 3
   have y4:w1.cell? ⟨w.heap.size,4,none⟩ = some (.int .i64 tn):=hX.cell 4
   have y5:w1.cell? ⟨w.heap.size,5,none⟩ = some (.int .i64 st):=hX.cell 5
   have y6:w1.cell? ⟨w.heap.size,6,none⟩ = some (.int .i64 en):=hX.cell 6
   have y7:w1.cell? ⟨w.heap.size,7,none⟩ = some (.int .i64 rt):=hX.cell 7
   have y8:w1.cell? ⟨w.heap.size,8,none⟩ = some (.int .i64 0):=hX.cell 8
   have y9:w1.cell? ⟨w.heap.size,9,none⟩ = some (.int .i64 0):=hX.cell 9
   have y10:w1.cell? ⟨w.heap.size,10,none⟩ = some (.int .i64 0):=hX.cell 10
   have y11:w1.cell? ⟨w.heap.size,11,none⟩ = some (.int .i64 0):=hX.cell 11
   have y12:w1.cell? ⟨w.heap.size,12,none⟩ = some (.int .i64 0):=hX.cell 12
   have lt_y:=hX.lt
   go_wp2_with fail
   clear y0 y1 y2 y3 y4 y5 y6 y7 y8 y9 y10 y11 y12 lt_y
   refine (rcontact_is b HC.out w1).mono ?_
   rintro e w2 ⟨rfl,hb⟩
   replace hB:=hB.trans (hb.mono hs)
   replace hs:=hB.size
   clear hb
   clear hX HC
   go_wp2_with fail
   go_ret
   exact ⟨rfl,by (repeat (first | exact Below.refl _ _ | exact hB | refine Below.alloc ?_ (by first | omega | (simp; done) | (simp; omega)) _ | refine Below.setCell ?_ (by first | omega | (simp; done) | (simp; omega)) _ | refine Below.drew ?_ | refine Below.trans ?_ (hB.mono (by first | omega | (simp; done) | (simp; omega)))))⟩
  by_cases h2:op = 2
  ·subst h2
   have hk:=k2 rfl
   clear k1 k2 k3 k4 HR h1
   by_cases hc:(⟨id,fr,tn,st,en,rt⟩:Co) = ⟨id,0,0,0,0,0⟩
   ·rw [if_pos hc] at hk
    have HC:=Lib.hid hk
    have hEQ:∀ w0:World,(binOp .eql 33 (.agg #[.int .i64 id,.int .i64 fr,.int .i64 tn,.int .i64 st,.int .i64 en,.int .i64 rt]) (.agg #[.int .i64 id,.int .i64 0,.int .i64 0,.int .i64 0,.int .i64 0,.int .i64 0])).run Tryz.prog w0 = .ok (.bool true) w0:=fun w0 => by have h:=eqlCo ⟨id,fr,tn,st,en,rt⟩ ⟨id,0,0,0,0,0⟩ w0; rw [decide_eq_true hc] at h; exact h
    clear hk hc
    have y0:w1.cell? ⟨w.heap.size,0,none⟩ = some (.int .i64 2):=hX.cell 0
    have y1:w1.cell? ⟨w.heap.size,1,none⟩ = some (.int .i64 1):=hX.cell 1
    have y2:w1.cell? ⟨w.heap.size,2,none⟩ = some (.int .i64 id):=hX.cell 2
    have y3:w1.cell? ⟨w.heap.size,3,none⟩ = some (.int .i64 fr):=hX.cell 3
    have y4:w1.cell? ⟨w.heap.size,4,none⟩ = some (.int .i64 tn):=hX.cell 4
    have y5:w1.cell? ⟨w.heap.size,5,none⟩ = some (.int .i64 st):=hX.cell 5
    have y6:w1.cell? ⟨w.heap.size,6,none⟩ = some (.int .i64 en):=hX.cell 6
    have y7:w1.cell? ⟨w.heap.size,7,none⟩ = some (.int .i64 rt):=hX.cell 7
    have y8:w1.cell? ⟨w.heap.size,8,none⟩ = some (.int .i64 0):=hX.cell 8
    have y9:w1.cell? ⟨w.heap.size,9,none⟩ = some (.int .i64 0):=hX.cell 9
    have y10:w1.cell? ⟨w.heap.size,10,none⟩ = some (.int .i64 0):=hX.cell 10
    have y11:w1.cell? ⟨w.heap.size,11,none⟩ = some (.int .i64 0):=hX.cell 11
    have y12:w1.cell? ⟨w.heap.size,12,none⟩ = some (.int .i64 0):=hX.cell 12
    have lt_y:=hX.lt
    go_wp2_with fail
    clear y0 y1 y2 y3 y4 y5 y6 y7 y8 y9 y10 y11 y12 lt_y
    refine (whole_any id 1 w1).mono ?_
    rintro e w2 ⟨rfl,hb⟩
    replace hX:=hX.below hb hX.lt
    replace hB:=hB.trans (hb.mono hs)
    replace hs:=hB.size
    clear hb
    clear hEQ
    go_wp2_with fail
    refine (rcontact_is b HC.out w2).mono ?_
    rintro e w3 ⟨rfl,hb⟩
    replace hB:=hB.trans (hb.mono hs)
    replace hs:=hB.size
    clear hb
    clear hX HC
    go_wp2_with fail
    go_ret
    exact ⟨rfl,by (repeat (first | exact Below.refl _ _ | exact hB | refine Below.alloc ?_ (by first | omega | (simp; done) | (simp; omega)) _ | refine Below.setCell ?_ (by first | omega | (simp; done) | (simp; omega)) _ | refine Below.drew ?_ | refine Below.trans ?_ (hB.mono (by first | omega | (simp; done) | (simp; omega)))))⟩
   ·rw [if_neg hc] at hk
    subst hk
    have hEQ:∀ w0:World,(binOp .eql 33 (.agg #[.int .i64 id,.int .i64 fr,.int .i64 tn,.int .i64 st,.int .i64 en,.int .i64 rt]) (.agg #[.int .i64 id,.int .i64 0,.int .i64 0,.int .i64 0,.int .i64 0,.int .i64 0])).run Tryz.prog w0 = .ok (.bool false) w0:=fun w0 => by have h:=eqlCo ⟨id,fr,tn,st,en,rt⟩ ⟨id,0,0,0,0,0⟩ w0; rw [decide_eq_false hc] at h; exact h
    clear hc
    have y0:w1.cell? ⟨w.heap.size,0,none⟩ = some (.int .i64 2):=hX.cell 0
    have y1:w1.cell? ⟨w.heap.size,1,none⟩ = some (.int .i64 1):=hX.cell 1
    have y2:w1.cell? ⟨w.heap.size,2,none⟩ = some (.int .i64 id):=hX.cell 2
    have y3:w1.cell? ⟨w.heap.size,3,none⟩ = some (.int .i64 fr):=hX.cell 3
    have y4:w1.cell? ⟨w.heap.size,4,none⟩ = some (.int .i64 tn):=hX.cell 4
    have y5:w1.cell? ⟨w.heap.size,5,none⟩ = some (.int .i64 st):=hX.cell 5
    have y6:w1.cell? ⟨w.heap.size,6,none⟩ = some (.int .i64 en):=hX.cell 6
    have y7:w1.cell? ⟨w.heap.size,7,none⟩ = some (.int .i64 rt):=hX.cell 7
    have y8:w1.cell? ⟨w.heap.size,8,none⟩ = some (.int .i64 0):=hX.cell 8
    have y9:w1.cell? ⟨w.heap.size,9,none⟩ = some (.int .i64 0):=hX.cell 9
    have y10:w1.cell? ⟨w.heap.size,10,none⟩ = some (.int .i64 0):=hX.cell 10
    have y11:w1.cell? ⟨w.heap.size,11,none⟩ = some (.int .i64 0):=hX.cell 11
    have y12:w1.cell? ⟨w.heap.size,12,none⟩ = some (.int .i64 0):=hX.cell 12
    have lt_y:=hX.lt
    clear hX
    go_wp2_with fail
    go_ret
    exact ⟨rfl,by (repeat (first | exact Below.refl _ _ | exact hB | refine Below.alloc ?_ (by first | omega | (simp; done) | (simp; omega)) _ | refine Below.setCell ?_ (by first | omega | (simp; done) | (simp; omega)) _ | refine Below.drew ?_ | refine Below.trans ?_ (hB.mono (by first | omega | (simp; done) | (simp; omega)))))⟩
  by_cases h3:op = 3
  ·subst h3
   have hk:=k3 rfl
   clear k1 k2 k3 k4 HR h1
   by_cases hc:(⟨id,fr,tn,st,en,rt⟩:Co) = ⟨id,0,0,0,0,rt⟩
   ·rw [if_pos hc] at hk
    have HC:=Lib.hid hk
    have hEQ:∀ w0:World,(binOp .eql 33 (.agg #[.int .i64 id,.int .i64 fr,.int .i64 tn,.int .i64 st,.int .i64 en,.int .i64 rt]) (.agg #[.int .i64 id,.int .i64 0,.int .i64 0,.int .i64 0,.int .i64 0,.int .i64 rt])).run Tryz.prog w0 = .ok (.bool true) w0:=fun w0 => by have h:=eqlCo ⟨id,fr,tn,st,en,rt⟩ ⟨id,0,0,0,0,rt⟩ w0; rw [decide_eq_true hc] at h; exact h
    clear hk hc
    have y0:w1.cell? ⟨w.heap.size,0,none⟩ = some (.int .i64 3):=hX.cell 0
    have y1:w1.cell? ⟨w.heap.size,1,none⟩ = some (.int .i64 1):=hX.cell 1
    have y2:w1.cell? ⟨w.heap.size,2,none⟩ = some (.int .i64 id):=hX.cell 2
    have y3:w1.cell? ⟨w.heap.size,3,none⟩ = some (.int .i64 fr):=hX.cell 3
    have y4:w1.cell? ⟨w.heap.size,4,none⟩ = some (.int .i64 tn):=hX.cell 4
    have y5:w1.cell? ⟨w.heap.size,5,none⟩ = some (.int .i64 st):=hX.cell 5
    have y6:w1.cell? ⟨w.heap.size,6,none⟩ = some (.int .i64 en):=hX.cell 6
    have y7:w1.cell? ⟨w.heap.size,7,none⟩ = some (.int .i64 rt):=hX.cell 7
    have y8:w1.cell? ⟨w.heap.size,8,none⟩ = some (.int .i64 0):=hX.cell 8
    have y9:w1.cell? ⟨w.heap.size,9,none⟩ = some (.int .i64 0):=hX.cell 9
    have y10:w1.cell? ⟨w.heap.size,10,none⟩ = some (.int .i64 0):=hX.cell 10
    have y11:w1.cell? ⟨w.heap.size,11,none⟩ = some (.int .i64 0):=hX.cell 11
    have y12:w1.cell? ⟨w.heap.size,12,none⟩ = some (.int .i64 0):=hX.cell 12
    have lt_y:=hX.lt
    go_wp2_with fail
    clear y0 y1 y2 y3 y4 y5 y6 y7 y8 y9 y10 y11 y12 lt_y
    refine (whole_any id rt w1).mono ?_
    rintro e w2 ⟨rfl,hb⟩
    replace hX:=hX.below hb hX.lt
    replace hB:=hB.trans (hb.mono hs)
    replace hs:=hB.size
    clear hb
    clear hEQ
    go_wp2_with fail
    refine (rcontact_is b HC.out w2).mono ?_
    rintro e w3 ⟨rfl,hb⟩
    replace hB:=hB.trans (hb.mono hs)
    replace hs:=hB.size
    clear hb
    clear hX HC
    go_wp2_with fail
    go_ret
    exact ⟨rfl,by (repeat (first | exact Below.refl _ _ | exact hB | refine Below.alloc ?_ (by first | omega | (simp; done) | (simp; omega)) _ | refine Below.setCell ?_ (by first | omega | (simp; done) | (simp; omega)) _ | refine Below.drew ?_ | refine Below.trans ?_ (hB.mono (by first | omega | (simp; done) | (simp; omega)))))⟩
   ·rw [if_neg hc] at hk
    subst hk
    have hEQ:∀ w0:World,(binOp .eql 33 (.agg #[.int .i64 id,.int .i64 fr,.int .i64 tn,.int .i64 st,.int .i64 en,.int .i64 rt]) (.agg #[.int .i64 id,.int .i64 0,.int .i64 0,.int .i64 0,.int .i64 0,.int .i64 rt])).run Tryz.prog w0 = .ok (.bool false) w0:=fun w0 => by have h:=eqlCo ⟨id,fr,tn,st,en,rt⟩ ⟨id,0,0,0,0,rt⟩ w0; rw [decide_eq_false hc] at h; exact h
    clear hc
    have y0:w1.cell? ⟨w.heap.size,0,none⟩ = some (.int .i64 3):=hX.cell 0
    have y1:w1.cell? ⟨w.heap.size,1,none⟩ = some (.int .i64 1):=hX.cell 1
    have y2:w1.cell? ⟨w.heap.size,2,none⟩ = some (.int .i64 id):=hX.cell 2
    have y3:w1.cell? ⟨w.heap.size,3,none⟩ = some (.int .i64 fr):=hX.cell 3
    have y4:w1.cell? ⟨w.heap.size,4,none⟩ = some (.int .i64 tn):=hX.cell 4
    have y5:w1.cell? ⟨w.heap.size,5,none⟩ = some (.int .i64 st):=hX.cell 5
    have y6:w1.cell? ⟨w.heap.size,6,none⟩ = some (.int .i64 en):=hX.cell 6
    have y7:w1.cell? ⟨w.heap.size,7,none⟩ = some (.int .i64 rt):=hX.cell 7
    have y8:w1.cell? ⟨w.heap.size,8,none⟩ = some (.int .i64 0):=hX.cell 8
    have y9:w1.cell? ⟨w.heap.size,9,none⟩ = some (.int .i64 0):=hX.cell 9
    have y10:w1.cell? ⟨w.heap.size,10,none⟩ = some (.int .i64 0):=hX.cell 10
    have y11:w1.cell? ⟨w.heap.size,11,none⟩ = some (.int .i64 0):=hX.cell 11
    have y12:w1.cell? ⟨w.heap.size,12,none⟩ = some (.int .i64 0):=hX.cell 12
    have lt_y:=hX.lt
    clear hX
    go_wp2_with fail
    go_ret
    exact ⟨rfl,by (repeat (first | exact Below.refl _ _ | exact hB | refine Below.alloc ?_ (by first | omega | (simp; done) | (simp; omega)) _ | refine Below.setCell ?_ (by first | omega | (simp; done) | (simp; omega)) _ | refine Below.drew ?_ | refine Below.trans ?_ (hB.mono (by first | omega | (simp; done) | (simp; omega)))))⟩
  have hf:=k4 h1 h2 h3
  subst hf
  clear k1 k2 k3 k4 HR
  have g1:(op == 1) = false:=by simpa using h1
  have g2:(op == 2) = false:=by simpa using h2
  have g3:(op == 3) = false:=by simpa using h3
  have y0:w1.cell? ⟨w.heap.size,0,none⟩ = some (.int .i64 op):=hX.cell 0
  have y1:w1.cell? ⟨w.heap.size,1,none⟩ = some (.int .i64 1):=hX.cell 1
  have y2:w1.cell? ⟨w.heap.size,2,none⟩ = some (.int .i64 id):=hX.cell 2
  have y3:w1.cell? ⟨w.heap.size,3,none⟩ = some (.int .i64 fr):=hX.cell 3
  have y4:w1.cell? ⟨w.heap.size,4,none⟩ = some (.int .i64 tn):=hX.cell 4
  have y5:w1.cell? ⟨w.heap.size,5,none⟩ = some (.int .i64 st):=hX.cell 5
  have y6:w1.cell? ⟨w.heap.size,6,none⟩ = some (.int .i64 en):=hX.cell 6
  have y7:w1.cell? ⟨w.heap.size,7,none⟩ = some (.int .i64 rt):=hX.cell 7
  have y8:w1.cell? ⟨w.heap.size,8,none⟩ = some (.int .i64 0):=hX.cell 8
  have y9:w1.cell? ⟨w.heap.size,9,none⟩ = some (.int .i64 0):=hX.cell 9
  have y10:w1.cell? ⟨w.heap.size,10,none⟩ = some (.int .i64 0):=hX.cell 10
  have y11:w1.cell? ⟨w.heap.size,11,none⟩ = some (.int .i64 0):=hX.cell 11
  have y12:w1.cell? ⟨w.heap.size,12,none⟩ = some (.int .i64 0):=hX.cell 12
  have lt_y:=hX.lt
  clear hX
  go_wp2_with fail
  go_ret
  exact ⟨rfl,by (repeat (first | exact Below.refl _ _ | exact hB | refine Below.alloc ?_ (by first | omega | (simp; done) | (simp; omega)) _ | refine Below.setCell ?_ (by first | omega | (simp; done) | (simp; omega)) _ | refine Below.drew ?_ | refine Below.trans ?_ (hB.mono (by first | omega | (simp; done) | (simp; omega)))))⟩
 ·have hf:=hN hr
  subst hf
  have HR:=Lib.hid (decide_eq_false hr)
  clear hN hY hr
  refine (norng_any ⟨rf,rn,rs,re,ro⟩ w0 false HR.out).mono ?_
  rintro e w1 ⟨rfl,hb⟩
  replace hX:=hX.below hb hX.lt
  replace hB:=hB.trans (hb.mono hs)
  replace hs:=hB.size
  clear hb
  have y0:w1.cell? ⟨w.heap.size,0,none⟩ = some (.int .i64 op):=hX.cell 0
  have y1:w1.cell? ⟨w.heap.size,1,none⟩ = some (.int .i64 1):=hX.cell 1
  have y2:w1.cell? ⟨w.heap.size,2,none⟩ = some (.int .i64 id):=hX.cell 2
  have y3:w1.cell? ⟨w.heap.size,3,none⟩ = some (.int .i64 fr):=hX.cell 3
  have y4:w1.cell? ⟨w.heap.size,4,none⟩ = some (.int .i64 tn):=hX.cell 4
  have y5:w1.cell? ⟨w.heap.size,5,none⟩ = some (.int .i64 st):=hX.cell 5
  have y6:w1.cell? ⟨w.heap.size,6,none⟩ = some (.int .i64 en):=hX.cell 6
  have y7:w1.cell? ⟨w.heap.size,7,none⟩ = some (.int .i64 rt):=hX.cell 7
  have y8:w1.cell? ⟨w.heap.size,8,none⟩ = some (.int .i64 rf):=hX.cell 8
  have y9:w1.cell? ⟨w.heap.size,9,none⟩ = some (.int .i64 rn):=hX.cell 9
  have y10:w1.cell? ⟨w.heap.size,10,none⟩ = some (.int .i64 rs):=hX.cell 10
  have y11:w1.cell? ⟨w.heap.size,11,none⟩ = some (.int .i64 re):=hX.cell 11
  have y12:w1.cell? ⟨w.heap.size,12,none⟩ = some (.int .i64 ro):=hX.cell 12
  have lt_y:=hX.lt
  clear hX HR
  go_wp2_with fail
  go_ret
  exact ⟨rfl,by (repeat (first | exact Below.refl _ _ | exact hB | refine Below.alloc ?_ (by first | omega | (simp; done) | (simp; omega)) _ | refine Below.setCell ?_ (by first | omega | (simp; done) | (simp; omega)) _ | refine Below.drew ?_ | refine Below.trans ?_ (hB.mono (by first | omega | (simp; done) | (simp; omega)))))⟩
set_option maxHeartbeats 8000000 in
set_option maxRecDepth 100000 in
theorem rr04_2 (op id fr tn st en rt rf rn rs re ro:Int) (b:Bool) (hb:rightD ⟨op,2,id,fr,tn,st,en,rt,rf,rn,rs,re,ro⟩ = b) (w:World):Calls Tryz.prog 48 #[.agg #[.int .i64 op,.int .i64 2,.int .i64 id,.int .i64 fr,.int .i64 tn,.int .i64 st,.int .i64 en,.int .i64 rt,.int .i64 rf,.int .i64 rn,.int .i64 rs,.int .i64 re,.int .i64 ro]] w fun e w' => e = .returned (.bool b) ∧ Below w.heap.size w w':=by
 obtain ⟨hN,hY⟩:=right_2 b hb
 clear hb
 go_enter Tryz.func48,Tryz.ntmps48
 go_upto_region 1 with fail
 have hX:=Blok.new w 37 #[.int .i64 op,.int .i64 2,.int .i64 id,.int .i64 fr,.int .i64 tn,.int .i64 st,.int .i64 en,.int .i64 rt,.int .i64 rf,.int .i64 rn,.int .i64 rs,.int .i64 re,.int .i64 ro]
 have hB:Below w.heap.size w (w.alloc (.cells #[.int .i64 op,.int .i64 2,.int .i64 id,.int .i64 fr,.int .i64 tn,.int .i64 st,.int .i64 en,.int .i64 rt,.int .i64 rf,.int .i64 rn,.int .i64 rs,.int .i64 re,.int .i64 ro] 37)):=by (repeat (first | exact Below.refl _ _ | refine Below.alloc ?_ (by first | omega | (simp; done) | (simp; omega)) _ | refine Below.setCell ?_ (by first | omega | (simp; done) | (simp; omega)) _ | refine Below.drew ?_))
 have hs:=hB.size
 generalize w.alloc (.cells #[.int .i64 op,.int .i64 2,.int .i64 id,.int .i64 fr,.int .i64 tn,.int .i64 st,.int .i64 en,.int .i64 rt,.int .i64 rf,.int .i64 rn,.int .i64 rs,.int .i64 re,.int .i64 ro] 37) = w0 at *
 have y0:w0.cell? ⟨w.heap.size,0,none⟩ = some (.int .i64 op):=hX.cell 0
 have y1:w0.cell? ⟨w.heap.size,1,none⟩ = some (.int .i64 2):=hX.cell 1
 have y2:w0.cell? ⟨w.heap.size,2,none⟩ = some (.int .i64 id):=hX.cell 2
 have y3:w0.cell? ⟨w.heap.size,3,none⟩ = some (.int .i64 fr):=hX.cell 3
 have y4:w0.cell? ⟨w.heap.size,4,none⟩ = some (.int .i64 tn):=hX.cell 4
 have y5:w0.cell? ⟨w.heap.size,5,none⟩ = some (.int .i64 st):=hX.cell 5
 have y6:w0.cell? ⟨w.heap.size,6,none⟩ = some (.int .i64 en):=hX.cell 6
 have y7:w0.cell? ⟨w.heap.size,7,none⟩ = some (.int .i64 rt):=hX.cell 7
 have y8:w0.cell? ⟨w.heap.size,8,none⟩ = some (.int .i64 rf):=hX.cell 8
 have y9:w0.cell? ⟨w.heap.size,9,none⟩ = some (.int .i64 rn):=hX.cell 9
 have y10:w0.cell? ⟨w.heap.size,10,none⟩ = some (.int .i64 rs):=hX.cell 10
 have y11:w0.cell? ⟨w.heap.size,11,none⟩ = some (.int .i64 re):=hX.cell 11
 have y12:w0.cell? ⟨w.heap.size,12,none⟩ = some (.int .i64 ro):=hX.cell 12
 have lt_y:=hX.lt
 go_wp2_with fail
 clear y0 y1 y2 y3 y4 y5 y6 y7 y8 y9 y10 y11 y12 lt_y
 by_cases hr:(⟨id,fr,tn,st,en,rt⟩:Co) = ⟨0,0,0,0,0,0⟩
 ·obtain ⟨k1,k2,k3,k4⟩:=hY hr
  have HR:=Lib.hid (decide_eq_true hr)
  injection hr with r0 r1 r2 r3 r4 r5
  subst r0 r1 r2 r3 r4 r5
  clear hN hY
  refine (nocon_any ⟨0,0,0,0,0,0⟩ w0 true HR.out).mono ?_
  rintro e w1 ⟨rfl,hb⟩
  replace hX:=hX.below hb hX.lt
  replace hB:=hB.trans (hb.mono hs)
  replace hs:=hB.size
  clear hb
  by_cases h1:op = 1
  ·subst h1
   have HC:=Lib.hid (k1 rfl)
   clear k1 k2 k3 k4 HR
   have y0:w1.cell? ⟨w.heap.size,0,none⟩ = some (.int .i64 1):=hX.cell 0
   have y1:w1.cell? ⟨w.heap.size,1,none⟩ = some (.int .i64 2):=hX.cell 1
   have y2:w1.cell? ⟨w.heap.size,2,none⟩ = some (.int .i64 0):=hX.cell 2
   have y3:w1.cell? ⟨w.heap.size,3,none⟩ = some (.int .i64 0):=hX.cell 3
   have y4:w1.cell? ⟨w.heap.size,4,none⟩ = some (.int .i64 0):=hX.cell 4
   have y5:w1.cell? ⟨w.heap.size,5,none⟩ = some (.int .i64 0):=hX.cell 5
   have y6:w1.cell? ⟨w.heap.size,6,none⟩ = some (.int .i64 0):=hX.cell 6
   have y7:w1.cell? ⟨w.heap.size,7,none⟩ = some (.int .i64 0):=hX.cell 7
   have y8:w1.cell? ⟨w.heap.size,8,none⟩ = some (.int .i64 rf):=hX.cell 8
   have y9:w1.cell? ⟨w.heap.size,9,none⟩ = some (.int .i64 rn):=hX.cell 9
   have y10:w1.cell? ⟨w.heap.size,10,none⟩ = some (.int .i64 rs):=hX.cell 10
   have y11:w1.cell? ⟨w.heap.size,11,none⟩ = some (.int .i64 re):=hX.cell 11
   have y12:w1.cell? ⟨w.heap.size,12,none⟩ = some (.int .i64 ro):=hX.cell 12
   have lt_y:=hX.lt
   go_wp2_with fail
   refine (rrange_is b HC.out _).mono ?_
   rintro e w2 ⟨rfl,hb⟩
   clear hX HC
   clear y0 y1 y2 y3 y4 y5 y6 y7 y8 y9 y10 y11 y12 lt_y
   go_wp2_with fail
   go_ret
   exact ⟨rfl,by (repeat (first | exact Below.refl _ _ | exact hb | exact hB | refine Below.alloc ?_ (by first | omega | (simp; done) | (simp; omega)) _ | refine Below.setCell ?_ (by first | omega | (simp; done) | (simp; omega)) _ | refine Below.drew ?_ | refine Below.trans ?_ (hb.mono (by first | omega | (simp; done) | (simp; omega))) | refine Below.trans ?_ (hB.mono (by first | omega | (simp; done) | (simp; omega)))))⟩
  by_cases h2:op = 2
  ·subst h2
   have hk:=k2 rfl
   clear k1 k2 k3 k4 HR h1
   by_cases hc:(⟨rf,rn,rs,re,ro⟩:Rg) = ⟨rf,rn,rs,0,0⟩
   ·rw [if_pos hc] at hk
    have HC:=Lib.hid hk
    have hEQ:∀ w0:World,(binOp .eql 35 (.agg #[.int .i64 rf,.int .i64 rn,.int .i64 rs,.int .i64 re,.int .i64 ro]) (.agg #[.int .i64 rf,.int .i64 rn,.int .i64 rs,.int .i64 0,.int .i64 0])).run Tryz.prog w0 = .ok (.bool true) w0:=fun w0 => by have h:=eqlRg ⟨rf,rn,rs,re,ro⟩ ⟨rf,rn,rs,0,0⟩ w0; rw [decide_eq_true hc] at h; exact h
    clear hk hc
    have y0:w1.cell? ⟨w.heap.size,0,none⟩ = some (.int .i64 2):=hX.cell 0
    have y1:w1.cell? ⟨w.heap.size,1,none⟩ = some (.int .i64 2):=hX.cell 1
    have y2:w1.cell? ⟨w.heap.size,2,none⟩ = some (.int .i64 0):=hX.cell 2
    have y3:w1.cell? ⟨w.heap.size,3,none⟩ = some (.int .i64 0):=hX.cell 3
    have y4:w1.cell? ⟨w.heap.size,4,none⟩ = some (.int .i64 0):=hX.cell 4
    have y5:w1.cell? ⟨w.heap.size,5,none⟩ = some (.int .i64 0):=hX.cell 5
    have y6:w1.cell? ⟨w.heap.size,6,none⟩ = some (.int .i64 0):=hX.cell 6
    have y7:w1.cell? ⟨w.heap.size,7,none⟩ = some (.int .i64 0):=hX.cell 7
    have y8:w1.cell? ⟨w.heap.size,8,none⟩ = some (.int .i64 rf):=hX.cell 8
    have y9:w1.cell? ⟨w.heap.size,9,none⟩ = some (.int .i64 rn):=hX.cell 9
    have y10:w1.cell? ⟨w.heap.size,10,none⟩ = some (.int .i64 rs):=hX.cell 10
    have y11:w1.cell? ⟨w.heap.size,11,none⟩ = some (.int .i64 re):=hX.cell 11
    have y12:w1.cell? ⟨w.heap.size,12,none⟩ = some (.int .i64 ro):=hX.cell 12
    have lt_y:=hX.lt
    go_wp2_with fail
    refine (rrange_is b HC.out _).mono ?_
    rintro e w2 ⟨rfl,hb⟩
    clear hX HC hEQ
    clear y0 y1 y2 y3 y4 y5 y6 y7 y8 y9 y10 y11 y12 lt_y
    go_wp2_with fail
    go_ret
    exact ⟨rfl,by (repeat (first | exact Below.refl _ _ | exact hb | exact hB | refine Below.alloc ?_ (by first | omega | (simp; done) | (simp; omega)) _ | refine Below.setCell ?_ (by first | omega | (simp; done) | (simp; omega)) _ | refine Below.drew ?_ | refine Below.trans ?_ (hb.mono (by first | omega | (simp; done) | (simp; omega))) | refine Below.trans ?_ (hB.mono (by first | omega | (simp; done) | (simp; omega)))))⟩
   ·rw [if_neg hc] at hk
    subst hk
    have hEQ:∀ w0:World,(binOp .eql 35 (.agg #[.int .i64 rf,.int .i64 rn,.int .i64 rs,.int .i64 re,.int .i64 ro]) (.agg #[.int .i64 rf,.int .i64 rn,.int .i64 rs,.int .i64 0,.int .i64 0])).run Tryz.prog w0 = .ok (.bool false) w0:=fun w0 => by have h:=eqlRg ⟨rf,rn,rs,re,ro⟩ ⟨rf,rn,rs,0,0⟩ w0; rw [decide_eq_false hc] at h; exact h
    clear hc
    have y0:w1.cell? ⟨w.heap.size,0,none⟩ = some (.int .i64 2):=hX.cell 0
    have y1:w1.cell? ⟨w.heap.size,1,none⟩ = some (.int .i64 2):=hX.cell 1
    have y2:w1.cell? ⟨w.heap.size,2,none⟩ = some (.int .i64 0):=hX.cell 2
    have y3:w1.cell? ⟨w.heap.size,3,none⟩ = some (.int .i64 0):=hX.cell 3
    have y4:w1.cell? ⟨w.heap.size,4,none⟩ = some (.int .i64 0):=hX.cell 4
    have y5:w1.cell? ⟨w.heap.size,5,none⟩ = some (.int .i64 0):=hX.cell 5
    have y6:w1.cell? ⟨w.heap.size,6,none⟩ = some (.int .i64 0):=hX.cell 6
    have y7:w1.cell? ⟨w.heap.size,7,none⟩ = some (.int .i64 0):=hX.cell 7
    have y8:w1.cell? ⟨w.heap.size,8,none⟩ = some (.int .i64 rf):=hX.cell 8
    have y9:w1.cell? ⟨w.heap.size,9,none⟩ = some (.int .i64 rn):=hX.cell 9
    have y10:w1.cell? ⟨w.heap.size,10,none⟩ = some (.int .i64 rs):=hX.cell 10
    have y11:w1.cell? ⟨w.heap.size,11,none⟩ = some (.int .i64 re):=hX.cell 11
    have y12:w1.cell? ⟨w.heap.size,12,none⟩ = some (.int .i64 ro):=hX.cell 12
    have lt_y:=hX.lt
    clear hX
    go_wp2_with fail
    go_ret
    exact ⟨rfl,by (repeat (first | exact Below.refl _ _ | exact hB | refine Below.alloc ?_ (by first | omega | (simp; done) | (simp; omega)) _ | refine Below.setCell ?_ (by first | omega | (simp; done) | (simp; omega)) _ | refine Below.drew ?_ | refine Below.trans ?_ (hB.mono (by first | omega | (simp; done) | (simp; omega)))))⟩
  by_cases h3:op = 3
  ·subst h3
   have hk:=k3 rfl
   clear k1 k2 k3 k4 HR h1 h2
   by_cases hc:re = 0
   ·rw [if_pos hc] at hk
    have HC:=Lib.hid hk
    subst hc
    clear hk
    have y0:w1.cell? ⟨w.heap.size,0,none⟩ = some (.int .i64 3):=hX.cell 0
    have y1:w1.cell? ⟨w.heap.size,1,none⟩ = some (.int .i64 2):=hX.cell 1
    have y2:w1.cell? ⟨w.heap.size,2,none⟩ = some (.int .i64 0):=hX.cell 2
    have y3:w1.cell? ⟨w.heap.size,3,none⟩ = some (.int .i64 0):=hX.cell 3
    have y4:w1.cell? ⟨w.heap.size,4,none⟩ = some (.int .i64 0):=hX.cell 4
    have y5:w1.cell? ⟨w.heap.size,5,none⟩ = some (.int .i64 0):=hX.cell 5
    have y6:w1.cell? ⟨w.heap.size,6,none⟩ = some (.int .i64 0):=hX.cell 6
    have y7:w1.cell? ⟨w.heap.size,7,none⟩ = some (.int .i64 0):=hX.cell 7
    have y8:w1.cell? ⟨w.heap.size,8,none⟩ = some (.int .i64 rf):=hX.cell 8
    have y9:w1.cell? ⟨w.heap.size,9,none⟩ = some (.int .i64 rn):=hX.cell 9
    have y10:w1.cell? ⟨w.heap.size,10,none⟩ = some (.int .i64 rs):=hX.cell 10
    have y11:w1.cell? ⟨w.heap.size,11,none⟩ = some (.int .i64 0):=hX.cell 11
    have y12:w1.cell? ⟨w.heap.size,12,none⟩ = some (.int .i64 ro):=hX.cell 12
    have lt_y:=hX.lt
    go_wp2_with fail
    refine (rrange_is b HC.out _).mono ?_
    rintro e w2 ⟨rfl,hb⟩
    clear hX HC
    clear y0 y1 y2 y3 y4 y5 y6 y7 y8 y9 y10 y11 y12 lt_y
    go_wp2_with fail
    go_ret
    exact ⟨rfl,by (repeat (first | exact Below.refl _ _ | exact hb | exact hB | refine Below.alloc ?_ (by first | omega | (simp; done) | (simp; omega)) _ | refine Below.setCell ?_ (by first | omega | (simp; done) | (simp; omega)) _ | refine Below.drew ?_ | refine Below.trans ?_ (hb.mono (by first | omega | (simp; done) | (simp; omega))) | refine Below.trans ?_ (hB.mono (by first | omega | (simp; done) | (simp; omega)))))⟩
   ·rw [if_neg hc] at hk
    subst hk
    have g0:(re == 0) = false:=by simpa using hc
    have y0:w1.cell? ⟨w.heap.size,0,none⟩ = some (.int .i64 3):=hX.cell 0
    have y1:w1.cell? ⟨w.heap.size,1,none⟩ = some (.int .i64 2):=hX.cell 1
    have y2:w1.cell? ⟨w.heap.size,2,none⟩ = some (.int .i64 0):=hX.cell 2
    have y3:w1.cell? ⟨w.heap.size,3,none⟩ = some (.int .i64 0):=hX.cell 3
    have y4:w1.cell? ⟨w.heap.size,4,none⟩ = some (.int .i64 0):=hX.cell 4
    have y5:w1.cell? ⟨w.heap.size,5,none⟩ = some (.int .i64 0):=hX.cell 5
    have y6:w1.cell? ⟨w.heap.size,6,none⟩ = some (.int .i64 0):=hX.cell 6
    have y7:w1.cell? ⟨w.heap.size,7,none⟩ = some (.int .i64 0):=hX.cell 7
    have y8:w1.cell? ⟨w.heap.size,8,none⟩ = some (.int .i64 rf):=hX.cell 8
    have y9:w1.cell? ⟨w.heap.size,9,none⟩ = some (.int .i64 rn):=hX.cell 9
    have y10:w1.cell? ⟨w.heap.size,10,none⟩ = some (.int .i64 rs):=hX.cell 10
    have y11:w1.cell? ⟨w.heap.size,11,none⟩ = some (.int .i64 re):=hX.cell 11
    have y12:w1.cell? ⟨w.heap.size,12,none⟩ = some (.int .i64 ro):=hX.cell 12
    have lt_y:=hX.lt
    clear hX
    go_wp2_with fail
    go_ret
    exact ⟨rfl,by (repeat (first | exact Below.refl _ _ | exact hB | refine Below.alloc ?_ (by first | omega | (simp; done) | (simp; omega)) _ | refine Below.setCell ?_ (by first | omega | (simp; done) | (simp; omega)) _ | refine Below.drew ?_ | refine Below.trans ?_ (hB.mono (by first | omega | (simp; done) | (simp; omega)))))⟩
  have hf:=k4 h1 h2 h3
  subst hf
  clear k1 k2 k3 k4 HR
  have g1:(op == 1) = false:=by simpa using h1
  have g2:(op == 2) = false:=by simpa using h2
  have g3:(op == 3) = false:=by simpa using h3
  have y0:w1.cell? ⟨w.heap.size,0,none⟩ = some (.int .i64 op):=hX.cell 0
  have y1:w1.cell? ⟨w.heap.size,1,none⟩ = some (.int .i64 2):=hX.cell 1
  have y2:w1.cell? ⟨w.heap.size,2,none⟩ = some (.int .i64 0):=hX.cell 2
  have y3:w1.cell? ⟨w.heap.size,3,none⟩ = some (.int .i64 0):=hX.cell 3
  have y4:w1.cell? ⟨w.heap.size,4,none⟩ = some (.int .i64 0):=hX.cell 4
  have y5:w1.cell? ⟨w.heap.size,5,none⟩ = some (.int .i64 0):=hX.cell 5
  have y6:w1.cell? ⟨w.heap.size,6,none⟩ = some (.int .i64 0):=hX.cell 6
  have y7:w1.cell? ⟨w.heap.size,7,none⟩ = some (.int .i64 0):=hX.cell 7
  have y8:w1.cell? ⟨w.heap.size,8,none⟩ = some (.int .i64 rf):=hX.cell 8
  have y9:w1.cell? ⟨w.heap.size,9,none⟩ = some (.int .i64 rn):=hX.cell 9
  have y10:w1.cell? ⟨w.heap.size,10,none⟩ = some (.int .i64 rs):=hX.cell 10
  have y11:w1.cell? ⟨w.heap.size,11,none⟩ = some (.int .i64 re):=hX.cell 11
  have y12:w1.cell? ⟨w.heap.size,12,none⟩ = some (.int .i64 ro):=hX.cell 12
  have lt_y:=hX.lt
  clear hX
  go_wp2_with fail
  go_ret
  exact ⟨rfl,by (repeat (first | exact Below.refl _ _ | exact hB | refine Below.alloc ?_ (by first | omega | (simp; done) | (simp; omega)) _ | refine Below.setCell ?_ (by first | omega | (simp; done) | (simp; omega)) _ | refine Below.drew ?_ | refine Below.trans ?_ (hB.mono (by first | omega | (simp; done) | (simp; omega)))))⟩
 ·have hf:=hN hr
  subst hf
  have HR:=Lib.hid (decide_eq_false hr)
  clear hN hY hr
  refine (nocon_any ⟨id,fr,tn,st,en,rt⟩ w0 false HR.out).mono ?_
  rintro e w1 ⟨rfl,hb⟩
  replace hX:=hX.below hb hX.lt
  replace hB:=hB.trans (hb.mono hs)
  replace hs:=hB.size
  clear hb
  have y0:w1.cell? ⟨w.heap.size,0,none⟩ = some (.int .i64 op):=hX.cell 0
  have y1:w1.cell? ⟨w.heap.size,1,none⟩ = some (.int .i64 2):=hX.cell 1
  have y2:w1.cell? ⟨w.heap.size,2,none⟩ = some (.int .i64 id):=hX.cell 2
  have y3:w1.cell? ⟨w.heap.size,3,none⟩ = some (.int .i64 fr):=hX.cell 3
  have y4:w1.cell? ⟨w.heap.size,4,none⟩ = some (.int .i64 tn):=hX.cell 4
  have y5:w1.cell? ⟨w.heap.size,5,none⟩ = some (.int .i64 st):=hX.cell 5
  have y6:w1.cell? ⟨w.heap.size,6,none⟩ = some (.int .i64 en):=hX.cell 6
  have y7:w1.cell? ⟨w.heap.size,7,none⟩ = some (.int .i64 rt):=hX.cell 7
  have y8:w1.cell? ⟨w.heap.size,8,none⟩ = some (.int .i64 rf):=hX.cell 8
  have y9:w1.cell? ⟨w.heap.size,9,none⟩ = some (.int .i64 rn):=hX.cell 9
  have y10:w1.cell? ⟨w.heap.size,10,none⟩ = some (.int .i64 rs):=hX.cell 10
  have y11:w1.cell? ⟨w.heap.size,11,none⟩ = some (.int .i64 re):=hX.cell 11
  have y12:w1.cell? ⟨w.heap.size,12,none⟩ = some (.int .i64 ro):=hX.cell 12
  have lt_y:=hX.lt
  clear hX HR
  go_wp2_with fail
  go_ret
  exact ⟨rfl,by (repeat (first | exact Below.refl _ _ | exact hB | refine Below.alloc ?_ (by first | omega | (simp; done) | (simp; omega)) _ | refine Below.setCell ?_ (by first | omega | (simp; done) | (simp; omega)) _ | refine Below.drew ?_ | refine Below.trans ?_ (hB.mono (by first | omega | (simp; done) | (simp; omega)))))⟩
set_option maxHeartbeats 8000000 in
set_option maxRecDepth 100000 in
theorem rr04_0 (op kd id fr tn st en rt rf rn rs re ro:Int) (h1:kd ≠ 1) (h2:kd ≠ 2) (b:Bool) (hb:rightD ⟨op,kd,id,fr,tn,st,en,rt,rf,rn,rs,re,ro⟩ = b) (w:World):Calls Tryz.prog 48 #[.agg #[.int .i64 op,.int .i64 kd,.int .i64 id,.int .i64 fr,.int .i64 tn,.int .i64 st,.int .i64 en,.int .i64 rt,.int .i64 rf,.int .i64 rn,.int .i64 rs,.int .i64 re,.int .i64 ro]] w fun e w' => e = .returned (.bool b) ∧ Below w.heap.size w w':=by
 have hf:=right_0 h1 h2 b hb
 subst hf
 clear hb
 have g1:(kd == 1) = false:=by simpa using h1
 have g2:(kd == 2) = false:=by simpa using h2
 go_enter Tryz.func48,Tryz.ntmps48
 go_upto_region 1 with fail
 have hX:=Blok.new w 37 #[.int .i64 op,.int .i64 kd,.int .i64 id,.int .i64 fr,.int .i64 tn,.int .i64 st,.int .i64 en,.int .i64 rt,.int .i64 rf,.int .i64 rn,.int .i64 rs,.int .i64 re,.int .i64 ro]
 have hB:Below w.heap.size w (w.alloc (.cells #[.int .i64 op,.int .i64 kd,.int .i64 id,.int .i64 fr,.int .i64 tn,.int .i64 st,.int .i64 en,.int .i64 rt,.int .i64 rf,.int .i64 rn,.int .i64 rs,.int .i64 re,.int .i64 ro] 37)):=by (repeat (first | exact Below.refl _ _ | refine Below.alloc ?_ (by first | omega | (simp; done) | (simp; omega)) _ | refine Below.setCell ?_ (by first | omega | (simp; done) | (simp; omega)) _ | refine Below.drew ?_))
 have hs:=hB.size
 generalize w.alloc (.cells #[.int .i64 op,.int .i64 kd,.int .i64 id,.int .i64 fr,.int .i64 tn,.int .i64 st,.int .i64 en,.int .i64 rt,.int .i64 rf,.int .i64 rn,.int .i64 rs,.int .i64 re,.int .i64 ro] 37) = w0 at *
 have y0:w0.cell? ⟨w.heap.size,0,none⟩ = some (.int .i64 op):=hX.cell 0
 have y1:w0.cell? ⟨w.heap.size,1,none⟩ = some (.int .i64 kd):=hX.cell 1
 have y2:w0.cell? ⟨w.heap.size,2,none⟩ = some (.int .i64 id):=hX.cell 2
 have y3:w0.cell? ⟨w.heap.size,3,none⟩ = some (.int .i64 fr):=hX.cell 3
 have y4:w0.cell? ⟨w.heap.size,4,none⟩ = some (.int .i64 tn):=hX.cell 4
 have y5:w0.cell? ⟨w.heap.size,5,none⟩ = some (.int .i64 st):=hX.cell 5
 have y6:w0.cell? ⟨w.heap.size,6,none⟩ = some (.int .i64 en):=hX.cell 6
 have y7:w0.cell? ⟨w.heap.size,7,none⟩ = some (.int .i64 rt):=hX.cell 7
 have y8:w0.cell? ⟨w.heap.size,8,none⟩ = some (.int .i64 rf):=hX.cell 8
 have y9:w0.cell? ⟨w.heap.size,9,none⟩ = some (.int .i64 rn):=hX.cell 9
 have y10:w0.cell? ⟨w.heap.size,10,none⟩ = some (.int .i64 rs):=hX.cell 10
 have y11:w0.cell? ⟨w.heap.size,11,none⟩ = some (.int .i64 re):=hX.cell 11
 have y12:w0.cell? ⟨w.heap.size,12,none⟩ = some (.int .i64 ro):=hX.cell 12
 have lt_y:=hX.lt
 clear hX
 go_wp2_with fail
 go_ret
 exact ⟨rfl,by (repeat (first | exact Below.refl _ _ | exact hB | refine Below.alloc ?_ (by first | omega | (simp; done) | (simp; omega)) _ | refine Below.setCell ?_ (by first | omega | (simp; done) | (simp; omega)) _ | refine Below.drew ?_ | refine Below.trans ?_ (hB.mono (by first | omega | (simp; done) | (simp; omega)))))⟩
theorem rr04_any (d:Dr) (w:World) (b:Bool) (hb:rightD d = b):Calls Tryz.prog 48 #[.agg #[.int .i64 d.op,.int .i64 d.kd,.int .i64 d.id,.int .i64 d.fr,.int .i64 d.tn,.int .i64 d.st,.int .i64 d.en,.int .i64 d.rt,.int .i64 d.rf,.int .i64 d.rn,.int .i64 d.rs,.int .i64 d.re,.int .i64 d.ro]] w fun e w' => e = .returned (.bool b) ∧ Below w.heap.size w w':=by
 obtain ⟨op,kd,id,fr,tn,st,en,rt,rf,rn,rs,re,ro⟩:=d
 by_cases h1:kd = 1
 ·subst h1; exact rr04_1 op id fr tn st en rt rf rn rs re ro b hb w
 by_cases h2:kd = 2
 ·subst h2; exact rr04_2 op id fr tn st en rt rf rn rs re ro b hb w
 exact rr04_0 op kd id fr tn st en rt rf rn rs re ro h1 h2 b hb w
end Go.Proofs.YtolaabllhibkdaaGreat
