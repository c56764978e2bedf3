/- The forms of directives: their numbers, how they are filled, if one may be; direct.made, direct.Right. They make new memory alone. -/
import Derived.Test.YtjldgcebadojiaaGreatDoorForms
import Derived.Test.YtjldgcebadojiaaGreatDoorGQ6
import Derived.Test.YtjldgcebadojiaaGreatDoorGQ9
import Derived.Test.YtjldgcebadojiaaGreatDoorGQ0
import Derived.Test.YtjldgcebadojiaaGreatDoorGQ5
import Derived.Deep.RegionHeld3
namespace Go.Proofs.YtjldgcebadojiaaGreatDoor
open Go.ChangeShapes Go.WideShapes Go.ChangeAt Go.RowKit Go.Sort
set_option linter.unusedSimpArgs false
set_option linter.unusedVariables false
def beginB (fr tn st:Int):Bool:=nodeB fr && (nodeB tn && (fr != tn && inB st 0 2147483646))
theorem addr_at (ad:Addr) (m:Nat) (hm:0 < m):(⟨ad.block,ad.off + m,none⟩:Addr) = ad.add m:=by
 have:=addr_next ad 0 m hm
 rw [add_zero_,Nat.zero_add] at this
 exact this
def zeroDr:Dr:=⟨0,0,0,0,0,0,0,0,0,0,0,0,0⟩
def nums0 (d:Dr):List Int:=[d.id,d.fr,d.tn,d.st,d.en,d.rt]
def fill0 (d:Dr):Dr:=⟨0,0,d.id,d.fr,d.tn,d.st,d.en,d.rt,0,0,0,0,0⟩
def may0 (d:Dr):Bool:=contactB d.id d.fr d.tn d.st d.en d.rt
def nums1 (d:Dr):List Int:=[d.id]
def fill1 (d:Dr):Dr:=⟨0,0,d.id,0,0,0,0,0,0,0,0,0,0⟩
def may1 (d:Dr):Bool:=inB d.id 1 1048576
def nums2 (d:Dr):List Int:=[d.id,d.rt]
def fill2 (d:Dr):Dr:=⟨0,0,d.id,0,0,0,0,d.rt,0,0,0,0,0⟩
def may2 (d:Dr):Bool:=(inB d.id 1 1048576 && inB d.rt 1 2147483647)
def nums3 (d:Dr):List Int:=[d.rf,d.rn,d.rs,d.re,d.ro]
def fill3 (d:Dr):Dr:=⟨0,0,0,0,0,0,0,0,d.rf,d.rn,d.rs,d.re,d.ro⟩
def may3 (d:Dr):Bool:=rangeB d.rf d.rn d.rs d.re d.ro
def nums4 (d:Dr):List Int:=[d.rf,d.rn,d.rs]
def fill4 (d:Dr):Dr:=⟨0,0,0,0,0,0,0,0,d.rf,d.rn,d.rs,0,0⟩
def may4 (d:Dr):Bool:=beginB d.rf d.rn d.rs
def nums5 (d:Dr):List Int:=[d.rf,d.rn,d.rs,d.ro]
def fill5 (d:Dr):Dr:=⟨0,0,0,0,0,0,0,0,d.rf,d.rn,d.rs,0,d.ro⟩
def may5 (d:Dr):Bool:=(beginB d.rf d.rn d.rs && inB d.ro 0 2147483647)
set_option maxRecDepth 100000 in
theorem mayID_any (a:Int) (w:World) (b:Bool) (hb:inB a 1 1048576 = b):Calls Tryz.prog 163 #[.int .i64 a] w fun e w' => e = .returned (.bool b) ∧ w = w':=by
 go_enter Tryz.func163,Tryz.ntmps163
 go_wp2_with (go_at_call 76; refine (in_any _ _ _ _).mono ?_; rintro e w' ⟨rfl,rfl⟩)
 go_ret
 exact ⟨by rw [← hb]; rfl,rfl⟩
set_option maxHeartbeats 1000000 in
set_option maxRecDepth 100000 in
theorem mayBegin_any (rf rn rs re ro:Int) (w:World) (b:Bool) (hb:beginB rf rn rs = b):Calls Tryz.prog 173 #[.agg #[.int .i64 rf,.int .i64 rn,.int .i64 rs,.int .i64 re,.int .i64 ro]] w fun e w' => e = .returned (.bool b) ∧ Below w.heap.size w w':=by
 obtain ⟨b1,q1⟩:∃ q,nodeB rf = q:=⟨_,rfl⟩
 obtain ⟨b2,q2⟩:∃ q,nodeB rn = q:=⟨_,rfl⟩
 obtain ⟨b3,q3⟩:∃ q,(rf != rn) = q:=⟨_,rfl⟩
 obtain ⟨b4,q4⟩:∃ q,inB rs 0 2147483646 = q:=⟨_,rfl⟩
 have hbb:b = (b1 && (b2 && (b3 && b4))):=by rw [← hb]; unfold beginB; rw [q1,q2,q3,q4]
 have HBB:=Lib.hid hbb
 have Q1:=Lib.hid q1
 have Q2:=Lib.hid q2
 have Q4:=Lib.hid q4
 clear hb hbb q1 q2 q4
 go_enter Tryz.func173,Tryz.ntmps173
 cases b1 <;> cases b2 <;> cases b3 <;> cases b4
 all_goals
  go_wp2_with (first | (go_at_call 76; refine (in_any _ _ _ _).mono ?_; rintro e w' ⟨rfl,rfl⟩; rw [Q4.out]) | (go_at_call 184; refine (node_any _ _).mono ?_; rintro e w' ⟨rfl,rfl⟩; first | rw [Q1.out] | rw [Q2.out]))
  all_goals
   go_ret
   exact ⟨by rw [HBB.out]; rfl,by (repeat (first | exact Below.refl _ _ | refine Below.alloc ?_ (by first | omega | (simp; done) | (simp; omega)) _ | refine Below.setCell ?_ (by first | omega | (simp; done) | (simp; omega)) _ | refine Below.drew ?_))⟩
set_option maxRecDepth 100000 in
theorem nums0_any (d:Dr) (w:World):Calls Tryz.prog 157 #[.agg #[.int .i64 d.op,.int .i64 d.kd,.int .i64 d.id,.int .i64 d.fr,.int .i64 d.tn,.int .i64 d.st,.int .i64 d.en,.int .i64 d.rt,.int .i64 d.rf,.int .i64 d.rn,.int .i64 d.rs,.int .i64 d.re,.int .i64 d.ro]] w fun e w' => ∃ v,e = .returned v ∧ w'.ownsRow w.heap.size 3 1 v 6 ((nums0 d).map (Value.int .i64)) ∧ Below w.heap.size w w':=by
 have hO:=own_lit (w.alloc (.cells #[.int .i64 d.op,.int .i64 d.kd,.int .i64 d.id,.int .i64 d.fr,.int .i64 d.tn,.int .i64 d.st,.int .i64 d.en,.int .i64 d.rt,.int .i64 d.rf,.int .i64 d.rn,.int .i64 d.rs,.int .i64 d.re,.int .i64 d.ro] 38)) w.heap.size 3 1 6 #[.int .i64 d.id,.int .i64 d.fr,.int .i64 d.tn,.int .i64 d.st,.int .i64 d.en,.int .i64 d.rt] (by simp) rfl (by simp [maxLen])
 have hB:Below w.heap.size w ((w.alloc (.cells #[.int .i64 d.op,.int .i64 d.kd,.int .i64 d.id,.int .i64 d.fr,.int .i64 d.tn,.int .i64 d.st,.int .i64 d.en,.int .i64 d.rt,.int .i64 d.rf,.int .i64 d.rn,.int .i64 d.rs,.int .i64 d.re,.int .i64 d.ro] 38)).alloc (.cells #[.int .i64 d.id,.int .i64 d.fr,.int .i64 d.tn,.int .i64 d.st,.int .i64 d.en,.int .i64 d.rt] 3)):=by (repeat (first | exact Below.refl _ _ | refine Below.alloc ?_ (by first | omega | (simp; done) | (simp; omega)) _ | refine Below.setCell ?_ (by first | omega | (simp; done) | (simp; omega)) _ | refine Below.drew ?_))
 simp only [World.size_alloc] at hO
 go_enter Tryz.func157,Tryz.ntmps157
 go_wp2_with fail
 go_ret
 exact ⟨_,rfl,hO,hB⟩
set_option maxHeartbeats 2000000 in
set_option maxRecDepth 100000 in
theorem fill0_any (d:Dr) (A:Option Addr) (c:Nat) (w:World) (h:Sl w w.heap.size 1 A 6 c ((nums0 d).map (Value.int .i64))):Calls Tryz.prog 158 #[.slice A 6 c] w fun e w' => e = .returned (.agg #[.int .i64 (fill0 d).op,.int .i64 (fill0 d).kd,.int .i64 (fill0 d).id,.int .i64 (fill0 d).fr,.int .i64 (fill0 d).tn,.int .i64 (fill0 d).st,.int .i64 (fill0 d).en,.int .i64 (fill0 d).rt,.int .i64 (fill0 d).rf,.int .i64 (fill0 d).rn,.int .i64 (fill0 d).rs,.int .i64 (fill0 d).re,.int .i64 (fill0 d).ro]) ∧ Below w.heap.size w w':=by
 obtain ⟨ad,rfl,hab,_⟩:=h.lst.atI (k:=0) rfl (by omega)
 obtain ⟨_,e0,_,k0⟩:=h.lst.atI (k:=0) rfl (by omega)
 injection e0 with e0
 subst e0
 obtain ⟨_,e1,_,k1⟩:=h.lst.atI (k:=1) rfl (by omega)
 injection e1 with e1
 subst e1
 obtain ⟨_,e2,_,k2⟩:=h.lst.atI (k:=2) rfl (by omega)
 injection e2 with e2
 subst e2
 obtain ⟨_,e3,_,k3⟩:=h.lst.atI (k:=3) rfl (by omega)
 injection e3 with e3
 subst e3
 obtain ⟨_,e4,_,k4⟩:=h.lst.atI (k:=4) rfl (by omega)
 injection e4 with e4
 subst e4
 obtain ⟨_,e5,_,k5⟩:=h.lst.atI (k:=5) rfl (by omega)
 injection e5 with e5
 subst e5
 have hX:=Blok.new w 38 #[.int .i64 0,.int .i64 0,.int .i64 0,.int .i64 0,.int .i64 0,.int .i64 0,.int .i64 0,.int .i64 0,.int .i64 0,.int .i64 0,.int .i64 0,.int .i64 0,.int .i64 0]
 have hB:Below w.heap.size w (w.alloc (.cells #[.int .i64 0,.int .i64 0,.int .i64 0,.int .i64 0,.int .i64 0,.int .i64 0,.int .i64 0,.int .i64 0,.int .i64 0,.int .i64 0,.int .i64 0,.int .i64 0,.int .i64 0] 38)):=by (repeat (first | exact Below.refl _ _ | refine Below.alloc ?_ (by first | omega | (simp; done) | (simp; omega)) _ | refine Below.setCell ?_ (by first | omega | (simp; done) | (simp; omega)) _ | refine Below.drew ?_))
 have hs:=hB.size
 have c0:(w.alloc (.cells #[.int .i64 0,.int .i64 0,.int .i64 0,.int .i64 0,.int .i64 0,.int .i64 0,.int .i64 0,.int .i64 0,.int .i64 0,.int .i64 0,.int .i64 0,.int .i64 0,.int .i64 0] 38)).cell? ad = some (.int .i64 d.id):=by
  have h1:w.cell? ad = some (.int .i64 d.id):=by rw [add_zero_] at k0; exact k0
  exact (hB.cell (block_lt_of_cell h1)).trans h1
 have c1:(w.alloc (.cells #[.int .i64 0,.int .i64 0,.int .i64 0,.int .i64 0,.int .i64 0,.int .i64 0,.int .i64 0,.int .i64 0,.int .i64 0,.int .i64 0,.int .i64 0,.int .i64 0,.int .i64 0] 38)).cell? ⟨ad.block,ad.off + 1,none⟩ = some (.int .i64 d.fr):=by
  have h1:w.cell? ⟨ad.block,ad.off + 1,none⟩ = some (.int .i64 d.fr):=by rw [addr_at ad 1 (by omega)]; exact k1
  exact (hB.cell (block_lt_of_cell h1)).trans h1
 have c2:(w.alloc (.cells #[.int .i64 0,.int .i64 0,.int .i64 0,.int .i64 0,.int .i64 0,.int .i64 0,.int .i64 0,.int .i64 0,.int .i64 0,.int .i64 0,.int .i64 0,.int .i64 0,.int .i64 0] 38)).cell? ⟨ad.block,ad.off + 2,none⟩ = some (.int .i64 d.tn):=by
  have h1:w.cell? ⟨ad.block,ad.off + 2,none⟩ = some (.int .i64 d.tn):=by rw [addr_at ad 2 (by omega)]; exact k2
  exact (hB.cell (block_lt_of_cell h1)).trans h1
 have c3:(w.alloc (.cells #[.int .i64 0,.int .i64 0,.int .i64 0,.int .i64 0,.int .i64 0,.int .i64 0,.int .i64 0,.int .i64 0,.int .i64 0,.int .i64 0,.int .i64 0,.int .i64 0,.int .i64 0] 38)).cell? ⟨ad.block,ad.off + 3,none⟩ = some (.int .i64 d.st):=by
  have h1:w.cell? ⟨ad.block,ad.off + 3,none⟩ = some (.int .i64 d.st):=by rw [addr_at ad 3 (by omega)]; exact k3
  exact (hB.cell (block_lt_of_cell h1)).trans h1
 have c4:(w.alloc (.cells #[.int .i64 0,.int .i64 0,.int .i64 0,.int .i64 0,.int .i64 0,.int .i64 0,.int .i64 0,.int .i64 0,.int .i64 0,.int .i64 0,.int .i64 0,.int .i64 0,.int .i64 0] 38)).cell? ⟨ad.block,ad.off + 4,none⟩ = some (.int .i64 d.en):=by
  have h1:w.cell? ⟨ad.block,ad.off + 4,none⟩ = some (.int .i64 d.en):=by rw [addr_at ad 4 (by omega)]; exact k4
  exact (hB.cell (block_lt_of_cell h1)).trans h1
 have c5:(w.alloc (.cells #[.int .i64 0,.int .i64 0,.int .i64 0,.int .i64 0,.int .i64 0,.int .i64 0,.int .i64 0,.int .i64 0,.int .i64 0,.int .i64 0,.int .i64 0,.int .i64 0,.int .i64 0] 38)).cell? ⟨ad.block,ad.off + 5,none⟩ = some (.int .i64 d.rt):=by
  have h1:w.cell? ⟨ad.block,ad.off + 5,none⟩ = some (.int .i64 d.rt):=by rw [addr_at ad 5 (by omega)]; exact k5
  exact (hB.cell (block_lt_of_cell h1)).trans h1
 clear h k0 k1 k2 k3 k4 k5 hab
 go_enter Tryz.func158,Tryz.ntmps158
 go_wp2_with fail
 generalize w.alloc (.cells #[.int .i64 0,.int .i64 0,.int .i64 0,.int .i64 0,.int .i64 0,.int .i64 0,.int .i64 0,.int .i64 0,.int .i64 0,.int .i64 0,.int .i64 0,.int .i64 0,.int .i64 0] 38) = w0 at *
 have q_c0:=fun d os => cell_regrown c0 d os
 have q_c1:=fun d os => cell_regrown c1 d os
 have q_c2:=fun d os => cell_regrown c2 d os
 have q_c3:=fun d os => cell_regrown c3 d os
 have q_c4:=fun d os => cell_regrown c4 d os
 have q_c5:=fun d os => cell_regrown c5 d os
 try simp only [List.append]
 refine wp_region_grown_tail 20 (by kernel_rfl) (by kernel_rfl) ?_
 simp only [Nat.reduceAdd,List.take_succ_cons,List.take_zero]
 repeat (go_big_quiet_step ((fail)))
 refine wpQuiet_nil ?_
 intro _ hqw
 obtain ⟨pq,hqw⟩:=hqw
 subst hqw
 clear q_c0 q_c1 q_c2 q_c3 q_c4 q_c5
 have hb:=below_regrown w0 pq.d pq.os
 replace hX:=hX.below hb hX.lt
 replace hB:=hB.trans (hb.mono hs)
 clear hb hs c0 c1 c2 c3 c4 c5
 generalize grow (redrawn w0 pq.d) pq.os = w1 at *
 have r0:w1.cell? ⟨w.heap.size,0,none⟩ = some (.int .i64 0):=hX.cell 0
 have f_0:=hX.free 0
 have r1:w1.cell? ⟨w.heap.size,1,none⟩ = some (.int .i64 0):=hX.cell 1
 have f_1:=hX.free 1
 have r2:w1.cell? ⟨w.heap.size,2,none⟩ = some (.int .i64 0):=hX.cell 2
 have f_2:=hX.free 2
 have r3:w1.cell? ⟨w.heap.size,3,none⟩ = some (.int .i64 0):=hX.cell 3
 have f_3:=hX.free 3
 have r4:w1.cell? ⟨w.heap.size,4,none⟩ = some (.int .i64 0):=hX.cell 4
 have f_4:=hX.free 4
 have r5:w1.cell? ⟨w.heap.size,5,none⟩ = some (.int .i64 0):=hX.cell 5
 have f_5:=hX.free 5
 have r6:w1.cell? ⟨w.heap.size,6,none⟩ = some (.int .i64 0):=hX.cell 6
 have f_6:=hX.free 6
 have r7:w1.cell? ⟨w.heap.size,7,none⟩ = some (.int .i64 0):=hX.cell 7
 have f_7:=hX.free 7
 have r8:w1.cell? ⟨w.heap.size,8,none⟩ = some (.int .i64 0):=hX.cell 8
 have f_8:=hX.free 8
 have r9:w1.cell? ⟨w.heap.size,9,none⟩ = some (.int .i64 0):=hX.cell 9
 have f_9:=hX.free 9
 have r10:w1.cell? ⟨w.heap.size,10,none⟩ = some (.int .i64 0):=hX.cell 10
 have f_10:=hX.free 10
 have r11:w1.cell? ⟨w.heap.size,11,none⟩ = some (.int .i64 0):=hX.cell 11
 have f_11:=hX.free 11
 have r12:w1.cell? ⟨w.heap.size,12,none⟩ = some (.int .i64 0):=hX.cell 12
 have f_12:=hX.free 12
 have lt_x:=hX.lt
 have HX:=Lib.hid hX
 clear hX
 go_wp2_with fail
 have hX:=HX.out
 clear r0 r1 r2 r3 r4 r5 r6 r7 r8 r9 r10 r11 r12
 have hF:Blok (((((((((((((w1.setCell ⟨w.heap.size,0,none⟩ (.int .i64 0)).setCell ⟨w.heap.size,1,none⟩ (.int .i64 0)).setCell ⟨w.heap.size,2,none⟩ (.int .i64 d.id)).setCell ⟨w.heap.size,3,none⟩ (.int .i64 d.fr)).setCell ⟨w.heap.size,4,none⟩ (.int .i64 d.tn)).setCell ⟨w.heap.size,5,none⟩ (.int .i64 d.st)).setCell ⟨w.heap.size,6,none⟩ (.int .i64 d.en)).setCell ⟨w.heap.size,7,none⟩ (.int .i64 d.rt)).setCell ⟨w.heap.size,8,none⟩ (.int .i64 0)).setCell ⟨w.heap.size,9,none⟩ (.int .i64 0)).setCell ⟨w.heap.size,10,none⟩ (.int .i64 0)).setCell ⟨w.heap.size,11,none⟩ (.int .i64 0)).setCell ⟨w.heap.size,12,none⟩ (.int .i64 0)) w.heap.size 38 #[.int .i64 0,.int .i64 0,.int .i64 d.id,.int .i64 d.fr,.int .i64 d.tn,.int .i64 d.st,.int .i64 d.en,.int .i64 d.rt,.int .i64 0,.int .i64 0,.int .i64 0,.int .i64 0,.int .i64 0]:=by have h:=(((((((((((((hX.set_ 0 (.int .i64 0)).set_ 1 (.int .i64 0)).set_ 2 (.int .i64 d.id)).set_ 3 (.int .i64 d.fr)).set_ 4 (.int .i64 d.tn)).set_ 5 (.int .i64 d.st)).set_ 6 (.int .i64 d.en)).set_ 7 (.int .i64 d.rt)).set_ 8 (.int .i64 0)).set_ 9 (.int .i64 0)).set_ 10 (.int .i64 0)).set_ 11 (.int .i64 0)).set_ 12 (.int .i64 0)); simpa using h
 have hle0:w.heap.size ≤ w.heap.size:=by first | exact Nat.le_refl _ | omega
 have hWf:Below w.heap.size w (((((((((((((w1.setCell ⟨w.heap.size,0,none⟩ (.int .i64 0)).setCell ⟨w.heap.size,1,none⟩ (.int .i64 0)).setCell ⟨w.heap.size,2,none⟩ (.int .i64 d.id)).setCell ⟨w.heap.size,3,none⟩ (.int .i64 d.fr)).setCell ⟨w.heap.size,4,none⟩ (.int .i64 d.tn)).setCell ⟨w.heap.size,5,none⟩ (.int .i64 d.st)).setCell ⟨w.heap.size,6,none⟩ (.int .i64 d.en)).setCell ⟨w.heap.size,7,none⟩ (.int .i64 d.rt)).setCell ⟨w.heap.size,8,none⟩ (.int .i64 0)).setCell ⟨w.heap.size,9,none⟩ (.int .i64 0)).setCell ⟨w.heap.size,10,none⟩ (.int .i64 0)).setCell ⟨w.heap.size,11,none⟩ (.int .i64 0)).setCell ⟨w.heap.size,12,none⟩ (.int .i64 0)):=(((((((((((((hB.setCell (p:=⟨w.heap.size,0,none⟩) hle0 (.int .i64 0)).setCell (p:=⟨w.heap.size,1,none⟩) hle0 (.int .i64 0)).setCell (p:=⟨w.heap.size,2,none⟩) hle0 (.int .i64 d.id)).setCell (p:=⟨w.heap.size,3,none⟩) hle0 (.int .i64 d.fr)).setCell (p:=⟨w.heap.size,4,none⟩) hle0 (.int .i64 d.tn)).setCell (p:=⟨w.heap.size,5,none⟩) hle0 (.int .i64 d.st)).setCell (p:=⟨w.heap.size,6,none⟩) hle0 (.int .i64 d.en)).setCell (p:=⟨w.heap.size,7,none⟩) hle0 (.int .i64 d.rt)).setCell (p:=⟨w.heap.size,8,none⟩) hle0 (.int .i64 0)).setCell (p:=⟨w.heap.size,9,none⟩) hle0 (.int .i64 0)).setCell (p:=⟨w.heap.size,10,none⟩) hle0 (.int .i64 0)).setCell (p:=⟨w.heap.size,11,none⟩) hle0 (.int .i64 0)).setCell (p:=⟨w.heap.size,12,none⟩) hle0 (.int .i64 0))
 have hlF:=hF.lt
 generalize (((((((((((((w1.setCell ⟨w.heap.size,0,none⟩ (.int .i64 0)).setCell ⟨w.heap.size,1,none⟩ (.int .i64 0)).setCell ⟨w.heap.size,2,none⟩ (.int .i64 d.id)).setCell ⟨w.heap.size,3,none⟩ (.int .i64 d.fr)).setCell ⟨w.heap.size,4,none⟩ (.int .i64 d.tn)).setCell ⟨w.heap.size,5,none⟩ (.int .i64 d.st)).setCell ⟨w.heap.size,6,none⟩ (.int .i64 d.en)).setCell ⟨w.heap.size,7,none⟩ (.int .i64 d.rt)).setCell ⟨w.heap.size,8,none⟩ (.int .i64 0)).setCell ⟨w.heap.size,9,none⟩ (.int .i64 0)).setCell ⟨w.heap.size,10,none⟩ (.int .i64 0)).setCell ⟨w.heap.size,11,none⟩ (.int .i64 0)).setCell ⟨w.heap.size,12,none⟩ (.int .i64 0)) = wf at *
 have r0:wf.cell? ⟨w.heap.size,0,none⟩ = some (.int .i64 0):=hF.cell 0
 have r1:wf.cell? ⟨w.heap.size,1,none⟩ = some (.int .i64 0):=hF.cell 1
 have r2:wf.cell? ⟨w.heap.size,2,none⟩ = some (.int .i64 d.id):=hF.cell 2
 have r3:wf.cell? ⟨w.heap.size,3,none⟩ = some (.int .i64 d.fr):=hF.cell 3
 have r4:wf.cell? ⟨w.heap.size,4,none⟩ = some (.int .i64 d.tn):=hF.cell 4
 have r5:wf.cell? ⟨w.heap.size,5,none⟩ = some (.int .i64 d.st):=hF.cell 5
 have r6:wf.cell? ⟨w.heap.size,6,none⟩ = some (.int .i64 d.en):=hF.cell 6
 have r7:wf.cell? ⟨w.heap.size,7,none⟩ = some (.int .i64 d.rt):=hF.cell 7
 have r8:wf.cell? ⟨w.heap.size,8,none⟩ = some (.int .i64 0):=hF.cell 8
 have r9:wf.cell? ⟨w.heap.size,9,none⟩ = some (.int .i64 0):=hF.cell 9
 have r10:wf.cell? ⟨w.heap.size,10,none⟩ = some (.int .i64 0):=hF.cell 10
 have r11:wf.cell? ⟨w.heap.size,11,none⟩ = some (.int .i64 0):=hF.cell 11
 have r12:wf.cell? ⟨w.heap.size,12,none⟩ = some (.int .i64 0):=hF.cell 12
 refine bodyPost_ret (v:=.agg #[.int .i64 0,.int .i64 0,.int .i64 d.id,.int .i64 d.fr,.int .i64 d.tn,.int .i64 d.st,.int .i64 d.en,.int .i64 d.rt,.int .i64 0,.int .i64 0,.int .i64 0,.int .i64 0,.int .i64 0]) (by simp [results,Tryz.results158,go_sem,r0,r1,r2,r3,r4,r5,r6,r7,r8,r9,r10,r11,r12,hlF]) rfl ?_
 exact ⟨rfl,hWf⟩
set_option maxHeartbeats 1000000 in
set_option maxRecDepth 100000 in
theorem may0_any (d:Dr) (w:World) (b:Bool) (hb:may0 d = b):Calls Tryz.prog 159 #[.agg #[.int .i64 d.op,.int .i64 d.kd,.int .i64 d.id,.int .i64 d.fr,.int .i64 d.tn,.int .i64 d.st,.int .i64 d.en,.int .i64 d.rt,.int .i64 d.rf,.int .i64 d.rn,.int .i64 d.rs,.int .i64 d.re,.int .i64 d.ro]] w fun e w' => e = .returned (.bool b) ∧ Below w.heap.size w w':=by
 have hB:Below w.heap.size w (w.alloc (.cells #[.int .i64 d.op,.int .i64 d.kd,.int .i64 d.id,.int .i64 d.fr,.int .i64 d.tn,.int .i64 d.st,.int .i64 d.en,.int .i64 d.rt,.int .i64 d.rf,.int .i64 d.rn,.int .i64 d.rs,.int .i64 d.re,.int .i64 d.ro] 38)):=by (repeat (first | exact Below.refl _ _ | refine Below.alloc ?_ (by first | omega | (simp; done) | (simp; omega)) _ | refine Below.setCell ?_ (by first | omega | (simp; done) | (simp; omega)) _ | refine Below.drew ?_))
 have hX:=Blok.new w 38 #[.int .i64 d.op,.int .i64 d.kd,.int .i64 d.id,.int .i64 d.fr,.int .i64 d.tn,.int .i64 d.st,.int .i64 d.en,.int .i64 d.rt,.int .i64 d.rf,.int .i64 d.rn,.int .i64 d.rs,.int .i64 d.re,.int .i64 d.ro]
 have hs:=hB.size
 unfold may0 at hb
 go_enter Tryz.func159,Tryz.ntmps159
 go_wp2_with fail
 generalize w.alloc (.cells #[.int .i64 d.op,.int .i64 d.kd,.int .i64 d.id,.int .i64 d.fr,.int .i64 d.tn,.int .i64 d.st,.int .i64 d.en,.int .i64 d.rt,.int .i64 d.rf,.int .i64 d.rn,.int .i64 d.rs,.int .i64 d.re,.int .i64 d.ro] 38) = w0 at *
 refine (contact_is b hb _).mono ?_
 rintro e w2 ⟨rfl,hb2⟩
 go_wp2_with fail
 go_ret
 exact ⟨rfl,hB.trans (hb2.mono hs)⟩
set_option maxRecDepth 100000 in
theorem nums1_any (d:Dr) (w:World):Calls Tryz.prog 160 #[.agg #[.int .i64 d.op,.int .i64 d.kd,.int .i64 d.id,.int .i64 d.fr,.int .i64 d.tn,.int .i64 d.st,.int .i64 d.en,.int .i64 d.rt,.int .i64 d.rf,.int .i64 d.rn,.int .i64 d.rs,.int .i64 d.re,.int .i64 d.ro]] w fun e w' => ∃ v,e = .returned v ∧ w'.ownsRow w.heap.size 3 1 v 1 ((nums1 d).map (Value.int .i64)) ∧ Below w.heap.size w w':=by
 have hO:=own_lit (w.alloc (.cells #[.int .i64 d.op,.int .i64 d.kd,.int .i64 d.id,.int .i64 d.fr,.int .i64 d.tn,.int .i64 d.st,.int .i64 d.en,.int .i64 d.rt,.int .i64 d.rf,.int .i64 d.rn,.int .i64 d.rs,.int .i64 d.re,.int .i64 d.ro] 38)) w.heap.size 3 1 1 #[.int .i64 d.id] (by simp) rfl (by simp [maxLen])
 have hB:Below w.heap.size w ((w.alloc (.cells #[.int .i64 d.op,.int .i64 d.kd,.int .i64 d.id,.int .i64 d.fr,.int .i64 d.tn,.int .i64 d.st,.int .i64 d.en,.int .i64 d.rt,.int .i64 d.rf,.int .i64 d.rn,.int .i64 d.rs,.int .i64 d.re,.int .i64 d.ro] 38)).alloc (.cells #[.int .i64 d.id] 3)):=by (repeat (first | exact Below.refl _ _ | refine Below.alloc ?_ (by first | omega | (simp; done) | (simp; omega)) _ | refine Below.setCell ?_ (by first | omega | (simp; done) | (simp; omega)) _ | refine Below.drew ?_))
 simp only [World.size_alloc] at hO
 go_enter Tryz.func160,Tryz.ntmps160
 go_wp2_with fail
 go_ret
 exact ⟨_,rfl,hO,hB⟩
set_option maxHeartbeats 2000000 in
set_option maxRecDepth 100000 in
theorem fill1_any (d:Dr) (A:Option Addr) (c:Nat) (w:World) (h:Sl w w.heap.size 1 A 1 c ((nums1 d).map (Value.int .i64))):Calls Tryz.prog 161 #[.slice A 1 c] w fun e w' => e = .returned (.agg #[.int .i64 (fill1 d).op,.int .i64 (fill1 d).kd,.int .i64 (fill1 d).id,.int .i64 (fill1 d).fr,.int .i64 (fill1 d).tn,.int .i64 (fill1 d).st,.int .i64 (fill1 d).en,.int .i64 (fill1 d).rt,.int .i64 (fill1 d).rf,.int .i64 (fill1 d).rn,.int .i64 (fill1 d).rs,.int .i64 (fill1 d).re,.int .i64 (fill1 d).ro]) ∧ Below w.heap.size w w':=by
 obtain ⟨ad,rfl,hab,_⟩:=h.lst.atI (k:=0) rfl (by omega)
 obtain ⟨_,e0,_,k0⟩:=h.lst.atI (k:=0) rfl (by omega)
 injection e0 with e0
 subst e0
 have hX:=Blok.new w 38 #[.int .i64 0,.int .i64 0,.int .i64 0,.int .i64 0,.int .i64 0,.int .i64 0,.int .i64 0,.int .i64 0,.int .i64 0,.int .i64 0,.int .i64 0,.int .i64 0,.int .i64 0]
 have hB:Below w.heap.size w (w.alloc (.cells #[.int .i64 0,.int .i64 0,.int .i64 0,.int .i64 0,.int .i64 0,.int .i64 0,.int .i64 0,.int .i64 0,.int .i64 0,.int .i64 0,.int .i64 0,.int .i64 0,.int .i64 0] 38)):=by (repeat (first | exact Below.refl _ _ | refine Below.alloc ?_ (by first | omega | (simp; done) | (simp; omega)) _ | refine Below.setCell ?_ (by first | omega | (simp; done) | (simp; omega)) _ | refine Below.drew ?_))
 have hs:=hB.size
 have c0:(w.alloc (.cells #[.int .i64 0,.int .i64 0,.int .i64 0,.int .i64 0,.int .i64 0,.int .i64 0,.int .i64 0,.int .i64 0,.int .i64 0,.int .i64 0,.int .i64 0,.int .i64 0,.int .i64 0] 38)).cell? ad = some (.int .i64 d.id):=by
  have h1:w.cell? ad = some (.int .i64 d.id):=by rw [add_zero_] at k0; exact k0
  exact (hB.cell (block_lt_of_cell h1)).trans h1
 clear h k0 hab
 go_enter Tryz.func161,Tryz.ntmps161
 go_upto_region 1 with fail
 generalize w.alloc (.cells #[.int .i64 0,.int .i64 0,.int .i64 0,.int .i64 0,.int .i64 0,.int .i64 0,.int .i64 0,.int .i64 0,.int .i64 0,.int .i64 0,.int .i64 0,.int .i64 0,.int .i64 0] 38) = w1 at *
 clear hs
 have r0:w1.cell? ⟨w.heap.size,0,none⟩ = some (.int .i64 0):=hX.cell 0
 have f_0:=hX.free 0
 have r1:w1.cell? ⟨w.heap.size,1,none⟩ = some (.int .i64 0):=hX.cell 1
 have f_1:=hX.free 1
 have r2:w1.cell? ⟨w.heap.size,2,none⟩ = some (.int .i64 0):=hX.cell 2
 have f_2:=hX.free 2
 have r3:w1.cell? ⟨w.heap.size,3,none⟩ = some (.int .i64 0):=hX.cell 3
 have f_3:=hX.free 3
 have r4:w1.cell? ⟨w.heap.size,4,none⟩ = some (.int .i64 0):=hX.cell 4
 have f_4:=hX.free 4
 have r5:w1.cell? ⟨w.heap.size,5,none⟩ = some (.int .i64 0):=hX.cell 5
 have f_5:=hX.free 5
 have r6:w1.cell? ⟨w.heap.size,6,none⟩ = some (.int .i64 0):=hX.cell 6
 have f_6:=hX.free 6
 have r7:w1.cell? ⟨w.heap.size,7,none⟩ = some (.int .i64 0):=hX.cell 7
 have f_7:=hX.free 7
 have r8:w1.cell? ⟨w.heap.size,8,none⟩ = some (.int .i64 0):=hX.cell 8
 have f_8:=hX.free 8
 have r9:w1.cell? ⟨w.heap.size,9,none⟩ = some (.int .i64 0):=hX.cell 9
 have f_9:=hX.free 9
 have r10:w1.cell? ⟨w.heap.size,10,none⟩ = some (.int .i64 0):=hX.cell 10
 have f_10:=hX.free 10
 have r11:w1.cell? ⟨w.heap.size,11,none⟩ = some (.int .i64 0):=hX.cell 11
 have f_11:=hX.free 11
 have r12:w1.cell? ⟨w.heap.size,12,none⟩ = some (.int .i64 0):=hX.cell 12
 have f_12:=hX.free 12
 have lt_x:=hX.lt
 have HX:=Lib.hid hX
 clear hX
 go_wp2_with fail
 have hX:=HX.out
 clear r0 r1 r2 r3 r4 r5 r6 r7 r8 r9 r10 r11 r12
 have hF:Blok (((((((((((((w1.setCell ⟨w.heap.size,0,none⟩ (.int .i64 0)).setCell ⟨w.heap.size,1,none⟩ (.int .i64 0)).setCell ⟨w.heap.size,2,none⟩ (.int .i64 d.id)).setCell ⟨w.heap.size,3,none⟩ (.int .i64 0)).setCell ⟨w.heap.size,4,none⟩ (.int .i64 0)).setCell ⟨w.heap.size,5,none⟩ (.int .i64 0)).setCell ⟨w.heap.size,6,none⟩ (.int .i64 0)).setCell ⟨w.heap.size,7,none⟩ (.int .i64 0)).setCell ⟨w.heap.size,8,none⟩ (.int .i64 0)).setCell ⟨w.heap.size,9,none⟩ (.int .i64 0)).setCell ⟨w.heap.size,10,none⟩ (.int .i64 0)).setCell ⟨w.heap.size,11,none⟩ (.int .i64 0)).setCell ⟨w.heap.size,12,none⟩ (.int .i64 0)) w.heap.size 38 #[.int .i64 0,.int .i64 0,.int .i64 d.id,.int .i64 0,.int .i64 0,.int .i64 0,.int .i64 0,.int .i64 0,.int .i64 0,.int .i64 0,.int .i64 0,.int .i64 0,.int .i64 0]:=by have h:=(((((((((((((hX.set_ 0 (.int .i64 0)).set_ 1 (.int .i64 0)).set_ 2 (.int .i64 d.id)).set_ 3 (.int .i64 0)).set_ 4 (.int .i64 0)).set_ 5 (.int .i64 0)).set_ 6 (.int .i64 0)).set_ 7 (.int .i64 0)).set_ 8 (.int .i64 0)).set_ 9 (.int .i64 0)).set_ 10 (.int .i64 0)).set_ 11 (.int .i64 0)).set_ 12 (.int .i64 0)); simpa using h
 have hle0:w.heap.size ≤ w.heap.size:=by first | exact Nat.le_refl _ | omega
 have hWf:Below w.heap.size w (((((((((((((w1.setCell ⟨w.heap.size,0,none⟩ (.int .i64 0)).setCell ⟨w.heap.size,1,none⟩ (.int .i64 0)).setCell ⟨w.heap.size,2,none⟩ (.int .i64 d.id)).setCell ⟨w.heap.size,3,none⟩ (.int .i64 0)).setCell ⟨w.heap.size,4,none⟩ (.int .i64 0)).setCell ⟨w.heap.size,5,none⟩ (.int .i64 0)).setCell ⟨w.heap.size,6,none⟩ (.int .i64 0)).setCell ⟨w.heap.size,7,none⟩ (.int .i64 0)).setCell ⟨w.heap.size,8,none⟩ (.int .i64 0)).setCell ⟨w.heap.size,9,none⟩ (.int .i64 0)).setCell ⟨w.heap.size,10,none⟩ (.int .i64 0)).setCell ⟨w.heap.size,11,none⟩ (.int .i64 0)).setCell ⟨w.heap.size,12,none⟩ (.int .i64 0)):=(((((((((((((hB.setCell (p:=⟨w.heap.size,0,none⟩) hle0 (.int .i64 0)).setCell (p:=⟨w.heap.size,1,none⟩) hle0 (.int .i64 0)).setCell (p:=⟨w.heap.size,2,none⟩) hle0 (.int .i64 d.id)).setCell (p:=⟨w.heap.size,3,none⟩) hle0 (.int .i64 0)).setCell (p:=⟨w.heap.size,4,none⟩) hle0 (.int .i64 0)).setCell (p:=⟨w.heap.size,5,none⟩) hle0 (.int .i64 0)).setCell (p:=⟨w.heap.size,6,none⟩) hle0 (.int .i64 0)).setCell (p:=⟨w.heap.size,7,none⟩) hle0 (.int .i64 0)).setCell (p:=⟨w.heap.size,8,none⟩) hle0 (.int .i64 0)).setCell (p:=⟨w.heap.size,9,none⟩) hle0 (.int .i64 0)).setCell (p:=⟨w.heap.size,10,none⟩) hle0 (.int .i64 0)).setCell (p:=⟨w.heap.size,11,none⟩) hle0 (.int .i64 0)).setCell (p:=⟨w.heap.size,12,none⟩) hle0 (.int .i64 0))
 have hlF:=hF.lt
 generalize (((((((((((((w1.setCell ⟨w.heap.size,0,none⟩ (.int .i64 0)).setCell ⟨w.heap.size,1,none⟩ (.int .i64 0)).setCell ⟨w.heap.size,2,none⟩ (.int .i64 d.id)).setCell ⟨w.heap.size,3,none⟩ (.int .i64 0)).setCell ⟨w.heap.size,4,none⟩ (.int .i64 0)).setCell ⟨w.heap.size,5,none⟩ (.int .i64 0)).setCell ⟨w.heap.size,6,none⟩ (.int .i64 0)).setCell ⟨w.heap.size,7,none⟩ (.int .i64 0)).setCell ⟨w.heap.size,8,none⟩ (.int .i64 0)).setCell ⟨w.heap.size,9,none⟩ (.int .i64 0)).setCell ⟨w.heap.size,10,none⟩ (.int .i64 0)).setCell ⟨w.heap.size,11,none⟩ (.int .i64 0)).setCell ⟨w.heap.size,12,none⟩ (.int .i64 0)) = wf at *
 have r0:wf.cell? ⟨w.heap.size,0,none⟩ = some (.int .i64 0):=hF.cell 0
 have r1:wf.cell? ⟨w.heap.size,1,none⟩ = some (.int .i64 0):=hF.cell 1
 have r2:wf.cell? ⟨w.heap.size,2,none⟩ = some (.int .i64 d.id):=hF.cell 2
 have r3:wf.cell? ⟨w.heap.size,3,none⟩ = some (.int .i64 0):=hF.cell 3
 have r4:wf.cell? ⟨w.heap.size,4,none⟩ = some (.int .i64 0):=hF.cell 4
 have r5:wf.cell? ⟨w.heap.size,5,none⟩ = some (.int .i64 0):=hF.cell 5
 have r6:wf.cell? ⟨w.heap.size,6,none⟩ = some (.int .i64 0):=hF.cell 6
 have r7:wf.cell? ⟨w.heap.size,7,none⟩ = some (.int .i64 0):=hF.cell 7
 have r8:wf.cell? ⟨w.heap.size,8,none⟩ = some (.int .i64 0):=hF.cell 8
 have r9:wf.cell? ⟨w.heap.size,9,none⟩ = some (.int .i64 0):=hF.cell 9
 have r10:wf.cell? ⟨w.heap.size,10,none⟩ = some (.int .i64 0):=hF.cell 10
 have r11:wf.cell? ⟨w.heap.size,11,none⟩ = some (.int .i64 0):=hF.cell 11
 have r12:wf.cell? ⟨w.heap.size,12,none⟩ = some (.int .i64 0):=hF.cell 12
 refine bodyPost_ret (v:=.agg #[.int .i64 0,.int .i64 0,.int .i64 d.id,.int .i64 0,.int .i64 0,.int .i64 0,.int .i64 0,.int .i64 0,.int .i64 0,.int .i64 0,.int .i64 0,.int .i64 0,.int .i64 0]) (by simp [results,Tryz.results161,go_sem,r0,r1,r2,r3,r4,r5,r6,r7,r8,r9,r10,r11,r12,hlF]) rfl ?_
 exact ⟨rfl,hWf⟩
set_option maxHeartbeats 1000000 in
set_option maxRecDepth 100000 in
theorem may1_any (d:Dr) (w:World) (b:Bool) (hb:may1 d = b):Calls Tryz.prog 162 #[.agg #[.int .i64 d.op,.int .i64 d.kd,.int .i64 d.id,.int .i64 d.fr,.int .i64 d.tn,.int .i64 d.st,.int .i64 d.en,.int .i64 d.rt,.int .i64 d.rf,.int .i64 d.rn,.int .i64 d.rs,.int .i64 d.re,.int .i64 d.ro]] w fun e w' => e = .returned (.bool b) ∧ Below w.heap.size w w':=by
 have hB:Below w.heap.size w (w.alloc (.cells #[.int .i64 d.op,.int .i64 d.kd,.int .i64 d.id,.int .i64 d.fr,.int .i64 d.tn,.int .i64 d.st,.int .i64 d.en,.int .i64 d.rt,.int .i64 d.rf,.int .i64 d.rn,.int .i64 d.rs,.int .i64 d.re,.int .i64 d.ro] 38)):=by (repeat (first | exact Below.refl _ _ | refine Below.alloc ?_ (by first | omega | (simp; done) | (simp; omega)) _ | refine Below.setCell ?_ (by first | omega | (simp; done) | (simp; omega)) _ | refine Below.drew ?_))
 have hX:=Blok.new w 38 #[.int .i64 d.op,.int .i64 d.kd,.int .i64 d.id,.int .i64 d.fr,.int .i64 d.tn,.int .i64 d.st,.int .i64 d.en,.int .i64 d.rt,.int .i64 d.rf,.int .i64 d.rn,.int .i64 d.rs,.int .i64 d.re,.int .i64 d.ro]
 have hs:=hB.size
 unfold may1 at hb
 go_enter Tryz.func162,Tryz.ntmps162
 go_wp2_with fail
 generalize w.alloc (.cells #[.int .i64 d.op,.int .i64 d.kd,.int .i64 d.id,.int .i64 d.fr,.int .i64 d.tn,.int .i64 d.st,.int .i64 d.en,.int .i64 d.rt,.int .i64 d.rf,.int .i64 d.rn,.int .i64 d.rs,.int .i64 d.re,.int .i64 d.ro] 38) = w0 at *
 refine (mayID_any _ _ b hb).mono ?_
 rintro e w2 ⟨rfl,rfl⟩
 go_wp2_with fail
 go_ret
 exact ⟨rfl,hB⟩
set_option maxRecDepth 100000 in
theorem nums2_any (d:Dr) (w:World):Calls Tryz.prog 164 #[.agg #[.int .i64 d.op,.int .i64 d.kd,.int .i64 d.id,.int .i64 d.fr,.int .i64 d.tn,.int .i64 d.st,.int .i64 d.en,.int .i64 d.rt,.int .i64 d.rf,.int .i64 d.rn,.int .i64 d.rs,.int .i64 d.re,.int .i64 d.ro]] w fun e w' => ∃ v,e = .returned v ∧ w'.ownsRow w.heap.size 3 1 v 2 ((nums2 d).map (Value.int .i64)) ∧ Below w.heap.size w w':=by
 have hO:=own_lit (w.alloc (.cells #[.int .i64 d.op,.int .i64 d.kd,.int .i64 d.id,.int .i64 d.fr,.int .i64 d.tn,.int .i64 d.st,.int .i64 d.en,.int .i64 d.rt,.int .i64 d.rf,.int .i64 d.rn,.int .i64 d.rs,.int .i64 d.re,.int .i64 d.ro] 38)) w.heap.size 3 1 2 #[.int .i64 d.id,.int .i64 d.rt] (by simp) rfl (by simp [maxLen])
 have hB:Below w.heap.size w ((w.alloc (.cells #[.int .i64 d.op,.int .i64 d.kd,.int .i64 d.id,.int .i64 d.fr,.int .i64 d.tn,.int .i64 d.st,.int .i64 d.en,.int .i64 d.rt,.int .i64 d.rf,.int .i64 d.rn,.int .i64 d.rs,.int .i64 d.re,.int .i64 d.ro] 38)).alloc (.cells #[.int .i64 d.id,.int .i64 d.rt] 3)):=by (repeat (first | exact Below.refl _ _ | refine Below.alloc ?_ (by first | omega | (simp; done) | (simp; omega)) _ | refine Below.setCell ?_ (by first | omega | (simp; done) | (simp; omega)) _ | refine Below.drew ?_))
 simp only [World.size_alloc] at hO
 go_enter Tryz.func164,Tryz.ntmps164
 go_wp2_with fail
 go_ret
 exact ⟨_,rfl,hO,hB⟩
set_option maxHeartbeats 2000000 in
set_option maxRecDepth 100000 in
theorem fill2_any (d:Dr) (A:Option Addr) (c:Nat) (w:World) (h:Sl w w.heap.size 1 A 2 c ((nums2 d).map (Value.int .i64))):Calls Tryz.prog 165 #[.slice A 2 c] w fun e w' => e = .returned (.agg #[.int .i64 (fill2 d).op,.int .i64 (fill2 d).kd,.int .i64 (fill2 d).id,.int .i64 (fill2 d).fr,.int .i64 (fill2 d).tn,.int .i64 (fill2 d).st,.int .i64 (fill2 d).en,.int .i64 (fill2 d).rt,.int .i64 (fill2 d).rf,.int .i64 (fill2 d).rn,.int .i64 (fill2 d).rs,.int .i64 (fill2 d).re,.int .i64 (fill2 d).ro]) ∧ Below w.heap.size w w':=by
 obtain ⟨ad,rfl,hab,_⟩:=h.lst.atI (k:=0) rfl (by omega)
 obtain ⟨_,e0,_,k0⟩:=h.lst.atI (k:=0) rfl (by omega)
 injection e0 with e0
 subst e0
 obtain ⟨_,e1,_,k1⟩:=h.lst.atI (k:=1) rfl (by omega)
 injection e1 with e1
 subst e1
 have hX:=Blok.new w 38 #[.int .i64 0,.int .i64 0,.int .i64 0,.int .i64 0,.int .i64 0,.int .i64 0,.int .i64 0,.int .i64 0,.int .i64 0,.int .i64 0,.int .i64 0,.int .i64 0,.int .i64 0]
 have hB:Below w.heap.size w (w.alloc (.cells #[.int .i64 0,.int .i64 0,.int .i64 0,.int .i64 0,.int .i64 0,.int .i64 0,.int .i64 0,.int .i64 0,.int .i64 0,.int .i64 0,.int .i64 0,.int .i64 0,.int .i64 0] 38)):=by (repeat (first | exact Below.refl _ _ | refine Below.alloc ?_ (by first | omega | (simp; done) | (simp; omega)) _ | refine Below.setCell ?_ (by first | omega | (simp; done) | (simp; omega)) _ | refine Below.drew ?_))
 have hs:=hB.size
 have c0:(w.alloc (.cells #[.int .i64 0,.int .i64 0,.int .i64 0,.int .i64 0,.int .i64 0,.int .i64 0,.int .i64 0,.int .i64 0,.int .i64 0,.int .i64 0,.int .i64 0,.int .i64 0,.int .i64 0] 38)).cell? ad = some (.int .i64 d.id):=by
  have h1:w.cell? ad = some (.int .i64 d.id):=by rw [add_zero_] at k0; exact k0
  exact (hB.cell (block_lt_of_cell h1)).trans h1
 have c1:(w.alloc (.cells #[.int .i64 0,.int .i64 0,.int .i64 0,.int .i64 0,.int .i64 0,.int .i64 0,.int .i64 0,.int .i64 0,.int .i64 0,.int .i64 0,.int .i64 0,.int .i64 0,.int .i64 0] 38)).cell? ⟨ad.block,ad.off + 1,none⟩ = some (.int .i64 d.rt):=by
  have h1:w.cell? ⟨ad.block,ad.off + 1,none⟩ = some (.int .i64 d.rt):=by rw [addr_at ad 1 (by omega)]; exact k1
  exact (hB.cell (block_lt_of_cell h1)).trans h1
 clear h k0 k1 hab
 go_enter Tryz.func165,Tryz.ntmps165
 go_wp2_with fail
 generalize w.alloc (.cells #[.int .i64 0,.int .i64 0,.int .i64 0,.int .i64 0,.int .i64 0,.int .i64 0,.int .i64 0,.int .i64 0,.int .i64 0,.int .i64 0,.int .i64 0,.int .i64 0,.int .i64 0] 38) = w0 at *
 have q_c0:=fun d os => cell_regrown c0 d os
 have q_c1:=fun d os => cell_regrown c1 d os
 try simp only [List.append]
 refine wp_region_grown_tail 8 (by kernel_rfl) (by kernel_rfl) ?_
 simp only [Nat.reduceAdd,List.take_succ_cons,List.take_zero]
 repeat (go_big_quiet_step ((fail)))
 refine wpQuiet_nil ?_
 intro _ hqw
 obtain ⟨pq,hqw⟩:=hqw
 subst hqw
 clear q_c0 q_c1
 have hb:=below_regrown w0 pq.d pq.os
 replace hX:=hX.below hb hX.lt
 replace hB:=hB.trans (hb.mono hs)
 clear hb hs c0 c1
 generalize grow (redrawn w0 pq.d) pq.os = w1 at *
 have r0:w1.cell? ⟨w.heap.size,0,none⟩ = some (.int .i64 0):=hX.cell 0
 have f_0:=hX.free 0
 have r1:w1.cell? ⟨w.heap.size,1,none⟩ = some (.int .i64 0):=hX.cell 1
 have f_1:=hX.free 1
 have r2:w1.cell? ⟨w.heap.size,2,none⟩ = some (.int .i64 0):=hX.cell 2
 have f_2:=hX.free 2
 have r3:w1.cell? ⟨w.heap.size,3,none⟩ = some (.int .i64 0):=hX.cell 3
 have f_3:=hX.free 3
 have r4:w1.cell? ⟨w.heap.size,4,none⟩ = some (.int .i64 0):=hX.cell 4
 have f_4:=hX.free 4
 have r5:w1.cell? ⟨w.heap.size,5,none⟩ = some (.int .i64 0):=hX.cell 5
 have f_5:=hX.free 5
 have r6:w1.cell? ⟨w.heap.size,6,none⟩ = some (.int .i64 0):=hX.cell 6
 have f_6:=hX.free 6
 have r7:w1.cell? ⟨w.heap.size,7,none⟩ = some (.int .i64 0):=hX.cell 7
 have f_7:=hX.free 7
 have r8:w1.cell? ⟨w.heap.size,8,none⟩ = some (.int .i64 0):=hX.cell 8
 have f_8:=hX.free 8
 have r9:w1.cell? ⟨w.heap.size,9,none⟩ = some (.int .i64 0):=hX.cell 9
 have f_9:=hX.free 9
 have r10:w1.cell? ⟨w.heap.size,10,none⟩ = some (.int .i64 0):=hX.cell 10
 have f_10:=hX.free 10
 have r11:w1.cell? ⟨w.heap.size,11,none⟩ = some (.int .i64 0):=hX.cell 11
 have f_11:=hX.free 11
 have r12:w1.cell? ⟨w.heap.size,12,none⟩ = some (.int .i64 0):=hX.cell 12
 have f_12:=hX.free 12
 have lt_x:=hX.lt
 have HX:=Lib.hid hX
 clear hX
 go_wp2_with fail
 have hX:=HX.out
 clear r0 r1 r2 r3 r4 r5 r6 r7 r8 r9 r10 r11 r12
 have hF:Blok (((((((((((((w1.setCell ⟨w.heap.size,0,none⟩ (.int .i64 0)).setCell ⟨w.heap.size,1,none⟩ (.int .i64 0)).setCell ⟨w.heap.size,2,none⟩ (.int .i64 d.id)).setCell ⟨w.heap.size,3,none⟩ (.int .i64 0)).setCell ⟨w.heap.size,4,none⟩ (.int .i64 0)).setCell ⟨w.heap.size,5,none⟩ (.int .i64 0)).setCell ⟨w.heap.size,6,none⟩ (.int .i64 0)).setCell ⟨w.heap.size,7,none⟩ (.int .i64 d.rt)).setCell ⟨w.heap.size,8,none⟩ (.int .i64 0)).setCell ⟨w.heap.size,9,none⟩ (.int .i64 0)).setCell ⟨w.heap.size,10,none⟩ (.int .i64 0)).setCell ⟨w.heap.size,11,none⟩ (.int .i64 0)).setCell ⟨w.heap.size,12,none⟩ (.int .i64 0)) w.heap.size 38 #[.int .i64 0,.int .i64 0,.int .i64 d.id,.int .i64 0,.int .i64 0,.int .i64 0,.int .i64 0,.int .i64 d.rt,.int .i64 0,.int .i64 0,.int .i64 0,.int .i64 0,.int .i64 0]:=by have h:=(((((((((((((hX.set_ 0 (.int .i64 0)).set_ 1 (.int .i64 0)).set_ 2 (.int .i64 d.id)).set_ 3 (.int .i64 0)).set_ 4 (.int .i64 0)).set_ 5 (.int .i64 0)).set_ 6 (.int .i64 0)).set_ 7 (.int .i64 d.rt)).set_ 8 (.int .i64 0)).set_ 9 (.int .i64 0)).set_ 10 (.int .i64 0)).set_ 11 (.int .i64 0)).set_ 12 (.int .i64 0)); simpa using h
 have hle0:w.heap.size ≤ w.heap.size:=by first | exact Nat.le_refl _ | omega
 have hWf:Below w.heap.size w (((((((((((((w1.setCell ⟨w.heap.size,0,none⟩ (.int .i64 0)).setCell ⟨w.heap.size,1,none⟩ (.int .i64 0)).setCell ⟨w.heap.size,2,none⟩ (.int .i64 d.id)).setCell ⟨w.heap.size,3,none⟩ (.int .i64 0)).setCell ⟨w.heap.size,4,none⟩ (.int .i64 0)).setCell ⟨w.heap.size,5,none⟩ (.int .i64 0)).setCell ⟨w.heap.size,6,none⟩ (.int .i64 0)).setCell ⟨w.heap.size,7,none⟩ (.int .i64 d.rt)).setCell ⟨w.heap.size,8,none⟩ (.int .i64 0)).setCell ⟨w.heap.size,9,none⟩ (.int .i64 0)).setCell ⟨w.heap.size,10,none⟩ (.int .i64 0)).setCell ⟨w.heap.size,11,none⟩ (.int .i64 0)).setCell ⟨w.heap.size,12,none⟩ (.int .i64 0)):=(((((((((((((hB.setCell (p:=⟨w.heap.size,0,none⟩) hle0 (.int .i64 0)).setCell (p:=⟨w.heap.size,1,none⟩) hle0 (.int .i64 0)).setCell (p:=⟨w.heap.size,2,none⟩) hle0 (.int .i64 d.id)).setCell (p:=⟨w.heap.size,3,none⟩) hle0 (.int .i64 0)).setCell (p:=⟨w.heap.size,4,none⟩) hle0 (.int .i64 0)).setCell (p:=⟨w.heap.size,5,none⟩) hle0 (.int .i64 0)).setCell (p:=⟨w.heap.size,6,none⟩) hle0 (.int .i64 0)).setCell (p:=⟨w.heap.size,7,none⟩) hle0 (.int .i64 d.rt)).setCell (p:=⟨w.heap.size,8,none⟩) hle0 (.int .i64 0)).setCell (p:=⟨w.heap.size,9,none⟩) hle0 (.int .i64 0)).setCell (p:=⟨w.heap.size,10,none⟩) hle0 (.int .i64 0)).setCell (p:=⟨w.heap.size,11,none⟩) hle0 (.int .i64 0)).setCell (p:=⟨w.heap.size,12,none⟩) hle0 (.int .i64 0))
 have hlF:=hF.lt
 generalize (((((((((((((w1.setCell ⟨w.heap.size,0,none⟩ (.int .i64 0)).setCell ⟨w.heap.size,1,none⟩ (.int .i64 0)).setCell ⟨w.heap.size,2,none⟩ (.int .i64 d.id)).setCell ⟨w.heap.size,3,none⟩ (.int .i64 0)).setCell ⟨w.heap.size,4,none⟩ (.int .i64 0)).setCell ⟨w.heap.size,5,none⟩ (.int .i64 0)).setCell ⟨w.heap.size,6,none⟩ (.int .i64 0)).setCell ⟨w.heap.size,7,none⟩ (.int .i64 d.rt)).setCell ⟨w.heap.size,8,none⟩ (.int .i64 0)).setCell ⟨w.heap.size,9,none⟩ (.int .i64 0)).setCell ⟨w.heap.size,10,none⟩ (.int .i64 0)).setCell ⟨w.heap.size,11,none⟩ (.int .i64 0)).setCell ⟨w.heap.size,12,none⟩ (.int .i64 0)) = wf at *
 have r0:wf.cell? ⟨w.heap.size,0,none⟩ = some (.int .i64 0):=hF.cell 0
 have r1:wf.cell? ⟨w.heap.size,1,none⟩ = some (.int .i64 0):=hF.cell 1
 have r2:wf.cell? ⟨w.heap.size,2,none⟩ = some (.int .i64 d.id):=hF.cell 2
 have r3:wf.cell? ⟨w.heap.size,3,none⟩ = some (.int .i64 0):=hF.cell 3
 have r4:wf.cell? ⟨w.heap.size,4,none⟩ = some (.int .i64 0):=hF.cell 4
 have r5:wf.cell? ⟨w.heap.size,5,none⟩ = some (.int .i64 0):=hF.cell 5
 have r6:wf.cell? ⟨w.heap.size,6,none⟩ = some (.int .i64 0):=hF.cell 6
 have r7:wf.cell? ⟨w.heap.size,7,none⟩ = some (.int .i64 d.rt):=hF.cell 7
 have r8:wf.cell? ⟨w.heap.size,8,none⟩ = some (.int .i64 0):=hF.cell 8
 have r9:wf.cell? ⟨w.heap.size,9,none⟩ = some (.int .i64 0):=hF.cell 9
 have r10:wf.cell? ⟨w.heap.size,10,none⟩ = some (.int .i64 0):=hF.cell 10
 have r11:wf.cell? ⟨w.heap.size,11,none⟩ = some (.int .i64 0):=hF.cell 11
 have r12:wf.cell? ⟨w.heap.size,12,none⟩ = some (.int .i64 0):=hF.cell 12
 refine bodyPost_ret (v:=.agg #[.int .i64 0,.int .i64 0,.int .i64 d.id,.int .i64 0,.int .i64 0,.int .i64 0,.int .i64 0,.int .i64 d.rt,.int .i64 0,.int .i64 0,.int .i64 0,.int .i64 0,.int .i64 0]) (by simp [results,Tryz.results165,go_sem,r0,r1,r2,r3,r4,r5,r6,r7,r8,r9,r10,r11,r12,hlF]) rfl ?_
 exact ⟨rfl,hWf⟩
set_option maxHeartbeats 1000000 in
set_option maxRecDepth 100000 in
theorem may2_any (d:Dr) (w:World) (b:Bool) (hb:may2 d = b):Calls Tryz.prog 166 #[.agg #[.int .i64 d.op,.int .i64 d.kd,.int .i64 d.id,.int .i64 d.fr,.int .i64 d.tn,.int .i64 d.st,.int .i64 d.en,.int .i64 d.rt,.int .i64 d.rf,.int .i64 d.rn,.int .i64 d.rs,.int .i64 d.re,.int .i64 d.ro]] w fun e w' => e = .returned (.bool b) ∧ Below w.heap.size w w':=by
 have hB:Below w.heap.size w (w.alloc (.cells #[.int .i64 d.op,.int .i64 d.kd,.int .i64 d.id,.int .i64 d.fr,.int .i64 d.tn,.int .i64 d.st,.int .i64 d.en,.int .i64 d.rt,.int .i64 d.rf,.int .i64 d.rn,.int .i64 d.rs,.int .i64 d.re,.int .i64 d.ro] 38)):=by (repeat (first | exact Below.refl _ _ | refine Below.alloc ?_ (by first | omega | (simp; done) | (simp; omega)) _ | refine Below.setCell ?_ (by first | omega | (simp; done) | (simp; omega)) _ | refine Below.drew ?_))
 have hX:=Blok.new w 38 #[.int .i64 d.op,.int .i64 d.kd,.int .i64 d.id,.int .i64 d.fr,.int .i64 d.tn,.int .i64 d.st,.int .i64 d.en,.int .i64 d.rt,.int .i64 d.rf,.int .i64 d.rn,.int .i64 d.rs,.int .i64 d.re,.int .i64 d.ro]
 have hs:=hB.size
 unfold may2 at hb
 go_enter Tryz.func166,Tryz.ntmps166
 go_wp2_with fail
 generalize w.alloc (.cells #[.int .i64 d.op,.int .i64 d.kd,.int .i64 d.id,.int .i64 d.fr,.int .i64 d.tn,.int .i64 d.st,.int .i64 d.en,.int .i64 d.rt,.int .i64 d.rf,.int .i64 d.rn,.int .i64 d.rs,.int .i64 d.re,.int .i64 d.ro] 38) = w0 at *
 obtain ⟨b1,q1⟩:∃ q,inB d.id 1 1048576 = q:=⟨_,rfl⟩
 obtain ⟨b2,q2⟩:∃ q,inB d.rt 1 2147483647 = q:=⟨_,rfl⟩
 rw [q1,q2] at hb
 have Q2:=Lib.hid q2
 have HB:=Lib.hid hb
 clear q2 hb
 refine (mayID_any _ _ b1 q1).mono ?_
 rintro e w2 ⟨rfl,rfl⟩
 clear q1
 cases b1
 ·go_wp2_with fail
  go_ret
  exact ⟨by rw [← HB.out]; rfl,hB⟩
 have r7:w0.cell? ⟨w.heap.size,7,none⟩ = some (.int .i64 d.rt):=hX.cell 7
 have lt_x:=hX.lt
 go_wp2_with fail
 refine (in_any _ _ _ _).mono ?_
 rintro e w2 ⟨rfl,rfl⟩
 rw [Q2.out]
 go_wp2_with fail
 go_ret
 exact ⟨by rw [← HB.out]; rfl,hB⟩
set_option maxRecDepth 100000 in
theorem nums3_any (d:Dr) (w:World):Calls Tryz.prog 167 #[.agg #[.int .i64 d.op,.int .i64 d.kd,.int .i64 d.id,.int .i64 d.fr,.int .i64 d.tn,.int .i64 d.st,.int .i64 d.en,.int .i64 d.rt,.int .i64 d.rf,.int .i64 d.rn,.int .i64 d.rs,.int .i64 d.re,.int .i64 d.ro]] w fun e w' => ∃ v,e = .returned v ∧ w'.ownsRow w.heap.size 3 1 v 5 ((nums3 d).map (Value.int .i64)) ∧ Below w.heap.size w w':=by
 have hO:=own_lit (w.alloc (.cells #[.int .i64 d.op,.int .i64 d.kd,.int .i64 d.id,.int .i64 d.fr,.int .i64 d.tn,.int .i64 d.st,.int .i64 d.en,.int .i64 d.rt,.int .i64 d.rf,.int .i64 d.rn,.int .i64 d.rs,.int .i64 d.re,.int .i64 d.ro] 38)) w.heap.size 3 1 5 #[.int .i64 d.rf,.int .i64 d.rn,.int .i64 d.rs,.int .i64 d.re,.int .i64 d.ro] (by simp) rfl (by simp [maxLen])
 have hB:Below w.heap.size w ((w.alloc (.cells #[.int .i64 d.op,.int .i64 d.kd,.int .i64 d.id,.int .i64 d.fr,.int .i64 d.tn,.int .i64 d.st,.int .i64 d.en,.int .i64 d.rt,.int .i64 d.rf,.int .i64 d.rn,.int .i64 d.rs,.int .i64 d.re,.int .i64 d.ro] 38)).alloc (.cells #[.int .i64 d.rf,.int .i64 d.rn,.int .i64 d.rs,.int .i64 d.re,.int .i64 d.ro] 3)):=by (repeat (first | exact Below.refl _ _ | refine Below.alloc ?_ (by first | omega | (simp; done) | (simp; omega)) _ | refine Below.setCell ?_ (by first | omega | (simp; done) | (simp; omega)) _ | refine Below.drew ?_))
 simp only [World.size_alloc] at hO
 go_enter Tryz.func167,Tryz.ntmps167
 go_wp2_with fail
 go_ret
 exact ⟨_,rfl,hO,hB⟩
set_option maxHeartbeats 2000000 in
set_option maxRecDepth 100000 in
theorem fill3_any (d:Dr) (A:Option Addr) (c:Nat) (w:World) (h:Sl w w.heap.size 1 A 5 c ((nums3 d).map (Value.int .i64))):Calls Tryz.prog 168 #[.slice A 5 c] w fun e w' => e = .returned (.agg #[.int .i64 (fill3 d).op,.int .i64 (fill3 d).kd,.int .i64 (fill3 d).id,.int .i64 (fill3 d).fr,.int .i64 (fill3 d).tn,.int .i64 (fill3 d).st,.int .i64 (fill3 d).en,.int .i64 (fill3 d).rt,.int .i64 (fill3 d).rf,.int .i64 (fill3 d).rn,.int .i64 (fill3 d).rs,.int .i64 (fill3 d).re,.int .i64 (fill3 d).ro]) ∧ Below w.heap.size w w':=by
 obtain ⟨ad,rfl,hab,_⟩:=h.lst.atI (k:=0) rfl (by omega)
 obtain ⟨_,e0,_,k0⟩:=h.lst.atI (k:=0) rfl (by omega)
 injection e0 with e0
 subst e0
 obtain ⟨_,e1,_,k1⟩:=h.lst.atI (k:=1) rfl (by omega)
 injection e1 with e1
 subst e1
 obtain ⟨_,e2,_,k2⟩:=h.lst.atI (k:=2) rfl (by omega)
 injection e2 with e2
 subst e2
 obtain ⟨_,e3,_,k3⟩:=h.lst.atI (k:=3) rfl (by omega)
 injection e3 with e3
 subst e3
 obtain ⟨_,e4,_,k4⟩:=h.lst.atI (k:=4) rfl (by omega)
 injection e4 with e4
 subst e4
 have hX:=Blok.new w 38 #[.int .i64 0,.int .i64 0,.int .i64 0,.int .i64 0,.int .i64 0,.int .i64 0,.int .i64 0,.int .i64 0,.int .i64 0,.int .i64 0,.int .i64 0,.int .i64 0,.int .i64 0]
 have hB:Below w.heap.size w (w.alloc (.cells #[.int .i64 0,.int .i64 0,.int .i64 0,.int .i64 0,.int .i64 0,.int .i64 0,.int .i64 0,.int .i64 0,.int .i64 0,.int .i64 0,.int .i64 0,.int .i64 0,.int .i64 0] 38)):=by (repeat (first | exact Below.refl _ _ | refine Below.alloc ?_ (by first | omega | (simp; done) | (simp; omega)) _ | refine Below.setCell ?_ (by first | omega | (simp; done) | (simp; omega)) _ | refine Below.drew ?_))
 have hs:=hB.size
 have c0:(w.alloc (.cells #[.int .i64 0,.int .i64 0,.int .i64 0,.int .i64 0,.int .i64 0,.int .i64 0,.int .i64 0,.int .i64 0,.int .i64 0,.int .i64 0,.int .i64 0,.int .i64 0,.int .i64 0] 38)).cell? ad = some (.int .i64 d.rf):=by
  have h1:w.cell? ad = some (.int .i64 d.rf):=by rw [add_zero_] at k0; exact k0
  exact (hB.cell (block_lt_of_cell h1)).trans h1
 have c1:(w.alloc (.cells #[.int .i64 0,.int .i64 0,.int .i64 0,.int .i64 0,.int .i64 0,.int .i64 0,.int .i64 0,.int .i64 0,.int .i64 0,.int .i64 0,.int .i64 0,.int .i64 0,.int .i64 0] 38)).cell? ⟨ad.block,ad.off + 1,none⟩ = some (.int .i64 d.rn):=by
  have h1:w.cell? ⟨ad.block,ad.off + 1,none⟩ = some (.int .i64 d.rn):=by rw [addr_at ad 1 (by omega)]; exact k1
  exact (hB.cell (block_lt_of_cell h1)).trans h1
 have c2:(w.alloc (.cells #[.int .i64 0,.int .i64 0,.int .i64 0,.int .i64 0,.int .i64 0,.int .i64 0,.int .i64 0,.int .i64 0,.int .i64 0,.int .i64 0,.int .i64 0,.int .i64 0,.int .i64 0] 38)).cell? ⟨ad.block,ad.off + 2,none⟩ = some (.int .i64 d.rs):=by
  have h1:w.cell? ⟨ad.block,ad.off + 2,none⟩ = some (.int .i64 d.rs):=by rw [addr_at ad 2 (by omega)]; exact k2
  exact (hB.cell (block_lt_of_cell h1)).trans h1
 have c3:(w.alloc (.cells #[.int .i64 0,.int .i64 0,.int .i64 0,.int .i64 0,.int .i64 0,.int .i64 0,.int .i64 0,.int .i64 0,.int .i64 0,.int .i64 0,.int .i64 0,.int .i64 0,.int .i64 0] 38)).cell? ⟨ad.block,ad.off + 3,none⟩ = some (.int .i64 d.re):=by
  have h1:w.cell? ⟨ad.block,ad.off + 3,none⟩ = some (.int .i64 d.re):=by rw [addr_at ad 3 (by omega)]; exact k3
  exact (hB.cell (block_lt_of_cell h1)).trans h1
 have c4:(w.alloc (.cells #[.int .i64 0,.int .i64 0,.int .i64 0,.int .i64 0,.int .i64 0,.int .i64 0,.int .i64 0,.int .i64 0,.int .i64 0,.int .i64 0,.int .i64 0,.int .i64 0,.int .i64 0] 38)).cell? ⟨ad.block,ad.off + 4,none⟩ = some (.int .i64 d.ro):=by
  have h1:w.cell? ⟨ad.block,ad.off + 4,none⟩ = some (.int .i64 d.ro):=by rw [addr_at ad 4 (by omega)]; exact k4
  exact (hB.cell (block_lt_of_cell h1)).trans h1
 clear h k0 k1 k2 k3 k4 hab
 go_enter Tryz.func168,Tryz.ntmps168
 go_wp2_with fail
 generalize w.alloc (.cells #[.int .i64 0,.int .i64 0,.int .i64 0,.int .i64 0,.int .i64 0,.int .i64 0,.int .i64 0,.int .i64 0,.int .i64 0,.int .i64 0,.int .i64 0,.int .i64 0,.int .i64 0] 38) = w0 at *
 have q_c0:=fun d os => cell_regrown c0 d os
 have q_c1:=fun d os => cell_regrown c1 d os
 have q_c2:=fun d os => cell_regrown c2 d os
 have q_c3:=fun d os => cell_regrown c3 d os
 have q_c4:=fun d os => cell_regrown c4 d os
 try simp only [List.append]
 refine wp_region_grown_tail 17 (by kernel_rfl) (by kernel_rfl) ?_
 simp only [Nat.reduceAdd,List.take_succ_cons,List.take_zero]
 repeat (go_big_quiet_step ((fail)))
 refine wpQuiet_nil ?_
 intro _ hqw
 obtain ⟨pq,hqw⟩:=hqw
 subst hqw
 clear q_c0 q_c1 q_c2 q_c3 q_c4
 have hb:=below_regrown w0 pq.d pq.os
 replace hX:=hX.below hb hX.lt
 replace hB:=hB.trans (hb.mono hs)
 clear hb hs c0 c1 c2 c3 c4
 generalize grow (redrawn w0 pq.d) pq.os = w1 at *
 have r0:w1.cell? ⟨w.heap.size,0,none⟩ = some (.int .i64 0):=hX.cell 0
 have f_0:=hX.free 0
 have r1:w1.cell? ⟨w.heap.size,1,none⟩ = some (.int .i64 0):=hX.cell 1
 have f_1:=hX.free 1
 have r2:w1.cell? ⟨w.heap.size,2,none⟩ = some (.int .i64 0):=hX.cell 2
 have f_2:=hX.free 2
 have r3:w1.cell? ⟨w.heap.size,3,none⟩ = some (.int .i64 0):=hX.cell 3
 have f_3:=hX.free 3
 have r4:w1.cell? ⟨w.heap.size,4,none⟩ = some (.int .i64 0):=hX.cell 4
 have f_4:=hX.free 4
 have r5:w1.cell? ⟨w.heap.size,5,none⟩ = some (.int .i64 0):=hX.cell 5
 have f_5:=hX.free 5
 have r6:w1.cell? ⟨w.heap.size,6,none⟩ = some (.int .i64 0):=hX.cell 6
 have f_6:=hX.free 6
 have r7:w1.cell? ⟨w.heap.size,7,none⟩ = some (.int .i64 0):=hX.cell 7
 have f_7:=hX.free 7
 have r8:w1.cell? ⟨w.heap.size,8,none⟩ = some (.int .i64 0):=hX.cell 8
 have f_8:=hX.free 8
 have r9:w1.cell? ⟨w.heap.size,9,none⟩ = some (.int .i64 0):=hX.cell 9
 have f_9:=hX.free 9
 have r10:w1.cell? ⟨w.heap.size,10,none⟩ = some (.int .i64 0):=hX.cell 10
 have f_10:=hX.free 10
 have r11:w1.cell? ⟨w.heap.size,11,none⟩ = some (.int .i64 0):=hX.cell 11
 have f_11:=hX.free 11
 have r12:w1.cell? ⟨w.heap.size,12,none⟩ = some (.int .i64 0):=hX.cell 12
 have f_12:=hX.free 12
 have lt_x:=hX.lt
 have HX:=Lib.hid hX
 clear hX
 go_wp2_with fail
 have hX:=HX.out
 clear r0 r1 r2 r3 r4 r5 r6 r7 r8 r9 r10 r11 r12
 have hF:Blok (((((((((((((w1.setCell ⟨w.heap.size,0,none⟩ (.int .i64 0)).setCell ⟨w.heap.size,1,none⟩ (.int .i64 0)).setCell ⟨w.heap.size,2,none⟩ (.int .i64 0)).setCell ⟨w.heap.size,3,none⟩ (.int .i64 0)).setCell ⟨w.heap.size,4,none⟩ (.int .i64 0)).setCell ⟨w.heap.size,5,none⟩ (.int .i64 0)).setCell ⟨w.heap.size,6,none⟩ (.int .i64 0)).setCell ⟨w.heap.size,7,none⟩ (.int .i64 0)).setCell ⟨w.heap.size,8,none⟩ (.int .i64 d.rf)).setCell ⟨w.heap.size,9,none⟩ (.int .i64 d.rn)).setCell ⟨w.heap.size,10,none⟩ (.int .i64 d.rs)).setCell ⟨w.heap.size,11,none⟩ (.int .i64 d.re)).setCell ⟨w.heap.size,12,none⟩ (.int .i64 d.ro)) w.heap.size 38 #[.int .i64 0,.int .i64 0,.int .i64 0,.int .i64 0,.int .i64 0,.int .i64 0,.int .i64 0,.int .i64 0,.int .i64 d.rf,.int .i64 d.rn,.int .i64 d.rs,.int .i64 d.re,.int .i64 d.ro]:=by have h:=(((((((((((((hX.set_ 0 (.int .i64 0)).set_ 1 (.int .i64 0)).set_ 2 (.int .i64 0)).set_ 3 (.int .i64 0)).set_ 4 (.int .i64 0)).set_ 5 (.int .i64 0)).set_ 6 (.int .i64 0)).set_ 7 (.int .i64 0)).set_ 8 (.int .i64 d.rf)).set_ 9 (.int .i64 d.rn)).set_ 10 (.int .i64 d.rs)).set_ 11 (.int .i64 d.re)).set_ 12 (.int .i64 d.ro)); simpa using h
 have hle0:w.heap.size ≤ w.heap.size:=by first | exact Nat.le_refl _ | omega
 have hWf:Below w.heap.size w (((((((((((((w1.setCell ⟨w.heap.size,0,none⟩ (.int .i64 0)).setCell ⟨w.heap.size,1,none⟩ (.int .i64 0)).setCell ⟨w.heap.size,2,none⟩ (.int .i64 0)).setCell ⟨w.heap.size,3,none⟩ (.int .i64 0)).setCell ⟨w.heap.size,4,none⟩ (.int .i64 0)).setCell ⟨w.heap.size,5,none⟩ (.int .i64 0)).setCell ⟨w.heap.size,6,none⟩ (.int .i64 0)).setCell ⟨w.heap.size,7,none⟩ (.int .i64 0)).setCell ⟨w.heap.size,8,none⟩ (.int .i64 d.rf)).setCell ⟨w.heap.size,9,none⟩ (.int .i64 d.rn)).setCell ⟨w.heap.size,10,none⟩ (.int .i64 d.rs)).setCell ⟨w.heap.size,11,none⟩ (.int .i64 d.re)).setCell ⟨w.heap.size,12,none⟩ (.int .i64 d.ro)):=(((((((((((((hB.setCell (p:=⟨w.heap.size,0,none⟩) hle0 (.int .i64 0)).setCell (p:=⟨w.heap.size,1,none⟩) hle0 (.int .i64 0)).setCell (p:=⟨w.heap.size,2,none⟩) hle0 (.int .i64 0)).setCell (p:=⟨w.heap.size,3,none⟩) hle0 (.int .i64 0)).setCell (p:=⟨w.heap.size,4,none⟩) hle0 (.int .i64 0)).setCell (p:=⟨w.heap.size,5,none⟩) hle0 (.int .i64 0)).setCell (p:=⟨w.heap.size,6,none⟩) hle0 (.int .i64 0)).setCell (p:=⟨w.heap.size,7,none⟩) hle0 (.int .i64 0)).setCell (p:=⟨w.heap.size,8,none⟩) hle0 (.int .i64 d.rf)).setCell (p:=⟨w.heap.size,9,none⟩) hle0 (.int .i64 d.rn)).setCell (p:=⟨w.heap.size,10,none⟩) hle0 (.int .i64 d.rs)).setCell (p:=⟨w.heap.size,11,none⟩) hle0 (.int .i64 d.re)).setCell (p:=⟨w.heap.size,12,none⟩) hle0 (.int .i64 d.ro))
 have hlF:=hF.lt
 generalize (((((((((((((w1.setCell ⟨w.heap.size,0,none⟩ (.int .i64 0)).setCell ⟨w.heap.size,1,none⟩ (.int .i64 0)).setCell ⟨w.heap.size,2,none⟩ (.int .i64 0)).setCell ⟨w.heap.size,3,none⟩ (.int .i64 0)).setCell ⟨w.heap.size,4,none⟩ (.int .i64 0)).setCell ⟨w.heap.size,5,none⟩ (.int .i64 0)).setCell ⟨w.heap.size,6,none⟩ (.int .i64 0)).setCell ⟨w.heap.size,7,none⟩ (.int .i64 0)).setCell ⟨w.heap.size,8,none⟩ (.int .i64 d.rf)).setCell ⟨w.heap.size,9,none⟩ (.int .i64 d.rn)).setCell ⟨w.heap.size,10,none⟩ (.int .i64 d.rs)).setCell ⟨w.heap.size,11,none⟩ (.int .i64 d.re)).setCell ⟨w.heap.size,12,none⟩ (.int .i64 d.ro)) = wf at *
 have r0:wf.cell? ⟨w.heap.size,0,none⟩ = some (.int .i64 0):=hF.cell 0
 have r1:wf.cell? ⟨w.heap.size,1,none⟩ = some (.int .i64 0):=hF.cell 1
 have r2:wf.cell? ⟨w.heap.size,2,none⟩ = some (.int .i64 0):=hF.cell 2
 have r3:wf.cell? ⟨w.heap.size,3,none⟩ = some (.int .i64 0):=hF.cell 3
 have r4:wf.cell? ⟨w.heap.size,4,none⟩ = some (.int .i64 0):=hF.cell 4
 have r5:wf.cell? ⟨w.heap.size,5,none⟩ = some (.int .i64 0):=hF.cell 5
 have r6:wf.cell? ⟨w.heap.size,6,none⟩ = some (.int .i64 0):=hF.cell 6
 have r7:wf.cell? ⟨w.heap.size,7,none⟩ = some (.int .i64 0):=hF.cell 7
 have r8:wf.cell? ⟨w.heap.size,8,none⟩ = some (.int .i64 d.rf):=hF.cell 8
 have r9:wf.cell? ⟨w.heap.size,9,none⟩ = some (.int .i64 d.rn):=hF.cell 9
 have r10:wf.cell? ⟨w.heap.size,10,none⟩ = some (.int .i64 d.rs):=hF.cell 10
 have r11:wf.cell? ⟨w.heap.size,11,none⟩ = some (.int .i64 d.re):=hF.cell 11
 have r12:wf.cell? ⟨w.heap.size,12,none⟩ = some (.int .i64 d.ro):=hF.cell 12
 refine bodyPost_ret (v:=.agg #[.int .i64 0,.int .i64 0,.int .i64 0,.int .i64 0,.int .i64 0,.int .i64 0,.int .i64 0,.int .i64 0,.int .i64 d.rf,.int .i64 d.rn,.int .i64 d.rs,.int .i64 d.re,.int .i64 d.ro]) (by simp [results,Tryz.results168,go_sem,r0,r1,r2,r3,r4,r5,r6,r7,r8,r9,r10,r11,r12,hlF]) rfl ?_
 exact ⟨rfl,hWf⟩
set_option maxHeartbeats 1000000 in
set_option maxRecDepth 100000 in
theorem may3_any (d:Dr) (w:World) (b:Bool) (hb:may3 d = b):Calls Tryz.prog 169 #[.agg #[.int .i64 d.op,.int .i64 d.kd,.int .i64 d.id,.int .i64 d.fr,.int .i64 d.tn,.int .i64 d.st,.int .i64 d.en,.int .i64 d.rt,.int .i64 d.rf,.int .i64 d.rn,.int .i64 d.rs,.int .i64 d.re,.int .i64 d.ro]] w fun e w' => e = .returned (.bool b) ∧ Below w.heap.size w w':=by
 have hB:Below w.heap.size w (w.alloc (.cells #[.int .i64 d.op,.int .i64 d.kd,.int .i64 d.id,.int .i64 d.fr,.int .i64 d.tn,.int .i64 d.st,.int .i64 d.en,.int .i64 d.rt,.int .i64 d.rf,.int .i64 d.rn,.int .i64 d.rs,.int .i64 d.re,.int .i64 d.ro] 38)):=by (repeat (first | exact Below.refl _ _ | refine Below.alloc ?_ (by first | omega | (simp; done) | (simp; omega)) _ | refine Below.setCell ?_ (by first | omega | (simp; done) | (simp; omega)) _ | refine Below.drew ?_))
 have hX:=Blok.new w 38 #[.int .i64 d.op,.int .i64 d.kd,.int .i64 d.id,.int .i64 d.fr,.int .i64 d.tn,.int .i64 d.st,.int .i64 d.en,.int .i64 d.rt,.int .i64 d.rf,.int .i64 d.rn,.int .i64 d.rs,.int .i64 d.re,.int .i64 d.ro]
 have hs:=hB.size
 unfold may3 at hb
 go_enter Tryz.func169,Tryz.ntmps169
 go_wp2_with fail
 generalize w.alloc (.cells #[.int .i64 d.op,.int .i64 d.kd,.int .i64 d.id,.int .i64 d.fr,.int .i64 d.tn,.int .i64 d.st,.int .i64 d.en,.int .i64 d.rt,.int .i64 d.rf,.int .i64 d.rn,.int .i64 d.rs,.int .i64 d.re,.int .i64 d.ro] 38) = w0 at *
 refine (range_is b hb _).mono ?_
 rintro e w2 ⟨rfl,hb2⟩
 go_wp2_with fail
 go_ret
 exact ⟨rfl,hB.trans (hb2.mono hs)⟩
set_option maxRecDepth 100000 in
theorem nums4_any (d:Dr) (w:World):Calls Tryz.prog 170 #[.agg #[.int .i64 d.op,.int .i64 d.kd,.int .i64 d.id,.int .i64 d.fr,.int .i64 d.tn,.int .i64 d.st,.int .i64 d.en,.int .i64 d.rt,.int .i64 d.rf,.int .i64 d.rn,.int .i64 d.rs,.int .i64 d.re,.int .i64 d.ro]] w fun e w' => ∃ v,e = .returned v ∧ w'.ownsRow w.heap.size 3 1 v 3 ((nums4 d).map (Value.int .i64)) ∧ Below w.heap.size w w':=by
 have hO:=own_lit (w.alloc (.cells #[.int .i64 d.op,.int .i64 d.kd,.int .i64 d.id,.int .i64 d.fr,.int .i64 d.tn,.int .i64 d.st,.int .i64 d.en,.int .i64 d.rt,.int .i64 d.rf,.int .i64 d.rn,.int .i64 d.rs,.int .i64 d.re,.int .i64 d.ro] 38)) w.heap.size 3 1 3 #[.int .i64 d.rf,.int .i64 d.rn,.int .i64 d.rs] (by simp) rfl (by simp [maxLen])
 have hB:Below w.heap.size w ((w.alloc (.cells #[.int .i64 d.op,.int .i64 d.kd,.int .i64 d.id,.int .i64 d.fr,.int .i64 d.tn,.int .i64 d.st,.int .i64 d.en,.int .i64 d.rt,.int .i64 d.rf,.int .i64 d.rn,.int .i64 d.rs,.int .i64 d.re,.int .i64 d.ro] 38)).alloc (.cells #[.int .i64 d.rf,.int .i64 d.rn,.int .i64 d.rs] 3)):=by (repeat (first | exact Below.refl _ _ | refine Below.alloc ?_ (by first | omega | (simp; done) | (simp; omega)) _ | refine Below.setCell ?_ (by first | omega | (simp; done) | (simp; omega)) _ | refine Below.drew ?_))
 simp only [World.size_alloc] at hO
 go_enter Tryz.func170,Tryz.ntmps170
 go_wp2_with fail
 go_ret
 exact ⟨_,rfl,hO,hB⟩
set_option maxHeartbeats 2000000 in
set_option maxRecDepth 100000 in
theorem fill4_any (d:Dr) (A:Option Addr) (c:Nat) (w:World) (h:Sl w w.heap.size 1 A 3 c ((nums4 d).map (Value.int .i64))):Calls Tryz.prog 171 #[.slice A 3 c] w fun e w' => e = .returned (.agg #[.int .i64 (fill4 d).op,.int .i64 (fill4 d).kd,.int .i64 (fill4 d).id,.int .i64 (fill4 d).fr,.int .i64 (fill4 d).tn,.int .i64 (fill4 d).st,.int .i64 (fill4 d).en,.int .i64 (fill4 d).rt,.int .i64 (fill4 d).rf,.int .i64 (fill4 d).rn,.int .i64 (fill4 d).rs,.int .i64 (fill4 d).re,.int .i64 (fill4 d).ro]) ∧ Below w.heap.size w w':=by
 obtain ⟨ad,rfl,hab,_⟩:=h.lst.atI (k:=0) rfl (by omega)
 obtain ⟨_,e0,_,k0⟩:=h.lst.atI (k:=0) rfl (by omega)
 injection e0 with e0
 subst e0
 obtain ⟨_,e1,_,k1⟩:=h.lst.atI (k:=1) rfl (by omega)
 injection e1 with e1
 subst e1
 obtain ⟨_,e2,_,k2⟩:=h.lst.atI (k:=2) rfl (by omega)
 injection e2 with e2
 subst e2
 have hX:=Blok.new w 38 #[.int .i64 0,.int .i64 0,.int .i64 0,.int .i64 0,.int .i64 0,.int .i64 0,.int .i64 0,.int .i64 0,.int .i64 0,.int .i64 0,.int .i64 0,.int .i64 0,.int .i64 0]
 have hB:Below w.heap.size w (w.alloc (.cells #[.int .i64 0,.int .i64 0,.int .i64 0,.int .i64 0,.int .i64 0,.int .i64 0,.int .i64 0,.int .i64 0,.int .i64 0,.int .i64 0,.int .i64 0,.int .i64 0,.int .i64 0] 38)):=by (repeat (first | exact Below.refl _ _ | refine Below.alloc ?_ (by first | omega | (simp; done) | (simp; omega)) _ | refine Below.setCell ?_ (by first | omega | (simp; done) | (simp; omega)) _ | refine Below.drew ?_))
 have hs:=hB.size
 have c0:(w.alloc (.cells #[.int .i64 0,.int .i64 0,.int .i64 0,.int .i64 0,.int .i64 0,.int .i64 0,.int .i64 0,.int .i64 0,.int .i64 0,.int .i64 0,.int .i64 0,.int .i64 0,.int .i64 0] 38)).cell? ad = some (.int .i64 d.rf):=by
  have h1:w.cell? ad = some (.int .i64 d.rf):=by rw [add_zero_] at k0; exact k0
  exact (hB.cell (block_lt_of_cell h1)).trans h1
 have c1:(w.alloc (.cells #[.int .i64 0,.int .i64 0,.int .i64 0,.int .i64 0,.int .i64 0,.int .i64 0,.int .i64 0,.int .i64 0,.int .i64 0,.int .i64 0,.int .i64 0,.int .i64 0,.int .i64 0] 38)).cell? ⟨ad.block,ad.off + 1,none⟩ = some (.int .i64 d.rn):=by
  have h1:w.cell? ⟨ad.block,ad.off + 1,none⟩ = some (.int .i64 d.rn):=by rw [addr_at ad 1 (by omega)]; exact k1
  exact (hB.cell (block_lt_of_cell h1)).trans h1
 have c2:(w.alloc (.cells #[.int .i64 0,.int .i64 0,.int .i64 0,.int .i64 0,.int .i64 0,.int .i64 0,.int .i64 0,.int .i64 0,.int .i64 0,.int .i64 0,.int .i64 0,.int .i64 0,.int .i64 0] 38)).cell? ⟨ad.block,ad.off + 2,none⟩ = some (.int .i64 d.rs):=by
  have h1:w.cell? ⟨ad.block,ad.off + 2,none⟩ = some (.int .i64 d.rs):=by rw [addr_at ad 2 (by omega)]; exact k2
  exact (hB.cell (block_lt_of_cell h1)).trans h1
 clear h k0 k1 k2 hab
 go_enter Tryz.func171,Tryz.ntmps171
 go_wp2_with fail
 generalize w.alloc (.cells #[.int .i64 0,.int .i64 0,.int .i64 0,.int .i64 0,.int .i64 0,.int .i64 0,.int .i64 0,.int .i64 0,.int .i64 0,.int .i64 0,.int .i64 0,.int .i64 0,.int .i64 0] 38) = w0 at *
 have q_c0:=fun d os => cell_regrown c0 d os
 have q_c1:=fun d os => cell_regrown c1 d os
 have q_c2:=fun d os => cell_regrown c2 d os
 try simp only [List.append]
 refine wp_region_grown_tail 11 (by kernel_rfl) (by kernel_rfl) ?_
 simp only [Nat.reduceAdd,List.take_succ_cons,List.take_zero]
 repeat (go_big_quiet_step ((fail)))
 refine wpQuiet_nil ?_
 intro _ hqw
 obtain ⟨pq,hqw⟩:=hqw
 subst hqw
 clear q_c0 q_c1 q_c2
 have hb:=below_regrown w0 pq.d pq.os
 replace hX:=hX.below hb hX.lt
 replace hB:=hB.trans (hb.mono hs)
 clear hb hs c0 c1 c2
 generalize grow (redrawn w0 pq.d) pq.os = w1 at *
 have r0:w1.cell? ⟨w.heap.size,0,none⟩ = some (.int .i64 0):=hX.cell 0
 have f_0:=hX.free 0
 have r1:w1.cell? ⟨w.heap.size,1,none⟩ = some (.int .i64 0):=hX.cell 1
 have f_1:=hX.free 1
 have r2:w1.cell? ⟨w.heap.size,2,none⟩ = some (.int .i64 0):=hX.cell 2
 have f_2:=hX.free 2
 have r3:w1.cell? ⟨w.heap.size,3,none⟩ = some (.int .i64 0):=hX.cell 3
 have f_3:=hX.free 3
 have r4:w1.cell? ⟨w.heap.size,4,none⟩ = some (.int .i64 0):=hX.cell 4
 have f_4:=hX.free 4
 have r5:w1.cell? ⟨w.heap.size,5,none⟩ = some (.int .i64 0):=hX.cell 5
 have f_5:=hX.free 5
 have r6:w1.cell? ⟨w.heap.size,6,none⟩ = some (.int .i64 0):=hX.cell 6
 have f_6:=hX.free 6
 have r7:w1.cell? ⟨w.heap.size,7,none⟩ = some (.int .i64 0):=hX.cell 7
 have f_7:=hX.free 7
 have r8:w1.cell? ⟨w.heap.size,8,none⟩ = some (.int .i64 0):=hX.cell 8
 have f_8:=hX.free 8
 have r9:w1.cell? ⟨w.heap.size,9,none⟩ = some (.int .i64 0):=hX.cell 9
 have f_9:=hX.free 9
 have r10:w1.cell? ⟨w.heap.size,10,none⟩ = some (.int .i64 0):=hX.cell 10
 have f_10:=hX.free 10
 have r11:w1.cell? ⟨w.heap.size,11,none⟩ = some (.int .i64 0):=hX.cell 11
 have f_11:=hX.free 11
 have r12:w1.cell? ⟨w.heap.size,12,none⟩ = some (.int .i64 0):=hX.cell 12
 have f_12:=hX.free 12
 have lt_x:=hX.lt
 have HX:=Lib.hid hX
 clear hX
 go_wp2_with fail
 have hX:=HX.out
 clear r0 r1 r2 r3 r4 r5 r6 r7 r8 r9 r10 r11 r12
 have hF:Blok (((((((((((((w1.setCell ⟨w.heap.size,0,none⟩ (.int .i64 0)).setCell ⟨w.heap.size,1,none⟩ (.int .i64 0)).setCell ⟨w.heap.size,2,none⟩ (.int .i64 0)).setCell ⟨w.heap.size,3,none⟩ (.int .i64 0)).setCell ⟨w.heap.size,4,none⟩ (.int .i64 0)).setCell ⟨w.heap.size,5,none⟩ (.int .i64 0)).setCell ⟨w.heap.size,6,none⟩ (.int .i64 0)).setCell ⟨w.heap.size,7,none⟩ (.int .i64 0)).setCell ⟨w.heap.size,8,none⟩ (.int .i64 d.rf)).setCell ⟨w.heap.size,9,none⟩ (.int .i64 d.rn)).setCell ⟨w.heap.size,10,none⟩ (.int .i64 d.rs)).setCell ⟨w.heap.size,11,none⟩ (.int .i64 0)).setCell ⟨w.heap.size,12,none⟩ (.int .i64 0)) w.heap.size 38 #[.int .i64 0,.int .i64 0,.int .i64 0,.int .i64 0,.int .i64 0,.int .i64 0,.int .i64 0,.int .i64 0,.int .i64 d.rf,.int .i64 d.rn,.int .i64 d.rs,.int .i64 0,.int .i64 0]:=by have h:=(((((((((((((hX.set_ 0 (.int .i64 0)).set_ 1 (.int .i64 0)).set_ 2 (.int .i64 0)).set_ 3 (.int .i64 0)).set_ 4 (.int .i64 0)).set_ 5 (.int .i64 0)).set_ 6 (.int .i64 0)).set_ 7 (.int .i64 0)).set_ 8 (.int .i64 d.rf)).set_ 9 (.int .i64 d.rn)).set_ 10 (.int .i64 d.rs)).set_ 11 (.int .i64 0)).set_ 12 (.int .i64 0)); simpa using h
 have hle0:w.heap.size ≤ w.heap.size:=by first | exact Nat.le_refl _ | omega
 have hWf:Below w.heap.size w (((((((((((((w1.setCell ⟨w.heap.size,0,none⟩ (.int .i64 0)).setCell ⟨w.heap.size,1,none⟩ (.int .i64 0)).setCell ⟨w.heap.size,2,none⟩ (.int .i64 0)).setCell ⟨w.heap.size,3,none⟩ (.int .i64 0)).setCell ⟨w.heap.size,4,none⟩ (.int .i64 0)).setCell ⟨w.heap.size,5,none⟩ (.int .i64 0)).setCell ⟨w.heap.size,6,none⟩ (.int .i64 0)).setCell ⟨w.heap.size,7,none⟩ (.int .i64 0)).setCell ⟨w.heap.size,8,none⟩ (.int .i64 d.rf)).setCell ⟨w.heap.size,9,none⟩ (.int .i64 d.rn)).setCell ⟨w.heap.size,10,none⟩ (.int .i64 d.rs)).setCell ⟨w.heap.size,11,none⟩ (.int .i64 0)).setCell ⟨w.heap.size,12,none⟩ (.int .i64 0)):=(((((((((((((hB.setCell (p:=⟨w.heap.size,0,none⟩) hle0 (.int .i64 0)).setCell (p:=⟨w.heap.size,1,none⟩) hle0 (.int .i64 0)).setCell (p:=⟨w.heap.size,2,none⟩) hle0 (.int .i64 0)).setCell (p:=⟨w.heap.size,3,none⟩) hle0 (.int .i64 0)).setCell (p:=⟨w.heap.size,4,none⟩) hle0 (.int .i64 0)).setCell (p:=⟨w.heap.size,5,none⟩) hle0 (.int .i64 0)).setCell (p:=⟨w.heap.size,6,none⟩) hle0 (.int .i64 0)).setCell (p:=⟨w.heap.size,7,none⟩) hle0 (.int .i64 0)).setCell (p:=⟨w.heap.size,8,none⟩) hle0 (.int .i64 d.rf)).setCell (p:=⟨w.heap.size,9,none⟩) hle0 (.int .i64 d.rn)).setCell (p:=⟨w.heap.size,10,none⟩) hle0 (.int .i64 d.rs)).setCell (p:=⟨w.heap.size,11,none⟩) hle0 (.int .i64 0)).setCell (p:=⟨w.heap.size,12,none⟩) hle0 (.int .i64 0))
 have hlF:=hF.lt
 generalize (((((((((((((w1.setCell ⟨w.heap.size,0,none⟩ (.int .i64 0)).setCell ⟨w.heap.size,1,none⟩ (.int .i64 0)).setCell ⟨w.heap.size,2,none⟩ (.int .i64 0)).setCell ⟨w.heap.size,3,none⟩ (.int .i64 0)).setCell ⟨w.heap.size,4,none⟩ (.int .i64 0)).setCell ⟨w.heap.size,5,none⟩ (.int .i64 0)).setCell ⟨w.heap.size,6,none⟩ (.int .i64 0)).setCell ⟨w.heap.size,7,none⟩ (.int .i64 0)).setCell ⟨w.heap.size,8,none⟩ (.int .i64 d.rf)).setCell ⟨w.heap.size,9,none⟩ (.int .i64 d.rn)).setCell ⟨w.heap.size,10,none⟩ (.int .i64 d.rs)).setCell ⟨w.heap.size,11,none⟩ (.int .i64 0)).setCell ⟨w.heap.size,12,none⟩ (.int .i64 0)) = wf at *
 have r0:wf.cell? ⟨w.heap.size,0,none⟩ = some (.int .i64 0):=hF.cell 0
 have r1:wf.cell? ⟨w.heap.size,1,none⟩ = some (.int .i64 0):=hF.cell 1
 have r2:wf.cell? ⟨w.heap.size,2,none⟩ = some (.int .i64 0):=hF.cell 2
 have r3:wf.cell? ⟨w.heap.size,3,none⟩ = some (.int .i64 0):=hF.cell 3
 have r4:wf.cell? ⟨w.heap.size,4,none⟩ = some (.int .i64 0):=hF.cell 4
 have r5:wf.cell? ⟨w.heap.size,5,none⟩ = some (.int .i64 0):=hF.cell 5
 have r6:wf.cell? ⟨w.heap.size,6,none⟩ = some (.int .i64 0):=hF.cell 6
 have r7:wf.cell? ⟨w.heap.size,7,none⟩ = some (.int .i64 0):=hF.cell 7
 have r8:wf.cell? ⟨w.heap.size,8,none⟩ = some (.int .i64 d.rf):=hF.cell 8
 have r9:wf.cell? ⟨w.heap.size,9,none⟩ = some (.int .i64 d.rn):=hF.cell 9
 have r10:wf.cell? ⟨w.heap.size,10,none⟩ = some (.int .i64 d.rs):=hF.cell 10
 have r11:wf.cell? ⟨w.heap.size,11,none⟩ = some (.int .i64 0):=hF.cell 11
 have r12:wf.cell? ⟨w.heap.size,12,none⟩ = some (.int .i64 0):=hF.cell 12
 refine bodyPost_ret (v:=.agg #[.int .i64 0,.int .i64 0,.int .i64 0,.int .i64 0,.int .i64 0,.int .i64 0,.int .i64 0,.int .i64 0,.int .i64 d.rf,.int .i64 d.rn,.int .i64 d.rs,.int .i64 0,.int .i64 0]) (by simp [results,Tryz.results171,go_sem,r0,r1,r2,r3,r4,r5,r6,r7,r8,r9,r10,r11,r12,hlF]) rfl ?_
 exact ⟨rfl,hWf⟩
set_option maxHeartbeats 1000000 in
set_option maxRecDepth 100000 in
theorem may4_any (d:Dr) (w:World) (b:Bool) (hb:may4 d = b):Calls Tryz.prog 172 #[.agg #[.int .i64 d.op,.int .i64 d.kd,.int .i64 d.id,.int .i64 d.fr,.int .i64 d.tn,.int .i64 d.st,.int .i64 d.en,.int .i64 d.rt,.int .i64 d.rf,.int .i64 d.rn,.int .i64 d.rs,.int .i64 d.re,.int .i64 d.ro]] w fun e w' => e = .returned (.bool b) ∧ Below w.heap.size w w':=by
 have hB:Below w.heap.size w (w.alloc (.cells #[.int .i64 d.op,.int .i64 d.kd,.int .i64 d.id,.int .i64 d.fr,.int .i64 d.tn,.int .i64 d.st,.int .i64 d.en,.int .i64 d.rt,.int .i64 d.rf,.int .i64 d.rn,.int .i64 d.rs,.int .i64 d.re,.int .i64 d.ro] 38)):=by (repeat (first | exact Below.refl _ _ | refine Below.alloc ?_ (by first | omega | (simp; done) | (simp; omega)) _ | refine Below.setCell ?_ (by first | omega | (simp; done) | (simp; omega)) _ | refine Below.drew ?_))
 have hX:=Blok.new w 38 #[.int .i64 d.op,.int .i64 d.kd,.int .i64 d.id,.int .i64 d.fr,.int .i64 d.tn,.int .i64 d.st,.int .i64 d.en,.int .i64 d.rt,.int .i64 d.rf,.int .i64 d.rn,.int .i64 d.rs,.int .i64 d.re,.int .i64 d.ro]
 have hs:=hB.size
 unfold may4 at hb
 go_enter Tryz.func172,Tryz.ntmps172
 go_wp2_with fail
 generalize w.alloc (.cells #[.int .i64 d.op,.int .i64 d.kd,.int .i64 d.id,.int .i64 d.fr,.int .i64 d.tn,.int .i64 d.st,.int .i64 d.en,.int .i64 d.rt,.int .i64 d.rf,.int .i64 d.rn,.int .i64 d.rs,.int .i64 d.re,.int .i64 d.ro] 38) = w0 at *
 refine (mayBegin_any _ _ _ _ _ _ b hb).mono ?_
 rintro e w2 ⟨rfl,hb2⟩
 go_wp2_with fail
 go_ret
 exact ⟨rfl,hB.trans (hb2.mono hs)⟩
set_option maxRecDepth 100000 in
theorem nums5_any (d:Dr) (w:World):Calls Tryz.prog 174 #[.agg #[.int .i64 d.op,.int .i64 d.kd,.int .i64 d.id,.int .i64 d.fr,.int .i64 d.tn,.int .i64 d.st,.int .i64 d.en,.int .i64 d.rt,.int .i64 d.rf,.int .i64 d.rn,.int .i64 d.rs,.int .i64 d.re,.int .i64 d.ro]] w fun e w' => ∃ v,e = .returned v ∧ w'.ownsRow w.heap.size 3 1 v 4 ((nums5 d).map (Value.int .i64)) ∧ Below w.heap.size w w':=by
 have hO:=own_lit (w.alloc (.cells #[.int .i64 d.op,.int .i64 d.kd,.int .i64 d.id,.int .i64 d.fr,.int .i64 d.tn,.int .i64 d.st,.int .i64 d.en,.int .i64 d.rt,.int .i64 d.rf,.int .i64 d.rn,.int .i64 d.rs,.int .i64 d.re,.int .i64 d.ro] 38)) w.heap.size 3 1 4 #[.int .i64 d.rf,.int .i64 d.rn,.int .i64 d.rs,.int .i64 d.ro] (by simp) rfl (by simp [maxLen])
 have hB:Below w.heap.size w ((w.alloc (.cells #[.int .i64 d.op,.int .i64 d.kd,.int .i64 d.id,.int .i64 d.fr,.int .i64 d.tn,.int .i64 d.st,.int .i64 d.en,.int .i64 d.rt,.int .i64 d.rf,.int .i64 d.rn,.int .i64 d.rs,.int .i64 d.re,.int .i64 d.ro] 38)).alloc (.cells #[.int .i64 d.rf,.int .i64 d.rn,.int .i64 d.rs,.int .i64 d.ro] 3)):=by (repeat (first | exact Below.refl _ _ | refine Below.alloc ?_ (by first | omega | (simp; done) | (simp; omega)) _ | refine Below.setCell ?_ (by first | omega | (simp; done) | (simp; omega)) _ | refine Below.drew ?_))
 simp only [World.size_alloc] at hO
 go_enter Tryz.func174,Tryz.ntmps174
 go_wp2_with fail
 go_ret
 exact ⟨_,rfl,hO,hB⟩
set_option maxHeartbeats 2000000 in
set_option maxRecDepth 100000 in
theorem fill5_any (d:Dr) (A:Option Addr) (c:Nat) (w:World) (h:Sl w w.heap.size 1 A 4 c ((nums5 d).map (Value.int .i64))):Calls Tryz.prog 175 #[.slice A 4 c] w fun e w' => e = .returned (.agg #[.int .i64 (fill5 d).op,.int .i64 (fill5 d).kd,.int .i64 (fill5 d).id,.int .i64 (fill5 d).fr,.int .i64 (fill5 d).tn,.int .i64 (fill5 d).st,.int .i64 (fill5 d).en,.int .i64 (fill5 d).rt,.int .i64 (fill5 d).rf,.int .i64 (fill5 d).rn,.int .i64 (fill5 d).rs,.int .i64 (fill5 d).re,.int .i64 (fill5 d).ro]) ∧ Below w.heap.size w w':=by
 obtain ⟨ad,rfl,hab,_⟩:=h.lst.atI (k:=0) rfl (by omega)
 obtain ⟨_,e0,_,k0⟩:=h.lst.atI (k:=0) rfl (by omega)
 injection e0 with e0
 subst e0
 obtain ⟨_,e1,_,k1⟩:=h.lst.atI (k:=1) rfl (by omega)
 injection e1 with e1
 subst e1
 obtain ⟨_,e2,_,k2⟩:=h.lst.atI (k:=2) rfl (by omega)
 injection e2 with e2
 subst e2
 obtain ⟨_,e3,_,k3⟩:=h.lst.atI (k:=3) rfl (by omega)
 injection e3 with e3
 subst e3
 have hX:=Blok.new w 38 #[.int .i64 0,.int .i64 0,.int .i64 0,.int .i64 0,.int .i64 0,.int .i64 0,.int .i64 0,.int .i64 0,.int .i64 0,.int .i64 0,.int .i64 0,.int .i64 0,.int .i64 0]
 have hB:Below w.heap.size w (w.alloc (.cells #[.int .i64 0,.int .i64 0,.int .i64 0,.int .i64 0,.int .i64 0,.int .i64 0,.int .i64 0,.int .i64 0,.int .i64 0,.int .i64 0,.int .i64 0,.int .i64 0,.int .i64 0] 38)):=by (repeat (first | exact Below.refl _ _ | refine Below.alloc ?_ (by first | omega | (simp; done) | (simp; omega)) _ | refine Below.setCell ?_ (by first | omega | (simp; done) | (simp; omega)) _ | refine Below.drew ?_))
 have hs:=hB.size
 have c0:(w.alloc (.cells #[.int .i64 0,.int .i64 0,.int .i64 0,.int .i64 0,.int .i64 0,.int .i64 0,.int .i64 0,.int .i64 0,.int .i64 0,.int .i64 0,.int .i64 0,.int .i64 0,.int .i64 0] 38)).cell? ad = some (.int .i64 d.rf):=by
  have h1:w.cell? ad = some (.int .i64 d.rf):=by rw [add_zero_] at k0; exact k0
  exact (hB.cell (block_lt_of_cell h1)).trans h1
 have c1:(w.alloc (.cells #[.int .i64 0,.int .i64 0,.int .i64 0,.int .i64 0,.int .i64 0,.int .i64 0,.int .i64 0,.int .i64 0,.int .i64 0,.int .i64 0,.int .i64 0,.int .i64 0,.int .i64 0] 38)).cell? ⟨ad.block,ad.off + 1,none⟩ = some (.int .i64 d.rn):=by
  have h1:w.cell? ⟨ad.block,ad.off + 1,none⟩ = some (.int .i64 d.rn):=by rw [addr_at ad 1 (by omega)]; exact k1
  exact (hB.cell (block_lt_of_cell h1)).trans h1
 have c2:(w.alloc (.cells #[.int .i64 0,.int .i64 0,.int .i64 0,.int .i64 0,.int .i64 0,.int .i64 0,.int .i64 0,.int .i64 0,.int .i64 0,.int .i64 0,.int .i64 0,.int .i64 0,.int .i64 0] 38)).cell? ⟨ad.block,ad.off + 2,none⟩ = some (.int .i64 d.rs):=by
  have h1:w.cell? ⟨ad.block,ad.off + 2,none⟩ = some (.int .i64 d.rs):=by rw [addr_at ad 2 (by omega)]; exact k2
  exact (hB.cell (block_lt_of_cell h1)).trans h1
 have c3:(w.alloc (.cells #[.int .i64 0,.int .i64 0,.int .i64 0,.int .i64 0,.int .i64 0,.int .i64 0,.int .i64 0,.int .i64 0,.int .i64 0,.int .i64 0,.int .i64 0,.int .i64 0,.int .i64 0] 38)).cell? ⟨ad.block,ad.off + 3,none⟩ = some (.int .i64 d.ro):=by
  have h1:w.cell? ⟨ad.block,ad.off + 3,none⟩ = some (.int .i64 d.ro):=by rw [addr_at ad 3 (by omega)]; exact k3
  exact (hB.cell (block_lt_of_cell h1)).trans h1
 clear h k0 k1 k2 k3 hab
 go_enter Tryz.func175,Tryz.ntmps175
 go_wp2_with fail
 generalize w.alloc (.cells #[.int .i64 0,.int .i64 0,.int .i64 0,.int .i64 0,.int .i64 0,.int .i64 0,.int .i64 0,.int .i64 0,.int .i64 0,.int .i64 0,.int .i64 0,.int .i64 0,.int .i64 0] 38) = w0 at *
 have q_c0:=fun d os => cell_regrown c0 d os
 have q_c1:=fun d os => cell_regrown c1 d os
 have q_c2:=fun d os => cell_regrown c2 d os
 have q_c3:=fun d os => cell_regrown c3 d os
 try simp only [List.append]
 refine wp_region_grown_tail 14 (by kernel_rfl) (by kernel_rfl) ?_
 simp only [Nat.reduceAdd,List.take_succ_cons,List.take_zero]
 repeat (go_big_quiet_step ((fail)))
 refine wpQuiet_nil ?_
 intro _ hqw
 obtain ⟨pq,hqw⟩:=hqw
 subst hqw
 clear q_c0 q_c1 q_c2 q_c3
 have hb:=below_regrown w0 pq.d pq.os
 replace hX:=hX.below hb hX.lt
 replace hB:=hB.trans (hb.mono hs)
 clear hb hs c0 c1 c2 c3
 generalize grow (redrawn w0 pq.d) pq.os = w1 at *
 have r0:w1.cell? ⟨w.heap.size,0,none⟩ = some (.int .i64 0):=hX.cell 0
 have f_0:=hX.free 0
 have r1:w1.cell? ⟨w.heap.size,1,none⟩ = some (.int .i64 0):=hX.cell 1
 have f_1:=hX.free 1
 have r2:w1.cell? ⟨w.heap.size,2,none⟩ = some (.int .i64 0):=hX.cell 2
 have f_2:=hX.free 2
 have r3:w1.cell? ⟨w.heap.size,3,none⟩ = some (.int .i64 0):=hX.cell 3
 have f_3:=hX.free 3
 have r4:w1.cell? ⟨w.heap.size,4,none⟩ = some (.int .i64 0):=hX.cell 4
 have f_4:=hX.free 4
 have r5:w1.cell? ⟨w.heap.size,5,none⟩ = some (.int .i64 0):=hX.cell 5
 have f_5:=hX.free 5
 have r6:w1.cell? ⟨w.heap.size,6,none⟩ = some (.int .i64 0):=hX.cell 6
 have f_6:=hX.free 6
 have r7:w1.cell? ⟨w.heap.size,7,none⟩ = some (.int .i64 0):=hX.cell 7
 have f_7:=hX.free 7
 have r8:w1.cell? ⟨w.heap.size,8,none⟩ = some (.int .i64 0):=hX.cell 8
 have f_8:=hX.free 8
 have r9:w1.cell? ⟨w.heap.size,9,none⟩ = some (.int .i64 0):=hX.cell 9
 have f_9:=hX.free 9
 have r10:w1.cell? ⟨w.heap.size,10,none⟩ = some (.int .i64 0):=hX.cell 10
 have f_10:=hX.free 10
 have r11:w1.cell? ⟨w.heap.size,11,none⟩ = some (.int .i64 0):=hX.cell 11
 have f_11:=hX.free 11
 have r12:w1.cell? ⟨w.heap.size,12,none⟩ = some (.int .i64 0):=hX.cell 12
 have f_12:=hX.free 12
 have lt_x:=hX.lt
 have HX:=Lib.hid hX
 clear hX
 go_wp2_with fail
 have hX:=HX.out
 clear r0 r1 r2 r3 r4 r5 r6 r7 r8 r9 r10 r11 r12
 have hF:Blok (((((((((((((w1.setCell ⟨w.heap.size,0,none⟩ (.int .i64 0)).setCell ⟨w.heap.size,1,none⟩ (.int .i64 0)).setCell ⟨w.heap.size,2,none⟩ (.int .i64 0)).setCell ⟨w.heap.size,3,none⟩ (.int .i64 0)).setCell ⟨w.heap.size,4,none⟩ (.int .i64 0)).setCell ⟨w.heap.size,5,none⟩ (.int .i64 0)).setCell ⟨w.heap.size,6,none⟩ (.int .i64 0)).setCell ⟨w.heap.size,7,none⟩ (.int .i64 0)).setCell ⟨w.heap.size,8,none⟩ (.int .i64 d.rf)).setCell ⟨w.heap.size,9,none⟩ (.int .i64 d.rn)).setCell ⟨w.heap.size,10,none⟩ (.int .i64 d.rs)).setCell ⟨w.heap.size,11,none⟩ (.int .i64 0)).setCell ⟨w.heap.size,12,none⟩ (.int .i64 d.ro)) w.heap.size 38 #[.int .i64 0,.int .i64 0,.int .i64 0,.int .i64 0,.int .i64 0,.int .i64 0,.int .i64 0,.int .i64 0,.int .i64 d.rf,.int .i64 d.rn,.int .i64 d.rs,.int .i64 0,.int .i64 d.ro]:=by have h:=(((((((((((((hX.set_ 0 (.int .i64 0)).set_ 1 (.int .i64 0)).set_ 2 (.int .i64 0)).set_ 3 (.int .i64 0)).set_ 4 (.int .i64 0)).set_ 5 (.int .i64 0)).set_ 6 (.int .i64 0)).set_ 7 (.int .i64 0)).set_ 8 (.int .i64 d.rf)).set_ 9 (.int .i64 d.rn)).set_ 10 (.int .i64 d.rs)).set_ 11 (.int .i64 0)).set_ 12 (.int .i64 d.ro)); simpa using h
 have hle0:w.heap.size ≤ w.heap.size:=by first | exact Nat.le_refl _ | omega
 have hWf:Below w.heap.size w (((((((((((((w1.setCell ⟨w.heap.size,0,none⟩ (.int .i64 0)).setCell ⟨w.heap.size,1,none⟩ (.int .i64 0)).setCell ⟨w.heap.size,2,none⟩ (.int .i64 0)).setCell ⟨w.heap.size,3,none⟩ (.int .i64 0)).setCell ⟨w.heap.size,4,none⟩ (.int .i64 0)).setCell ⟨w.heap.size,5,none⟩ (.int .i64 0)).setCell ⟨w.heap.size,6,none⟩ (.int .i64 0)).setCell ⟨w.heap.size,7,none⟩ (.int .i64 0)).setCell ⟨w.heap.size,8,none⟩ (.int .i64 d.rf)).setCell ⟨w.heap.size,9,none⟩ (.int .i64 d.rn)).setCell ⟨w.heap.size,10,none⟩ (.int .i64 d.rs)).setCell ⟨w.heap.size,11,none⟩ (.int .i64 0)).setCell ⟨w.heap.size,12,none⟩ (.int .i64 d.ro)):=(((((((((((((hB.setCell (p:=⟨w.heap.size,0,none⟩) hle0 (.int .i64 0)).setCell (p:=⟨w.heap.size,1,none⟩) hle0 (.int .i64 0)).setCell (p:=⟨w.heap.size,2,none⟩) hle0 (.int .i64 0)).setCell (p:=⟨w.heap.size,3,none⟩) hle0 (.int .i64 0)).setCell (p:=⟨w.heap.size,4,none⟩) hle0 (.int .i64 0)).setCell (p:=⟨w.heap.size,5,none⟩) hle0 (.int .i64 0)).setCell (p:=⟨w.heap.size,6,none⟩) hle0 (.int .i64 0)).setCell (p:=⟨w.heap.size,7,none⟩) hle0 (.int .i64 0)).setCell (p:=⟨w.heap.size,8,none⟩) hle0 (.int .i64 d.rf)).setCell (p:=⟨w.heap.size,9,none⟩) hle0 (.int .i64 d.rn)).setCell (p:=⟨w.heap.size,10,none⟩) hle0 (.int .i64 d.rs)).setCell (p:=⟨w.heap.size,11,none⟩) hle0 (.int .i64 0)).setCell (p:=⟨w.heap.size,12,none⟩) hle0 (.int .i64 d.ro))
 have hlF:=hF.lt
 generalize (((((((((((((w1.setCell ⟨w.heap.size,0,none⟩ (.int .i64 0)).setCell ⟨w.heap.size,1,none⟩ (.int .i64 0)).setCell ⟨w.heap.size,2,none⟩ (.int .i64 0)).setCell ⟨w.heap.size,3,none⟩ (.int .i64 0)).setCell ⟨w.heap.size,4,none⟩ (.int .i64 0)).setCell ⟨w.heap.size,5,none⟩ (.int .i64 0)).setCell ⟨w.heap.size,6,none⟩ (.int .i64 0)).setCell ⟨w.heap.size,7,none⟩ (.int .i64 0)).setCell ⟨w.heap.size,8,none⟩ (.int .i64 d.rf)).setCell ⟨w.heap.size,9,none⟩ (.int .i64 d.rn)).setCell ⟨w.heap.size,10,none⟩ (.int .i64 d.rs)).setCell ⟨w.heap.size,11,none⟩ (.int .i64 0)).setCell ⟨w.heap.size,12,none⟩ (.int .i64 d.ro)) = wf at *
 have r0:wf.cell? ⟨w.heap.size,0,none⟩ = some (.int .i64 0):=hF.cell 0
 have r1:wf.cell? ⟨w.heap.size,1,none⟩ = some (.int .i64 0):=hF.cell 1
 have r2:wf.cell? ⟨w.heap.size,2,none⟩ = some (.int .i64 0):=hF.cell 2
 have r3:wf.cell? ⟨w.heap.size,3,none⟩ = some (.int .i64 0):=hF.cell 3
 have r4:wf.cell? ⟨w.heap.size,4,none⟩ = some (.int .i64 0):=hF.cell 4
 have r5:wf.cell? ⟨w.heap.size,5,none⟩ = some (.int .i64 0):=hF.cell 5
 have r6:wf.cell? ⟨w.heap.size,6,none⟩ = some (.int .i64 0):=hF.cell 6
 have r7:wf.cell? ⟨w.heap.size,7,none⟩ = some (.int .i64 0):=hF.cell 7
 have r8:wf.cell? ⟨w.heap.size,8,none⟩ = some (.int .i64 d.rf):=hF.cell 8
 have r9:wf.cell? ⟨w.heap.size,9,none⟩ = some (.int .i64 d.rn):=hF.cell 9
 have r10:wf.cell? ⟨w.heap.size,10,none⟩ = some (.int .i64 d.rs):=hF.cell 10
 have r11:wf.cell? ⟨w.heap.size,11,none⟩ = some (.int .i64 0):=hF.cell 11
 have r12:wf.cell? ⟨w.heap.size,12,none⟩ = some (.int .i64 d.ro):=hF.cell 12
 refine bodyPost_ret (v:=.agg #[.int .i64 0,.int .i64 0,.int .i64 0,.int .i64 0,.int .i64 0,.int .i64 0,.int .i64 0,.int .i64 0,.int .i64 d.rf,.int .i64 d.rn,.int .i64 d.rs,.int .i64 0,.int .i64 d.ro]) (by simp [results,Tryz.results175,go_sem,r0,r1,r2,r3,r4,r5,r6,r7,r8,r9,r10,r11,r12,hlF]) rfl ?_
 exact ⟨rfl,hWf⟩
set_option maxHeartbeats 1000000 in
set_option maxRecDepth 100000 in
theorem may5_any (d:Dr) (w:World) (b:Bool) (hb:may5 d = b):Calls Tryz.prog 176 #[.agg #[.int .i64 d.op,.int .i64 d.kd,.int .i64 d.id,.int .i64 d.fr,.int .i64 d.tn,.int .i64 d.st,.int .i64 d.en,.int .i64 d.rt,.int .i64 d.rf,.int .i64 d.rn,.int .i64 d.rs,.int .i64 d.re,.int .i64 d.ro]] w fun e w' => e = .returned (.bool b) ∧ Below w.heap.size w w':=by
 have hB:Below w.heap.size w (w.alloc (.cells #[.int .i64 d.op,.int .i64 d.kd,.int .i64 d.id,.int .i64 d.fr,.int .i64 d.tn,.int .i64 d.st,.int .i64 d.en,.int .i64 d.rt,.int .i64 d.rf,.int .i64 d.rn,.int .i64 d.rs,.int .i64 d.re,.int .i64 d.ro] 38)):=by (repeat (first | exact Below.refl _ _ | refine Below.alloc ?_ (by first | omega | (simp; done) | (simp; omega)) _ | refine Below.setCell ?_ (by first | omega | (simp; done) | (simp; omega)) _ | refine Below.drew ?_))
 have hX:=Blok.new w 38 #[.int .i64 d.op,.int .i64 d.kd,.int .i64 d.id,.int .i64 d.fr,.int .i64 d.tn,.int .i64 d.st,.int .i64 d.en,.int .i64 d.rt,.int .i64 d.rf,.int .i64 d.rn,.int .i64 d.rs,.int .i64 d.re,.int .i64 d.ro]
 have hs:=hB.size
 unfold may5 at hb
 go_enter Tryz.func176,Tryz.ntmps176
 go_wp2_with fail
 generalize w.alloc (.cells #[.int .i64 d.op,.int .i64 d.kd,.int .i64 d.id,.int .i64 d.fr,.int .i64 d.tn,.int .i64 d.st,.int .i64 d.en,.int .i64 d.rt,.int .i64 d.rf,.int .i64 d.rn,.int .i64 d.rs,.int .i64 d.re,.int .i64 d.ro] 38) = w0 at *
 obtain ⟨b1,q1⟩:∃ q,beginB d.rf d.rn d.rs = q:=⟨_,rfl⟩
 obtain ⟨b2,q2⟩:∃ q,inB d.ro 0 2147483647 = q:=⟨_,rfl⟩
 rw [q1,q2] at hb
 have Q2:=Lib.hid q2
 have HB:=Lib.hid hb
 clear q2 hb
 refine (mayBegin_any _ _ _ _ _ _ b1 q1).mono ?_
 rintro e w2 ⟨rfl,hb2⟩
 clear q1
 replace hX:=hX.below hb2 hX.lt
 replace hB:=hB.trans (hb2.mono hs)
 cases b1
 ·go_wp2_with fail
  go_ret
  exact ⟨by rw [← HB.out]; rfl,hB⟩
 have r12:w2.cell? ⟨w.heap.size,12,none⟩ = some (.int .i64 d.ro):=hX.cell 12
 have lt_x:=hX.lt
 go_wp2_with fail
 refine (in_any _ _ _ _).mono ?_
 rintro e w3 ⟨rfl,rfl⟩
 rw [Q2.out]
 go_wp2_with fail
 go_ret
 exact ⟨by rw [← HB.out]; rfl,hB⟩
end Go.Proofs.YtjldgcebadojiaaGreatDoor
