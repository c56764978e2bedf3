/- Package contacts: Same, Find, Delete, mayAdd. No condition. -/
import Derived.Test.YtjldgcebadojiaaGreatDoorGQ3
namespace Go.Proofs.YtjldgcebadojiaaGreatDoor.Kc
open Go.ChangeShapes Go.WideShapes Go.ChangeAt Go.RowKit Go.Sort
set_option linter.unusedSimpArgs false
set_option linter.unusedVariables false
def delCode (q n:Nat):Int:=if q = n then 6 else 0
set_option maxRecDepth 100000 in
theorem same_any (A A':Option Addr) (n c n' c':Nat) (d d':List Co) (w:World) (hd:d.length = n) (hd':d'.length = n') (hn:n ≤ 1000000) (hn':n' ≤ 1000000) (h:Sl w w.heap.size 6 A n c (flatCo d)) (h':Sl w w.heap.size 6 A' n' c' (flatCo d')) :
  Calls Tryz.prog 31 #[.slice A n c,.slice A' n' c'] w fun e w' => e = .returned (.bool (decide (d = d'))) ∧ Below w.heap.size w w':=by
 have HD:=Lib.hid hd
 have HD':=Lib.hid hd'
 obtain ⟨b,hb⟩:∃ b,decide (d = d') = b:=⟨_,rfl⟩
 rw [hb]
 have HB:=Lib.hid hb
 clear hd hd' hb
 go_enter Tryz.func31,Tryz.ntmps31
 go_wp2_with fail
 refine (HB.out ▸ equalCo A A' n c n' c' d d' w HD.out HD'.out hn hn' h h').mono ?_
 rintro e w1 ⟨rfl,hB⟩
 go_wp2
 go_ret
 exact ⟨rfl,hB⟩
set_option maxHeartbeats 1000000 in
set_option maxRecDepth 100000 in
theorem find_yes (A:Option Addr) (n c:Nat) (d:List Co) (id:Int) (w:World) (q:Nat) (hd:d.length = n) (hn:n ≤ 1000000) (h:Sl w w.heap.size 6 A n c (flatCo d)) (hqn:q < n) (hq:∀ j,j < q → ((gCo d j).id == id) = false) (hh:((gCo d q).id == id) = true) :
  Calls Tryz.prog 20 #[.slice A n c,.int .i64 id] w fun e w' => e = .returned (.tuple #[.agg #[.int .i64 (gCo d q).id,.int .i64 (gCo d q).fr,.int .i64 (gCo d q).tn,.int .i64 (gCo d q).st,.int .i64 (gCo d q).en,.int .i64 (gCo d q).rt],.bool true]) ∧ Below w.heap.size w w':=by
 obtain ⟨ad,rfl, -⟩:=h.lst.atCo hd hqn
 obtain ⟨x,hx⟩:∃ x,gCo d q = x:=⟨_,rfl⟩
 rw [hx]
 have hBa:Below w.heap.size w (w.alloc (.cells #[.int .i64 0,.int .i64 0,.int .i64 0,.int .i64 0,.int .i64 0,.int .i64 0] 34)):=by (repeat (first | exact Below.refl _ _ | refine Below.alloc ?_ (by first | omega | (simp; done) | (simp; omega)) _ | refine Below.setCell ?_ (by first | omega | (simp; done) | (simp; omega)) _ | refine Below.drew ?_))
 have hX:=Blok.new w 34 #[.int .i64 0,.int .i64 0,.int .i64 0,.int .i64 0,.int .i64 0,.int .i64 0]
 have hs:=h.up hBa
 have hcap:=h.cap
 have HD:=Lib.hid hd
 have HQ:=Lib.hid hq
 have HH:=Lib.hid hh
 have HX:=Lib.hid hx
 clear h hd hq hh hx
 go_enter Tryz.func20,Tryz.ntmps20
 go_wp2_with fail
 generalize w.alloc (.cells #[.int .i64 0,.int .i64 0,.int .i64 0,.int .i64 0,.int .i64 0,.int .i64 0] 34) = w2 at *
 refine (has_any id w2).mono ?_
 rintro e w3 ⟨g,rfl,hG,hg0,hbb⟩
 replace hs:=hs.up hbb
 replace hX:=hX.below hbb hX.lt
 replace hBa:=hBa.trans (hbb.mono hBa.size)
 clear hbb hg0
 go_wp2_with fail
 refine (indexCo (some ad) n c d _ _ none _ w3 HD.out hn hs (pred_has id g none w3 hG (by simp)) q (by omega) HQ.out (fun _ => HH.out)).mono ?_
 rintro e w5 ⟨rfl,hb5⟩
 rw [idxOf_yes hqn]
 replace hs:=hs.up hb5
 replace hX:=hX.below hb5 hX.lt
 replace hBa:=hBa.trans (hb5.mono hBa.size)
 clear hb5 hG
 obtain ⟨ad',he,hab,c0,c1,c2,c3,c4,c5⟩:=hs.lst.atCo HD.out hqn
 injection he with he
 subst he
 rw [HX.out] at c0 c1 c2 c3 c4 c5
 have r0:w5.cell? ⟨w.heap.size,0,none⟩ = some (.int .i64 0):=hX.cell 0
 have r1:w5.cell? ⟨w.heap.size,1,none⟩ = some (.int .i64 0):=hX.cell 1
 have r2:w5.cell? ⟨w.heap.size,2,none⟩ = some (.int .i64 0):=hX.cell 2
 have r3:w5.cell? ⟨w.heap.size,3,none⟩ = some (.int .i64 0):=hX.cell 3
 have r4:w5.cell? ⟨w.heap.size,4,none⟩ = some (.int .i64 0):=hX.cell 4
 have r5:w5.cell? ⟨w.heap.size,5,none⟩ = some (.int .i64 0):=hX.cell 5
 have f0:=hX.free 0
 have f1:=hX.free 1
 have f2:=hX.free 2
 have f3:=hX.free 3
 have f4:=hX.free 4
 have f5:=hX.free 5
 have hlt:=hX.lt
 have hq0:(0:Int) ≤ (q:Int):=by omega
 have hqI:(q:Int) < (n:Int):=by omega
 have HXX:=Lib.hid hX
 clear hs hX
 go_wp2
 have hX:=HXX.out
 clear r0 r1 r2 r3 r4 r5
 have hF:Blok ((((((w5.setCell ⟨w.heap.size,0,none⟩ (.int .i64 x.id)).setCell ⟨w.heap.size,1,none⟩ (.int .i64 x.fr)).setCell ⟨w.heap.size,2,none⟩ (.int .i64 x.tn)).setCell ⟨w.heap.size,3,none⟩ (.int .i64 x.st)).setCell ⟨w.heap.size,4,none⟩ (.int .i64 x.en)).setCell ⟨w.heap.size,5,none⟩ (.int .i64 x.rt)) w.heap.size 34 #[.int .i64 x.id,.int .i64 x.fr,.int .i64 x.tn,.int .i64 x.st,.int .i64 x.en,.int .i64 x.rt]:=by have h:=((((((hX.set_ 0 (.int .i64 x.id)).set_ 1 (.int .i64 x.fr)).set_ 2 (.int .i64 x.tn)).set_ 3 (.int .i64 x.st)).set_ 4 (.int .i64 x.en)).set_ 5 (.int .i64 x.rt)); simpa using h
 have hle0:w.heap.size ≤ w.heap.size:=by first | exact Nat.le_refl _ | omega
 have hWf:Below w.heap.size w ((((((w5.setCell ⟨w.heap.size,0,none⟩ (.int .i64 x.id)).setCell ⟨w.heap.size,1,none⟩ (.int .i64 x.fr)).setCell ⟨w.heap.size,2,none⟩ (.int .i64 x.tn)).setCell ⟨w.heap.size,3,none⟩ (.int .i64 x.st)).setCell ⟨w.heap.size,4,none⟩ (.int .i64 x.en)).setCell ⟨w.heap.size,5,none⟩ (.int .i64 x.rt)):=((((((hBa.setCell (p:=⟨w.heap.size,0,none⟩) hle0 (.int .i64 x.id)).setCell (p:=⟨w.heap.size,1,none⟩) hle0 (.int .i64 x.fr)).setCell (p:=⟨w.heap.size,2,none⟩) hle0 (.int .i64 x.tn)).setCell (p:=⟨w.heap.size,3,none⟩) hle0 (.int .i64 x.st)).setCell (p:=⟨w.heap.size,4,none⟩) hle0 (.int .i64 x.en)).setCell (p:=⟨w.heap.size,5,none⟩) hle0 (.int .i64 x.rt))
 have hlF:=hF.lt
 generalize ((((((w5.setCell ⟨w.heap.size,0,none⟩ (.int .i64 x.id)).setCell ⟨w.heap.size,1,none⟩ (.int .i64 x.fr)).setCell ⟨w.heap.size,2,none⟩ (.int .i64 x.tn)).setCell ⟨w.heap.size,3,none⟩ (.int .i64 x.st)).setCell ⟨w.heap.size,4,none⟩ (.int .i64 x.en)).setCell ⟨w.heap.size,5,none⟩ (.int .i64 x.rt)) = wf at *
 have r0:wf.cell? ⟨w.heap.size,0,none⟩ = some (.int .i64 x.id):=hF.cell 0
 have r1:wf.cell? ⟨w.heap.size,1,none⟩ = some (.int .i64 x.fr):=hF.cell 1
 have r2:wf.cell? ⟨w.heap.size,2,none⟩ = some (.int .i64 x.tn):=hF.cell 2
 have r3:wf.cell? ⟨w.heap.size,3,none⟩ = some (.int .i64 x.st):=hF.cell 3
 have r4:wf.cell? ⟨w.heap.size,4,none⟩ = some (.int .i64 x.en):=hF.cell 4
 have r5:wf.cell? ⟨w.heap.size,5,none⟩ = some (.int .i64 x.rt):=hF.cell 5
 refine bodyPost_ret (v:=.tuple #[.agg #[.int .i64 x.id,.int .i64 x.fr,.int .i64 x.tn,.int .i64 x.st,.int .i64 x.en,.int .i64 x.rt],.bool true]) (by simp [results,Tryz.results20,go_sem,r0,r1,r2,r3,r4,r5,hlF]) rfl ?_
 exact ⟨rfl,hWf⟩
set_option maxHeartbeats 1000000 in
set_option maxRecDepth 100000 in
theorem find_no (A:Option Addr) (n c:Nat) (d:List Co) (id:Int) (w:World) (hd:d.length = n) (hn:n ≤ 1000000) (h:Sl w w.heap.size 6 A n c (flatCo d)) (hq:∀ j,j < n → ((gCo d j).id == id) = false) :
  Calls Tryz.prog 20 #[.slice A n c,.int .i64 id] w fun e w' => e = .returned (.tuple #[.agg #[.int .i64 0,.int .i64 0,.int .i64 0,.int .i64 0,.int .i64 0,.int .i64 0],.bool false]) ∧ Below w.heap.size w w':=by
 have hBa:Below w.heap.size w (w.alloc (.cells #[.int .i64 0,.int .i64 0,.int .i64 0,.int .i64 0,.int .i64 0,.int .i64 0] 34)):=by (repeat (first | exact Below.refl _ _ | refine Below.alloc ?_ (by first | omega | (simp; done) | (simp; omega)) _ | refine Below.setCell ?_ (by first | omega | (simp; done) | (simp; omega)) _ | refine Below.drew ?_))
 have hX:=Blok.new w 34 #[.int .i64 0,.int .i64 0,.int .i64 0,.int .i64 0,.int .i64 0,.int .i64 0]
 have hs:=h.up hBa
 have HD:=Lib.hid hd
 have HQ:=Lib.hid hq
 clear h hd hq
 go_enter Tryz.func20,Tryz.ntmps20
 go_wp2_with fail
 generalize w.alloc (.cells #[.int .i64 0,.int .i64 0,.int .i64 0,.int .i64 0,.int .i64 0,.int .i64 0] 34) = w2 at *
 refine (has_any id w2).mono ?_
 rintro e w3 ⟨g,rfl,hG,hg0,hbb⟩
 replace hs:=hs.up hbb
 replace hX:=hX.below hbb hX.lt
 replace hBa:=hBa.trans (hbb.mono hBa.size)
 clear hbb hg0
 go_wp2_with fail
 refine (indexCo A n c d _ _ none _ w3 HD.out hn hs (pred_has id g none w3 hG (by simp)) n (Nat.le_refl _) HQ.out (fun h => by omega)).mono ?_
 rintro e w5 ⟨rfl,hb5⟩
 rw [idxOf_no (by omega:¬ n < n)]
 replace hX:=hX.below hb5 hX.lt
 replace hBa:=hBa.trans (hb5.mono hBa.size)
 clear hb5 hG hs
 have r0:w5.cell? ⟨w.heap.size,0,none⟩ = some (.int .i64 0):=hX.cell 0
 have r1:w5.cell? ⟨w.heap.size,1,none⟩ = some (.int .i64 0):=hX.cell 1
 have r2:w5.cell? ⟨w.heap.size,2,none⟩ = some (.int .i64 0):=hX.cell 2
 have r3:w5.cell? ⟨w.heap.size,3,none⟩ = some (.int .i64 0):=hX.cell 3
 have r4:w5.cell? ⟨w.heap.size,4,none⟩ = some (.int .i64 0):=hX.cell 4
 have r5:w5.cell? ⟨w.heap.size,5,none⟩ = some (.int .i64 0):=hX.cell 5
 have f0:=hX.free 0
 have f1:=hX.free 1
 have f2:=hX.free 2
 have f3:=hX.free 3
 have f4:=hX.free 4
 have f5:=hX.free 5
 have hlt:=hX.lt
 have HXX:=Lib.hid hX
 clear hX
 go_wp2
 have hX:=HXX.out
 clear r0 r1 r2 r3 r4 r5
 have hF:Blok ((((((w5.setCell ⟨w.heap.size,0,none⟩ (.int .i64 0)).setCell ⟨w.heap.size,1,none⟩ (.int .i64 0)).setCell ⟨w.heap.size,2,none⟩ (.int .i64 0)).setCell ⟨w.heap.size,3,none⟩ (.int .i64 0)).setCell ⟨w.heap.size,4,none⟩ (.int .i64 0)).setCell ⟨w.heap.size,5,none⟩ (.int .i64 0)) w.heap.size 34 #[.int .i64 0,.int .i64 0,.int .i64 0,.int .i64 0,.int .i64 0,.int .i64 0]:=by have h:=((((((hX.set_ 0 (.int .i64 0)).set_ 1 (.int .i64 0)).set_ 2 (.int .i64 0)).set_ 3 (.int .i64 0)).set_ 4 (.int .i64 0)).set_ 5 (.int .i64 0)); simpa using h
 have hle0:w.heap.size ≤ w.heap.size:=by first | exact Nat.le_refl _ | omega
 have hWf:Below w.heap.size w ((((((w5.setCell ⟨w.heap.size,0,none⟩ (.int .i64 0)).setCell ⟨w.heap.size,1,none⟩ (.int .i64 0)).setCell ⟨w.heap.size,2,none⟩ (.int .i64 0)).setCell ⟨w.heap.size,3,none⟩ (.int .i64 0)).setCell ⟨w.heap.size,4,none⟩ (.int .i64 0)).setCell ⟨w.heap.size,5,none⟩ (.int .i64 0)):=((((((hBa.setCell (p:=⟨w.heap.size,0,none⟩) hle0 (.int .i64 0)).setCell (p:=⟨w.heap.size,1,none⟩) hle0 (.int .i64 0)).setCell (p:=⟨w.heap.size,2,none⟩) hle0 (.int .i64 0)).setCell (p:=⟨w.heap.size,3,none⟩) hle0 (.int .i64 0)).setCell (p:=⟨w.heap.size,4,none⟩) hle0 (.int .i64 0)).setCell (p:=⟨w.heap.size,5,none⟩) hle0 (.int .i64 0))
 have hlF:=hF.lt
 generalize ((((((w5.setCell ⟨w.heap.size,0,none⟩ (.int .i64 0)).setCell ⟨w.heap.size,1,none⟩ (.int .i64 0)).setCell ⟨w.heap.size,2,none⟩ (.int .i64 0)).setCell ⟨w.heap.size,3,none⟩ (.int .i64 0)).setCell ⟨w.heap.size,4,none⟩ (.int .i64 0)).setCell ⟨w.heap.size,5,none⟩ (.int .i64 0)) = wf at *
 have r0:wf.cell? ⟨w.heap.size,0,none⟩ = some (.int .i64 0):=hF.cell 0
 have r1:wf.cell? ⟨w.heap.size,1,none⟩ = some (.int .i64 0):=hF.cell 1
 have r2:wf.cell? ⟨w.heap.size,2,none⟩ = some (.int .i64 0):=hF.cell 2
 have r3:wf.cell? ⟨w.heap.size,3,none⟩ = some (.int .i64 0):=hF.cell 3
 have r4:wf.cell? ⟨w.heap.size,4,none⟩ = some (.int .i64 0):=hF.cell 4
 have r5:wf.cell? ⟨w.heap.size,5,none⟩ = some (.int .i64 0):=hF.cell 5
 refine bodyPost_ret (v:=.tuple #[.agg #[.int .i64 0,.int .i64 0,.int .i64 0,.int .i64 0,.int .i64 0,.int .i64 0],.bool false]) (by simp [results,Tryz.results20,go_sem,r0,r1,r2,r3,r4,r5,hlF]) rfl ?_
 exact ⟨rfl,hWf⟩
set_option maxHeartbeats 1000000 in
set_option maxRecDepth 100000 in
theorem del_any (A:Option Addr) (n c:Nat) (d:List Co) (id:Int) (w:World) (hd:d.length = n) (hn:n ≤ 1000000) (h:Sl w w.heap.size 6 A n c (flatCo d)) :
  Calls Tryz.prog 212 #[.slice A n c,.int .i64 id] w fun e w' => ∃ v,e = .returned (.tuple #[v,.int .i64 (delCode (d.filter (fun x => !(x.id == id))).length n)]) ∧ w'.ownsRow w.heap.size 34 6 v (d.filter (fun x => !(x.id == id))).length (flatCo (d.filter (fun x => !(x.id == id)))) ∧ Below w.heap.size w w':=by
 have HD:=Lib.hid hd
 clear hd
 go_enter Tryz.func212,Tryz.ntmps212
 go_wp2_with fail
 refine (cloneCo A n c d w HD.out hn h).mono ?_
 rintro e w3 ⟨v,rfl,hown,hb3⟩
 clear h
 have hl3:=hb3.size
 go_wp2_with fail
 refine (has_any id w3).mono ?_
 rintro e w4 ⟨g,rfl,hG,hg0,hbb⟩
 have hown2:=hown.kept (grown_of_below (row:=some w3.heap.size) hbb) (.inr (fun e => by have:=(hown.lt _ e).2; omega))
 have hB4:=hb3.trans (hbb.mono hl3)
 have hgne:v.ownBlock ≠ some g:=fun e => by have:=(hown.lt _ e).2; omega
 clear hown
 go_wp2_with fail
 refine (deleteCo v n d _ _ _ w4 _ HD.out hn hown2 (pred_has id g v.ownBlock w4 hG hgne)).mono ?_
 rintro e w5 ⟨v',rfl,hown',hg4⟩
 have hfin:Below w.heap.size w w5:=Below.grown hB4 hg4 hB4.size (fun k hk => (hown2.lt k hk).1)
 have hown5:=hown'
 clear hown' hg4 hG hown2 hb3 hbb hB4
 obtain ⟨q,hq⟩:∃ q,(d.filter (fun x => !(x.id == id))).length = q:=⟨_,rfl⟩
 rw [hq] at hown5
 have HQ:=Lib.hid hq
 clear hq
 obtain ⟨A5,c5,rfl⟩:=slice_of_own hown5
 by_cases hqn:q = n
 ·have hqb:((q:Int) == (n:Int)) = true:=by simp [hqn]
  have HQN:=Lib.hid hqn
  clear hqn
  go_wp2
  go_ret2
  refine ⟨_,?_,by rw [HQ.out]; exact hown5,hfin⟩
  rw [HQ.out,delCode,if_pos HQN.out]; rfl
 ·have hqb:((q:Int) == (n:Int)) = false:=beq_eq_false_iff_ne.2 (by omega)
  go_wp2
  go_ret2
  refine ⟨_,?_,by rw [HQ.out]; exact hown5,hfin⟩
  rw [HQ.out,delCode,if_neg hqn]; rfl
def okC (r:Co):Bool:=contactB r.id r.fr r.tn r.st r.en r.rt
def mayC (d:List Co) (r:Co):Int:=if okC r = false then 1 else if 4096 ≤ d.length then 3 else if d.any (fun o => o.id == r.id) = true then 4 else if d.any (fun o => overC o r) = true then 5 else 0
theorem okC_call (r:Co) (w:World) (b:Bool) (h:okC r = b):Calls Tryz.prog 69 #[.agg #[.int .i64 r.id,.int .i64 r.fr,.int .i64 r.tn,.int .i64 r.st,.int .i64 r.en,.int .i64 r.rt]] w fun e w' => e = .returned (.bool b) ∧ Below w.heap.size w w':=contact_is b h w
set_option maxHeartbeats 1000000 in
set_option maxRecDepth 100000 in
theorem mayAdd_any (A:Option Addr) (n c:Nat) (d:List Co) (r:Co) (w:World) (hd:d.length = n) (hn:n ≤ 1000000) (h:Sl w w.heap.size 6 A n c (flatCo d)) :
  Calls Tryz.prog 228 #[.slice A n c,.agg #[.int .i64 r.id,.int .i64 r.fr,.int .i64 r.tn,.int .i64 r.st,.int .i64 r.en,.int .i64 r.rt]] w fun e w' => e = .returned (.int .i64 (mayC d r)) ∧ Below w.heap.size w w':=by
 have hBa:Below w.heap.size w (w.alloc (.cells #[.int .i64 r.id,.int .i64 r.fr,.int .i64 r.tn,.int .i64 r.st,.int .i64 r.en,.int .i64 r.rt] 34)):=by (repeat (first | exact Below.refl _ _ | refine Below.alloc ?_ (by first | omega | (simp; done) | (simp; omega)) _ | refine Below.setCell ?_ (by first | omega | (simp; done) | (simp; omega)) _ | refine Below.drew ?_))
 have hX:=Blok.new w 34 #[.int .i64 r.id,.int .i64 r.fr,.int .i64 r.tn,.int .i64 r.st,.int .i64 r.en,.int .i64 r.rt]
 have hs:=h.up hBa
 have HD:=Lib.hid hd
 have hsz:w.heap.size < (w.alloc (.cells #[.int .i64 r.id,.int .i64 r.fr,.int .i64 r.tn,.int .i64 r.st,.int .i64 r.en,.int .i64 r.rt] 34)).heap.size:=by simp
 clear h
 cases h1:okC r with
 | false =>
  have hf:mayC d r = 1:=by unfold mayC; rw [if_pos h1]
  rw [hf]
  have H1:=Lib.hid h1
  clear h1 hf hd
  go_enter Tryz.func228,Tryz.ntmps228
  go_wp2_with fail
  generalize w.alloc (.cells #[.int .i64 r.id,.int .i64 r.fr,.int .i64 r.tn,.int .i64 r.st,.int .i64 r.en,.int .i64 r.rt] 34) = w2 at *
  refine (okC_call r w2 false H1.out).mono ?_
  rintro e w3 ⟨rfl,hb3⟩
  replace hBa:=hBa.trans (hb3.mono hBa.size)
  clear hb3 hs hX
  go_wp2
  go_ret
  exact ⟨rfl,hBa⟩
 | true =>
  by_cases h2:4096 ≤ n
  ·have hf:mayC d r = 3:=by unfold mayC; rw [if_neg (by rw [h1]; simp),if_pos (by omega)]
   rw [hf]
   have H1:=Lib.hid h1
   clear h1 hf hd
   go_enter Tryz.func228,Tryz.ntmps228
   go_wp2_with fail
   generalize w.alloc (.cells #[.int .i64 r.id,.int .i64 r.fr,.int .i64 r.tn,.int .i64 r.st,.int .i64 r.en,.int .i64 r.rt] 34) = w2 at *
   refine (okC_call r w2 true H1.out).mono ?_
   rintro e w3 ⟨rfl,hb3⟩
   replace hBa:=hBa.trans (hb3.mono hBa.size)
   clear hb3 hs hX
   go_wp2
   go_ret
   exact ⟨rfl,hBa⟩
  ·obtain ⟨b,hb⟩:∃ b,d.any (fun o => o.id == r.id) = b:=⟨_,rfl⟩
   cases b with
   | true =>
    have hf:mayC d r = 4:=by unfold mayC; rw [if_neg (by rw [h1]; simp),if_neg (by omega),if_pos hb]
    rw [hf]
    have H1:=Lib.hid h1
    have HB:=Lib.hid hb
    clear h1 hf hd hb
    go_enter Tryz.func228,Tryz.ntmps228
    go_wp2_with fail
    generalize w.alloc (.cells #[.int .i64 r.id,.int .i64 r.fr,.int .i64 r.tn,.int .i64 r.st,.int .i64 r.en,.int .i64 r.rt] 34) = w2 at *
    refine (okC_call r w2 true H1.out).mono ?_
    rintro e w3 ⟨rfl,hb3⟩
    replace hs:=hs.up hb3
    replace hX:=hX.below hb3 hX.lt
    replace hBa:=hBa.trans (hb3.mono hBa.size)
    have hx0:w3.cell? ⟨w.heap.size,0,none⟩ = some (.int .i64 r.id):=hX.cell 0
    have hlt:=hX.lt
    clear hb3
    go_wp2_with fail
    refine (has_any r.id w3).mono ?_
    rintro e w4 ⟨g,rfl,hG,hg0,hbb⟩
    replace hs:=hs.up hbb
    replace hBa:=hBa.trans (hbb.mono hBa.size)
    clear hbb hg0 hX hx0
    go_wp2_with fail
    refine (HB.out ▸ containsCo A n c d _ _ none _ w4 HD.out hn hs (pred_has r.id g none w4 hG (by simp))).mono ?_
    rintro e w5 ⟨rfl,hb5⟩
    replace hBa:=hBa.trans (hb5.mono hBa.size)
    clear hb5 hs hG
    go_wp2
    go_ret
    exact ⟨rfl,hBa⟩
   | false =>
    obtain ⟨b2,hb2⟩:∃ b,d.any (fun o => overC o r) = b:=⟨_,rfl⟩
    have hf:mayC d r = if b2 = true then 5 else 0:=by unfold mayC; rw [if_neg (by rw [h1]; simp),if_neg (by omega),if_neg (by rw [hb]; simp),hb2]
    rw [hf]
    have H1:=Lib.hid h1
    have HB:=Lib.hid hb
    have HB2:=Lib.hid hb2
    clear h1 hf hd hb hb2
    cases b2
    all_goals
     go_enter Tryz.func228,Tryz.ntmps228
     go_wp2_with fail
     generalize w.alloc (.cells #[.int .i64 r.id,.int .i64 r.fr,.int .i64 r.tn,.int .i64 r.st,.int .i64 r.en,.int .i64 r.rt] 34) = w2 at *
     refine (okC_call r w2 true H1.out).mono ?_
     rintro e w3 ⟨rfl,hb3⟩
     replace hs:=hs.up hb3
     replace hX:=hX.below hb3 hX.lt
     replace hBa:=hBa.trans (hb3.mono hBa.size)
     have hx0:w3.cell? ⟨w.heap.size,0,none⟩ = some (.int .i64 r.id):=hX.cell 0
     have hlt:=hX.lt
     clear hb3
     go_wp2_with fail
     refine (has_any r.id w3).mono ?_
     rintro e w4 ⟨g,rfl,hG,hg0,hbb⟩
     replace hs:=hs.up hbb
     replace hX:=hX.below hbb hX.lt
     replace hBa:=hBa.trans (hbb.mono hBa.size)
     clear hbb hg0 hx0
     go_wp2_with fail
     refine (HB.out ▸ containsCo A n c d _ _ none _ w4 HD.out hn hs (pred_has r.id g none w4 hG (by simp))).mono ?_
     rintro e w5 ⟨rfl,hb5⟩
     replace hs:=hs.up hb5
     replace hX:=hX.below hb5 hX.lt
     replace hBa:=hBa.trans (hb5.mono hBa.size)
     clear hb5 hG
     go_wp2_with fail
     refine (HB2.out ▸ containsCo A n c d _ _ none _ w5 HD.out hn hs (pred_mayC r w.heap.size none w5 hX (by simp))).mono ?_
     rintro e w6 ⟨rfl,hb6⟩
     replace hBa:=hBa.trans (hb6.mono hBa.size)
     clear hb6 hs hX
     go_wp2
     go_ret
     exact ⟨rfl,hBa⟩
end Go.Proofs.YtjldgcebadojiaaGreatDoor.Kc
