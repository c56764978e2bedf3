/- Package ranges: begins, mayAdd, Add, Delete, Change, Expire, Same. -/
import Derived.Test.YtjldgcebadojiaaGreatDoorRanges
import Derived.Test.YtjldgcebadojiaaGreatDoorGQ0
namespace Go.Proofs.YtjldgcebadojiaaGreatDoor.Kr
open Go.ChangeShapes Go.WideShapes Go.ChangeAt Go.RowKit Go.Sort
set_option linter.unusedSimpArgs false
set_option linter.unusedVariables false
def delCode (q n:Nat):Int:=if q = n then 6 else 0
set_option maxRecDepth 100000 in
theorem begins_any (r:Rg) (w:World):Calls Tryz.prog 234 #[.agg #[.int .i64 r.fr,.int .i64 r.tn,.int .i64 r.st,.int .i64 r.en,.int .i64 r.ow]] w fun e w' => ∃ g,e = .returned (.func (.func 253) #[] #[.pointer (some ⟨g,0,none⟩)]) ∧ Blok w' g 36 #[.int .i64 r.fr,.int .i64 r.tn,.int .i64 r.st,.int .i64 r.en,.int .i64 r.ow] ∧ w.heap.size ≤ g ∧ Below w.heap.size w w':=by
 go_enter Tryz.func234,Tryz.ntmps234
 go_wp2
 go_ret
 exact ⟨w.heap.size,rfl,Blok.new w _ _,Nat.le_refl _,by (repeat (first | exact Below.refl _ _ | refine Below.alloc ?_ (by first | omega | (simp; done) | (simp; omega)) _ | refine Below.setCell ?_ (by first | omega | (simp; done) | (simp; omega)) _ | refine Below.drew ?_))⟩
set_option maxRecDepth 100000 in
theorem same_any (A A':Option Addr) (n c n' c':Nat) (d d':List Rg) (w:World) (hd:d.length = n) (hd':d'.length = n') (hn:n ≤ 1000000) (hn':n' ≤ 1000000) (h:Sl w w.heap.size 5 A n c (flatRg d)) (h':Sl w w.heap.size 5 A' n' c' (flatRg d')) :
  Calls Tryz.prog 60 #[.slice A n c,.slice A' n' c'] w fun e w' => e = .returned (.bool (decide (d = d'))) ∧ Below w.heap.size w w':=by
 have HD:=Lib.hid hd
 have HD':=Lib.hid hd'
 obtain ⟨b,hb⟩:∃ b,decide (d = d') = b:=⟨_,rfl⟩
 rw [hb]
 have HB:=Lib.hid hb
 clear hd hd' hb
 go_enter Tryz.func60,Tryz.ntmps60
 go_wp2_with fail
 refine (HB.out ▸ equalRg A A' n c n' c' d d' w HD.out HD'.out hn hn' h h').mono ?_
 rintro e w1 ⟨rfl,hB⟩
 go_wp2
 go_ret
 exact ⟨rfl,hB⟩
set_option maxHeartbeats 1000000 in
set_option maxRecDepth 100000 in
theorem expire_any (A:Option Addr) (n c:Nat) (d:List Rg) (now:Int) (w:World) (hd:d.length = n) (hn:n ≤ 1000000) (h:Sl w w.heap.size 5 A n c (flatRg d)) :
  Calls Tryz.prog 124 #[.slice A n c,.int .i64 now] w fun e w' => ∃ v,e = .returned v ∧ w'.ownsRow w.heap.size 36 5 v (d.filter (fun x => !decide (x.en ≤ now))).length (flatRg (d.filter (fun x => !decide (x.en ≤ now)))) ∧ Below w.heap.size w w':=by
 have hBa:Below w.heap.size w (w.alloc (.cells #[.int .i64 now] 3)):=by (repeat (first | exact Below.refl _ _ | refine Below.alloc ?_ (by first | omega | (simp; done) | (simp; omega)) _ | refine Below.setCell ?_ (by first | omega | (simp; done) | (simp; omega)) _ | refine Below.drew ?_))
 have hX:=Blok.new w 3 #[.int .i64 now]
 have hs:=h.up hBa
 have HD:=Lib.hid hd
 clear hd h
 go_enter Tryz.func124,Tryz.ntmps124
 go_wp2_with fail
 have hsz:(w.alloc (.cells #[.int .i64 now] 3)).heap.size = w.heap.size + 1:=by simp
 generalize w.alloc (.cells #[.int .i64 now] 3) = w2 at *
 have HSZ:=Lib.hid hsz
 clear hsz
 refine (cloneRg A n c d w2 HD.out hn hs).mono ?_
 rintro e w3 ⟨v,rfl,hown,hb3⟩
 have hX3:=hX.below hb3 hX.lt
 go_wp2_with fail
 refine (deleteRg v n d _ _ _ w3 _ HD.out hn hown (pred_expire now w.heap.size v.ownBlock w3 hX3 (fun e => by have:=(hown.lt _ e).1; have:=HSZ.out; omega))).mono ?_
 rintro e w4 ⟨v',rfl,hown',hg4⟩
 have hfin:Below w.heap.size w w4:=Below.grown (hBa.trans (hb3.mono hBa.size)) hg4 (Nat.le_trans hBa.size hb3.size) (fun k hk => by have:=(hown.lt k hk).1; have:=HSZ.out; omega)
 have hown5:w4.ownsRow w.heap.size 36 5 v' (d.filter (fun x => !decide (x.en ≤ now))).length (flatRg (d.filter (fun x => !decide (x.en ≤ now)))):=own_down hown' (by have:=HSZ.out; omega)
 clear hown' hg4 hown hb3 hX3 hX hs
 obtain ⟨q,hq⟩:∃ q,(d.filter (fun x => !decide (x.en ≤ now))).length = q:=⟨_,rfl⟩
 rw [hq] at hown5
 have HQ:=Lib.hid hq
 clear hq
 obtain ⟨A5,c5,rfl⟩:=slice_of_own hown5
 go_wp2
 go_ret
 exact ⟨_,rfl,by rw [HQ.out]; exact hown5,hfin⟩
set_option maxHeartbeats 1000000 in
set_option maxRecDepth 100000 in
theorem del_any (A:Option Addr) (n c:Nat) (d:List Rg) (r:Rg) (w:World) (hd:d.length = n) (hn:n ≤ 1000000) (h:Sl w w.heap.size 5 A n c (flatRg d)) :
  Calls Tryz.prog 215 #[.slice A n c,.agg #[.int .i64 r.fr,.int .i64 r.tn,.int .i64 r.st,.int .i64 r.en,.int .i64 r.ow]] w fun e w' => ∃ v,e = .returned (.tuple #[v,.int .i64 (delCode (d.filter (fun x => !sameR x r)).length n)]) ∧ w'.ownsRow w.heap.size 36 5 v (d.filter (fun x => !sameR x r)).length (flatRg (d.filter (fun x => !sameR x r))) ∧ Below w.heap.size w w':=by
 have hBa:Below w.heap.size w (w.alloc (.cells #[.int .i64 r.fr,.int .i64 r.tn,.int .i64 r.st,.int .i64 r.en,.int .i64 r.ow] 36)):=by (repeat (first | exact Below.refl _ _ | refine Below.alloc ?_ (by first | omega | (simp; done) | (simp; omega)) _ | refine Below.setCell ?_ (by first | omega | (simp; done) | (simp; omega)) _ | refine Below.drew ?_))
 have hX:=Blok.new w 36 #[.int .i64 r.fr,.int .i64 r.tn,.int .i64 r.st,.int .i64 r.en,.int .i64 r.ow]
 have hs:=h.up hBa
 have HD:=Lib.hid hd
 clear hd h
 go_enter Tryz.func215,Tryz.ntmps215
 go_wp2_with fail
 have hsz:w.heap.size < (w.alloc (.cells #[.int .i64 r.fr,.int .i64 r.tn,.int .i64 r.st,.int .i64 r.en,.int .i64 r.ow] 36)).heap.size:=by simp
 generalize w.alloc (.cells #[.int .i64 r.fr,.int .i64 r.tn,.int .i64 r.st,.int .i64 r.en,.int .i64 r.ow] 36) = w2 at *
 have hx0:w2.cell? ⟨w.heap.size,0,none⟩ = some (.int .i64 r.fr):=hX.cell 0
 have hx1:w2.cell? ⟨w.heap.size,1,none⟩ = some (.int .i64 r.tn):=hX.cell 1
 have hx2:w2.cell? ⟨w.heap.size,2,none⟩ = some (.int .i64 r.st):=hX.cell 2
 have hx3:w2.cell? ⟨w.heap.size,3,none⟩ = some (.int .i64 r.en):=hX.cell 3
 have hx4:w2.cell? ⟨w.heap.size,4,none⟩ = some (.int .i64 r.ow):=hX.cell 4
 replace hX:Blok w2.drew w.heap.size 36 #[.int .i64 r.fr,.int .i64 r.tn,.int .i64 r.st,.int .i64 r.en,.int .i64 r.ow]:=hX
 replace hs:Sl w2.drew w2.drew.heap.size 5 A n c (flatRg d):=hs.up ((Below.refl _ _).drew)
 replace hBa:Below w.heap.size w w2.drew:=hBa.drew
 go_region_law (first
   | (refine step_call rfl 113 #[.tmp 7] _ rfl #[.slice A n c] (by simp [Act.eval,Act.put]) Tryz.func113 rfl rfl ?_; refine Calls.mono (cloneRg A n c d _ HD.out hn (by first | exact hs | exact hs.up hbb)) ?_; rintro e w3 ⟨v,rfl,hown,hb3⟩; refine ⟨_,rfl,?_⟩; first | have hG2:=hG.below hb3 hG.lt | (have hX3:=hX.below hb3 hX.lt; have hy0:w3.cell? ⟨w.heap.size,0,none⟩ = some (.int .i64 r.fr):=hX3.cell 0; have hy1:w3.cell? ⟨w.heap.size,1,none⟩ = some (.int .i64 r.tn):=hX3.cell 1; have hy2:w3.cell? ⟨w.heap.size,2,none⟩ = some (.int .i64 r.st):=hX3.cell 2; have hy3:w3.cell? ⟨w.heap.size,3,none⟩ = some (.int .i64 r.en):=hX3.cell 3; have hy4:w3.cell? ⟨w.heap.size,4,none⟩ = some (.int .i64 r.ow):=hX3.cell 4))
   | (refine step_call rfl 234 #[.tmp 9] _ rfl #[.agg #[.int .i64 r.fr,.int .i64 r.tn,.int .i64 r.st,.int .i64 r.en,.int .i64 r.ow]] (by simp [Act.eval,Act.put]) Tryz.func234 rfl rfl ?_; refine Calls.mono (begins_any r _) ?_; rintro e w4 ⟨g,rfl,hG,hg0,hbb⟩; refine ⟨_,rfl,?_⟩; first | have hown2:=hown.kept (grown_of_below (row:=some w3.heap.size) hbb) (.inr (fun e => by have:=(hown.lt _ e).2; omega)) | skip)
   | (refine step_call rfl 188 #[.tmp 8,.tmp 10] _ rfl #[v,.func (.func 253) #[] #[.pointer (some ⟨g,0,none⟩)]] (by simp [Act.eval,Act.put]) Tryz.func188 rfl rfl ?_; first
     | (refine Calls.mono (deleteRg v n d _ _ _ _ _ HD.out hn hown2 (pred_begins r g v.ownBlock _ hG (fun e => by have:=(hown.lt _ e).2; omega))) ?_; rintro e w5 ⟨v',rfl,hown',hg4⟩; refine ⟨_,rfl,?_⟩; have hfin:Below w.heap.size w w5:=Below.grown (hBa.trans ((hb3.mono hBa.size).trans (hbb.mono (Nat.le_trans hBa.size hb3.size)))) hg4 (Nat.le_trans hBa.size (Nat.le_trans hb3.size hbb.size)) (fun k hk => Nat.le_trans hBa.size (hown.lt k hk).1); have hown5:=own_down (base':=w.heap.size) hown' hBa.size)
     | (refine Calls.mono (deleteRg v n d _ _ _ _ _ HD.out hn hown (pred_begins r g v.ownBlock _ hG2 (fun e => by have:=(hown.lt _ e).1; have:=hG.lt; omega))) ?_; rintro e w5 ⟨v',rfl,hown',hg4⟩; refine ⟨_,rfl,?_⟩; have hfin:Below w.heap.size w w5:=Below.grown (hBa.trans ((hbb.mono hBa.size).trans (hb3.mono (Nat.le_trans hBa.size hbb.size)))) hg4 (Nat.le_trans hBa.size (Nat.le_trans hbb.size hb3.size)) (fun k hk => Nat.le_trans (Nat.le_trans hBa.size hbb.size) (hown.lt k hk).1); have hown5:=own_down (base':=w.heap.size) hown' (Nat.le_trans hBa.size hbb.size))))
 all_goals
  clear hown' hg4 hG hown hb3 hbb hX hs hx0 hx1 hx2 hx3 hx4
  obtain ⟨q,hq⟩:∃ q,(d.filter (fun x => !sameR x r)).length = q:=⟨_,rfl⟩
  rw [hq] at hown5
  have HQ:=Lib.hid hq
  clear hq
  obtain ⟨A5,c5,rfl⟩:=slice_of_own hown5
  by_cases hqn:q = n
  ·have hqb:((q:Int) == (n:Int)) = true:=by simp [hqn]
   have HQN:=Lib.hid hqn
   clear hqn
   go_wp2
   go_ret2
   refine ⟨_,?_,by rw [HQ.out]; exact hown5,hfin⟩
   rw [HQ.out,delCode,if_pos HQN.out]; rfl
  ·have hqb:((q:Int) == (n:Int)) = false:=beq_eq_false_iff_ne.2 (by omega)
   go_wp2
   go_ret2
   refine ⟨_,?_,by rw [HQ.out]; exact hown5,hfin⟩
   rw [HQ.out,delCode,if_neg hqn]; rfl
end Go.Proofs.YtjldgcebadojiaaGreatDoor.Kr
