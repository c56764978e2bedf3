/- slices.ContainsFunc at ints; state.over, state.twice. They make new memory alone. No condition but on sizes. -/
import Derived.Test.YtjldgcebadojiaaGreatDoorGQ15
import Derived.Test.YtjldgcebadojiaaGreatDoorGQ5
import Derived.Test.YtjldgcebadojiaaGreatDoorGQ7
namespace Go.Proofs.YtjldgcebadojiaaGreatDoor
open Go.ChangeShapes Go.WideShapes Go.ChangeAt Go.RowKit Go.Sort
set_option linter.unusedSimpArgs false
set_option linter.unusedVariables false
theorem getZ_eq {d:List Int} {j:Nat} (h:j < d.length):d.getD j 0 = d[j]:=by rw [List.getD_eq_getElem?_getD,List.getElem?_eq_getElem h]; rfl
theorem getZ_mem {d:List Int} {j:Nat} (h:j < d.length):d.getD j 0 ∈ d:=by rw [getZ_eq h]; exact List.getElem_mem _
theorem noHitZ {d:List Int} {p:Int → Bool} (h:d.any p = false) {j:Nat} (hj:j < d.length):p (d.getD j 0) = false:=by
 have:=List.any_eq_false.1 h _ (getZ_mem hj)
 simpa using this
theorem firstHitZ {d:List Int} {p:Int → Bool} (h:d.any p = true):∃ q,q < d.length ∧ (∀ j,j < q → p (d.getD j 0) = false) ∧ p (d.getD q 0) = true:=by
 have hl:d.findIdx p < d.length:=List.findIdx_lt_length.2 (by simpa using h)
 refine ⟨d.findIdx p,hl,fun j hj => ?_,?_⟩
 ·rw [getZ_eq (by omega)]
  have:=List.not_of_lt_findIdx hj
  simpa using this
 ·rw [getZ_eq hl]
  exact List.findIdx_getElem
/-- A function value that tells p, in whatever world that has grown from W but for this block. -/
structure PredZ (g:FuncId) (lb:Array Value) (row:Option Nat) (W:World) (p:Int → Bool):Prop where
 run:∀ vals w,(callFunc g vals).run Tryz.prog w = .ok (.enter g vals) w
 tells:∀ w',W.grownBy w' row → ∀ x:Int,Calls Tryz.prog g (#[.int .i64 x] ++ lb) w' fun e w'' => e = .returned (.bool (p x)) ∧ Below w'.heap.size w' w''
theorem PredZ.next {g:FuncId} {lb:Array Value} {row:Option Nat} {W W':World} {p:Int → Bool} (h:PredZ g lb row W p) (hg:W.grownBy W' row):PredZ g lb row W' p:=⟨h.run,fun w' h' x => h.tells w' (grown_trans hg h') x⟩
theorem PredZ.below {g:FuncId} {lb:Array Value} {row:Option Nat} {W W':World} {p:Int → Bool} (h:PredZ g lb row W p) (hb:Below W.heap.size W W'):PredZ g lb row W' p:=h.next (grown_of_below hb)
set_option maxHeartbeats 1000000 in
set_option maxRecDepth 100000 in
theorem indexZ (A:Option Addr) (n c:Nat) (d:List Int) (g:FuncId) (lb:Array Value) (row:Option Nat) (p:Int → Bool) (w:World) (hd:d.length = n) (hn:n ≤ 1000000) (h:Sl w w.heap.size 1 A n c (d.map (Value.int .i64))) (hp:PredZ g lb row w p) (q:Nat) (hq:q ≤ n) (hlow:∀ j,j < q → p (d.getD j 0) = false) (hhit:q < n → p (d.getD q 0) = true) :
  Calls Tryz.prog 131 #[.slice A n c,.func (.func g) #[] lb] w fun e w' => e = .returned (.int .i64 (idxOf q n)) ∧ Below w.heap.size w w':=by
 have HL:=Lib.hid hlow
 have HH:=Lib.hid hhit
 have HP:=Lib.hid hp
 have hcf:=hp.run
 clear hlow hhit hp
 go_enter Tryz.func131,Tryz.ntmps131
 go_wp2
 go_loopw [8] (fun i wr => ∃ k:Nat,k ≤ q ∧ i = .int .i64 k ∧ Below w.heap.size w wr) (fun i _ => n - (intOf i).toNat)
 case atStart => exact ⟨0,by omega,rfl,Below.refl _ _⟩
 case round =>
  obtain ⟨k,hk,rfl,hB⟩:=hrel
  by_cases hkn:k < n
  ·obtain ⟨ad,rfl,hab,c0⟩:=(h.below hB).lst.atI hd hkn
   have habw:ad.block < wr.heap.size:=by have:=hB.size; omega
   by_cases hkq:k < q
   ·have hf:=HL.out k hkq
    generalize hx:d.getD k 0 = x at *
    have HF:=Lib.hid hf
    clear hx hf
    go_wp2_with fail
    refine (HF.out ▸ (HP.out.below hB).tells wr (grown_refl _ _) x).mono ?_
    rintro e w1 ⟨rfl,hb1⟩
    have hB2:=hB.trans (hb1.mono hB.size)
    clear hb1 hB c0
    go_wp2
    go_roundw
    case rel => exact ⟨k + 1,by omega,by go_num,hB2⟩
    case measure => simp [intOf]; omega
   ·obtain rfl:k = q:=by omega
    have hf:=HH.out hkn
    generalize hx:d.getD k 0 = x at *
    have HF:=Lib.hid hf
    clear hx hf
    go_wp2_with fail
    refine (HF.out ▸ (HP.out.below hB).tells wr (grown_refl _ _) x).mono ?_
    rintro e w1 ⟨rfl,hb1⟩
    have hB2:=hB.trans (hb1.mono hB.size)
    clear hb1 hB c0
    go_wp2
    go_ret
    exact ⟨by rw [idxOf_yes hkn]; rfl,hB2⟩
  ·go_wp2
   go_ret
   exact ⟨by rw [idxOf_no (by omega)]; rfl,hB⟩
set_option maxRecDepth 100000 in
theorem containsZ (A:Option Addr) (n c:Nat) (d:List Int) (g:FuncId) (lb:Array Value) (row:Option Nat) (p:Int → Bool) (w:World) (hd:d.length = n) (hn:n ≤ 1000000) (h:Sl w w.heap.size 1 A n c (d.map (Value.int .i64))) (hp:PredZ g lb row w p) :
  Calls Tryz.prog 81 #[.slice A n c,.func (.func g) #[] lb] w fun e w' => e = .returned (.bool (d.any p)) ∧ Below w.heap.size w w':=by
 have HP:=Lib.hid hp
 clear hp
 by_cases ha:d.any p = true
 ·obtain ⟨q,hq,h1,h2⟩:=firstHitZ ha
  have hqi:(0:Int) ≤ (q:Int):=by omega
  go_enter Tryz.func81,Tryz.ntmps81
  go_wp2_with fail
  refine (indexZ A n c d g lb row p w hd hn h HP.out q (by omega) h1 (fun _ => h2)).mono ?_
  rintro e w1 ⟨rfl,hB⟩
  rw [idxOf_yes (by omega:q < n)]
  go_wp2
  go_ret
  exact ⟨by rw [ha]; rfl,hB⟩
 ·have ha':d.any p = false:=by simpa using ha
  go_enter Tryz.func81,Tryz.ntmps81
  go_wp2_with fail
  refine (indexZ A n c d g lb row p w hd hn h HP.out n (Nat.le_refl _) (fun j hj => noHitZ ha' (by omega)) (fun h => by omega)).mono ?_
  rintro e w1 ⟨rfl,hB⟩
  rw [idxOf_no (by omega:¬ n < n)]
  go_wp2
  go_ret
  exact ⟨by rw [ha']; rfl,hB⟩

theorem Sl.of_blok3 {w:World} {b:Nat} {T:TypeId} {x y z:Int} (h:Blok w b T #[.int .i64 x,.int .i64 y,.int .i64 z]):Sl w w.heap.size 1 (some ⟨b,0,none⟩) 3 3 ([x,y,z].map (Value.int .i64)):=
 ⟨⟨rfl,fun _ => ⟨_,rfl,h.lt,fun j u hu => by
  have e:((⟨b,0,none⟩:Addr).add j) = ⟨b,j,none⟩:=by unfold Addr.add; split <;> simp_all
  rw [e,h.cell j,← hu]
  simp⟩⟩,Nat.le_refl _,by simp [maxLen],fun e => by cases e⟩
theorem over1_any (x v:Int) (g:Nat) (t:TypeId) (w:World) (hR:Blok w g t #[.int .i64 v]):Calls Tryz.prog 82 #[.int .i64 x,.pointer (some ⟨g,0,none⟩)] w fun e w' => e = .returned (.bool (decide (x > v))) ∧ Below w.heap.size w w':=by
 have r0:w.cell? ⟨g,0,none⟩ = some (.int .i64 v):=hR.cell 0
 have hl:=hR.lt
 clear hR
 go_enter Tryz.func82,Tryz.ntmps82
 go_wp2
 all_goals go_ret
 all_goals exact ⟨rfl,Below.refl _ _⟩
theorem pred_over (v:Int) (g:Nat) (t:TypeId) (w:World) (hR:Blok w g t #[.int .i64 v]):PredZ 82 #[.pointer (some ⟨g,0,none⟩)] none w (fun x => decide (x > v)):=
 ⟨enter_run Tryz.func82 rfl rfl,fun w' hg x => over1_any x v g t w' (hR.grown hg (fun e => by cases e))⟩
def volK (k:Co):Int:=volumeF k.id k.fr k.tn k.st k.en k.rt
/-- Is of one class more booked than there is room? -/
def overB (x:Bk) (k:Co):Bool:=[x.ua,x.ub,x.uc].any fun u => decide (u > volK k)
set_option maxHeartbeats 8000000 in
set_option maxRecDepth 100000 in
theorem over_any (x:Bk) (k:Co) (w:World) (b:Bool) (hb:overB x k = b):Calls Tryz.prog 38 #[.agg #[.int .i64 x.ua,.int .i64 x.ub,.int .i64 x.uc],.agg #[.int .i64 k.id,.int .i64 k.fr,.int .i64 k.tn,.int .i64 k.st,.int .i64 k.en,.int .i64 k.rt]] w fun e w' => e = .returned (.bool b) ∧ Below w.heap.size w w':=by
 have hB:Below w.heap.size w ((w.alloc (.cells #[.int .i64 x.ua,.int .i64 x.ub,.int .i64 x.uc] 48)).alloc (.cells #[.int .i64 k.id,.int .i64 k.fr,.int .i64 k.tn,.int .i64 k.st,.int .i64 k.en,.int .i64 k.rt] 34)):=by (repeat (first | exact Below.refl _ _ | refine Below.alloc ?_ (by first | omega | (simp; done) | (simp; omega)) _ | refine Below.setCell ?_ (by first | omega | (simp; done) | (simp; omega)) _ | refine Below.drew ?_))
 have hU:=(Blok.new w 48 #[.int .i64 x.ua,.int .i64 x.ub,.int .i64 x.uc]).alloc (.cells #[.int .i64 k.id,.int .i64 k.fr,.int .i64 k.tn,.int .i64 k.st,.int .i64 k.en,.int .i64 k.rt] 34)
 have hK:=Blok.new (w.alloc (.cells #[.int .i64 x.ua,.int .i64 x.ub,.int .i64 x.uc] 48)) 34 #[.int .i64 k.id,.int .i64 k.fr,.int .i64 k.tn,.int .i64 k.st,.int .i64 k.en,.int .i64 k.rt]
 simp only [World.size_alloc] at hK
 have HBB:=Lib.hid hb
 clear hb
 go_enter Tryz.func38,Tryz.ntmps38
 go_upto_region 1 with fail
 generalize (w.alloc (.cells #[.int .i64 x.ua,.int .i64 x.ub,.int .i64 x.uc] 48)).alloc (.cells #[.int .i64 k.id,.int .i64 k.fr,.int .i64 k.tn,.int .i64 k.st,.int .i64 k.en,.int .i64 k.rt] 34) = w0 at *
 have k0:w0.cell? ⟨w.heap.size + 1,0,none⟩ = some (.int .i64 k.id):=hK.cell 0
 have k1:w0.cell? ⟨w.heap.size + 1,1,none⟩ = some (.int .i64 k.fr):=hK.cell 1
 have k2:w0.cell? ⟨w.heap.size + 1,2,none⟩ = some (.int .i64 k.tn):=hK.cell 2
 have k3:w0.cell? ⟨w.heap.size + 1,3,none⟩ = some (.int .i64 k.st):=hK.cell 3
 have k4:w0.cell? ⟨w.heap.size + 1,4,none⟩ = some (.int .i64 k.en):=hK.cell 4
 have k5:w0.cell? ⟨w.heap.size + 1,5,none⟩ = some (.int .i64 k.rt):=hK.cell 5
 have lk:=hK.lt
 have hs:=hB.size
 clear hK
 go_wp2_with fail
 refine (volume_is (volK k) rfl w0).mono ?_
 rintro e w1 ⟨rfl,hb1⟩
 replace hU:=hU.below hb1 hU.lt
 have hB1:=hB.trans (hb1.mono hs)
 clear k0 k1 k2 k3 k4 k5 lk hb1 hB
 obtain ⟨v,hv⟩:∃ v,volK k = v:=⟨_,rfl⟩
 have HV:=Lib.hid hv
 rw [hv]
 clear hv
 have hs1:=hB1.size
 go_upto_region 2 with fail
 have hBx:=Blok.new w1 3 #[.int .i64 v]
 have hb2:Below w1.heap.size w1 (w1.alloc (.cells #[.int .i64 v] 3)):=(Below.refl _ _).alloc (Nat.le_refl _) _
 replace hU:=hU.below hb2 hU.lt
 have hB2:=hB1.trans (hb2.mono hs1)
 clear hb2 hB1
 generalize w1.alloc (.cells #[.int .i64 v] 3) = w2 at *
 generalize w1.heap.size = bv at *
 have lu:=hU.lt
 have HCN:=Lib.hid (containsZ (some ⟨w.heap.size,0,none⟩) 3 3 [x.ua,x.ub,x.uc] 82 #[.pointer (some ⟨bv,0,none⟩)] none (fun u => decide (u > v)) w2 rfl (by omega) (Sl.of_blok3 hU) (pred_over v bv _ w2 hBx))
 clear hU hBx
 go_wp2_with fail
 refine HCN.out.mono ?_
 rintro e w3 ⟨rfl,hb3⟩
 go_wp2
 go_ret
 refine ⟨?_,hB2.trans (hb3.mono hB2.size)⟩
 rw [← HBB.out]
 unfold overB
 rw [HV.out]
 show Ending.returned (Value.bool _) = _
 simp
def dupB (l:List Int):Bool:=(List.range l.length).any fun k => Kb.inL (l.take k) (l.getD k 0)
set_option maxHeartbeats 8000000 in
set_option maxRecDepth 100000 in
theorem twice_any (A:Option Addr) (m c:Nat) (l:List Int) (w:World) (hl:l.length = m) (hm:m ≤ 1000000) (h:Sl w w.heap.size 1 A m c (l.map (Value.int .i64))) (hlw:∀ k,k < m → (Lit.int .i64 (l.getD k 0)).wf = true) (b:Bool) (hb:dupB l = b) :
  Calls Tryz.prog 97 #[.slice A m c] w fun e w' => e = .returned (.bool b) ∧ Below w.heap.size w w':=by
 have HLL:=Lib.hid hl
 have HLW:=Lib.hid hlw
 have HBB:=Lib.hid hb
 have hmk:=Kb.run_makeMap_hint (P:=Tryz.prog) 137 3 4 .i64 (m:Int) Tryz.underlying137 w
 obtain ⟨b0,hb0⟩:∃ b0,w.heap.size = b0:=⟨_,rfl⟩
 rw [hb0] at hmk
 have HB0:=Lib.hid hb0
 have hS0:=SetW.made w
 rw [hb0] at hS0
 have hB0:Below w.heap.size w (w.alloc (.map #[] 0)):=(Below.refl _ _).alloc (Nat.le_refl _) _
 have h0:=h.below hB0
 clear hb0 h hlw hl hb
 go_enter Tryz.func97,Tryz.ntmps97
 go_wp2
 generalize w.alloc (.map #[] 0) = w2 at *
 clear hmk
 go_loopw [11] (fun i wr => ∃ k:Nat,k ≤ m ∧ i = .int .i64 k ∧ Below w.heap.size w wr ∧ SetW wr b0 k (Kb.inL (l.take k)) ∧ Hid (Sl wr w.heap.size 1 A m c (l.map (Value.int .i64))) ∧ Hid (∀ j,j < k → Kb.inL (l.take j) (l.getD j 0) = false)) (fun i _ => m - (intOf i).toNat)
 case atStart => exact ⟨0,by omega,rfl,hB0,hS0.congr (fun k _ => by simp [Kb.inL]),h0,fun j hj => by omega⟩
 case round =>
  clear hB0 hS0 h0
  obtain ⟨k,hk,rfl,hB,hS,HL,HN⟩:=hrel
  by_cases hkn:k < m
  ·obtain ⟨ad,rfl,hab,c0⟩:=Lst.atI HL.out.lst HLL.out hkn
   have hwf:=HLW.out k hkn
   have HNX:=Lib.hid (Kb.inL_next (l:=l) (k:=k) (by have:=HLL.out; omega))
   have hlk:=hS.look hwf
   obtain ⟨q,hq⟩:∃ q,Kb.inL (l.take k) (l.getD k 0) = q:=⟨_,rfl⟩
   rw [hq] at hlk
   have HQ:=Lib.hid hq
   have hsw:=hB.size
   clear hq
   obtain ⟨y,hy⟩:∃ y,l.getD k 0 = y:=⟨_,rfl⟩
   have HY:=Lib.hid hy
   rw [hy] at c0 hwf hlk
   have HNX2:Hid (∀ j,Kb.inL (l.take (k + 1)) j = (if j = y then true else Kb.inL (l.take k) j)):=fun j => by rw [HNX.out j,HY.out]
   clear hy HNX
   cases q with
   | true =>
    have HT:Hid (b = true):=by
     rw [← HBB.out]
     unfold dupB
     refine List.any_eq_true.2 ⟨k,List.mem_range.2 (by rw [HLL.out]; exact hkn),HQ.out⟩
    go_wp2
    go_ret
    exact ⟨by rw [HT.out]; rfl,hB⟩
   | false =>
    go_wp2_with (at_mapUpdate; refine wpList_put_set rfl _ _ _ rfl b0 k _ y true rfl hS (by unfold maxLen; omega) rfl hwf rfl ?_; intro w4 hS4 hg4)
    try simp only [Act.put,List.setIfInBounds_toArray,List.set_cons_succ,List.set_cons_zero]
    clear c0 hlk
    have hB4:Below w.heap.size w w4:=hB.grown hg4 hsw (fun j hj => by have:=HB0.out; simp at hj; omega)
    have hbw:Below w.heap.size wr w4:=Below.grown (Below.refl _ _) hg4 hsw (fun j hj => by have:=HB0.out; simp at hj; omega)
    have hL4:=HL.out.below hbw
    have hS5:SetW w4 b0 (k + 1) (Kb.inL (l.take (k + 1))):=hS4.congr (fun j _ => by rw [HNX2.out j])
    have HN2:Hid (∀ j,j < k + 1 → Kb.inL (l.take j) (l.getD j 0) = false):=fun j hj => by
     by_cases e:j = k
     ·rw [e]; exact HQ.out
     ·exact HN.out j (by omega)
    clear hS hS4 hg4 HL hB hbw
    go_wp2
    go_roundw
    case rel => exact ⟨k + 1,by omega,by go_num,hB4,hS5,hL4,HN2⟩
    case measure => simp [intOf]; omega
  ·obtain rfl:k = m:=by omega
   have HF:Hid (b = false):=by
    rw [← HBB.out]
    unfold dupB
    refine List.any_eq_false.2 fun j hj => ?_
    rw [HN.out j (by have:=List.mem_range.1 hj; rw [HLL.out] at this; exact this)]
    simp
   go_wp2
   go_ret
   exact ⟨by rw [HF.out]; rfl,hB⟩
end Go.Proofs.YtjldgcebadojiaaGreatDoor
