/- (best.branch).part: all other routes of a branch are looked for, from one place of its first one to the next. -/
import Derived.Test.YtodcoockhkghdaaGreatGQ28
import Derived.Test.YtodcoockhkghdaaGreatGQ30
import Derived.Test.YtodcoockhkghdaaGreatGQ36
namespace Go.Proofs.YtodcoockhkghdaaGreat
open Go.ChangeShapes Go.WideShapes Go.ChangeAt Go.RowKit Go.Sort Go.Maps Hp Bp
set_option linter.unusedSimpArgs false
set_option linter.unusedVariables false
theorem concat2Iq (TS:TypeId) (base:Nat) (v:Value) (A0 A1:Option Addr) (n0 n1 c0 c1:Nat) (d0 d1:List Int) (w:World) (hd0:d0.length = n0) (hd1:d1.length = n1) (hn:n0 + n1 ≤ 1000000)
  (hO:w.ownsRow base TS 1 v 2 [.slice A0 n0 c0,.slice A1 n1 c1]) (h0:Sl w w.heap.size 1 A0 n0 c0 (List.map (Value.int .i64) d0)) (h1:Sl w w.heap.size 1 A1 n1 c1 (List.map (Value.int .i64) d1)) :
  Calls Tryz.prog 124 #[v] w fun e w' => ∃ v,e = .returned v ∧ w'.ownsRow w.heap.size 3 1 v (d0 ++ d1).length (List.map (Value.int .i64) (d0 ++ d1)) ∧ Below w.heap.size w w':=by
 have e3:catIq (fun k => if k = 0 then d0 else d1) 2 = d0 ++ d1:=by simp [catIq]
 obtain ⟨g,cO,rfl,hcap,hmax,hgb,hgl⟩:=own_at hO (by omega)
 have hcell:∀ k,k < 2 → w.cell? ⟨g,k,none⟩ = some ((fun k => if k = 0 then Value.slice A0 n0 c0 else .slice A1 n1 c1) k):=fun k hk => by
  have hS:=Sl.of_own hO
  obtain ⟨ad,hA,_,hc⟩:=hS.lst.2 (by omega)
  injection hA with hA
  subst hA
  have h3:k = 0 ∨ k = 1:=by omega
  rcases h3 with rfl | rfl
  ·have:=hc 0 _ rfl
   rw [Addr.add_zero'] at this
   exact this
  ·have:=hc 1 _ rfl
   simpa [Addr.add] using this
 have h:=concatIq g 2 cO (fun k => if k = 0 then A0 else A1) (fun k => if k = 0 then n0 else n1) (fun k => if k = 0 then c0 else c1) (fun k => if k = 0 then d0 else d1) w (by omega)
  (fun k hk => by
   have h3:k = 0 ∨ k = 1:=by omega
   rcases h3 with rfl | rfl <;> simpa) (by rw [e3]; simp; omega)
  (fun k hk => by
   have h3:k = 0 ∨ k = 1:=by omega
   rcases h3 with rfl | rfl <;> (rw [hcell _ hk]; simp))
  (fun k hk => by
   have h3:k = 0 ∨ k = 1:=by omega
   rcases h3 with rfl | rfl <;> simpa)
 rw [e3] at h
 exact h
theorem run_midI (w0:World) (A:Option Addr) (n c i:Nat) (hi:i < c) (Ad:Option Addr) (hAd:(if c = i then A else A.map (·.add i)) = Ad):(Instr.slice 44 (.slice A n c) (some (.int .i64 (i:Int))) (some (.int .i64 ((i:Int) + 1))) none).run Tryz.prog w0 = .ok (.slice Ad 1 (c - i)) w0:=by
 have ht:Tryz.prog.underlying 44 = some (.slice (Tryz.prog.elem 44)):=by kernel_rfl
 have hsz:(sizeOf (Tryz.prog.elem 44)).run Tryz.prog w0 = .ok 1 w0:=by kernel_rfl
 rw [run_slice_lh w0 44 A n c ht .i64 .i64 (i:Int) ((i:Int) + 1) (by omega) (by omega) (by omega),hsz]
 have h1:((i:Int) + 1).toNat = i + 1:=by omega
 simp only [Result.andThen,sliced,Int.toNat_natCast,Nat.mul_one,h1,hAd]
 rw [show i + 1 - i = 1 by omega]
/-- Where the loop stands: the bans, the branches that wait. -/
def PartI (B wb:Nat) (v:Value) (d:List Bx) (P:List Br) (lq:List Int) (w wr:World) (bv:Value):Prop:=
 (∃ Aq nq cq,bv = .slice Aq nq cq ∧ lq.length = nq ∧ Sl wr wr.heap.size 1 Aq nq cq (lq.map (Value.int .i64))) ∧ PartG B wb v d P w wr
theorem take_oneI {l:List Int} {i:Nat} (h:i < l.length):(l.drop i).take 1 = [l.getD i 0]:=by
 rw [List.drop_eq_getElem_cons h,List.take_succ_cons,List.take_zero,List.getD_eq_getElem?_getD,List.getElem?_eq_getElem h]
 rfl
set_option maxHeartbeats 8000000 in
set_option maxRecDepth 100000 in
theorem part_w (bl bf bq bn bs bb wb:Nat) (A:Option Addr) (n c:Nat) (l:List Ed) (f q now size by_:Int) (v:Value) (d:List Bx) (xA:Option Addr) (xn xc:Nat) (xt:Int) (xr:Nat) (xAb:Option Addr) (xnb xcb:Nat) (xH:List Hp) (xbans:List Int) (w:World)
  (hd:l.length = n) (hn:n ≤ 1000) (hBx:Boxes w bl bf bq bn bs bb A n c f q now size by_) (hle:Sl w w.heap.size 8 A n c (flatEd l)) (hlo:0 < n → ∀ ad,A = some ad → ad.block ≠ wb ∧ v.ownBlock ≠ some ad.block)
  (h0:HB w wb v d) (hh:isHeap d) (hsz:d.length + xn < 900000) (hxok:(⟨xA,xn,xc,xt,xr,xAb,xnb,xcb,xH,xbans⟩:Bx).ok w)
  (hrn:xr ≤ xn) (hwH:∀ m ∈ xH.map Hp.id,(Lit.int .i64 m).wf = true) (hwB:∀ m ∈ xbans,(Lit.int .i64 m).wf = true) (hbl:xnb ≤ 90000) :
  Calls Tryz.prog 79 #[.agg #[.slice xA xn xc,.int .i64 xt,.int .i64 (xr:Int),.slice xAb xnb xcb],.func (.func 75) #[] #[.pointer (some ⟨bl,0,none⟩),.pointer (some ⟨bf,0,none⟩),.pointer (some ⟨bq,0,none⟩),.pointer (some ⟨bn,0,none⟩),.pointer (some ⟨bs,0,none⟩),.pointer (some ⟨bb,0,none⟩),.pointer (some ⟨wb,0,none⟩)]] w
   (LookP w.heap.size wb v d (partsTo l f q now size by_ ⟨(xH,xt),xr,xbans⟩ (xn - xr)) w):=by
 have hxn:xH.length = xn:=hxok.hl
 have hxm:xn ≤ 1000:=hxok.hn
 have hxs:Sl w w.heap.size 3 xA xn xc (flatHp xH):=hxok.hs
 have hxbl:xbans.length = xnb:=hxok.bl
 have hxbs:Sl w w.heap.size 1 xAb xnb xcb (xbans.map (Value.int .i64)):=hxok.bs
 have HD:=Lib.hid hd
 have HBX:=Lib.hid (fun w' (hb:Below w.heap.size w w') => hBx.below hb)
 have HLE:=Lib.hid (fun w' (hb:Below w.heap.size w w') => hle.up hb)
 have HLO:=Lib.hid hlo
 have H0:=Lib.hid (fun w' (hb:Below w.heap.size w w') => h0.below hb)
 have HHP:=Lib.hid hh
 have HXN:=Lib.hid hxn
 have HWH:=Lib.hid hwH
 have HWB:=Lib.hid hwB
 have HXBL:=Lib.hid hxbl
 have HXBS:=Lib.hid (fun w' (hb:Below w.heap.size w w') => hxbs.up hb)
 have hwbl:=h0.head.lt
 have HVL:=Lib.hid (show ∀ g,v.ownBlock = some g → g < w.heap.size from fun g hg => (h0.row.row.lt g hg).2)
 have hB1:Below w.heap.size w (w.alloc (.cells #[.slice xA xn xc,.int .i64 xt,.int .i64 (xr:Int),.slice xAb xnb xcb] 122)):=(Below.refl _ _).alloc (Nat.le_refl _) _
 have hX1:=Blok.new w 122 #[.slice xA xn xc,.int .i64 xt,.int .i64 (xr:Int),.slice xAb xnb xcb]
 have hxs1:=hxs.up hB1
 clear hd hBx hle hlo h0 hh hxok hxn hwH hwB hxbl hxbs hxs
 obtain ⟨w1,hw1⟩:∃ z,w.alloc (.cells #[.slice xA xn xc,.int .i64 xt,.int .i64 (xr:Int),.slice xAb xnb xcb] 122) = z:=⟨_,rfl⟩
 obtain ⟨xb,hxb⟩:∃ z,w.heap.size = z:=⟨_,rfl⟩
 rw [hw1] at hB1 hX1 hxs1
 have q0:=hX1.cell 0
 have q1:=hX1.cell 1
 have ql:=hX1.lt
 rw [hxb] at q0 q1 ql
 have HX1:=Lib.hid hX1
 have HB1:=Lib.hid hB1
 have HW1:=Lib.hid hw1
 have HXB:=Lib.hid hxb
 clear hX1 hB1 hw1 hxb
 go_enter Tryz.func79,Tryz.ntmps79
 go_upto_region 1 with fail
 rw [HW1.out,HXB.out]
 go_wp2_with fail
 clear q0 q1 ql
 refine (pids_any xA xn xc xH xt w1 HXN.out (by omega) hxs1).mono ?_
 rintro e w2 ⟨vi,rfl,hown,hb⟩
 obtain ⟨Ai,ci,rfl⟩:=slice_of_own hown
 obtain ⟨I,hI⟩:∃ z,xH.map Hp.id = z:=⟨_,rfl⟩
 rw [hI] at hown
 have HI:=Lib.hid hI
 have hIl:I.length = xn:=by rw [← hI,List.length_map]; exact HXN.out
 have HIL:=Lib.hid hIl
 have hB2:Below w.heap.size w w2:=HB1.out.trans (hb.mono HB1.out.size)
 have hX2:=HX1.out.below hb HX1.out.lt
 rw [HXB.out] at hX2
 have r2:=hX2.cell 2
 have r3:=hX2.cell 3
 have rl:=hX2.lt
 have hs1:=HB1.out.size
 have HOWN:=Lib.hid hown
 have HIB:=Lib.hid (show ∀ g,(Value.slice Ai xn ci).ownBlock = some g → w.heap.size ≤ g from fun g e => Nat.le_trans hs1 (hown.lt g e).1)
 have HB2:=Lib.hid hB2
 clear hxs1 hb hown hI hIl hX2 hs1 hB2
 go_wp2_with fail
 clear r2 r3 rl
 go_loopw [5,6] (fun bv iv wr => ∃ j:Nat,j ≤ xn - xr ∧ iv = .int .i64 ((xr + j:Nat):Int) ∧ PartI w.heap.size wb v d (partsTo l f q now size by_ ⟨(xH,xt),xr,xbans⟩ j) (if j = 0 then xbans else []) w2 wr bv) (fun _ iv _ => xn - (intOf iv).toNat)
 case atStart =>
  exact ⟨0,by omega,by go_num,⟨_,_,_,rfl,HXBL.out,HXBS.out _ HB2.out⟩,PartG.none (H0.out _ HB2.out) HHP.out (Below.refl _ _)⟩
 case round =>
  obtain ⟨j,hj,rfl,⟨Aq,nq,cq,rfl,hlq,hsq⟩,vj,dj,hH,hhj,hpj,hnj,hK,hvj⟩:=hrel
  obtain ⟨i,hi⟩:∃ z,xr + j = z:=⟨_,rfl⟩
  rw [hi]
  by_cases hjm:j < xn - xr
  ·obtain ⟨lq,hlqe⟩:∃ z,(if j = 0 then xbans else []) = z:=⟨_,rfl⟩
   rw [hlqe] at hlq hsq
   obtain ⟨z,hz⟩:∃ z,I.getD i 0 = z:=⟨_,rfl⟩
   have hin:i < xn:=by omega
   have hinI:(i:Int) < (xn:Int):=by omega
   have hnq:nq ≤ 90000:=by
    rw [← hlq,← hlqe]
    split
    ·rw [HXBL.out]; exact hbl
    ·show 0 ≤ _; omega
   obtain ⟨Ad,hAd⟩:∃ x,(if ci = i then Ai else Ai.map (·.add i)) = x:=⟨_,rfl⟩
   have hni:∀ g,(Value.slice Ai xn ci).ownBlock = some g → ¬ (g = wb ∨ v.ownBlock = some g):=fun g hg hc => by
    have h1:=HIB.out g hg
    rcases hc with rfl | hc
    ·omega
    ·have:=HVL.out g hc; omega
   have hownr:=own_keptK HOWN.out hK hni
   have hci:xn ≤ ci:=by
    obtain ⟨g,c',e',hc'⟩:=own_posB hownr (by omega)
    simp only [Value.slice.injEq] at e'
    omega
   have hsl0:=Sl.of_own hownr
   have hsz:Sl wr wr.heap.size 1 Ad 1 (ci - i) (([z]:List Int).map (Value.int .i64)):=by
    have h:=(hsl0.from_ (show i ≤ xn by omega)).upto (show 1 ≤ xn - i by omega)
    rw [Nat.mul_one,Nat.mul_one,hAd,← List.map_drop,← List.map_take,take_oneI (by rw [HIL.out]; exact hin),hz] at h
    exact h
   have hst:Sl wr wr.heap.size 1 Ai i ci ((I.take i).map (Value.int .i64)):=by
    have h:=hsl0.upto (show i ≤ xn by omega)
    rw [Nat.mul_one,← List.map_take] at h
    exact h
   have hBXr:Boxes wr bl bf bq bn bs bb A n c f q now size by_:=(HBX.out _ HB2.out).apart (H0.out _ HB2.out) hK
   have hler:Sl wr wr.heap.size 8 A n c (flatEd l):=(HLE.out _ HB2.out).onK hK (fun hn0 ad e hc => by
    obtain ⟨h1,h2⟩:=HLO.out hn0 ad e
    rcases hc with h | h
    ·exact h1 h
    ·exact h2 h)
   have hdj:dj.length ≤ d.length + j:=by
    have h1:=hpj.length_eq
    rw [List.length_map,List.length_append,List.length_map] at h1
    have h2:∀ k,(partsTo l f q now size by_ ⟨(xH,xt),xr,xbans⟩ k).length ≤ k:=fun k => by
     induction k with
     | zero => exact Nat.le_refl _
     | succ k ih =>
      rw [partsTo,List.length_append]
      have:(partAt l f q now size by_ ⟨(xH,xt),xr,xbans⟩ (xr + k)).toList.length ≤ 1:=by
       cases partAt l f q now size by_ ⟨(xH,xt),xr,xbans⟩ (xr + k) <;> simp
      show _ + _ ≤ _
      have e:(⟨(xH,xt),xr,xbans⟩:Br).r + k = xr + k:=rfl
      rw [e]
      omega
    have:=h2 j
    omega
   have hBs:=HB2.out.size
   have hKs:=hK.size
   obtain ⟨o,ho⟩:∃ o,spurX l (I.take i) (lq ++ [z]) f q now size by_ = o:=⟨_,rfl⟩
   obtain ⟨add,hadd⟩:∃ a,(o.map fun p => (⟨p,i,lq ++ [z]⟩:Br)).toList = a:=⟨_,rfl⟩
   have hpe:partsTo l f q now size by_ ⟨(xH,xt),xr,xbans⟩ (j + 1) = add ++ partsTo l f q now size by_ ⟨(xH,xt),xr,xbans⟩ j:=by
    rw [partsTo,← hadd,← ho]
    congr 2
    show partAt l f q now size by_ ⟨(xH,xt),xr,xbans⟩ (xr + j) = _
    rw [hi]
    unfold partAt bansAt
    have e1:idsT (⟨(xH,xt),xr,xbans⟩:Br).p = I:=HI.out
    have e2:(if i = (⟨(xH,xt),xr,xbans⟩:Br).r then (⟨(xH,xt),xr,xbans⟩:Br).bans else []) = lq:=by
     rw [← hlqe]
     show (if i = xr then xbans else []) = _
     by_cases e:j = 0
     ·rw [if_pos e,if_pos (by omega)]
     ·rw [if_neg e,if_neg (by omega)]
    rw [e1,e2,hz]
   have HLOOK:Hid (∀ (A9:Option Addr) (c9:Nat) (w':World),Below wr.heap.size wr w' → w'.ownsRow wr.heap.size 3 1 (.slice A9 (nq + 1) c9) (nq + 1) ((lq ++ [z]).map (Value.int .i64)) → Calls Tryz.prog 75 #[.slice Ai i ci,.slice A9 (nq + 1) c9,.pointer (some ⟨bl,0,none⟩),.pointer (some ⟨bf,0,none⟩),.pointer (some ⟨bq,0,none⟩),.pointer (some ⟨bn,0,none⟩),.pointer (some ⟨bs,0,none⟩),.pointer (some ⟨bb,0,none⟩),.pointer (some ⟨wb,0,none⟩)] w' fun e w'' => e = .returned (.tuple #[]) ∧ PartG w.heap.size wb vj dj add wr w''):=fun A9 c9 w' hb9 ho9 => by
    have hwH:=HWH.out
    rw [HI.out] at hwH
    have hzm:z ∈ I:=by
     rw [← hz,List.getD_eq_getElem?_getD,List.getElem?_eq_getElem (by rw [HIL.out]; exact hin)]
     exact List.getElem_mem _
    have hwl:∀ m ∈ lq ++ [z],(Lit.int .i64 m).wf = true:=fun m hm => by
     rcases List.mem_append.1 hm with h | h
     ·rw [← hlqe] at h
      split at h
      ·exact HWB.out m h
      ·cases h
     ·rw [List.mem_singleton.1 h]; exact hwH z hzm
    have htl:(I.take i).length = i:=by rw [List.length_take,HIL.out]; omega
    have hll:(lq ++ [z]).length = nq + 1:=by rw [List.length_append,hlq]; rfl
    obtain ⟨g9,c9',e9,_⟩:=own_posB ho9 (by omega)
    simp only [Value.slice.injEq] at e9
    obtain ⟨rfl,_,_⟩:=e9
    have hg9:=(ho9.lt g9 rfl).1
    have hwbr:=hH.head.lt
    have h:=look_any bl bf bq bn bs bb wb w.heap.size A n c l f q now size by_ vj dj Ai i ci (I.take i) (some ⟨g9,0,none⟩) (nq + 1) c9 (lq ++ [z]) w' HD.out hn htl (by omega) (wf_getD htl (fun m hm => hwH m (List.mem_of_mem_take hm))) hll (by omega) (wf_getD hll hwl) (hBXr.below hb9) (hler.up hb9) (hst.up hb9) (Sl.of_own ho9) (hH.below hb9) hhj (by omega) (by have:=hb9.size; omega)
     (fun _ ad e => by
      injection e with e
      subst e
      refine ⟨by show w.heap.size ≤ g9; omega,by show wb ≠ g9; omega,fun hc => ?_⟩
      have:=(hH.row.row.lt g9 hc).2
      omega) o ho
    rw [hadd] at h
    exact h.mono fun e w'' ⟨h1,h2⟩ => ⟨h1,h2.below hb9⟩
   have HLQ:=Lib.hid hlq
   have HLQ1:Hid ((lq ++ [z]).length = nq + 1):=by show _ = _; rw [List.length_append,hlq]; rfl
   have HSQ:=Lib.hid (fun w' (hb:Below wr.heap.size wr w') => hsq.up hb)
   have HSZ:=Lib.hid (fun w' (hb:Below wr.heap.size wr w') => hsz.up hb)
   have HS3:=Lib.hid (fun w0 => run_hiI w0 Ai xn ci i (by omega))
   have HS9:=Lib.hid (fun w0 => run_midI w0 Ai xn ci i (by omega) Ad hAd)
   have HNEXT:=Lib.hid (fun (w5:World) (hG:PartG w.heap.size wb vj dj add wr w5) => PartG.next hpj hnj hK hvj hG)
   have HPE:=Lib.hid hpe
   have HI':=Lib.hid hi
   have hw1:IntKind.i64.wrap ((i:Int) + 1) = (i:Int) + 1:=IntWalk.i64_in _ (by omega)
   clear hsq hsz hst hsl0 hownr hBXr hler hAd hz hlqe hlq hadd ho hpe hH hhj hpj hnj hK hvj hci hdj hni hi
   go_wp2_with fail
   refine gen_frame ?_
   intro a0 ha0
   try simp only [List.append]
   refine wp_region_frames rfl (by kernel_rfl) (by kernel_rfl) (fun V y w' => (V.getD 12 true = false → Below wr.heap.size wr w') ∧ TF [(0,.func (.func 75) #[] #[.pointer (some ⟨bl,0,none⟩),.pointer (some ⟨bf,0,none⟩),.pointer (some ⟨bq,0,none⟩),.pointer (some ⟨bn,0,none⟩),.pointer (some ⟨bs,0,none⟩),.pointer (some ⟨bb,0,none⟩),.pointer (some ⟨wb,0,none⟩)]),(1,.slice Ai xn ci),(2,.int .i64 (i:Int)),(3,.slice Ai i ci),(4,.slice Aq nq cq),(5,.slice Ai xn ci),(6,.int .i64 (i:Int)),(7,.int .i64 (i:Int)),(8,.int .i64 ((i:Int) + 1)),(9,.slice Ad 1 (ci - i))] V y ∧ (V.getD 10 true = true → V.getD 11 true = false → Fin1 (fun u:Value => u) wr.heap.size 44 1 2 [.slice Aq nq cq,.slice Ad 1 (ci - i)] w' (y 10)) ∧ (V.getD 11 true = true → V.getD 12 true = false → Fin1 (fun u:Value => u) wr.heap.size 3 1 (nq + 1) ((lq ++ [z]).map (Value.int .i64)) w' (y 11)) ∧ (V.getD 12 true = true → PartG w.heap.size wb vj dj add wr w')) ?_ ?_ ?_
   ·intro y
    refine ⟨fun _ => (Below.refl _ _).drew,TF.none rfl,?_,?_,?_⟩ <;> exact fun h => by simp at h
   ·intro V y b w' hbq hsz hF i_ hi_ hun haf hcl
    obtain ⟨hBc,hT,f10,f11,f12⟩:=hF
    have hbe:b = putAll a0 [some 20,some 21,some 22,some 23,some 24,some 25,some 26,some 27,some 28,some 29,some 30,some 31,some 32] y 0:=hbq
    have hz0:a0.tmps.size = 33:=by rw [ha0]; rfl
    have e1:b.eval (.tmp 1) = .func (.func 75) #[] #[.pointer (some ⟨bl,0,none⟩),.pointer (some ⟨bf,0,none⟩),.pointer (some ⟨bq,0,none⟩),.pointer (some ⟨bn,0,none⟩),.pointer (some ⟨bs,0,none⟩),.pointer (some ⟨bb,0,none⟩),.pointer (some ⟨wb,0,none⟩)]:=by rw [hbe,eval_out _ _ _ (by decide),ha0]; rfl
    have t1:b.tmps[1]?.getD undef = .func (.func 75) #[] #[.pointer (some ⟨bl,0,none⟩),.pointer (some ⟨bf,0,none⟩),.pointer (some ⟨bq,0,none⟩),.pointer (some ⟨bn,0,none⟩),.pointer (some ⟨bs,0,none⟩),.pointer (some ⟨bb,0,none⟩),.pointer (some ⟨wb,0,none⟩)]:=by simpa [Act.eval] using e1
    have e4:b.eval (.tmp 4) = .slice Ai xn ci:=by rw [hbe,eval_out _ _ _ (by decide),ha0]; rfl
    have t4:b.tmps[4]?.getD undef = .slice Ai xn ci:=by simpa [Act.eval] using e4
    have e5:b.eval (.tmp 5) = .slice Aq nq cq:=by rw [hbe,eval_out _ _ _ (by decide),ha0]; rfl
    have t5:b.tmps[5]?.getD undef = .slice Aq nq cq:=by simpa [Act.eval] using e5
    have e6:b.eval (.tmp 6) = .int .i64 (i:Int):=by rw [hbe,eval_out _ _ _ (by decide),ha0]; rfl
    have t6:b.tmps[6]?.getD undef = .int .i64 (i:Int):=by simpa [Act.eval] using e6
    have evc:∀ v,b.eval (.const v) = v:=fun _ => rfl
    clear hbq
    have hi':i_ < 13:=hi_
    clear hi_
    obtain rfl | rfl | rfl | rfl | rfl | rfl | rfl | rfl | rfl | rfl | rfl | rfl | rfl:i_ = 0 ∨ i_ = 1 ∨ i_ = 2 ∨ i_ = 3 ∨ i_ = 4 ∨ i_ = 5 ∨ i_ = 6 ∨ i_ = 7 ∨ i_ = 8 ∨ i_ = 9 ∨ i_ = 10 ∨ i_ = 11 ∨ i_ = 12:=by omega
    ·have hBw:=hBc (by cases hq:V.getD 12 true with | false => rfl | true => exact absurd (getD_ft (hcl 12 _ rfl hq ⟨0,.data⟩ (by simp) rfl)) (by rw [hun]; decide))
     refine wpOp_runs (v:=.func (.func 75) #[] #[.pointer (some ⟨bl,0,none⟩),.pointer (some ⟨bf,0,none⟩),.pointer (some ⟨bq,0,none⟩),.pointer (some ⟨bn,0,none⟩),.pointer (some ⟨bs,0,none⟩),.pointer (some ⟨bb,0,none⟩),.pointer (some ⟨wb,0,none⟩)]) rfl rfl (by simp [execOp,go_sem,t1]) ⟨_,_,rfl,rfl,⟨fun h2 => hBc (un_setF (ne_of_down h2) h2),hT.on 0 rfl rfl,kD (P:=Fin1 (fun u:Value => u) wr.heap.size 44 1 2 [.slice Aq nq cq,.slice Ad 1 (ci - i)]) f10 rfl (Fin1.up (Below.refl _ _)),kD (P:=Fin1 (fun u:Value => u) wr.heap.size 3 1 (nq + 1) ((lq ++ [z]).map (Value.int .i64))) f11 rfl (Fin1.up (Below.refl _ _)),fun h => absurd (getD_ft (hcl 12 _ rfl (un_set (i:=0) rfl h) ⟨0,.data⟩ (by simp) rfl)) (by rw [hun]; decide)⟩⟩
    ·have hBw:=hBc (by cases hq:V.getD 12 true with | false => rfl | true => exact absurd (getD_ft (hcl 3 _ rfl (getD_ft (hcl 12 _ rfl hq ⟨3,.data⟩ (by simp) rfl)) ⟨1,.data⟩ (by simp) rfl)) (by rw [hun]; decide))
     refine wpOp_runs (v:=.slice Ai xn ci) rfl rfl (by simp [execOp,go_sem,t4]) ⟨_,_,rfl,rfl,⟨fun h2 => hBc (un_setF (ne_of_down h2) h2),hT.on 1 rfl rfl,kD (P:=Fin1 (fun u:Value => u) wr.heap.size 44 1 2 [.slice Aq nq cq,.slice Ad 1 (ci - i)]) f10 rfl (Fin1.up (Below.refl _ _)),kD (P:=Fin1 (fun u:Value => u) wr.heap.size 3 1 (nq + 1) ((lq ++ [z]).map (Value.int .i64))) f11 rfl (Fin1.up (Below.refl _ _)),fun h => absurd (getD_ft (hcl 3 _ rfl (getD_ft (hcl 12 _ rfl (un_set (i:=1) rfl h) ⟨3,.data⟩ (by simp) rfl)) ⟨1,.data⟩ (by simp) rfl)) (by rw [hun]; decide)⟩⟩
    ·have hBw:=hBc (by cases hq:V.getD 12 true with | false => rfl | true => exact absurd (getD_ft (hcl 3 _ rfl (getD_ft (hcl 12 _ rfl hq ⟨3,.data⟩ (by simp) rfl)) ⟨2,.data⟩ (by simp) rfl)) (by rw [hun]; decide))
     refine wpOp_runs (v:=.int .i64 (i:Int)) rfl rfl (by simp [execOp,go_sem,t6]) ⟨_,_,rfl,rfl,⟨fun h2 => hBc (un_setF (ne_of_down h2) h2),hT.on 2 rfl rfl,kD (P:=Fin1 (fun u:Value => u) wr.heap.size 44 1 2 [.slice Aq nq cq,.slice Ad 1 (ci - i)]) f10 rfl (Fin1.up (Below.refl _ _)),kD (P:=Fin1 (fun u:Value => u) wr.heap.size 3 1 (nq + 1) ((lq ++ [z]).map (Value.int .i64))) f11 rfl (Fin1.up (Below.refl _ _)),fun h => absurd (getD_ft (hcl 3 _ rfl (getD_ft (hcl 12 _ rfl (un_set (i:=2) rfl h) ⟨3,.data⟩ (by simp) rfl)) ⟨2,.data⟩ (by simp) rfl)) (by rw [hun]; decide)⟩⟩
    ·have hBw:=hBc (by cases hq:V.getD 12 true with | false => rfl | true => exact absurd (getD_ft (hcl 12 _ rfl hq ⟨3,.data⟩ (by simp) rfl)) (by rw [hun]; decide))
     have d1:=getD_ft (haf _ rfl ⟨1,.data⟩ (by simp) rfl)
     have e21:b.eval (.tmp 21) = .slice Ai xn ci:=by rw [hbe,eval_in _ _ _ 1 (by decide) rfl (by rw [hz0]; decide)]; exact hT.get 1 rfl d1
     have t21:=e21; simp only [Act.eval,Array.getD_eq_getD_getElem?] at t21
     have d2:=getD_ft (haf _ rfl ⟨2,.data⟩ (by simp) rfl)
     have e22:b.eval (.tmp 22) = .int .i64 (i:Int):=by rw [hbe,eval_in _ _ _ 2 (by decide) rfl (by rw [hz0]; decide)]; exact hT.get 2 rfl d2
     have t22:=e22; simp only [Act.eval,Array.getD_eq_getD_getElem?] at t22
     have hsl:=HS3.out w'
     refine wpOp_runs (v:=.slice Ai i ci) rfl rfl (by simp [execOp,go_sem,t21,t22,hsl]) ⟨_,_,rfl,rfl,⟨fun h2 => hBc (un_setF (ne_of_down h2) h2),hT.on 3 rfl rfl,kD (P:=Fin1 (fun u:Value => u) wr.heap.size 44 1 2 [.slice Aq nq cq,.slice Ad 1 (ci - i)]) f10 rfl (Fin1.up (Below.refl _ _)),kD (P:=Fin1 (fun u:Value => u) wr.heap.size 3 1 (nq + 1) ((lq ++ [z]).map (Value.int .i64))) f11 rfl (Fin1.up (Below.refl _ _)),fun h => absurd (getD_ft (hcl 12 _ rfl (un_set (i:=3) rfl h) ⟨3,.data⟩ (by simp) rfl)) (by rw [hun]; decide)⟩⟩
    ·have hBw:=hBc (by cases hq:V.getD 12 true with | false => rfl | true => exact absurd (getD_ft (hcl 10 _ rfl (getD_ft (hcl 11 _ rfl (getD_ft (hcl 12 _ rfl hq ⟨11,.data⟩ (by simp) rfl)) ⟨10,.data⟩ (by simp) rfl)) ⟨4,.data⟩ (by simp) rfl)) (by rw [hun]; decide))
     refine wpOp_runs (v:=.slice Aq nq cq) rfl rfl (by simp [execOp,go_sem,t5]) ⟨_,_,rfl,rfl,⟨fun h2 => hBc (un_setF (ne_of_down h2) h2),hT.on 4 rfl rfl,kD (P:=Fin1 (fun u:Value => u) wr.heap.size 44 1 2 [.slice Aq nq cq,.slice Ad 1 (ci - i)]) f10 rfl (Fin1.up (Below.refl _ _)),kD (P:=Fin1 (fun u:Value => u) wr.heap.size 3 1 (nq + 1) ((lq ++ [z]).map (Value.int .i64))) f11 rfl (Fin1.up (Below.refl _ _)),fun h => absurd (getD_ft (hcl 10 _ rfl (getD_ft (hcl 11 _ rfl (getD_ft (hcl 12 _ rfl (un_set (i:=4) rfl h) ⟨11,.data⟩ (by simp) rfl)) ⟨10,.data⟩ (by simp) rfl)) ⟨4,.data⟩ (by simp) rfl)) (by rw [hun]; decide)⟩⟩
    ·have hBw:=hBc (by cases hq:V.getD 12 true with | false => rfl | true => exact absurd (getD_ft (hcl 9 _ rfl (getD_ft (hcl 10 _ rfl (getD_ft (hcl 11 _ rfl (getD_ft (hcl 12 _ rfl hq ⟨11,.data⟩ (by simp) rfl)) ⟨10,.data⟩ (by simp) rfl)) ⟨9,.data⟩ (by simp) rfl)) ⟨5,.data⟩ (by simp) rfl)) (by rw [hun]; decide))
     refine wpOp_runs (v:=.slice Ai xn ci) rfl rfl (by simp [execOp,go_sem,t4]) ⟨_,_,rfl,rfl,⟨fun h2 => hBc (un_setF (ne_of_down h2) h2),hT.on 5 rfl rfl,kD (P:=Fin1 (fun u:Value => u) wr.heap.size 44 1 2 [.slice Aq nq cq,.slice Ad 1 (ci - i)]) f10 rfl (Fin1.up (Below.refl _ _)),kD (P:=Fin1 (fun u:Value => u) wr.heap.size 3 1 (nq + 1) ((lq ++ [z]).map (Value.int .i64))) f11 rfl (Fin1.up (Below.refl _ _)),fun h => absurd (getD_ft (hcl 9 _ rfl (getD_ft (hcl 10 _ rfl (getD_ft (hcl 11 _ rfl (getD_ft (hcl 12 _ rfl (un_set (i:=5) rfl h) ⟨11,.data⟩ (by simp) rfl)) ⟨10,.data⟩ (by simp) rfl)) ⟨9,.data⟩ (by simp) rfl)) ⟨5,.data⟩ (by simp) rfl)) (by rw [hun]; decide)⟩⟩
    ·have hBw:=hBc (by cases hq:V.getD 12 true with | false => rfl | true => exact absurd (getD_ft (hcl 9 _ rfl (getD_ft (hcl 10 _ rfl (getD_ft (hcl 11 _ rfl (getD_ft (hcl 12 _ rfl hq ⟨11,.data⟩ (by simp) rfl)) ⟨10,.data⟩ (by simp) rfl)) ⟨9,.data⟩ (by simp) rfl)) ⟨6,.data⟩ (by simp) rfl)) (by rw [hun]; decide))
     refine wpOp_runs (v:=.int .i64 (i:Int)) rfl rfl (by simp [execOp,go_sem,t6]) ⟨_,_,rfl,rfl,⟨fun h2 => hBc (un_setF (ne_of_down h2) h2),hT.on 6 rfl rfl,kD (P:=Fin1 (fun u:Value => u) wr.heap.size 44 1 2 [.slice Aq nq cq,.slice Ad 1 (ci - i)]) f10 rfl (Fin1.up (Below.refl _ _)),kD (P:=Fin1 (fun u:Value => u) wr.heap.size 3 1 (nq + 1) ((lq ++ [z]).map (Value.int .i64))) f11 rfl (Fin1.up (Below.refl _ _)),fun h => absurd (getD_ft (hcl 9 _ rfl (getD_ft (hcl 10 _ rfl (getD_ft (hcl 11 _ rfl (getD_ft (hcl 12 _ rfl (un_set (i:=6) rfl h) ⟨11,.data⟩ (by simp) rfl)) ⟨10,.data⟩ (by simp) rfl)) ⟨9,.data⟩ (by simp) rfl)) ⟨6,.data⟩ (by simp) rfl)) (by rw [hun]; decide)⟩⟩
    ·have hBw:=hBc (by cases hq:V.getD 12 true with | false => rfl | true => exact absurd (getD_ft (hcl 8 _ rfl (getD_ft (hcl 9 _ rfl (getD_ft (hcl 10 _ rfl (getD_ft (hcl 11 _ rfl (getD_ft (hcl 12 _ rfl hq ⟨11,.data⟩ (by simp) rfl)) ⟨10,.data⟩ (by simp) rfl)) ⟨9,.data⟩ (by simp) rfl)) ⟨8,.data⟩ (by simp) rfl)) ⟨7,.data⟩ (by simp) rfl)) (by rw [hun]; decide))
     refine wpOp_runs (v:=.int .i64 (i:Int)) rfl rfl (by simp [execOp,go_sem,t6]) ⟨_,_,rfl,rfl,⟨fun h2 => hBc (un_setF (ne_of_down h2) h2),hT.on 7 rfl rfl,kD (P:=Fin1 (fun u:Value => u) wr.heap.size 44 1 2 [.slice Aq nq cq,.slice Ad 1 (ci - i)]) f10 rfl (Fin1.up (Below.refl _ _)),kD (P:=Fin1 (fun u:Value => u) wr.heap.size 3 1 (nq + 1) ((lq ++ [z]).map (Value.int .i64))) f11 rfl (Fin1.up (Below.refl _ _)),fun h => absurd (getD_ft (hcl 8 _ rfl (getD_ft (hcl 9 _ rfl (getD_ft (hcl 10 _ rfl (getD_ft (hcl 11 _ rfl (getD_ft (hcl 12 _ rfl (un_set (i:=7) rfl h) ⟨11,.data⟩ (by simp) rfl)) ⟨10,.data⟩ (by simp) rfl)) ⟨9,.data⟩ (by simp) rfl)) ⟨8,.data⟩ (by simp) rfl)) ⟨7,.data⟩ (by simp) rfl)) (by rw [hun]; decide)⟩⟩
    ·have hBw:=hBc (by cases hq:V.getD 12 true with | false => rfl | true => exact absurd (getD_ft (hcl 9 _ rfl (getD_ft (hcl 10 _ rfl (getD_ft (hcl 11 _ rfl (getD_ft (hcl 12 _ rfl hq ⟨11,.data⟩ (by simp) rfl)) ⟨10,.data⟩ (by simp) rfl)) ⟨9,.data⟩ (by simp) rfl)) ⟨8,.data⟩ (by simp) rfl)) (by rw [hun]; decide))
     have d7:=getD_ft (haf _ rfl ⟨7,.data⟩ (by simp) rfl)
     have e27:b.eval (.tmp 27) = .int .i64 (i:Int):=by rw [hbe,eval_in _ _ _ 7 (by decide) rfl (by rw [hz0]; decide)]; exact hT.get 7 rfl d7
     have t27:=e27; simp only [Act.eval,Array.getD_eq_getD_getElem?] at t27
     refine wpOp_runs (v:=.int .i64 ((i:Int) + 1)) rfl rfl (by simp [execOp,go_sem,t27,hw1]) ⟨_,_,rfl,rfl,⟨fun h2 => hBc (un_setF (ne_of_down h2) h2),hT.on 8 rfl rfl,kD (P:=Fin1 (fun u:Value => u) wr.heap.size 44 1 2 [.slice Aq nq cq,.slice Ad 1 (ci - i)]) f10 rfl (Fin1.up (Below.refl _ _)),kD (P:=Fin1 (fun u:Value => u) wr.heap.size 3 1 (nq + 1) ((lq ++ [z]).map (Value.int .i64))) f11 rfl (Fin1.up (Below.refl _ _)),fun h => absurd (getD_ft (hcl 9 _ rfl (getD_ft (hcl 10 _ rfl (getD_ft (hcl 11 _ rfl (getD_ft (hcl 12 _ rfl (un_set (i:=8) rfl h) ⟨11,.data⟩ (by simp) rfl)) ⟨10,.data⟩ (by simp) rfl)) ⟨9,.data⟩ (by simp) rfl)) ⟨8,.data⟩ (by simp) rfl)) (by rw [hun]; decide)⟩⟩
    ·have hBw:=hBc (by cases hq:V.getD 12 true with | false => rfl | true => exact absurd (getD_ft (hcl 10 _ rfl (getD_ft (hcl 11 _ rfl (getD_ft (hcl 12 _ rfl hq ⟨11,.data⟩ (by simp) rfl)) ⟨10,.data⟩ (by simp) rfl)) ⟨9,.data⟩ (by simp) rfl)) (by rw [hun]; decide))
     have d5:=getD_ft (haf _ rfl ⟨5,.data⟩ (by simp) rfl)
     have e25:b.eval (.tmp 25) = .slice Ai xn ci:=by rw [hbe,eval_in _ _ _ 5 (by decide) rfl (by rw [hz0]; decide)]; exact hT.get 5 rfl d5
     have t25:=e25; simp only [Act.eval,Array.getD_eq_getD_getElem?] at t25
     have d6:=getD_ft (haf _ rfl ⟨6,.data⟩ (by simp) rfl)
     have e26:b.eval (.tmp 26) = .int .i64 (i:Int):=by rw [hbe,eval_in _ _ _ 6 (by decide) rfl (by rw [hz0]; decide)]; exact hT.get 6 rfl d6
     have t26:=e26; simp only [Act.eval,Array.getD_eq_getD_getElem?] at t26
     have d8:=getD_ft (haf _ rfl ⟨8,.data⟩ (by simp) rfl)
     have e28:b.eval (.tmp 28) = .int .i64 ((i:Int) + 1):=by rw [hbe,eval_in _ _ _ 8 (by decide) rfl (by rw [hz0]; decide)]; exact hT.get 8 rfl d8
     have t28:=e28; simp only [Act.eval,Array.getD_eq_getD_getElem?] at t28
     have hsl:=HS9.out w'
     refine wpOp_runs (v:=.slice Ad 1 (ci - i)) rfl rfl (by simp [execOp,go_sem,t25,t26,t28,hsl]) ⟨_,_,rfl,rfl,⟨fun h2 => hBc (un_setF (ne_of_down h2) h2),hT.on 9 rfl rfl,kD (P:=Fin1 (fun u:Value => u) wr.heap.size 44 1 2 [.slice Aq nq cq,.slice Ad 1 (ci - i)]) f10 rfl (Fin1.up (Below.refl _ _)),kD (P:=Fin1 (fun u:Value => u) wr.heap.size 3 1 (nq + 1) ((lq ++ [z]).map (Value.int .i64))) f11 rfl (Fin1.up (Below.refl _ _)),fun h => absurd (getD_ft (hcl 10 _ rfl (getD_ft (hcl 11 _ rfl (getD_ft (hcl 12 _ rfl (un_set (i:=9) rfl h) ⟨11,.data⟩ (by simp) rfl)) ⟨10,.data⟩ (by simp) rfl)) ⟨9,.data⟩ (by simp) rfl)) (by rw [hun]; decide)⟩⟩
    ·have hBw:=hBc (by cases hq:V.getD 12 true with | false => rfl | true => exact absurd (getD_ft (hcl 11 _ rfl (getD_ft (hcl 12 _ rfl hq ⟨11,.data⟩ (by simp) rfl)) ⟨10,.data⟩ (by simp) rfl)) (by rw [hun]; decide))
     have d4:=getD_ft (haf _ rfl ⟨4,.data⟩ (by simp) rfl)
     have e24:b.eval (.tmp 24) = .slice Aq nq cq:=by rw [hbe,eval_in _ _ _ 4 (by decide) rfl (by rw [hz0]; decide)]; exact hT.get 4 rfl d4
     have t24:=e24; simp only [Act.eval,Array.getD_eq_getD_getElem?] at t24
     have d9:=getD_ft (haf _ rfl ⟨9,.data⟩ (by simp) rfl)
     have e29:b.eval (.tmp 29) = .slice Ad 1 (ci - i):=by rw [hbe,eval_in _ _ _ 9 (by decide) rfl (by rw [hz0]; decide)]; exact hT.get 9 rfl d9
     have t29:=e29; simp only [Act.eval,Array.getD_eq_getD_getElem?] at t29
     have hb:Below w'.heap.size w' (w'.alloc (.cells #[.slice Aq nq cq,.slice Ad 1 (ci - i)] 44)):=(Below.refl _ _).alloc (Nat.le_refl _) _
     refine wpOp_runs (v:=.slice (some ⟨w'.heap.size,0,none⟩) 2 2) (w':=w'.alloc (.cells #[.slice Aq nq cq,.slice Ad 1 (ci - i)] 44)) rfl rfl (by simp [execOp,go_sem,t24,t29]) ⟨_,_,rfl,rfl,⟨fun h2 => by have hq:=hBc (un_setF (ne_of_down h2) h2); exact hq.trans (hb.mono hq.size),hT.off rfl,fun _ _ => by rw [upd_same]; exact ⟨_,rfl,own_lit w' wr.heap.size 44 1 2 #[.slice Aq nq cq,.slice Ad 1 (ci - i)] hBw.size rfl (by simp [maxLen])⟩,kD (P:=Fin1 (fun u:Value => u) wr.heap.size 3 1 (nq + 1) ((lq ++ [z]).map (Value.int .i64))) f11 rfl (Fin1.up hb),fun h => absurd (getD_ft (hcl 11 _ rfl (getD_ft (hcl 12 _ rfl (un_set (i:=10) rfl h) ⟨11,.data⟩ (by simp) rfl)) ⟨10,.data⟩ (by simp) rfl)) (by rw [hun]; decide)⟩⟩
    ·have hBw:=hBc (by cases hq:V.getD 12 true with | false => rfl | true => exact absurd (getD_ft (hcl 12 _ rfl hq ⟨11,.data⟩ (by simp) rfl)) (by rw [hun]; decide))
     have d10:=getD_ft (haf _ rfl ⟨10,.data⟩ (by simp) rfl)
     have e30:b.eval (.tmp 30) = y 10:=by rw [hbe,eval_in _ _ _ 10 (by decide) rfl (by rw [hz0]; decide)]
     obtain ⟨m10,me10,mo10⟩:=f10 d10 hun
     rw [me10] at e30
     have t30:=e30; simp only [Act.eval,Array.getD_eq_getD_getElem?] at t30
     refine wpOp_of rfl ?_
     refine step_call rfl 124 #[.tmp 30] _ rfl #[m10] (by simp [e30]) Tryz.func124 rfl rfl ?_
     refine (concat2Iq 44 wr.heap.size m10 Aq Ad nq 1 cq (ci - i) lq [z] w' HLQ.out rfl (by omega) mo10 (HSQ.out _ hBw) (HSZ.out _ hBw)).mono ?_
     rintro e w'' ⟨v9,rfl,hown,hb⟩
     rw [HLQ1.out] at hown
     exact ⟨_,rfl,_,_,rfl,rfl,⟨fun h2 => by have hq:=hBc (un_setF (ne_of_down h2) h2); exact hq.trans (hb.mono hq.size),hT.off rfl,kD (P:=Fin1 (fun u:Value => u) wr.heap.size 44 1 2 [.slice Aq nq cq,.slice Ad 1 (ci - i)]) f10 rfl (Fin1.up hb),fun _ _ => by rw [upd_same]; exact ⟨_,rfl,own_down hown hBw.size⟩,fun h => absurd (getD_ft (hcl 12 _ rfl (un_set (i:=11) rfl h) ⟨11,.data⟩ (by simp) rfl)) (by rw [hun]; decide)⟩⟩
    ·have hBw:=hBc (hun)
     have d0:=getD_ft (haf _ rfl ⟨0,.data⟩ (by simp) rfl)
     have e20:b.eval (.tmp 20) = .func (.func 75) #[] #[.pointer (some ⟨bl,0,none⟩),.pointer (some ⟨bf,0,none⟩),.pointer (some ⟨bq,0,none⟩),.pointer (some ⟨bn,0,none⟩),.pointer (some ⟨bs,0,none⟩),.pointer (some ⟨bb,0,none⟩),.pointer (some ⟨wb,0,none⟩)]:=by rw [hbe,eval_in _ _ _ 0 (by decide) rfl (by rw [hz0]; decide)]; exact hT.get 0 rfl d0
     have t20:=e20; simp only [Act.eval,Array.getD_eq_getD_getElem?] at t20
     have d3:=getD_ft (haf _ rfl ⟨3,.data⟩ (by simp) rfl)
     have e23:b.eval (.tmp 23) = .slice Ai i ci:=by rw [hbe,eval_in _ _ _ 3 (by decide) rfl (by rw [hz0]; decide)]; exact hT.get 3 rfl d3
     have t23:=e23; simp only [Act.eval,Array.getD_eq_getD_getElem?] at t23
     have d11:=getD_ft (haf _ rfl ⟨11,.data⟩ (by simp) rfl)
     have e31:b.eval (.tmp 31) = y 11:=by rw [hbe,eval_in _ _ _ 11 (by decide) rfl (by rw [hz0]; decide)]
     obtain ⟨m11,me11,mo11⟩:=f11 d11 hun
     rw [me11] at e31
     have t31:=e31; simp only [Act.eval,Array.getD_eq_getD_getElem?] at t31
     obtain ⟨A9,c9,hm9⟩:=slice_of_own mo11
     subst hm9
     refine wpOp_of rfl ?_
     refine step_dyn rfl (.tmp 20) #[.tmp 23,.tmp 31] _ rfl 75 #[.pointer (some ⟨bl,0,none⟩),.pointer (some ⟨bf,0,none⟩),.pointer (some ⟨bq,0,none⟩),.pointer (some ⟨bn,0,none⟩),.pointer (some ⟨bs,0,none⟩),.pointer (some ⟨bb,0,none⟩),.pointer (some ⟨wb,0,none⟩)] e20 #[.slice Ai i ci,.slice A9 (nq + 1) c9,.pointer (some ⟨bl,0,none⟩),.pointer (some ⟨bf,0,none⟩),.pointer (some ⟨bq,0,none⟩),.pointer (some ⟨bn,0,none⟩),.pointer (some ⟨bs,0,none⟩),.pointer (some ⟨bb,0,none⟩),.pointer (some ⟨wb,0,none⟩)] (by simp [e23,e31]) Tryz.func75 rfl rfl ?_
     refine (HLOOK.out A9 c9 w' hBw mo11).mono ?_
     rintro e w'' ⟨rfl,hfin⟩
     exact ⟨_,rfl,_,_,rfl,rfl,⟨fun h2 => absurd h2 (by rw [set_up]; decide),hT.off rfl,fun _ h2 => absurd (un_setF (ne_of_down h2) h2) (by rw [d11]; decide),fun _ h2 => absurd h2 (by rw [set_up]; decide),fun _ => hfin⟩⟩
   intro V y w5 hall hF
   obtain ⟨hBc,hT,f10,f11,f12⟩:=hF
   have HG:=Lib.hid (f12 (hall 12 (by decide)))
   have hx0:=hT.get 0 rfl (hall 0 (by decide))
   have hx1:=hT.get 1 rfl (hall 1 (by decide))
   have hx2:=hT.get 2 rfl (hall 2 (by decide))
   have hx3:=hT.get 3 rfl (hall 3 (by decide))
   have hx4:=hT.get 4 rfl (hall 4 (by decide))
   have hx5:=hT.get 5 rfl (hall 5 (by decide))
   have hx6:=hT.get 6 rfl (hall 6 (by decide))
   have hx7:=hT.get 7 rfl (hall 7 (by decide))
   have hx8:=hT.get 8 rfl (hall 8 (by decide))
   have hx9:=hT.get 9 rfl (hall 9 (by decide))
   clear hall f10 f11 f12 hT hBc
   subst ha0
   simp only [List.map_cons,List.map_nil,putAll,hx0,hx1,hx2,hx3,hx4,hx5,hx6,hx7,hx8,hx9]
   clear hx0 hx1 hx2 hx3 hx4 hx5 hx6 hx7 hx8 hx9
   go_simp
   go_wp2_with fail
   go_roundw
   case rel => exact ⟨j + 1,by omega,by rw [← HI'.out]; go_num,⟨_,_,_,rfl,rfl,Sl.nil0 _ _ _⟩,by rw [HPE.out]; exact HNEXT.out _ HG.out⟩
   case measure => simp [intOf]; omega
  ·obtain rfl:j = xn - xr:=by omega
   have hixn:i = xn:=by omega
   subst hixn
   have HF:LookP w.heap.size wb v d (partsTo l f q now size by_ ⟨(xH,xt),xr,xbans⟩ (i - xr)) w (.returned (.tuple #[])) wr:=⟨rfl,PartG.below ⟨vj,dj,hH,hhj,hpj,hnj,hK,hvj⟩ HB2.out⟩
   have HFF:=Lib.hid HF
   clear HF hH hhj hpj hnj hK hvj hsq hlq hi
   go_wp2_with fail
   go_end0
   exact HFF.out
end Go.Proofs.YtodcoockhkghdaaGreat
