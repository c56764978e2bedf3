/- Several texts of mine in one: DueNew, Least5. No condition. -/
import Derived.Test.YtodcoockhkghdaaGreatGQ15
import Derived.Test.YtodcoockhkghdaaGreatGQ19
import Derived.Test.YtodcoockhkghdaaGreatDueMoreG
import Derived.Test.YtodcoockhkghdaaGreatGQ18
import Derived.Test.YtodcoockhkghdaaGreatGQ20
import Derived.Test.YtodcoockhkghdaaGreatGQ7
import Derived.Deep.CutBlock
import Derived.Deep.DeepCutAuto
namespace Go.Proofs.YtodcoockhkghdaaGreat
open Go.ChangeShapes Go.WideShapes Go.ChangeAt Go.RowKit Go.Sort Go.Maps Hp
set_option linter.unusedSimpArgs false
set_option linter.unusedVariables false
theorem SM.start {w:World} {M sb g:Nat} {q b:Int} (hM:MapV w 3 sb 1 (setS (fun _ => none) (.int .i64 q) (.slice (some ⟨g,0,none⟩) 1 1))) (hr:w.ownsRow M 159 2 (.slice (some ⟨g,0,none⟩) 1 1) 1 [.int .i64 0,.int .i64 b]) (hl:M ≤ sb) (hg:g ≠ sb) :
  SM w M sb 1 (updP (fun _ => []) q [(0,b)]) (updC (fun _ => .slice none 0 0) q (.slice (some ⟨g,0,none⟩) 1 1)):=by
 refine ⟨MapV.congr hM fun kl => ?_,fun x => ?_,fun x y hxy => ?_,fun x hx => ?_,hl,fun x => ?_⟩
 ·by_cases e:kl = .int .i64 q
  ·subst e
   rw [setS_same]
   show _ = if updP (fun _ => []) q [(0,b)] q = [] then none else some (updC (fun _ => .slice none 0 0) q _ q)
   rw [updP_same,updC_same,if_neg (by simp)]
  ·rw [setS_other _ _ e]
   unfold rowsS
   split
   ·rename_i y
    rw [updP_ne _ _ (fun h => e (by rw [h])),if_pos rfl]
   ·rfl
 ·by_cases e:x = q
  ·subst e; rw [updP_same,updC_same]; exact hr
  ·rw [updP_ne _ _ e,updC_ne _ _ e]; exact World.ownsRow_nil _ _ _ _
 ·by_cases e:x = q
  ·subst e; rw [updC_ne _ _ (fun e => hxy e.symm)]; exact .inr (by rw [updC_same]; simp [Value.ownBlock])
  ·rw [updC_ne _ _ e]; exact .inl rfl
 ·by_cases e:x = q
  ·subst e; rw [updP_same] at hx; cases hx
  ·exact updC_ne _ _ e
 ·by_cases e:x = q
  ·subst e; rw [updC_same]; simpa [Value.ownBlock] using hg
  ·rw [updC_ne _ _ e]; simp [Value.ownBlock]
theorem steps_zero {l:List Ed} {size:Int} {op:Int → Bool} (q b:Int):Steps (updP (fun _ => []) q [(0,b)]) (lateL l size op q b) 0:=by
 refine ⟨fun n s hs => ?_,fun n k hk => ?_,fun n => ?_⟩
 ·by_cases e:n = q
  ·subst e; rw [updP_same] at hs; rw [List.mem_singleton.1 hs]; simp
  ·rw [updP_ne _ _ e] at hs; cases hs
 ·obtain rfl:k = 0:=by omega
  by_cases e:n = q
  ·subst e; rw [updP_same]; simp [atS,lateL,oneT]
  ·rw [updP_ne _ _ e]; simp [atS,lateL,oneT,e]
 ·by_cases e:n = q
  ·subst e; rw [updP_same]; simp [lateL,oneT]
  ·rw [updP_ne _ _ e]; simp [lateL,oneT,e]
set_option maxHeartbeats 4000000 in
set_option maxRecDepth 100000 in
theorem dnew_any (A:Option Addr) (n c:Nat) (l:List Ed) (q b size:Int) (As:Option Addr) (ns cs:Nat) (sh:List Int) (w:World) (hd:l.length = n) (hn:n ≤ 1000) (hok:∀ k,k < n → (gEd l k).ok = true) (hq:1 ≤ q ∧ q ≤ 255) (hds:sh.length = ns) (hns:ns ≤ 100000) (hwf:∀ k,k < ns → (Lit.int .i64 (sh.getD k 0)).wf = true) (h:Sl w w.heap.size 8 A n c (flatEd l)) (hls:Sl w w.heap.size 1 As ns cs (sh.map (Value.int .i64))) :
  Calls Tryz.prog 67 #[.slice A n c,.int .i64 q,.int .i64 b,.int .i64 size,.slice As ns cs] w fun e w' => ∃ tb,e = .returned (.pointer (some ⟨tb,0,none⟩)) ∧ w.heap.size ≤ tb ∧ TabH w w' tb A n c l q b size sh 0:=by
 have HD:=Lib.hid hd
 have HOK:=Lib.hid hok
 have HDS:=Lib.hid hds
 have HWF:=Lib.hid hwf
 have hqw:(Lit.int .i64 q).wf = true:=wfI (by omega)
 clear hd hok hds hwf
 go_enter Tryz.func67,Tryz.ntmps67
 go_wp2_with fail
 refine (jto_any A n c l w HD.out hn (fun k hk => (Ed.ok_spec.1 (HOK.out k hk)).2.2.1) h).mono ?_
 rintro e wa ⟨ct,rfl,hG,hP,hB0⟩
 have hs0:=hB0.size
 have hglt:=hG.lt
 obtain ⟨ub,hub⟩:∃ x,wa.heap.size = x:=⟨_,rfl⟩
 have hmk:=run_makeMap0 (P:=Tryz.prog) 134 3 4 Tryz.underlying134 wa
 have hS0:=SetW.made wa
 have hB1:Below wa.heap.size wa ((wa.alloc (.map #[] 0)).alloc (.cells #[.slice A n c,.pointer (some ⟨w.heap.size,0,none⟩),.int .i64 q,.int .i64 size,.map (some ub),.int .i64 0,.map none,.slice none 0 0] 157)):=by (repeat (first | exact Below.refl _ _ | refine Below.alloc ?_ (by first | omega | (simp; done) | (simp; omega)) _ | refine Below.setCell ?_ (by first | omega | (simp; done) | (simp; omega)) _ | refine Below.drew ?_))
 have hX0:=Blok.new (wa.alloc (.map #[] 0)) 157 #[.slice A n c,.pointer (some ⟨w.heap.size,0,none⟩),.int .i64 q,.int .i64 size,.map (some ub),.int .i64 0,.map none,.slice none 0 0]
 have hS1:=hS0.alloc (.cells #[.slice A n c,.pointer (some ⟨w.heap.size,0,none⟩),.int .i64 q,.int .i64 size,.map (some ub),.int .i64 0,.map none,.slice none 0 0] 157)
 rw [World.size_alloc] at hX0
 rw [hub] at hmk hS1 hs0 hglt hB1 hX0
 have HP:=Lib.hid hP
 have HG:=Lib.hid hG
 have HB0:=Lib.hid hB0
 have HUB:=Lib.hid hub
 have HH:=Lib.hid h
 have HLS:=Lib.hid hls
 clear hS0 hP hG hB0 hub h hls
 go_upto_region 2 with fail
 clear hmk
 generalize (wa.alloc (.map #[] 0)).alloc (.cells #[.slice A n c,.pointer (some ⟨w.heap.size,0,none⟩),.int .i64 q,.int .i64 size,.map (some ub),.int .i64 0,.map none,.slice none 0 0] 157) = wb at *
 rw [HUB.out]
 go_wp2_with fail
 go_loopw [24] (fun iv wr => ∃ k:Nat,iv = .int .i64 k ∧ k ≤ ns ∧ Below ub wa wr ∧ SetW wr ub k (fun y => (sh.take k).contains y) ∧ Blok wr (ub + 1) 157 #[.slice A n c,.pointer (some ⟨w.heap.size,0,none⟩),.int .i64 q,.int .i64 size,.map (some ub),.int .i64 0,.map none,.slice none 0 0]) (fun iv _ => ns - (intOf iv).toNat)
 case atStart => exact ⟨0,rfl,by omega,hB1,hS1.congr (fun y _ => by simp),hX0⟩
 case round =>
  clear hB1 hS1 hX0 wb
  obtain ⟨k,rfl,hk,hB,hS,hX⟩:=hrel
  by_cases hkn:k < ns
  ·have hBW:Below w.heap.size w wr:=HB0.out.trans (hB.mono hs0)
   obtain ⟨ad,rfl,hab,c0⟩:=(HLS.out.up hBW).lst.atI HDS.out hkn
   have hw:=HWF.out k hkn
   have hks:k < sh.length:=by rw [HDS.out]; exact hkn
   have htk:sh.take (k + 1) = sh.take k ++ [sh.getD k 0]:=by
    rw [List.take_succ_eq_append_getElem hks,List.getD_eq_getElem?_getD,List.getElem?_eq_getElem hks]; rfl
   obtain ⟨x,hx⟩:∃ x,sh.getD k 0 = x:=⟨_,rfl⟩
   rw [hx] at c0 hw htk
   have HTK:=Lib.hid htk
   have x4:wr.cell? ⟨ub + 1,4,none⟩ = some (.map (some ub)):=hX.cell 4
   have lt_x:=hX.lt
   obtain ⟨w5,hput,hS5,hg5⟩:=hS.put (by unfold maxLen; omega) hw true
   have hX5:=hX.grown hg5 (fun e => by injection e with e; omega)
   have hB5:Below ub wa w5:=hB.grown hg5 (by have:=hB.size; have:=HUB.out; omega) (fun j hj => by injection hj with hj; omega)
   have hS6:SetW w5 ub (k + 1) (fun y => (sh.take (k + 1)).contains y):=hS5.congr (fun y _ => by
    show (if y = x then true else (sh.take k).contains y) = (sh.take (k + 1)).contains y
    rw [HTK.out,contains_snoc]
    by_cases e:y = x
    ·rw [if_pos e,beq_iff_eq.2 e,Bool.or_true]
    ·rw [if_neg e,beq_eq_false_iff_ne.2 e,Bool.or_false])
   have HS6:=Lib.hid hS6
   have HX5:=Lib.hid hX5
   have HB5:=Lib.hid hB5
   clear hS5 hS6 hg5 hX5 hB5 hBW hx htk hks hS hX hB
   go_wp2_with fail
   go_roundw
   case rel => exact ⟨k + 1,by go_num,by omega,HB5.out,HS6.out,HX5.out⟩
   case measure => simp [intOf]; omega
  ·obtain rfl:k = ns:=by omega
   have htk:sh.take k = sh:=List.take_of_length_le (by rw [HDS.out]; exact Nat.le_refl _)
   rw [htk] at hS
   have hub:=HUB.out
   have hsz:=hB.size
   have hxlt:=hX.lt
   have HDC:Hid (DC w wr (ub + 1) w.heap.size ub A n c l ct sh):=by
    have hup:∀ w',Below (ub + 1) wr w' → Below ub wa w':=fun w' hb => hB.trans (hb.mono (by omega))
    refine ⟨fun w' hb => ⟨HP.out.below (by rw [hub]; exact hup w' hb),HG.out.below (hup w' hb) hglt⟩,fun w' hb => HH.out.up (HB0.out.trans ((hup w' hb).mono hs0)),fun w' hb => ⟨k,?_⟩,fun w' hb => HB0.out.trans ((hup w' hb).mono hs0)⟩
    obtain ⟨D,⟨es,clock,g1,g2⟩,g3⟩:=hS
    exact ⟨D,⟨es,clock,(hb.block ub (by omega)).trans g1,g2⟩,g3⟩
   obtain ⟨sb,hsb⟩:∃ x,wr.heap.size = x:=⟨_,rfl⟩
   have hmk:=run_makeMap0 (P:=Tryz.prog) 155 3 160 Tryz.underlying155 wr
   have hM0:=(MapV.made wr 3).alloc (.cells #[.int .i64 0,.int .i64 b] (159:Nat))
   have hR0:=own_lit (wr.alloc (.map #[] 0)) (ub + 2) 159 2 1 #[.int .i64 0,.int .i64 b] (by simp; omega) rfl (by unfold maxLen; omega)
   have hX1:Blok ((wr.alloc (.map #[] 0)).alloc (.cells #[.int .i64 0,.int .i64 b] 159)) (ub + 1) 157 #[.slice A n c,.pointer (some ⟨w.heap.size,0,none⟩),.int .i64 q,.int .i64 size,.map (some ub),.int .i64 0,.map none,.slice none 0 0]:=(hX.alloc _).alloc _
   have hBl:Below (ub + 1) wr ((wr.alloc (.map #[] 0)).alloc (.cells #[.int .i64 0,.int .i64 b] 159)):=by (repeat (first | exact Below.refl _ _ | refine Below.alloc ?_ (by first | omega | (simp; done) | (simp; omega)) _ | refine Below.setCell ?_ (by first | omega | (simp; done) | (simp; omega)) _ | refine Below.drew ?_))
   rw [World.size_alloc] at hR0
   rw [hsb] at hmk hM0 hR0 hxlt
   obtain ⟨w5,hput,hM5,hg5⟩:=MapV.put hM0 keyedV Tryz.underlying155 (by unfold maxLen; omega) (keyI q hqw) (isKeyI q) (.slice (some ⟨wr.heap.size + 1,0,none⟩) 1 1)
   rw [hsb] at hM5
   have hs5:=hg5.size
   simp only [World.size_alloc] at hs5
   rw [hsb] at hs5
   have hX5:=hX1.grown hg5 (fun e => by injection e with e; omega)
   have hR5:=hR0.kept hg5 (.inr (by simp [Value.ownBlock]))
   have hBl5:Below (ub + 1) wr w5:=hBl.grown hg5 (by simp; omega) (fun j hj => by injection hj with hj; omega)
   have hsm:=SM.start hM5 hR5 (by omega) (by omega)
   have x6:w5.cell? ⟨ub + 1,6,none⟩ = some (.map none):=hX5.cell 6
   have f6:=hX5.free 6
   have lt5:=hX5.lt
   have HX5:=Lib.hid hX5
   have HSM:=Lib.hid hsm
   have HBL:=Lib.hid hBl5
   have HSB:=Lib.hid hsb
   clear hS htk hM0 hR0 hX1 hBl hM5 hg5 hX5 hR5 hBl5 hsm hsb hX hB hub hsz
   go_upto_region 8 with fail
   try rw [HSB.out]
   clear hmk hput x6 f6
   have hX6:=HX5.out.set_ 6 (.map (some sb))
   have hsm6:=HSM.out.keptS (Kept.set (Kept.refl (fun k => k = ub + 1) w5) (fun _ => rfl) 6 (.map (some sb))) (by omega) (fun x k hk e => by have:=((HSM.out.row x).lt k hk).1; omega)
   have hBl6:Below (ub + 1) wr (w5.setCell ⟨ub + 1,6,none⟩ (.map (some sb))):=HBL.out.setCell (by simp) _
   have lt6:ub + 1 < (w5.setCell ⟨ub + 1,6,none⟩ (.map (some sb))).heap.size:=by simpa using lt5
   clear HX5 HSM HBL lt5
   generalize w5.setCell ⟨ub + 1,6,none⟩ (.map (some sb)) = w6 at *
   have x7:w6.cell? ⟨ub + 1,7,none⟩ = some (.slice none 0 0):=hX6.cell 7
   have f7:=hX6.free 7
   have hfs:∀ x,(updC (fun _ => Value.slice none 0 0) q (Value.slice (some ⟨sb + 1,0,none⟩) 1 1) x).ownBlock ≠ some w6.heap.size:=fun x e => by have:=((hsm6.row x).lt _ e).2; omega
   have hfm:sb ≠ w6.heap.size:=by have:=MapV.lt hsm6.map; omega
   have hX7:=hX6.set_ 7 (.slice (some ⟨w6.heap.size,0,none⟩) 1 1)
   have hsm7:=hsm6.keptS (Kept.set (Kept.refl (fun k => k = ub + 1) w6) (fun _ => rfl) 7 (.slice (some ⟨w6.heap.size,0,none⟩) 1 1)) (by omega) (fun x k hk e => by have:=((hsm6.row x).lt k hk).1; omega)
   have hbl7:=hBl6.setCell (p:=⟨ub + 1,7,none⟩) (by simp) (.slice (some ⟨w6.heap.size,0,none⟩) 1 1)
   have hsz7:(w6.setCell ⟨ub + 1,7,none⟩ (.slice (some ⟨w6.heap.size,0,none⟩) 1 1)).heap.size = w6.heap.size:=by simp
   have hR:=own_lit (w6.setCell ⟨ub + 1,7,none⟩ (.slice (some ⟨w6.heap.size,0,none⟩) 1 1)) (ub + 2) 3 1 1 #[.int .i64 q] (by omega) rfl (by unfold maxLen; omega)
   rw [hsz7] at hR
   have hb7:Below (w6.setCell ⟨ub + 1,7,none⟩ (.slice (some ⟨w6.heap.size,0,none⟩) 1 1)).heap.size (w6.setCell ⟨ub + 1,7,none⟩ (.slice (some ⟨w6.heap.size,0,none⟩) 1 1)) ((w6.setCell ⟨ub + 1,7,none⟩ (.slice (some ⟨w6.heap.size,0,none⟩) 1 1)).alloc (.cells #[.int .i64 q] 3)):=(Below.refl _ _).alloc (Nat.le_refl _) _
   have HX7:=Lib.hid (hX7.below hb7 hX7.lt)
   have HS7:=Lib.hid (hsm7.below hb7)
   have HR7:=Lib.hid hR
   have HB7:=Lib.hid (hbl7.trans (hb7.mono (by omega)))
   have HFS:=Lib.hid hfs
   have HFM:=Lib.hid hfm
   have hwle:w.heap.size ≤ ub + 1:=by omega
   clear hX6 hsm6 hBl6 hR hb7 hX7 hsm7 hbl7 hfs hfm hk hkn hs5 hxlt hs0 hglt hsz7
   go_wp2_with fail
   go_ret
   refine ⟨ub + 1,rfl,hwle,wr,w.heap.size,ub,sb,1,ct,_,_,.slice (some ⟨w6.heap.size,0,none⟩) 1 1,[q],HDC.out,⟨HX7.out,HS7.out,HR7.out,fun x => .inr (fun e => HFS.out x e.symm),fun e => by injection e with e; exact HFM.out e.symm,HB7.out⟩,steps_zero q b,Cov.start,(fun x hx => by rw [List.mem_singleton.1 hx]; exact hq),(fun x hx => by rw [List.mem_singleton.1 hx,lateL_end]; rfl),by simp,fun x => ?_,by omega⟩
   by_cases e:x = q
   ·subst e; rw [updP_same]; simp
   ·rw [updP_ne _ _ e]; simp
def bestV (o:Option (List Hp × Int)):Int:=match o with | none => 0 | some p => p.2
def bestH (o:Option (List Hp × Int)):List Hp:=match o with | none => [] | some p => p.1
set_option maxHeartbeats 8000000 in
set_option maxRecDepth 100000 in
theorem lroute_any (A:Option Addr) (n c:Nat) (l:List Ed) (f q now size by_:Int) (As:Option Addr) (ns cs:Nat) (sh:List Int) (w:World) (hd:l.length = n) (hn:n ≤ 1000) (hds:sh.length = ns) (hns:ns ≤ 100000) (hwf:∀ k,k < ns → (Lit.int .i64 (sh.getD k 0)).wf = true) (hle:Sl w w.heap.size 8 A n c (flatEd l)) (hls:Sl w w.heap.size 1 As ns cs (sh.map (Value.int .i64))) :
  Calls Tryz.prog 33 #[.slice A n c,.int .i64 f,.int .i64 q,.int .i64 now,.int .i64 size,.int .i64 by_,.slice As ns cs] w fun e w' => ∃ v o,IsBestR l f q now size by_ sh o ∧ e = .returned (.tuple #[.agg #[v,.int .i64 (bestV o)],.bool o.isSome]) ∧ w'.ownsRow w.heap.size 67 3 v (bestH o).length (flatHp (bestH o)) ∧ Below w.heap.size w w':=by
 have HD:=Lib.hid hd
 have HDS:=Lib.hid hds
 have HWF:=Lib.hid hwf
 have HLE:=Lib.hid (fun w' (hb:Below w.heap.size w w') => hle.up hb)
 have HLS:=Lib.hid (fun w' (hb:Below w.heap.size w w') => hls.up hb)
 have hB:Below w.heap.size w (w.alloc (.cells #[.slice none 0 0,.int .i64 0] 31)):=(Below.refl _ _).alloc (Nat.le_refl _) _
 have hX:=Blok.new w 31 #[.slice none 0 0,.int .i64 0]
 have hws:w.heap.size ≤ (w.alloc (.cells #[.slice none 0 0,.int .i64 0] 31)).heap.size:=hB.size
 clear hd hds hwf hle hls
 go_enter Tryz.func33,Tryz.ntmps33
 go_upto_region 1 with fail
 generalize w.alloc (.cells #[.slice none 0 0,.int .i64 0] 31) = w1 at *
 obtain ⟨xb,hxb⟩:∃ z,w.heap.size = z:=⟨_,rfl⟩
 have HXB:Hid (w.heap.size ≤ xb):=Nat.le_of_eq hxb
 rw [hxb] at hX
 try rw [hxb]
 clear hxb
 have HBX:=Lib.hid hB
 have HXX:=Lib.hid hX
 clear hX hB
 go_wp2_with fail
 refine (etimes_any A n c l f now size As ns cs sh w1 HD.out hn HDS.out hns HWF.out (HLE.out _ HBX.out) (HLS.out _ HBX.out)).mono ?_
 rintro e w2 ⟨A',n',c',r,rfl,hr,hn',hT,hs,hb⟩
 have HR:=Lib.hid hr
 have HT:=Lib.hid hT
 have hX2:=HXX.out.below hb HXX.out.lt
 have hB2:=HBX.out.trans (hb.mono HBX.out.size)
 have HX2:=Lib.hid hX2
 have HB2:=Lib.hid hB2
 clear hr hT hX2 hB2
 obtain ⟨u,hu⟩:∃ u,(atR r q).getD 0 = u:=⟨_,rfl⟩
 obtain ⟨ok,hok⟩:∃ u,(atR r q).isSome = u:=⟨_,rfl⟩
 have HU:=Lib.hid hu
 have HO:=Lib.hid hok
 clear hu hok
 go_wp2_with fail
 refine (eat_any A' n' c' r q w2 HR.out (by omega) hs u ok HU.out HO.out).mono ?_
 rintro e w3 ⟨rfl,hb3⟩
 have hX3:=HX2.out.below hb3 HX2.out.lt
 have hB3:=HB2.out.trans (hb3.mono HB2.out.size)
 have hws3:=hB3.size
 have HX3:=Lib.hid hX3
 have HB3:=Lib.hid hB3
 clear hb hb3 hs hX3 hB3
 have hco:ok = false ∨ (ok = true ∧ by_ < u) ∨ (ok = true ∧ ¬ by_ < u):=by cases ok with | false => exact .inl rfl | true => by_cases h:by_ < u <;> simp [h]
 rcases hco with rfl | ⟨rfl,hlt⟩ | ⟨rfl,hnl⟩
 ·have hbest:IsBestR l f q now size by_ sh none:=⟨r,HT.out,by
   have h:=HO.out
   cases hq:atR r q with
   | none => rfl
   | some a => rw [hq] at h; cases h⟩
  have HBEST:=Lib.hid hbest
  clear hbest
  have r0:w3.cell? ⟨xb,0,none⟩ = some (.slice none 0 0):=HX3.out.cell 0
  have f_0:=HX3.out.free 0
  have r1:w3.cell? ⟨xb,1,none⟩ = some (.int .i64 0):=HX3.out.cell 1
  have f_1:=HX3.out.free 1
  have lt_x:=HX3.out.lt
  go_wp2_with fail
  have hX:=HX3.out
  have hB:=HB3.out
  have hws:=HXB.out
  clear r0 r1
  have hF:Blok ((w3.setCell ⟨xb,0,none⟩ (.slice none 0 0)).setCell ⟨xb,1,none⟩ (.int .i64 0)) xb 31 #[.slice none 0 0,.int .i64 0]:=by have h:=((hX.set_ 0 (.slice none 0 0)).set_ 1 (.int .i64 0)); simpa using h
  have hle0:w.heap.size ≤ xb:=by first | exact Nat.le_refl _ | omega
  have hWf:Below w.heap.size w ((w3.setCell ⟨xb,0,none⟩ (.slice none 0 0)).setCell ⟨xb,1,none⟩ (.int .i64 0)):=((hB.setCell (p:=⟨xb,0,none⟩) hle0 (.slice none 0 0)).setCell (p:=⟨xb,1,none⟩) hle0 (.int .i64 0))
  have hlF:=hF.lt
  have hgw:w3.grownBy ((w3.setCell ⟨xb,0,none⟩ (.slice none 0 0)).setCell ⟨xb,1,none⟩ (.int .i64 0)) (some xb):=grown_trans (grown_set _ _ _) (grown_set _ _ _)
  generalize ((w3.setCell ⟨xb,0,none⟩ (.slice none 0 0)).setCell ⟨xb,1,none⟩ (.int .i64 0)) = wf at *
  have r0:wf.cell? ⟨xb,0,none⟩ = some (.slice none 0 0):=hF.cell 0
  have r1:wf.cell? ⟨xb,1,none⟩ = some (.int .i64 0):=hF.cell 1
  refine bodyPost_ret (v:=.tuple #[.agg #[.slice none 0 0,.int .i64 0],.bool false]) (by simp [results,Tryz.results33,go_sem,r0,r1,hlF]) rfl ?_
  exact ⟨_,none,HBEST.out,rfl,World.ownsRow_nil _ _ _ _,hWf⟩
 ·have hbest:IsBestR l f q now size by_ sh none:=⟨r,HT.out,by
   have h:=HO.out
   have h2:=HU.out
   cases hq:atR r q with
   | none => rfl
   | some a =>
    rw [hq] at h2
    have h3:a = u:=h2
    show if by_ < a then _ else _
    rw [if_pos (by omega)]⟩
  have HBEST:=Lib.hid hbest
  have g0:decide (by_ < u) = true:=decide_eq_true hlt
  have g1:decide (u > by_) = true:=decide_eq_true hlt
  clear hbest
  have r0:w3.cell? ⟨xb,0,none⟩ = some (.slice none 0 0):=HX3.out.cell 0
  have f_0:=HX3.out.free 0
  have r1:w3.cell? ⟨xb,1,none⟩ = some (.int .i64 0):=HX3.out.cell 1
  have f_1:=HX3.out.free 1
  have lt_x:=HX3.out.lt
  go_wp2_with fail
  have hX:=HX3.out
  have hB:=HB3.out
  have hws:=HXB.out
  clear r0 r1
  have hF:Blok ((w3.setCell ⟨xb,0,none⟩ (.slice none 0 0)).setCell ⟨xb,1,none⟩ (.int .i64 0)) xb 31 #[.slice none 0 0,.int .i64 0]:=by have h:=((hX.set_ 0 (.slice none 0 0)).set_ 1 (.int .i64 0)); simpa using h
  have hle0:w.heap.size ≤ xb:=by first | exact Nat.le_refl _ | omega
  have hWf:Below w.heap.size w ((w3.setCell ⟨xb,0,none⟩ (.slice none 0 0)).setCell ⟨xb,1,none⟩ (.int .i64 0)):=((hB.setCell (p:=⟨xb,0,none⟩) hle0 (.slice none 0 0)).setCell (p:=⟨xb,1,none⟩) hle0 (.int .i64 0))
  have hlF:=hF.lt
  have hgw:w3.grownBy ((w3.setCell ⟨xb,0,none⟩ (.slice none 0 0)).setCell ⟨xb,1,none⟩ (.int .i64 0)) (some xb):=grown_trans (grown_set _ _ _) (grown_set _ _ _)
  generalize ((w3.setCell ⟨xb,0,none⟩ (.slice none 0 0)).setCell ⟨xb,1,none⟩ (.int .i64 0)) = wf at *
  have r0:wf.cell? ⟨xb,0,none⟩ = some (.slice none 0 0):=hF.cell 0
  have r1:wf.cell? ⟨xb,1,none⟩ = some (.int .i64 0):=hF.cell 1
  refine bodyPost_ret (v:=.tuple #[.agg #[.slice none 0 0,.int .i64 0],.bool false]) (by simp [results,Tryz.results33,go_sem,r0,r1,hlF]) rfl ?_
  exact ⟨_,none,HBEST.out,rfl,World.ownsRow_nil _ _ _ _,hWf⟩
 ·have hat:atR r q = some u:=by
   have h:=HO.out
   have h2:=HU.out
   cases hq:atR r q with
   | none => rw [hq] at h; cases h
   | some a => rw [hq] at h2; exact congrArg some h2
  have HAT:=Lib.hid hat
  obtain ⟨hask,hq,hge,hu40⟩:=HT.out.lim hat
  obtain ⟨hf,⟨hn0,hn1⟩,hsz,hre⟩:=askE_spec.1 hask
  have HRE:=Lib.hid hre
  have HOK:Hid (∀ k,k < n → (gEd l k).ok = true):=fun k hk => rightE_ok hre (gEd_mem (by have:=HD.out; omega))
  have g0:decide (by_ < u) = false:=decide_eq_false hnl
  have g1:decide (u > by_) = false:=decide_eq_false hnl
  clear hat hask hre hsz
  go_wp2_with fail
  refine (dnew_any A n c l q u size As ns cs sh w3 HD.out hn HOK.out hq HDS.out hns HWF.out (HLE.out _ HB3.out) (HLS.out _ HB3.out)).mono ?_
  rintro e w4 ⟨tb,rfl,htb,ht⟩
  have hb4:=ht.up
  have hX4:=HX3.out.below hb4 HX3.out.lt
  have hB4:=HB3.out.trans (hb4.mono HB3.out.size)
  have hG:=Blok.new w4 107 #[.pointer (some ⟨tb,0,none⟩)]
  have hb5:Below w4.heap.size w4 (w4.alloc (.cells #[.pointer (some ⟨tb,0,none⟩)] 107)):=(Below.refl _ _).alloc (Nat.le_refl _) _
  have ht5:=ht.guest hb5 (gk:=w4.heap.size) (Nat.le_refl _) (by simp)
  have hX5:=hX4.below hb5 hX4.lt
  have hB5:=hB4.trans (hb5.mono hB4.size)
  have HX5:=Lib.hid hX5
  have HB5:=Lib.hid hB5
  have HT5:=Lib.hid ht5
  clear ht ht5 hX4 hX5 hB4 hB5 hb4 hb5
  go_upto_region 5 with fail
  generalize w4.alloc (.cells #[.pointer (some ⟨tb,0,none⟩)] 107) = w5 at *
  generalize w4.heap.size = gb at *
  have c_g:w5.cell? ⟨gb,0,none⟩ = some (.pointer (some ⟨tb,0,none⟩)):=hG.cell 0
  have lt_g:=hG.lt
  obtain ⟨o,ho⟩:=few_ex l size (opn sh q) q u f now
  obtain ⟨ov,hov⟩:∃ z,((o.getD 0:Nat):Int) = z:=⟨_,rfl⟩
  obtain ⟨ob,hob⟩:∃ z,o.isSome = z:=⟨_,rfl⟩
  have HFW:=Lib.hid ho
  have HOV:=Lib.hid hov
  have HOB:=Lib.hid hob
  clear ho hov hob
  go_wp2_with fail
  refine (dfewG_any HT5.out HD.out hn HRE.out hq (by omega) hu40 f now (wfI (by omega)) o HFW.out ov ob HOV.out HOB.out).mono ?_
  rintro e w6 ⟨rfl,h',hh',hke,ht6⟩
  have hG6:Blok w6 gb 107 #[.pointer (some ⟨tb,0,none⟩)]:=ht6.eq.1.trans hG
  have hb6:=ht6.up
  have hX6:=HX3.out.below hb6 HX3.out.lt
  have hB6:=HB3.out.trans (hb6.mono HB3.out.size)
  have HX6:=Lib.hid hX6
  have HB6:=Lib.hid hB6
  have HG6:=Lib.hid hG6
  have HT6:=Lib.hid ht6.tab
  clear hG c_g lt_g ht6 hG6 hb6 hX6 hB6
  have HNB:Hid (¬ by_ < u):=by show ¬ by_ < u; omega
  cases o with
  | none =>
   have h1:ob = false:=HOB.out.symm
   subst h1
   have hbest:IsBestR l f q now size by_ sh none:=⟨r,HT.out,by
    rw [HAT.out]
    show if by_ < u then _ else _
    rw [if_neg HNB.out]
    exact ⟨none,HFW.out,rfl⟩⟩
   have HBEST:=Lib.hid hbest
   clear hbest
   have r0:w6.cell? ⟨xb,0,none⟩ = some (.slice none 0 0):=HX6.out.cell 0
   have f_0:=HX6.out.free 0
   have r1:w6.cell? ⟨xb,1,none⟩ = some (.int .i64 0):=HX6.out.cell 1
   have f_1:=HX6.out.free 1
   have lt_x:=HX6.out.lt
   go_wp2_with fail
   have hX:=HX6.out
   have hB:=HB6.out
   have hws:=HXB.out
   clear r0 r1
   have hF:Blok ((w6.setCell ⟨xb,0,none⟩ (.slice none 0 0)).setCell ⟨xb,1,none⟩ (.int .i64 0)) xb 31 #[.slice none 0 0,.int .i64 0]:=by have h:=((hX.set_ 0 (.slice none 0 0)).set_ 1 (.int .i64 0)); simpa using h
   have hle0:w.heap.size ≤ xb:=by first | exact Nat.le_refl _ | omega
   have hWf:Below w.heap.size w ((w6.setCell ⟨xb,0,none⟩ (.slice none 0 0)).setCell ⟨xb,1,none⟩ (.int .i64 0)):=((hB.setCell (p:=⟨xb,0,none⟩) hle0 (.slice none 0 0)).setCell (p:=⟨xb,1,none⟩) hle0 (.int .i64 0))
   have hlF:=hF.lt
   have hgw:w6.grownBy ((w6.setCell ⟨xb,0,none⟩ (.slice none 0 0)).setCell ⟨xb,1,none⟩ (.int .i64 0)) (some xb):=grown_trans (grown_set _ _ _) (grown_set _ _ _)
   generalize ((w6.setCell ⟨xb,0,none⟩ (.slice none 0 0)).setCell ⟨xb,1,none⟩ (.int .i64 0)) = wf at *
   have r0:wf.cell? ⟨xb,0,none⟩ = some (.slice none 0 0):=hF.cell 0
   have r1:wf.cell? ⟨xb,1,none⟩ = some (.int .i64 0):=hF.cell 1
   refine bodyPost_ret (v:=.tuple #[.agg #[.slice none 0 0,.int .i64 0],.bool false]) (by simp [results,Tryz.results33,go_sem,r0,r1,hlF]) rfl ?_
   exact ⟨_,none,HBEST.out,rfl,World.ownsRow_nil _ _ _ _,hWf⟩
  | some k =>
   have h1:ob = true:=HOB.out.symm
   have h2:ov = (k:Int):=HOV.out.symm
   have h3:h' = k:=hke k rfl
   subst h1 h2 h3
   clear hke
   go_wp2_with fail
   refine (jfrom_any A n c l w6 HD.out hn (fun k hk => (Ed.ok_spec.1 (HOK.out k hk)).2.1) (HLE.out _ HB6.out)).mono ?_
   rintro e w7 ⟨ct,rfl,hpb,hpl,hb7⟩
   have hX7:=HX6.out.below hb7 HX6.out.lt
   have hG7:=HG6.out.below hb7 HG6.out.lt
   have hT7:=HT6.out.below hb7
   have hB7:=HB6.out.trans (hb7.mono HB6.out.size)
   obtain ⟨k,hk⟩:∃ z,h' = z:=⟨_,rfl⟩
   subst hk
   have hwk:IntKind.i64.wrap ((h':Int) - 1) = (h':Int) - 1:=IntWalk.i64_in _ (by omega)
   have hR:=Blok.new w7 31 #[.slice none 0 0,.int .i64 u]
   have hb8:Below w7.heap.size w7 (w7.alloc (.cells #[.slice none 0 0,.int .i64 u] 31)):=(Below.refl _ _).alloc (Nat.le_refl _) _
   go_upto_region 11 with fail
   generalize w7.alloc (.cells #[.slice none 0 0,.int .i64 u] 31) = w8 at *
   have hLf:=Blok.new w8 3 #[.int .i64 ((h':Int) - 1)]
   have hb9:Below w8.heap.size w8 (w8.alloc (.cells #[.int .i64 ((h':Int) - 1)] 3)):=(Below.refl _ _).alloc (Nat.le_refl _) _
   go_wp2_with fail
   generalize w8.alloc (.cells #[.int .i64 ((h':Int) - 1)] 3) = w9 at *
   have hR9:=hR.below hb9 hR.lt
   have hB9:=hb8.trans (hb9.mono hb8.size)
   obtain ⟨es,uu,hes,hel,hlen,hrun,huu⟩:=bestE_is (l:=l) (size:=size) (op:=opn sh q) (q:=q) (by omega) hu40 h' (IsFew.few hn0 HFW.out)
   have hHL:w7.heap.size < w8.heap.size:=hR.lt
   have HX7:=Lib.hid (fun w' (hb:Below w7.heap.size w7 w') => hX7.below hb hX7.lt)
   have HG7:=Lib.hid (fun w' (hb:Below w7.heap.size w7 w') => hG7.below hb hG7.lt)
   have HT7:=Lib.hid (fun w' (hb:Below w7.heap.size w7 w') => hT7.below hb)
   have HB7:=Lib.hid (fun w' (hb:Below w7.heap.size w7 w') => hB7.trans (hb.mono hB7.size))
   have HP7:=Lib.hid (fun w' (hb:Below w7.heap.size w7 w') => (⟨hpb.below hb hpb.lt,hpl.below hb⟩:Blok w' w6.heap.size 162 ct.toArray ∧ Plc w' (w6.heap.size + 1) l n ct))
   have HES:=Lib.hid hes
   obtain ⟨rb,hrb⟩:∃ z,w7.heap.size = z:=⟨_,rfl⟩
   have HRB:=Lib.hid hrb
   obtain ⟨m0,hm0⟩:∃ z:Nat,f = (z:Int):=⟨f.toNat,by omega⟩
   have HM0:=Lib.hid hm0
   have h0own:w9.ownsRow (w7.heap.size + 1) 67 3 (.slice none 0 0) ([]:List Hp).length (flatHp []):=World.ownsRow_nil _ _ _ _
   clear hX7 hG7 hT7 hB7 hpb hpl hb7 hb8 hb9 hes hel hrun huu hR hwk hrb hm0
   go_loopg [22,23,24] (h' + 1) (fun g nv tv lv wr => ∃ (m j lb:Nat) (t:Int) (rs:List Ed) (H:List Hp) (v:Value),nv = .int .i64 (m:Int) ∧ tv = .int .i64 t ∧ lv = .pointer (some ⟨lb,0,none⟩) ∧ (1 ≤ m ∧ m ≤ 255) ∧ j ≤ h' ∧ g = j + 1 ∧ w7.heap.size < lb ∧ Blok wr lb 3 #[.int .i64 ((j:Int) - 1)] ∧ Blok wr w7.heap.size 31 #[v,.int .i64 u] ∧ wr.ownsRow (w7.heap.size + 1) 67 3 v H.length (flatHp H) ∧ v.ownBlock ≠ some lb ∧ H.length + j = h' ∧ Hid (bestE l size (opn sh q) q u j (m:Int) t = some rs) ∧ Hid (H ++ hopsE size t rs = hopsE size now es) ∧ Below w7.heap.size w7 wr)
   case atStart =>
    have he:=HES.out
    have hm:=HM0.out
    rw [hm] at he
    exact ⟨m0,h',w8.heap.size,now,es,[],.slice none 0 0,by rw [← hm],rfl,rfl,by omega,Nat.le_refl _,rfl,hHL,hLf,hR9,h0own,by simp [Value.ownBlock],by simp,he,rfl,hB9⟩
   case round =>
    clear hLf hR9 hB9 h0own hHL w9
    obtain ⟨m,j,lb,t,rs,H,v,rfl,rfl,rfl,hm,hj,hgj,hlb,hL,hR,hown,hvb,hHj,HBE,HHE,hB⟩:=hrel
    by_cases hj0:j = 0
    ·subst hj0
     obtain ⟨Av,cv,rfl⟩:=slice_of_own hown
     obtain ⟨nH,hnH⟩:∃ z,H.length = z:=⟨_,rfl⟩
     have HNH:=Lib.hid hnH
     rw [hnH] at hR hown
     have l0:wr.cell? ⟨lb,0,none⟩ = some (.int .i64 (-1)):=hL.cell 0
     have lt_l:=hL.lt
     have q0:wr.cell? ⟨w7.heap.size,0,none⟩ = some (.slice Av nH cv):=hR.cell 0
     have q1:wr.cell? ⟨w7.heap.size,1,none⟩ = some (.int .i64 u):=hR.cell 1
     have lt_q:=hR.lt
     have HXW:=Lib.hid (HX7.out _ hB)
     have HBW:=Lib.hid (HB7.out _ hB)
     have hrs:=best_end HBE.out
     have hH:H = hopsE size now es:=by rw [← HHE.out,hrs]; simp [hopsE]
     have hbest:IsBestR l f q now size by_ sh (some (H,u)):=⟨r,HT.out,by
      rw [HAT.out]
      show if by_ < u then _ else _
      rw [if_neg (by have:=HNB.out; omega)]
      exact ⟨some h',HFW.out,es,HES.out,by rw [hH]⟩⟩
     have HBEST:=Lib.hid hbest
     have HOWN:=Lib.hid hown
     have HXL:Hid (xb < w7.heap.size):=(HX7.out w7 (Below.refl _ _)).lt
     have r0:wr.cell? ⟨xb,0,none⟩ = some (.slice none 0 0):=HXW.out.cell 0
     have f_0:=HXW.out.free 0
     have r1:wr.cell? ⟨xb,1,none⟩ = some (.int .i64 0):=HXW.out.cell 1
     have f_1:=HXW.out.free 1
     have lt_x:=HXW.out.lt
     clear hL hR hown hrs hH hbest hnH
     go_wp2_with fail
     have hX:=HXW.out
     have hB:=HBW.out
     have hws:=HXB.out
     clear r0 r1
     have hF:Blok ((wr.setCell ⟨xb,0,none⟩ (.slice Av nH cv)).setCell ⟨xb,1,none⟩ (.int .i64 u)) xb 31 #[.slice Av nH cv,.int .i64 u]:=by have h:=((hX.set_ 0 (.slice Av nH cv)).set_ 1 (.int .i64 u)); simpa using h
     have hle0:w.heap.size ≤ xb:=by first | exact Nat.le_refl _ | omega
     have hWf:Below w.heap.size w ((wr.setCell ⟨xb,0,none⟩ (.slice Av nH cv)).setCell ⟨xb,1,none⟩ (.int .i64 u)):=((hB.setCell (p:=⟨xb,0,none⟩) hle0 (.slice Av nH cv)).setCell (p:=⟨xb,1,none⟩) hle0 (.int .i64 u))
     have hlF:=hF.lt
     have hgw:wr.grownBy ((wr.setCell ⟨xb,0,none⟩ (.slice Av nH cv)).setCell ⟨xb,1,none⟩ (.int .i64 u)) (some xb):=grown_trans (grown_set _ _ _) (grown_set _ _ _)
     generalize ((wr.setCell ⟨xb,0,none⟩ (.slice Av nH cv)).setCell ⟨xb,1,none⟩ (.int .i64 u)) = wf at *
     have r0:wf.cell? ⟨xb,0,none⟩ = some (.slice Av nH cv):=hF.cell 0
     have r1:wf.cell? ⟨xb,1,none⟩ = some (.int .i64 u):=hF.cell 1
     refine bodyPost_ret (v:=.tuple #[.agg #[.slice Av nH cv,.int .i64 u],.bool true]) (by simp [results,Tryz.results33,go_sem,r0,r1,hlF]) rfl ?_
     refine ⟨_,some (H,u),HBEST.out,rfl,?_,hWf⟩
     show wf.ownsRow w.heap.size _ 3 _ H.length (flatHp H)
     rw [HNH.out]
     have hb7:=HB7.out w7 (Below.refl _ _)
     have hs7:=hb7.size
     exact own_down (HOWN.out.kept hgw (.inr (fun e => by have:=(HOWN.out.lt xb e).1; have:=HXL.out; omega))) (by omega)
    ·obtain ⟨j',rfl⟩:∃ z,j = z + 1:=⟨j - 1,by omega⟩
     obtain ⟨x,rs',s1,a1,hfe,hxl,hpx,hrs,hbe⟩:=best_step HBE.out
     have hL':Blok wr lb 3 #[.int .i64 (j':Int)]:=by have h:=hL; simpa using h
     have l0:wr.cell? ⟨lb,0,none⟩ = some (.int .i64 (j':Int)):=hL'.cell 0
     have lt_l:=hL'.lt
     have g0:decide ((0:Int) ≤ (j':Int)) = true:=decide_eq_true (by omega)
     have hrow:=(HP7.out _ hB).2.row m (by omega)
     have hpc:=(HP7.out _ hB).1.cell m
     have hcl:=(HP7.out _ hB).2.len
     obtain ⟨vr,hvr⟩:∃ z,cellP ct m = z:=⟨_,rfl⟩
     rw [hvr] at hrow
     obtain ⟨Ar,cr,rfl⟩:=slice_of_own hrow
     obtain ⟨R,hRR⟩:∃ z,rowI l n m = z:=⟨_,rfl⟩
     have hre:=rowE_of l m
     rw [HD.out,hRR] at hre
     rw [HD.out,hRR] at hfe
     rw [hRR] at hrow hvr
     have pg:wr.cell? ⟨w6.heap.size,m,none⟩ = some (.slice Ar R.length cr):=by
      rw [hpc,← hvr]
      have:=cellP_at (cs:=ct) (n:=m) (by omega)
      simpa using this
     obtain ⟨nr,hnr⟩:∃ z,R.length = z:=⟨_,rfl⟩
     have hnr1:nr ≤ 1000:=by have:=rowI_len l n m; rw [hRR,hnr] at this; omega
     have HNR:=Lib.hid hnr
     rw [hnr] at pg hrow
     have HRO:=Lib.hid (Sl.of_own hrow)
     obtain ⟨Av,cv,rfl⟩:=slice_of_own hown
     obtain ⟨nH,hnH⟩:∃ z,H.length = z:=⟨_,rfl⟩
     have HNH:=Lib.hid hnH
     rw [hnH] at hR hown hHj hvb
     have lt_g:=(HP7.out _ hB).1.lt
     have hmI:(m:Int) < 256:=by omega
     have hm0:(0:Int) ≤ (m:Int):=by omega
     have HLB:=Lib.hid hL'
     have HRT:=Lib.hid hR
     have HOW:=Lib.hid hown
     have HBB:=Lib.hid hB
     have HPX:=Lib.hid hpx
     have HFE:=Lib.hid hfe
     have HRE2:=Lib.hid hre
     have HRS:=Lib.hid hrs
     have HBE2:=Lib.hid hbe
     have HXT:Hid (1 ≤ x.tn ∧ x.tn ≤ 255):=(Ed.ok_spec.1 (pass_facts hpx).1).2.2.1
     have HVB:=Lib.hid hvb
     have hw7r:=hB.size
     have hrlt:=hR.lt
     clear hL hL' hR hown hB hpx hfe hre hrs hbe hrow hvr hRR hnr hpc hcl hxl hnH hvb HBE
     go_upto_region 14 with fail
     clear l0 lt_l
     have l0:wr.cell? ⟨lb,0,none⟩ = some (.int .i64 (j':Int)):=HLB.out.cell 0
     go_wp2_with fail
     refine (step_any (HT7.out _ HBB.out) (by omega) j' (by omega) (HG7.out _ HBB.out) HLB.out Ar nr cr R (m:Int) t HD.out HOK.out HRE2.out HNR.out (by omega) (HLE.out _ (HB7.out _ HBB.out)) HRO.out (some x) HFE.out).mono ?_
     rintro e w10 ⟨he,hb10⟩
     rw [stepV_some HPX.out] at he
     subst he
     have hL10:=HLB.out.below hb10 HLB.out.lt
     have hR10:=HRT.out.below hb10 HRT.out.lt
     have hown10:=own_belowJ HOW.out hb10
     have hB10:=HBB.out.trans (hb10.mono HBB.out.size)
     have hX10:=Blok.new w10 67 #[.int .i64 x.id,.int .i64 s1,.int .i64 a1]
     have hbA:Below w10.heap.size w10 (w10.alloc (.cells #[.int .i64 x.id,.int .i64 s1,.int .i64 a1] 67)):=(Below.refl _ _).alloc (Nat.le_refl _) _
     have hL11:=hL10.below hbA hL10.lt
     have hR11:=hR10.below hbA hR10.lt
     have hown11:=own_belowJ hown10 hbA
     have hB11:=hB10.trans (hbA.mono hB10.size)
     have HQB:Hid (∀ q,(Value.slice Av nH cv).ownBlock = some q → q < w10.heap.size):=fun q hq => (hown10.lt q hq).2
     have hlt1:w7.heap.size < w10.heap.size:=hR10.lt
     have hlt2:lb < w10.heap.size:=hL10.lt
     clear pg lt_g l0 hL10 hR10 hown10 hB10 hbA hb10
     go_upto_region 15 with fail
     generalize w10.alloc (.cells #[.int .i64 x.id,.int .i64 s1,.int .i64 a1] 67) = w11 at *
     generalize w10.heap.size = hpb at *
     clear w10
     have x0:w11.cell? ⟨hpb,0,none⟩ = some (.int .i64 x.id):=hX10.cell 0
     have x1:w11.cell? ⟨hpb,1,none⟩ = some (.int .i64 s1):=hX10.cell 1
     have x2:w11.cell? ⟨hpb,2,none⟩ = some (.int .i64 a1):=hX10.cell 2
     have lt_x:=hX10.lt
     have q0:w11.cell? ⟨w7.heap.size,0,none⟩ = some (.slice Av nH cv):=hR11.cell 0
     have lt_q:=hR11.lt
     have HX10:=Lib.hid hX10
     have HR11:=Lib.hid hR11
     have HL11:=Lib.hid hL11
     have HO11:=Lib.hid hown11
     have HB11:=Lib.hid hB11
     have hlit:=Sl.of_own (own_lit w11 0 67 3 1 #[.int .i64 x.id,.int .i64 s1,.int .i64 a1] (Nat.zero_le _) rfl (by unfold maxLen; omega))
     obtain ⟨i0,hi0,hz0,hz1,hz2⟩:=info_parts infoHp
     clear hX10 hR11 hL11 hown11 hB11
     go_upto_region 18 with (at_builtin; refine wpList_append_lst _ rfl (.tmp 93) (.tmp 95) 29 rfl (w7.heap.size + 1) 67 i0 _ 3 24 Tryz.underlying29 hi0 hz0 hz1 hz2 rfl (by decide) (.slice Av nH cv) nH (flatHp H) rfl (HO11.out.alloc _) _ _ 1 1 [.int .i64 x.id,.int .i64 s1,.int .i64 a1] rfl hlit.lst (by simp [Value.oneCell']) (by unfold maxLen; omega) (by omega) (by simp; omega) ?_; intro v7 w13 hown7 hg7 hl7; obtain ⟨A7,q7,rfl⟩:=slice_of_own hown7; have hR13:=Blok.over HR11.out hg7 (fun e => by have:=(HO11.out.lt _ e).1; omega) (by (repeat (first | exact Below.refl _ _ | refine Below.alloc ?_ (by first | omega | (simp; done) | (simp; omega)) _ | refine Below.setCell ?_ (by first | omega | (simp; done) | (simp; omega)) _ | refine Below.drew ?_))); have f_0:=hR13.free 0; have y0:w13.cell? ⟨w7.heap.size,0,none⟩ = some (.slice Av nH cv):=hR13.cell 0; have lt_y:=hR13.lt; have HR13:=Lib.hid hR13; have HO7:=Lib.hid hown7; have HG7':=Lib.hid hg7; clear hR13 hown7 hg7 hl7)
     have hbw:Below w11.heap.size w11 (w11.alloc (.cells #[.int .i64 x.id,.int .i64 s1,.int .i64 a1] 67)):=(Below.refl _ _).alloc (Nat.le_refl _) _
     have hX13:=Blok.over HX10.out HG7'.out (fun e => by have:=HQB.out _ e; omega) hbw
     have hL13:=Blok.over HL11.out HG7'.out (fun e => HVB.out e) hbw
     have hB13:Below w7.heap.size w7 w13:=(HB11.out.trans (hbw.mono HB11.out.size)).grown HG7'.out (Nat.le_trans HB11.out.size hbw.size) (fun g hg => by have:=(HO11.out.lt _ hg).1; omega)
     have hR14:Blok (w13.setCell ⟨w7.heap.size,0,none⟩ (.slice A7 (nH + 1) q7)) w7.heap.size 31 #[.slice A7 (nH + 1) q7,.int .i64 u]:=by have h:=HR13.out.set_ 0 (.slice A7 (nH + 1) q7); simpa using h
     have hX14:=hX13.far (p:=⟨w7.heap.size,0,none⟩) (by show hpb ≠ w7.heap.size; omega) (.slice A7 (nH + 1) q7)
     have hL14:=hL13.far (p:=⟨w7.heap.size,0,none⟩) (by show lb ≠ w7.heap.size; omega) (.slice A7 (nH + 1) q7)
     have hB14:=hB13.setCell (p:=⟨w7.heap.size,0,none⟩) (Nat.le_refl _) (.slice A7 (nH + 1) q7)
     have hown14:=HO7.out.kept (grown_set (g:=w7.heap.size) w13 0 (.slice A7 (nH + 1) q7)) (.inr (fun e => by have:=(HO7.out.lt _ e).1; omega))
     clear hX13 hL13 hB13 HR13 HO7 HG7' hbw y0 lt_y f_0 hlit q0 lt_q x0 x1 x2 lt_x HX10 HR11 HL11 HO11 HB11
     generalize w13.setCell ⟨w7.heap.size,0,none⟩ (.slice A7 (nH + 1) q7) = w14 at *
     have x2:w14.cell? ⟨hpb,2,none⟩ = some (.int .i64 a1):=hX14.cell 2
     have lt_x:=hX14.lt
     go_region
     have hR14:=hR14.below (Below.refl _ _).drew hR14.lt
     have hL14:=hL14.below (Below.refl _ _).drew hL14.lt
     have hown14:=own_belowJ hown14 (Below.refl _ _).drew
     have hB14:=hB14.drew
     clear x2 lt_x hX14
     generalize w14.drew = w15 at *
     have l0:w15.cell? ⟨lb,0,none⟩ = some (.int .i64 (j':Int)):=hL14.cell 0
     have lt_l:=hL14.lt
     have hN16:=Blok.new w15 3 #[.int .i64 (j':Int)]
     have hbC:Below w15.heap.size w15 (w15.alloc (.cells #[.int .i64 (j':Int)] 3)):=(Below.refl _ _).alloc (Nat.le_refl _) _
     have hR16:=hR14.below hbC hR14.lt
     have hown16:=own_belowJ hown14 hbC
     have hB16:=hB14.trans (hbC.mono hB14.size)
     have HO14:Hid (∀ q,(Value.slice A7 (nH + 1) q7).ownBlock = some q → q < w15.heap.size):=fun q hq => (hown14.lt q hq).2
     have hltN:w7.heap.size < w15.heap.size:=hR14.lt
     clear hR14 hL14 hown14 hB14 hbC
     go_upto_region 13 with fail
     generalize w15.alloc (.cells #[.int .i64 (j':Int)] 3) = w16 at *
     generalize w15.heap.size = nb at *
     clear l0 lt_l
     have l0:w16.cell? ⟨nb,0,none⟩ = some (.int .i64 (j':Int)):=hN16.cell 0
     have f_0:=hN16.free 0
     have lt_n:=hN16.lt
     have hwr:IntKind.i64.wrap ((j':Int) - 1) = (j':Int) - 1:=IntWalk.i64_in _ (by omega)
     have hN17:Blok (w16.setCell ⟨nb,0,none⟩ (.int .i64 ((j':Int) - 1))) nb 3 #[.int .i64 ((j':Int) - 1)]:=by have h:=hN16.set_ 0 (.int .i64 ((j':Int) - 1)); simpa using h
     have hR17:=hR16.far (p:=⟨nb,0,none⟩) (by show w7.heap.size ≠ nb; omega) (.int .i64 ((j':Int) - 1))
     have hB17:=hB16.setCell (p:=⟨nb,0,none⟩) (Nat.le_of_lt hltN) (.int .i64 ((j':Int) - 1))
     have hown17:=hown16.kept (grown_set (g:=nb) w16 0 (.int .i64 ((j':Int) - 1))) (.inr (fun e => by have:=HO14.out _ e; omega))
     have HN17:=Lib.hid hN17
     have HR17:=Lib.hid hR17
     have HB17:=Lib.hid hB17
     have HO17:=Lib.hid hown17
     clear hN16 hR16 hB16 hown16 hN17 hR17 hB17 hown17
     go_wp2_with fail
     go_roundg (j' + 1)
     case measure => omega
     case rel =>
      have hxt:=HXT.out
      have ht:((x.tn.toNat:Nat):Int) = x.tn:=Int.toNat_of_nonneg (by omega)
      have hh:=HHE.out
      rw [HRS.out,hopsE_cons HPX.out] at hh
      refine ⟨x.tn.toNat,j',nb,a1,rs',H ++ [⟨x.id,s1,a1⟩],.slice A7 (nH + 1) q7,by rw [ht],rfl,rfl,by omega,by omega,by omega,hltN,HN17.out,HR17.out,?_,fun e => by have:=HO14.out _ e; omega,by rw [List.length_append,HNH.out]; simp; omega,?_,?_,HB17.out⟩
      ·rw [flatHp_append,flatHp_one_,List.length_append,HNH.out]
       exact HO17.out
      ·show bestE _ _ _ _ _ _ _ _ = _
       rw [ht]
       exact HBE2.out
      ·show _ ++ _ = _
       rw [← hh]; simp
end Go.Proofs.YtodcoockhkghdaaGreat
