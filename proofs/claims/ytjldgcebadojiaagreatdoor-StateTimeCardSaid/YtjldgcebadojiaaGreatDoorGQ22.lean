/- Several texts of mine in one: Tx3, Tx2, TxMath, TyFt, St8. No condition. -/
import Derived.Test.YtjldgcebadojiaaGreatDoorGQ20
import Derived.Test.YtjldgcebadojiaaGreatDoorGQ21
import Derived.Test.YtjldgcebadojiaaGreatDoorChecked
import Derived.Test.YtjldgcebadojiaaGreatDoorGQ8
import Derived.Test.YtjldgcebadojiaaGreatDoorGQ26
namespace Go.Proofs.YtjldgcebadojiaaGreatDoor
open Go.ChangeShapes Go.WideShapes Go.ChangeAt Go.RowKit Go.Sort
set_option linter.unusedSimpArgs false
set_option linter.unusedVariables false
theorem flatDr_one_ (y:Dr):flatDr [y] = [.int .i64 y.op,.int .i64 y.kd,.int .i64 y.id,.int .i64 y.fr,.int .i64 y.tn,.int .i64 y.st,.int .i64 y.en,.int .i64 y.rt,.int .i64 y.rf,.int .i64 y.rn,.int .i64 y.rs,.int .i64 y.re,.int .i64 y.ro]:=rfl
set_option maxHeartbeats 8000000 in
set_option maxRecDepth 100000 in
theorem tparse_any (s0:ByteArray) (rows:List Bytes) (n:Nat) (hr:linesL s0.data.toList = rows) (hn:rows.length = n) (w:World) (hm:MaxAt w) (hs:s0.data.toList.length ≤ 50000) (ds:List Dr) (ln cd:Int) (hz:textF rows 1 = (ds,ln,cd)) :
  Calls Tryz.prog 25 #[.string s0] w fun e w' => ∃ v,e = .returned (.tuple #[v,.agg #[.int .i64 ln,.int .i64 cd]]) ∧ w'.ownsRow w.heap.size 38 13 v ds.length (flatDr ds) ∧ Below w.heap.size w w':=by
 obtain ⟨i0,hi0,hz0,hz1,hz2⟩:=info_parts infoDr
 have hnb:n ≤ 50001:=by rw [← hn,← hr]; have:=lines_len s0.data.toList; omega
 have HSZ:=Lib.hid (fun x (hx:x ∈ rows) => Nat.le_trans (lines_mem (s:=s0.data.toList) (by rw [hr]; exact hx)) hs)
 have HN:=Lib.hid hn
 have HR:=Lib.hid hr
 have HS:=Lib.hid hs
 have HZ:=Lib.hid hz
 clear hn hr hs hz
 have hX:=Blok.new w 45 #[.int .i64 0,.int .i64 0]
 have hB0:Below w.heap.size w (w.alloc (.cells #[.int .i64 0,.int .i64 0] 45)):=by (repeat (first | exact Below.refl _ _ | refine Below.alloc ?_ (by first | omega | (simp; done) | (simp; omega)) _ | refine Below.setCell ?_ (by first | omega | (simp; done) | (simp; omega)) _ | refine Below.drew ?_))
 have hm0:=hm.below hB0
 clear hm
 have hs0:=hB0.size
 go_enter Tryz.func25,Tryz.ntmps25
 go_wp2_with fail
 generalize w.alloc (.cells #[.int .i64 0,.int .i64 0] 45) = w0 at *
 refine (lines_is s0 rows n HR.out HN.out w0 hm0 (by have:=HS.out; omega)).mono ?_
 rintro e w1 ⟨A,c,rfl,hrow,hb⟩
 have hm:=hm0.below hb
 clear hm0
 have hX1:=hX.below hb hX.lt
 have hB1:=hB0.trans (hb.mono hs0)
 have hs1:=hB1.size
 have hx1:=hX1.lt
 have HL:=Lib.hid (Sl.of_own hrow)
 have HM:=Lib.hid hm
 have HX1:=Lib.hid hX1
 clear hrow hm hX hb hX1 hB0 hs0
 go_wp2
 go_loopw [4,13] (fun ev iv wr => ∃ (i m:Nat) (es:List Dr),iv = .int .i64 i ∧ i ≤ n ∧ m ≤ i ∧ Hid (es.length = m) ∧ Hid (textF rows 1 = addF es (textF (rows.drop i) ((i:Int) + 1))) ∧ wr.ownsRow w1.heap.size 38 13 ev m (flatDr es) ∧ Below w1.heap.size w1 wr) (fun _ iv _ => n - (intOf iv).toNat)
 case atStart => exact ⟨0,0,[],rfl,by omega,by omega,rfl,by simp [Hid,addF_nil],World.ownsRow_nil _ _ _ _,Below.refl _ _⟩
 case round =>
  obtain ⟨i,m,es,rfl,hi,hmi,HLN,HF,hown,hB⟩:=hrel
  have hsz:=hB.size
  obtain ⟨Ae,ce,rfl⟩:=slice_of_own hown
  by_cases hin:i < n
  ·obtain ⟨ad,rfl,hab,c0⟩:=(HL.out.below hB).lst.atS HN.out hin
   have hil:i < rows.length:=by rw [HN.out]; exact hin
   have hxs:(gS rows i).length ≤ 50000:=HSZ.out _ (by rw [gS_eq hil]; exact List.getElem_mem _)
   have HIL:=Lib.hid hil
   clear hil
   obtain ⟨x,hx⟩:∃ x,gS rows i = x:=⟨_,rfl⟩
   rw [hx] at c0 hxs
   obtain ⟨k,hk⟩:∃ k,(wordsL x).length = k:=⟨_,rfl⟩
   have HX:=Lib.hid hx
   have HK:=Lib.hid hk
   have HXS:=Lib.hid hxs
   clear hx hk hxs
   go_wp2_with fail
   clear c0
   refine (words_is (bs x) (wordsL x) k (by rw [bs_list]) HK.out wr (HM.out.below hB) (by rw [bs_list]; have:=HXS.out; omega)).mono ?_
   rintro e w2 ⟨A2,c2,rfl,hw2,hb⟩
   replace hown:=own_below hown hb
   replace hB:=hB.trans (hb.mono hsz)
   replace hsz:=hB.size
   clear hb
   by_cases hk0:k = 0
   ·subst hk0
    have HN2:Hid (textF rows 1 = addF es (textF (rows.drop (i + 1)) ((i:Int) + 1 + 1))):=by
     show _ = _
     rw [HF.out,text_blank HIL.out (by rw [HX.out]; exact HK.out)]
    clear hw2
    go_wp2_with fail
    go_roundw
    case rel => exact ⟨i + 1,m,es,by go_num,by omega,by omega,HLN,by have h:=HN2.out; simpa [Hid] using h,hown,hB⟩
    case measure => simp [intOf]; omega
   ·have hk1:((k:Int) == 0) = false:=by simp; omega
    have hkb:k ≤ 100000:=by rw [← HK.out]; have:=words_len x; have:=HXS.out; omega
    obtain ⟨z,q,hzq⟩:∃ z q,parseD (wordsL x) = (z,q):=⟨_,_,rfl⟩
    have HZQ:=Lib.hid hzq
    have hSW:=Sl.of_own hw2
    clear hzq hw2
    go_wp2_with fail
    refine (dparse_any A2 k c2 (wordsL x) w2 HK.out hkb (fun y hy => by have:=words_mem hy; have:=HXS.out; unfold maxLen; omega) hSW z q HZQ.out).mono ?_
    rintro e w3 ⟨rfl,hb⟩
    replace hown:=own_below hown hb
    replace hB:=hB.trans (hb.mono hsz)
    replace hsz:=hB.size
    clear hSW hb
    by_cases hq:q = 0
    ·subst hq
     have HN2:Hid (textF rows 1 = addF (es ++ [z]) (textF (rows.drop (i + 1)) ((i:Int) + 1 + 1))):=by
      show _ = _
      rw [HF.out,text_ok HIL.out (by rw [HX.out,HK.out]; exact hk0) (by rw [HX.out]; exact HZQ.out),addF_addF]
     go_upto_region 10 with fail
     have hZ:=Blok.new w3 38 #[.int .i64 z.op,.int .i64 z.kd,.int .i64 z.id,.int .i64 z.fr,.int .i64 z.tn,.int .i64 z.st,.int .i64 z.en,.int .i64 z.rt,.int .i64 z.rf,.int .i64 z.rn,.int .i64 z.rs,.int .i64 z.re,.int .i64 z.ro]
     have hb:Below w3.heap.size w3 (w3.alloc (.cells #[.int .i64 z.op,.int .i64 z.kd,.int .i64 z.id,.int .i64 z.fr,.int .i64 z.tn,.int .i64 z.st,.int .i64 z.en,.int .i64 z.rt,.int .i64 z.rf,.int .i64 z.rn,.int .i64 z.rs,.int .i64 z.re,.int .i64 z.ro] 38)):=by (repeat (first | exact Below.refl _ _ | refine Below.alloc ?_ (by first | omega | (simp; done) | (simp; omega)) _ | refine Below.setCell ?_ (by first | omega | (simp; done) | (simp; omega)) _ | refine Below.drew ?_))
     replace hown:=own_below hown hb
     replace hB:=hB.trans (hb.mono hsz)
     replace hsz:=hB.size
     clear hb
     generalize w3.alloc (.cells #[.int .i64 z.op,.int .i64 z.kd,.int .i64 z.id,.int .i64 z.fr,.int .i64 z.tn,.int .i64 z.st,.int .i64 z.en,.int .i64 z.rt,.int .i64 z.rf,.int .i64 z.rn,.int .i64 z.rs,.int .i64 z.re,.int .i64 z.ro] 38) = w4 at *
     generalize hbz:w3.heap.size = bz at *
     clear hbz
     have y0:w4.cell? ⟨bz,0,none⟩ = some (.int .i64 z.op):=hZ.cell 0
     have y1:w4.cell? ⟨bz,1,none⟩ = some (.int .i64 z.kd):=hZ.cell 1
     have y2:w4.cell? ⟨bz,2,none⟩ = some (.int .i64 z.id):=hZ.cell 2
     have y3:w4.cell? ⟨bz,3,none⟩ = some (.int .i64 z.fr):=hZ.cell 3
     have y4:w4.cell? ⟨bz,4,none⟩ = some (.int .i64 z.tn):=hZ.cell 4
     have y5:w4.cell? ⟨bz,5,none⟩ = some (.int .i64 z.st):=hZ.cell 5
     have y6:w4.cell? ⟨bz,6,none⟩ = some (.int .i64 z.en):=hZ.cell 6
     have y7:w4.cell? ⟨bz,7,none⟩ = some (.int .i64 z.rt):=hZ.cell 7
     have y8:w4.cell? ⟨bz,8,none⟩ = some (.int .i64 z.rf):=hZ.cell 8
     have y9:w4.cell? ⟨bz,9,none⟩ = some (.int .i64 z.rn):=hZ.cell 9
     have y10:w4.cell? ⟨bz,10,none⟩ = some (.int .i64 z.rs):=hZ.cell 10
     have y11:w4.cell? ⟨bz,11,none⟩ = some (.int .i64 z.re):=hZ.cell 11
     have y12:w4.cell? ⟨bz,12,none⟩ = some (.int .i64 z.ro):=hZ.cell 12
     have lt_y:=hZ.lt
     go_wp2_with (first | (at_builtin; refine wpList_append_own _ rfl _ _ 61 rfl w1.heap.size 38 i0 _ 13 104 Tryz.underlying61 hi0 hz0 hz1 hz2 rfl (by decide) _ _ _ rfl (hown.alloc _) ⟨w4.heap.size,0,none⟩ 1 1 [.int .i64 z.op,.int .i64 z.kd,.int .i64 z.id,.int .i64 z.fr,.int .i64 z.tn,.int .i64 z.st,.int .i64 z.en,.int .i64 z.rt,.int .i64 z.rf,.int .i64 z.rn,.int .i64 z.rs,.int .i64 z.re,.int .i64 z.ro] rfl rfl (by exact lit_cells w4 #[.int .i64 z.op,.int .i64 z.kd,.int .i64 z.id,.int .i64 z.fr,.int .i64 z.tn,.int .i64 z.st,.int .i64 z.en,.int .i64 z.rt,.int .i64 z.rf,.int .i64 z.rn,.int .i64 z.rs,.int .i64 z.re,.int .i64 z.ro] _ _ rfl) (by simp [Value.oneCell']) (by unfold maxLen; omega) (by omega) (by simp; omega) ?_; intro v' w5 hown' hgrow5 hnil5))
     have hbN:Below w1.heap.size w1 w5:=(hB.alloc hsz _).grown hgrow5 (by simp; omega) (fun q hq => (hown.lt q hq).1)
     clear hgrow5 hnil5 y0 y1 y2 y3 y4 y5 y6 y7 y8 y9 y10 y11 y12 lt_y hZ
     go_wp2_with fail
     go_roundw
     case rel => exact ⟨i + 1,m + 1,es ++ [z],by go_num,by omega,by omega,by simp [Hid,HLN.out],by have h:=HN2.out; simpa [Hid] using h,(by rw [flatDr_append,flatDr_one_]; exact hown'),hbN⟩
     case measure => simp [intOf]; omega
    ·have hqb:(q != 0) = true:=by simpa using hq
     have hf:textF rows 1 = ([],(i:Int) + 1,q):=by
      rw [HF.out,text_bad HIL.out (by rw [HX.out,HK.out]; exact hk0) (by rw [HX.out]; exact HZQ.out) hq]
      unfold addF
      rw [if_neg hq]
     rw [HZ.out] at hf
     injection hf with f1 f2
     injection f2 with f2 f3
     subst f1 f2 f3
     have hwr:IntKind.i64.wrap ((i:Int) + 1) = (i:Int) + 1:=IntWalk.i64_in _ (by omega)
     have hb:Below w3.heap.size w3 (w3.alloc (.cells #[.int .i64 z.op,.int .i64 z.kd,.int .i64 z.id,.int .i64 z.fr,.int .i64 z.tn,.int .i64 z.st,.int .i64 z.en,.int .i64 z.rt,.int .i64 z.rf,.int .i64 z.rn,.int .i64 z.rs,.int .i64 z.re,.int .i64 z.ro] 38)):=by (repeat (first | exact Below.refl _ _ | refine Below.alloc ?_ (by first | omega | (simp; done) | (simp; omega)) _ | refine Below.setCell ?_ (by first | omega | (simp; done) | (simp; omega)) _ | refine Below.drew ?_))
     replace hB:=hB.trans (hb.mono hsz)
     replace hsz:=hB.size
     have hX3:=HX1.out.below hB HX1.out.lt
     have hXlt:=hX3.lt
     have r_0:(w3.alloc (.cells #[.int .i64 z.op,.int .i64 z.kd,.int .i64 z.id,.int .i64 z.fr,.int .i64 z.tn,.int .i64 z.st,.int .i64 z.en,.int .i64 z.rt,.int .i64 z.rf,.int .i64 z.rn,.int .i64 z.rs,.int .i64 z.re,.int .i64 z.ro] 38)).cell? ⟨w.heap.size,0,none⟩ = some (.int .i64 0):=hX3.cell 0
     have r_1:(w3.alloc (.cells #[.int .i64 z.op,.int .i64 z.kd,.int .i64 z.id,.int .i64 z.fr,.int .i64 z.tn,.int .i64 z.st,.int .i64 z.en,.int .i64 z.rt,.int .i64 z.rf,.int .i64 z.rn,.int .i64 z.rs,.int .i64 z.re,.int .i64 z.ro] 38)).cell? ⟨w.heap.size,1,none⟩ = some (.int .i64 0):=hX3.cell 1
     have f_0:=hX3.free 0
     have f_1:=hX3.free 1
     have hB9:=hB1.trans (hB.mono hs1)
     clear hb
     go_wp2_with fail
     generalize w3.alloc (.cells #[.int .i64 z.op,.int .i64 z.kd,.int .i64 z.id,.int .i64 z.fr,.int .i64 z.tn,.int .i64 z.st,.int .i64 z.en,.int .i64 z.rt,.int .i64 z.rf,.int .i64 z.rn,.int .i64 z.rs,.int .i64 z.re,.int .i64 z.ro] 38) = w4 at *
     clear r_0 r_1 f_0 f_1 hXlt
     have hF:Blok ((w4.setCell ⟨w.heap.size,0,none⟩ (.int .i64 ((i:Int) + 1))).setCell ⟨w.heap.size,1,none⟩ (.int .i64 cd)) w.heap.size 45 #[.int .i64 ((i:Int) + 1),.int .i64 cd]:=by have h:=((hX3.set_ 0 (.int .i64 ((i:Int) + 1))).set_ 1 (.int .i64 cd)); simpa using h
     have hle0:w.heap.size ≤ w.heap.size:=by first | exact Nat.le_refl _ | omega
     have hWf:Below w.heap.size w ((w4.setCell ⟨w.heap.size,0,none⟩ (.int .i64 ((i:Int) + 1))).setCell ⟨w.heap.size,1,none⟩ (.int .i64 cd)):=((hB9.setCell (p:=⟨w.heap.size,0,none⟩) hle0 (.int .i64 ((i:Int) + 1))).setCell (p:=⟨w.heap.size,1,none⟩) hle0 (.int .i64 cd))
     have hlF:=hF.lt
     generalize ((w4.setCell ⟨w.heap.size,0,none⟩ (.int .i64 ((i:Int) + 1))).setCell ⟨w.heap.size,1,none⟩ (.int .i64 cd)) = wf at *
     have r0:wf.cell? ⟨w.heap.size,0,none⟩ = some (.int .i64 ((i:Int) + 1)):=hF.cell 0
     have r1:wf.cell? ⟨w.heap.size,1,none⟩ = some (.int .i64 cd):=hF.cell 1
     refine bodyPost_ret (v:=.tuple #[(.slice none 0 0),.agg #[.int .i64 ((i:Int) + 1),.int .i64 cd]]) (by simp [results,Tryz.results25,go_sem,r0,r1,hlF]) rfl ?_
     exact ⟨_,rfl,World.ownsRow_nil _ _ _ _,hWf⟩
  ·obtain rfl:n = i:=by omega
   have hf:textF rows 1 = (es,0,0):=by rw [HF.out,List.drop_eq_nil_of_le (by rw [HN.out]; omega)]; simp [textF,addF]
   rw [HZ.out] at hf
   injection hf with f1 f2
   injection f2 with f2 f3
   subst f1 f2 f3
   have hX3:=HX1.out.below hB HX1.out.lt
   have hXlt:=hX3.lt
   have r_0:wr.cell? ⟨w.heap.size,0,none⟩ = some (.int .i64 0):=hX3.cell 0
   have r_1:wr.cell? ⟨w.heap.size,1,none⟩ = some (.int .i64 0):=hX3.cell 1
   have f_0:=hX3.free 0
   have f_1:=hX3.free 1
   have hB9:=hB1.trans (hB.mono hs1)
   have hown9:=hown
   go_wp2_with fail
   clear r_0 r_1 f_0 f_1 hXlt
   have hown1:=own_low (own_low hown (grown_set (g:=w.heap.size) wr 0 (.int .i64 0)) (fun q hq => by injection hq with hq; omega)) (grown_set (g:=w.heap.size) (wr.setCell ⟨w.heap.size,0,none⟩ (.int .i64 0)) 1 (.int .i64 0)) (fun q hq => by injection hq with hq; omega)
   clear hown9
   have hF:Blok ((wr.setCell ⟨w.heap.size,0,none⟩ (.int .i64 0)).setCell ⟨w.heap.size,1,none⟩ (.int .i64 0)) w.heap.size 45 #[.int .i64 0,.int .i64 0]:=by have h:=((hX3.set_ 0 (.int .i64 0)).set_ 1 (.int .i64 0)); simpa using h
   have hle0:w.heap.size ≤ w.heap.size:=by first | exact Nat.le_refl _ | omega
   have hWf:Below w.heap.size w ((wr.setCell ⟨w.heap.size,0,none⟩ (.int .i64 0)).setCell ⟨w.heap.size,1,none⟩ (.int .i64 0)):=((hB9.setCell (p:=⟨w.heap.size,0,none⟩) hle0 (.int .i64 0)).setCell (p:=⟨w.heap.size,1,none⟩) hle0 (.int .i64 0))
   have hlF:=hF.lt
   generalize ((wr.setCell ⟨w.heap.size,0,none⟩ (.int .i64 0)).setCell ⟨w.heap.size,1,none⟩ (.int .i64 0)) = wf at *
   have r0:wf.cell? ⟨w.heap.size,0,none⟩ = some (.int .i64 0):=hF.cell 0
   have r1:wf.cell? ⟨w.heap.size,1,none⟩ = some (.int .i64 0):=hF.cell 1
   refine bodyPost_ret (v:=.tuple #[(.slice Ae m ce),.agg #[.int .i64 0,.int .i64 0]]) (by simp [results,Tryz.results25,go_sem,r0,r1,hlF]) rfl ?_
   exact ⟨_,rfl,by rw [HLN.out]; exact own_down hown1 hs1,hWf⟩
set_option maxHeartbeats 8000000 in
set_option maxRecDepth 100000 in
theorem tlines_any (s0:ByteArray) (rows:List Bytes) (n:Nat) (hr:linesL s0.data.toList = rows) (hn:rows.length = n) (w:World) (hm:MaxAt w) (hs:s0.data.toList.length ≤ 50000) :
  Calls Tryz.prog 26 #[.string s0] w fun e w' => ∃ v,e = .returned v ∧ w'.ownsRow w.heap.size 3 1 v (lnoF rows 1).length ((lnoF rows 1).map (Value.int .i64)) ∧ Below w.heap.size w w':=by
 obtain ⟨i0,hi0,hz0,hz1,hz2⟩:=info_parts infoI04
 have hnb:n ≤ 50001:=by rw [← hn,← hr]; have:=lines_len s0.data.toList; omega
 have HSZ:=Lib.hid (fun x (hx:x ∈ rows) => Nat.le_trans (lines_mem (s:=s0.data.toList) (by rw [hr]; exact hx)) hs)
 have HN:=Lib.hid hn
 have HR:=Lib.hid hr
 have HS:=Lib.hid hs
 clear hn hr hs
 go_enter Tryz.func26,Tryz.ntmps26
 go_wp2_with fail
 refine (lines_is s0 rows n HR.out HN.out w hm (by have:=HS.out; omega)).mono ?_
 rintro e w1 ⟨A,c,rfl,hrow,hB1⟩
 replace hm:=hm.below hB1
 have HL:=Lib.hid (Sl.of_own hrow)
 have HM:=Lib.hid hm
 clear hrow hm
 go_wp2
 go_loopw [3,9] (fun ev iv wr => ∃ (i m:Nat) (ns:List Int),iv = .int .i64 i ∧ i ≤ n ∧ m ≤ i ∧ Hid (ns.length = m) ∧ Hid (lnoF rows 1 = ns ++ lnoF (rows.drop i) ((i:Int) + 1)) ∧ wr.ownsRow w1.heap.size 3 1 ev m (ns.map (Value.int .i64)) ∧ Below w1.heap.size w1 wr) (fun _ iv _ => n - (intOf iv).toNat)
 case atStart => exact ⟨0,0,[],rfl,by omega,by omega,rfl,rfl,World.ownsRow_nil _ _ _ _,Below.refl _ _⟩
 case round =>
  obtain ⟨i,m,ns,rfl,hi,hmi,HLN,HF,hown,hB⟩:=hrel
  have hsz:=hB.size
  obtain ⟨Ae,ce,rfl⟩:=slice_of_own hown
  by_cases hin:i < n
  ·obtain ⟨ad,rfl,hab,c0⟩:=(HL.out.below hB).lst.atS HN.out hin
   have hil:i < rows.length:=by rw [HN.out]; exact hin
   have hxs:(gS rows i).length ≤ 50000:=HSZ.out _ (by rw [gS_eq hil]; exact List.getElem_mem _)
   have HIL:=Lib.hid hil
   clear hil
   obtain ⟨x,hx⟩:∃ x,gS rows i = x:=⟨_,rfl⟩
   rw [hx] at c0 hxs
   obtain ⟨k,hk⟩:∃ k,(wordsL x).length = k:=⟨_,rfl⟩
   have HX:=Lib.hid hx
   have HK:=Lib.hid hk
   have HXS:=Lib.hid hxs
   clear hx hk hxs
   go_wp2_with fail
   clear c0
   refine (words_is (bs x) (wordsL x) k (by rw [bs_list]) HK.out wr (HM.out.below hB) (by rw [bs_list]; have:=HXS.out; omega)).mono ?_
   rintro e w2 ⟨A2,c2,rfl,hw2,hb⟩
   replace hown:=own_below hown hb
   replace hB:=hB.trans (hb.mono hsz)
   replace hsz:=hB.size
   clear hb hw2
   by_cases hk0:k = 0
   ·subst hk0
    have HN2:Hid (lnoF rows 1 = ns ++ lnoF (rows.drop (i + 1)) ((i:Int) + 1 + 1)):=by
     show _ = _
     rw [HF.out,lno_blank HIL.out (by rw [HX.out]; exact HK.out)]
    go_wp2_with fail
    go_roundw
    case rel => exact ⟨i + 1,m,ns,by go_num,by omega,by omega,HLN,by have h:=HN2.out; simpa [Hid] using h,hown,hB⟩
    case measure => simp [intOf]; omega
   ·have hk1:(0:Int) < (k:Int):=by omega
    have HN2:Hid (lnoF rows 1 = (ns ++ [(i:Int) + 1]) ++ lnoF (rows.drop (i + 1)) ((i:Int) + 1 + 1)):=by
     show _ = _
     rw [HF.out,lno_word HIL.out (by rw [HX.out,HK.out]; exact hk0),List.append_assoc]; rfl
    have hwr:IntKind.i64.wrap ((i:Int) + 1) = (i:Int) + 1:=IntWalk.i64_in _ (by omega)
    go_wp2_with (first | (at_builtin; refine wpList_append_own _ rfl _ _ 39 rfl w1.heap.size 3 i0 _ 1 8 Tryz.underlying39 hi0 hz0 hz1 hz2 rfl (by decide) _ _ _ rfl (hown.alloc _) ⟨w2.heap.size,0,none⟩ 1 1 [.int .i64 ((i:Int) + 1)] rfl rfl (by exact lit_cells w2 #[.int .i64 ((i:Int) + 1)] _ _ rfl) (by simp [Value.oneCell']) (by unfold maxLen; omega) (by omega) (by simp; omega) ?_; intro v' w3 hown' hgrow3 hnil3))
    have hbN:Below w1.heap.size w1 w3:=(hB.alloc hsz _).grown hgrow3 (by simp; omega) (fun q hq => (hown.lt q hq).1)
    clear hgrow3 hnil3
    go_wp2_with fail
    go_roundw
    case rel => exact ⟨i + 1,m + 1,ns ++ [(i:Int) + 1],by go_num,by omega,by omega,by simp [Hid,HLN.out],by have h:=HN2.out; simpa [Hid] using h,(by rw [ints_app04]; exact hown'),hbN⟩
    case measure => simp [intOf]; omega
  ·obtain rfl:n = i:=by omega
   have hf:lnoF rows 1 = ns:=by rw [HF.out,List.drop_eq_nil_of_le (by rw [HN.out]; omega)]; simp [lnoF]
   have HFX:=Lib.hid hf
   clear hf
   go_wp2_with fail
   go_ret
   exact ⟨_,rfl,by rw [HFX.out,HLN.out]; exact own_down hown hB1.size,hB1.trans (hB.mono hB1.size)⟩
theorem text_right:∀ (rows:List Bytes) (k:Int),∀ d ∈ (textF rows k).1,rightD d = true
 | [],k,d,h => by simp [textF] at h
 | r :: rs,k,d,h => by
  simp only [textF] at h
  split at h
  ·exact text_right rs (k + 1) d h
  ·split at h
   ·rename_i hq
    unfold addF at h
    split at h
    ·rcases List.mem_append.1 h with h | h
     ·simp at h
      subst h
      exact (parse_words (l:=wordsL r) (d:=(parseD (wordsL r)).1) (Prod.ext rfl hq)).1
     ·exact text_right rs (k + 1) d h
    ·exact text_right rs (k + 1) d h
   ·simp at h
theorem text_ok_len:∀ (rows:List Bytes) (k:Int),(textF rows k).2.2 = 0 → (textF rows k).1.length = (lnoF rows k).length
 | [],k,_ => rfl
 | r :: rs,k,h => by
  have ih:=text_ok_len rs (k + 1)
  simp only [textF,lnoF] at h ⊢
  split at h
  ·rename_i h0
   rw [if_pos h0,if_pos h0]
   exact ih h
  ·rename_i h0
   rw [if_neg h0,if_neg h0]
   split at h
   ·rename_i h1
    rw [if_pos h1]
    rw [addF_code] at h
    unfold addF
    rw [if_pos h]
    simp
    exact ih h
   ·rename_i h1
    exact absurd h h1
theorem text_code0:∀ (b:List Bytes) (k:Int),(textF b k).2.2 = 0 → (textF b k).2.1 = 0
 | [],k,_ => rfl
 | r :: rs,k,h => by
  have ih:=text_code0 rs (k + 1)
  simp only [textF] at h ⊢
  split at h
  ·rename_i h0; rw [if_pos h0]; exact ih h
  ·rename_i h0
   rw [if_neg h0]
   split at h
   ·rename_i h1; rw [if_pos h1]; rw [addF_code] at h ⊢; exact ih h
   ·rename_i h1; exact absurd h h1
theorem lno_short:∀ (b:List Bytes) (k:Int),(lnoF b k).length ≤ b.length
 | [],k => by simp [lnoF]
 | r :: rs,k => by
  have:=lno_short rs (k + 1)
  simp only [lnoF]
  split
  ·simp; omega
  ·simp; omega
theorem eqlFt (a b c d:Int) (w:World):(binOp .eql 45 (.agg #[.int .i64 a,.int .i64 b]) (.agg #[.int .i64 c,.int .i64 d])).run Tryz.prog w = .ok (.bool (decide (a = c ∧ b = d))) w:=by
 have u3:=Tryz.underlying3
 have a3:=Tryz.isAgg3
 have z3:=Tryz.sizeOf3
 have u4:=Tryz.underlying43
 have a4:=Tryz.isAgg43
 have z4:=Tryz.sizeOf43
 have hS:Tryz.prog.underlying 45 = some (.struct (Tryz.prog.fieldsOf 45)):=by kernel_rfl
 have hp:Tryz.prog.stoodInHeld 45 = false:=by kernel_rfl
 rw [run_eql_struct,show (10000:Nat) = 9999 + 1 from rfl,run_equalIn_agg w 9999 45 _ _ hS hp]
 simp only [Program.fieldsOf,Tryz.underlying45]
 go_simp
 by_cases h0:a = c
 ·by_cases h1:b = d
  ·simp [h0,h1]
  ·simp [h0,h1]
 ·simp [h0]
theorem neqFt (a b c d:Int) (w:World):(binOp .neq 45 (.agg #[.int .i64 a,.int .i64 b]) (.agg #[.int .i64 c,.int .i64 d])).run Tryz.prog w = .ok (.bool (!decide (a = c ∧ b = d))) w:=by
 have u3:=Tryz.underlying3
 have a3:=Tryz.isAgg3
 have z3:=Tryz.sizeOf3
 have u4:=Tryz.underlying43
 have a4:=Tryz.isAgg43
 have z4:=Tryz.sizeOf43
 have hS:Tryz.prog.underlying 45 = some (.struct (Tryz.prog.fieldsOf 45)):=by kernel_rfl
 have hp:Tryz.prog.stoodInHeld 45 = false:=by kernel_rfl
 rw [run_neq_struct,show (10000:Nat) = 9999 + 1 from rfl,run_equalIn_agg w 9999 45 _ _ hS hp]
 simp only [Program.fieldsOf,Tryz.underlying45]
 go_simp
 by_cases h0:a = c
 ·by_cases h1:b = d
  ·simp [h0,h1]
  ·simp [h0,h1]
 ·simp [h0]
theorem right_id {d:Dr} (h:rightD d = true):(Lit.int .i64 d.id).wf = true:=by
 unfold rightD at h
 rw [Bool.and_eq_true,Bool.and_eq_true] at h
 obtain ⟨hk,hm,he⟩:=h
 have he:d = keepD d:=by simpa using he
 have hz:∀ {x:Dr},d = withDo x d.op d.kd → x.id = 0 → (Lit.int .i64 d.id).wf = true:=fun e h0 => by
  have:d.id = 0:=by rw [e]; exact h0
  rw [this]; rfl
 unfold mayD at hm
 unfold keepD at he
 split at hm
 ·unfold may0 at hm
  obtain ⟨a,_⟩:=contactB_spec.1 hm
  exact wfI (by omega)
 ·rename_i h1
  rw [if_neg h1] at he
  split at hm
  ·unfold may1 at hm
   have:=inB_spec.1 hm
   exact wfI (by omega)
  ·rename_i h2
   rw [if_neg h2] at he
   split at hm
   ·unfold may2 at hm
    rw [Bool.and_eq_true] at hm
    have:=inB_spec.1 hm.1
    exact wfI (by omega)
   ·rename_i h3
    rw [if_neg h3] at he
    split at hm
    ·rename_i h4
     rw [if_pos h4] at he
     exact hz he rfl
    ·rename_i h4
     rw [if_neg h4] at he
     split at hm
     ·rename_i h5
      rw [if_pos h5] at he
      exact hz he rfl
     ·rename_i h5
      rw [if_neg h5] at he
      split at hm
      ·rename_i h6
       rw [if_pos h6] at he
       exact hz he rfl
      ·cases hm
def loadD (s0:St) (lns:List Int):St → List Dr → Nat → St × Int × Int
 | x,[],_ => (x,0,0)
 | x,d :: ds,j => if editQ x d = 0 then loadD s0 lns (editS x d) ds (j + 1) else (s0,lns.getD j 0,editQ x d)
theorem loadD_drop {s0 x:St} {lns:List Int} {ds:List Dr} {j:Nat} (h:j < ds.length):loadD s0 lns x (ds.drop j) j = if editQ x (gDr ds j) = 0 then loadD s0 lns (editS x (gDr ds j)) (ds.drop (j + 1)) (j + 1) else (s0,lns.getD j 0,editQ x (gDr ds j)):=by
 rw [List.drop_eq_getElem_cons h,← gDr_eq h]
 rfl
theorem loadD_end {s0 x:St} {lns:List Int} {ds:List Dr} {j:Nat} (h:ds.length ≤ j):loadD s0 lns x (ds.drop j) j = (x,0,0):=by
 rw [List.drop_eq_nil_of_le h]
 rfl
def loadF (s:St) (t:Bytes):St × Int × Int:=if (textF (linesL t) 1).2.2 = 0 then loadD s (lnoF (linesL t) 1) s (textF (linesL t) 1).1 0 else (s,(textF (linesL t) 1).2)
def LRet (s':St) (ln cd:Int) (w:World) (e:Ending) (w':World):Prop:=
 ∃ A1 n1 c1 A n c Ab nb cb,e = .returned (.tuple #[.agg #[.slice A1 n1 c1,.slice A n c,.int .i64 s'.p.clk,.int .i64 s'.p.ver,.slice Ab nb cb],.agg #[.int .i64 ln,.int .i64 cd]]) ∧ StOwn w' w.heap.size A1 n1 c1 A n c s'.p.clk s'.p.ver Ab nb cb s' ∧ Below w.heap.size w w'
structure LdW (bS bR bF bT:Nat) (S R F T:Array Value) (w x:World):Prop where
 bel:Below w.heap.size w x
 s:Blok x bS 28 S
 r:Blok x bR 28 R
 f:Blok x bF 45 F
 t:Blok x bT 45 T
 o1:w.heap.size ≤ bR ∧ bS < bR
 o2:bR < bF
 o3:bF < bT
theorem LdW.call {bS bR bF bT:Nat} {S R F T:Array Value} {w x x':World} (h:LdW bS bR bF bT S R F T w x) (hb:Below x.heap.size x x'):LdW bS bR bF bT S R F T w x':=⟨h.bel.trans (hb.mono h.bel.size),h.s.below hb h.s.lt,h.r.below hb h.r.lt,h.f.below hb h.f.lt,h.t.below hb h.t.lt,h.o1,h.o2,h.o3⟩
theorem LdW.drew {bS bR bF bT:Nat} {S R F T:Array Value} {w x:World} (h:LdW bS bR bF bT S R F T w x):LdW bS bR bF bT S R F T w x.drew:=h.call (Below.refl _ _).drew
theorem LdW.over {bS bR bF bT b:Nat} {S R F T:Array Value} {w x x':World} (h:LdW bS bR bF bT S R F T w x) (hg:x.grownBy x' (some b)) (hb:bT < b) (hB:Below w.heap.size w x'):LdW bS bR bF bT S R F T w x':=by
 have h1:=h.o1
 have h2:=h.o2
 have h3:=h.o3
 exact ⟨hB,h.s.grown hg (by simp; omega),h.r.grown hg (by simp; omega),h.f.grown hg (by simp; omega),h.t.grown hg (by simp; omega),h1,h2,h3⟩
theorem LdW.setF {bS bR bF bT:Nat} {S R T:Array Value} {z0 z1:Value} {w x:World} (h:LdW bS bR bF bT S R #[z0,z1] T w x) (a b:Value):LdW bS bR bF bT S R #[a,b] T w ((x.setCell ⟨bF,0,none⟩ a).setCell ⟨bF,1,none⟩ b):=by
 have h1:=h.o1
 have h2:=h.o2
 have h3:=h.o3
 refine ⟨(h.bel.setCell (p:=⟨bF,0,none⟩) (by show w.heap.size ≤ bF; omega) a).setCell (p:=⟨bF,1,none⟩) (by show w.heap.size ≤ bF; omega) b,(h.s.far (p:=⟨bF,0,none⟩) (by show bS ≠ bF; omega) a).far (p:=⟨bF,1,none⟩) (by show bS ≠ bF; omega) b,(h.r.far (p:=⟨bF,0,none⟩) (by show bR ≠ bF; omega) a).far (p:=⟨bF,1,none⟩) (by show bR ≠ bF; omega) b,?_,(h.t.far (p:=⟨bF,0,none⟩) (by show bT ≠ bF; omega) a).far (p:=⟨bF,1,none⟩) (by show bT ≠ bF; omega) b,h1,h2,h3⟩
 have:=(h.f.set_ 0 a).set_ 1 b
 simpa using this
theorem LdW.setR {bS bR bF bT:Nat} {S F T:Array Value} {z0 z1 z2 z3 z4:Value} {w x:World} (h:LdW bS bR bF bT S #[z0,z1,z2,z3,z4] F T w x) (a0 a1 a2 a3 a4:Value):LdW bS bR bF bT S #[a0,a1,a2,a3,a4] F T w (set5 x bR a0 a1 a2 a3 a4):=by
 have h1:=h.o1
 have h2:=h.o2
 have h3:=h.o3
 obtain ⟨e1,e2,e3⟩:=ret5 h.r h.bel (by omega) a0 a1 a2 a3 a4
 refine ⟨e2,h.s.grown e3 (by simp; omega),e1,h.f.grown e3 (by simp; omega),h.t.grown e3 (by simp; omega),h1,h2,h3⟩
theorem LdW.ownR {bS bR bF bT:Nat} {S F T:Array Value} {z0 z1 z2 z3 z4:Value} {w x:World} (h:LdW bS bR bF bT S #[z0,z1,z2,z3,z4] F T w x) {A1:Option Addr} {n1 c1:Nat} {A:Option Addr} {n c:Nat} {clk ver:Int} {Ab:Option Addr} {nb cb:Nat} {s:St} (hv:StOwn x (bF + 1) A1 n1 c1 A n c clk ver Ab nb cb s) (a0 a1 a2 a3 a4:Value):StOwn (set5 x bR a0 a1 a2 a3 a4) (bF + 1) A1 n1 c1 A n c clk ver Ab nb cb s:=by
 have h1:=h.o1
 have h2:=h.o2
 have h3:=h.o3
 obtain ⟨e1,e2,e3⟩:=ret5 h.r h.bel (by omega) a0 a1 a2 a3 a4
 exact hv.far e3 (fun q hq => by injection hq with hq; omega)
theorem ownF {bF:Nat} {x:World} {A1:Option Addr} {n1 c1:Nat} {A:Option Addr} {n c:Nat} {clk ver:Int} {Ab:Option Addr} {nb cb:Nat} {s:St} (hv:StOwn x (bF + 1) A1 n1 c1 A n c clk ver Ab nb cb s) (a b:Value):StOwn ((x.setCell ⟨bF,0,none⟩ a).setCell ⟨bF,1,none⟩ b) (bF + 1) A1 n1 c1 A n c clk ver Ab nb cb s:=
 hv.far (grown_trans (grown_set _ _ _) (grown_set _ _ _)) (fun q hq => by injection hq with hq; omega)
end Go.Proofs.YtjldgcebadojiaaGreatDoor
