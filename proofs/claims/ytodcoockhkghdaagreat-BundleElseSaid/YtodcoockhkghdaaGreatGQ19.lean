/- Several texts of mine in one: Least2, Ref15e, Early1, Times, Least3, Least4. No condition. -/
import Derived.Test.YtodcoockhkghdaaGreatGQ18
import Derived.Deep.CutBlock
import Derived.Deep.DeepCutAuto
import Derived.Test.YtodcoockhkghdaaGreatGQ14
import Derived.Test.YtodcoockhkghdaaGreatGQ3
import Derived.Test.YtodcoockhkghdaaGreatSpread
import Derived.Test.YtodcoockhkghdaaGreatPath5
import Derived.Test.YtodcoockhkghdaaGreatGQ13
namespace Go.Proofs.YtodcoockhkghdaaGreat
open Go.ChangeShapes Go.WideShapes Go.ChangeAt Go.RowKit Go.Sort Go.Maps Hp
set_option linter.unusedSimpArgs false
set_option linter.unusedVariables false
def stepV (t size:Int) (o:Option Ed):Value:=match o with | none => .tuple #[.agg #[.int .i64 0,.int .i64 0,.int .i64 0],.int .i64 0,.bool false] | some x => .tuple #[.agg #[.int .i64 x.id,.int .i64 (((x.pass t size).getD (0,0)).1),.int .i64 (((x.pass t size).getD (0,0)).2)],.int .i64 x.tn,.bool true]
theorem stepV_some {t size s a:Int} {x:Ed} (h:x.pass t size = some (s,a)):stepV t size (some x) = .tuple #[.agg #[.int .i64 x.id,.int .i64 s,.int .i64 a],.int .i64 x.tn,.bool true]:=by
 show Value.tuple #[.agg #[.int .i64 x.id,.int .i64 ((x.pass t size).getD (0,0)).1,.int .i64 ((x.pass t size).getD (0,0)).2],.int .i64 x.tn,.bool true] = _
 rw [h]; rfl
theorem first_at {l:List Ed} {size:Int} {sh:List Int} {q by_:Int} {k:Nat} {t:Int} {R:List Int} {j i:Nat} (hj:j < R.length) (hi:R.getD j 0 = (i:Int)) (hn:(psE l R j).find? (goE l size sh q by_ k t) = none) (hg:goE l size sh q by_ k t (gEd l i) = true):firstE l size sh q by_ k t R = some (gEd l i):=by
 have h1:R = R.take (j + 1) ++ R.drop (j + 1):=(List.take_append_drop _ _).symm
 have h2:=psE_next (l:=l) (n:=0) hj hi
 unfold firstE
 rw [h1,List.map_append,List.find?_append]
 have h3:((R.take (j + 1)).map (fun i => gEd l i.toNat)) = psE l R j ++ [gEd l i]:=h2
 rw [h3,List.find?_append,hn]
 simp [hg]
theorem first_none {l:List Ed} {size:Int} {sh:List Int} {q by_:Int} {k:Nat} {t:Int} {R:List Int} {nr:Nat} (hr:R.length = nr) (hn:(psE l R nr).find? (goE l size sh q by_ k t) = none):firstE l size sh q by_ k t R = none:=by
 unfold psE at hn
 rw [List.take_of_length_le (by omega)] at hn
 exact hn
theorem first_next {l:List Ed} {size:Int} {sh:List Int} {q by_:Int} {k:Nat} {t:Int} {R:List Int} {j i:Nat} (hj:j < R.length) (hi:R.getD j 0 = (i:Int)) (hn:(psE l R j).find? (goE l size sh q by_ k t) = none) (hg:goE l size sh q by_ k t (gEd l i) = false):(psE l R (j + 1)).find? (goE l size sh q by_ k t) = none:=by
 rw [psE_next (n:=0) hj hi,List.find?_append,hn]
 simp [hg]
set_option maxHeartbeats 4000000 in
set_option maxRecDepth 100000 in
theorem step_any {w0 w:World} {tb gt gk:Nat} {A:Option Addr} {n c:Nat} {l:List Ed} {q by_ size:Int} {sh:List Int} {h:Nat} (tt:TabH w0 w tb A n c l q by_ size sh h) (hh:h ≤ 10000) (k:Nat) (hk:k ≤ h) (h1:Blok w gt 107 #[.pointer (some ⟨tb,0,none⟩)]) (h2:Blok w gk 3 #[.int .i64 (k:Int)])
  (Ar:Option Addr) (nr cr:Nat) (R:List Int) (m t:Int) (hd:l.length = n) (hok:∀ i,i < n → (gEd l i).ok = true) (hR:RowE l m R) (hnr:R.length = nr) (hn:nr ≤ 1000) (hle:Sl w w.heap.size 8 A n c (flatEd l)) (hls:Sl w w.heap.size 1 Ar nr cr (R.map (Value.int .i64)))
  (o:Option Ed) (ho:firstE l size sh q by_ k t R = o) :
  Calls Tryz.prog 70 #[.slice A n c,.slice Ar nr cr,.int .i64 t,.int .i64 size,.func (.func 71) #[] #[.pointer (some ⟨gt,0,none⟩),.pointer (some ⟨gk,0,none⟩)]] w fun e w' =>
   e = .returned (stepV t size o) ∧ Below w.heap.size w w':=by
 have HTT:=Lib.hid (fun w' (hb:Below w.heap.size w w') => tt.below hb)
 have H1:=Lib.hid (fun w' (hb:Below w.heap.size w w') => h1.below hb h1.lt)
 have H2:=Lib.hid (fun w' (hb:Below w.heap.size w w') => h2.below hb h2.lt)
 have HLE:=Lib.hid (fun w' (hb:Below w.heap.size w w') => hle.up hb)
 have HLS:=Lib.hid (fun w' (hb:Below w.heap.size w w') => hls.up hb)
 have HD:=Lib.hid hd
 have HOK:=Lib.hid hok
 have HRE:=Lib.hid hR
 have HNR:=Lib.hid hnr
 have HO:=Lib.hid ho
 have hb0:Below w.heap.size w (w.alloc (.cells #[.int .i64 0,.int .i64 0,.int .i64 0] 67)):=(Below.refl _ _).alloc (Nat.le_refl _) _
 have hX0:=Blok.new w 67 #[.int .i64 0,.int .i64 0,.int .i64 0]
 clear tt h1 h2 hle hls hd hok hR hnr ho
 go_enter Tryz.func70,Tryz.ntmps70
 go_upto_region 1 with fail
 generalize w.alloc (.cells #[.int .i64 0,.int .i64 0,.int .i64 0] 67) = w2 at *
 obtain ⟨rb,hrb⟩:∃ z,w.heap.size = z:=⟨_,rfl⟩
 have HRB:=Lib.hid hrb
 rw [hrb] at hX0
 try rw [hrb]
 clear hrb
 go_wp2_with fail
 go_loopw [21] (fun iv wr => ∃ j:Nat,iv = .int .i64 j ∧ j ≤ nr ∧ Hid ((psE l R j).find? (goE l size sh q by_ k t) = none) ∧ Blok wr rb 67 #[.int .i64 0,.int .i64 0,.int .i64 0] ∧ Below w.heap.size w wr) (fun iv _ => nr - (intOf iv).toNat)
 case atStart => exact ⟨0,rfl,by omega,rfl,hX0,hb0⟩
 case round =>
  clear hX0 hb0 w2
  obtain ⟨j,rfl,hj,HI,hXr,hB⟩:=hrel
  have HWS:Hid (w.heap.size ≤ rb):=by have:=HRB.out; exact Nat.le_of_eq this
  by_cases hjn:j < nr
  ·have hjR:j < R.length:=by rw [HNR.out]; exact hjn
   obtain ⟨adr,rfl,habr,c0⟩:=(HLS.out _ hB).lst.atI (by simpa using HNR.out) hjn
   obtain ⟨i,hi,hil',hfr⟩:=HRE.out.at_ j hjR
   rw [hi] at c0
   have HIE:=Lib.hid hi
   have hil:i < n:=by have:=HD.out; omega
   obtain ⟨ad,rfl,hab,e0,e1,e2,e3,e4,e5,e6,e7⟩:=(HLE.out _ hB).lst.atEd HD.out hil
   have hok:=HOK.out i hil
   obtain ⟨x,hx⟩:∃ x,gEd l i = x:=⟨_,rfl⟩
   rw [hx] at e0 e1 e2 e3 e4 e5 e6 e7 hok hfr
   have HX:=Lib.hid hx
   have HOK2:=Lib.hid hok
   have htw:(Lit.int .i64 x.tn).wf = true:=wfI (by have:=(Ed.ok_spec.1 hok).2.2.1; omega)
   have HTW:=Lib.hid htw
   have hX:=Blok.new wr 86 #[.int .i64 x.id,.int .i64 x.fr,.int .i64 x.tn,.int .i64 x.op,.int .i64 x.en,.int .i64 x.ra,.int .i64 x.ow,.int .i64 x.ro]
   have hb1:Below wr.heap.size wr (wr.alloc (.cells #[.int .i64 x.id,.int .i64 x.fr,.int .i64 x.tn,.int .i64 x.op,.int .i64 x.en,.int .i64 x.ra,.int .i64 x.ow,.int .i64 x.ro] 86)):=(Below.refl _ _).alloc (Nat.le_refl _) _
   have hB2:=hB.trans (hb1.mono hB.size)
   have hXr2:=hXr.below hb1 hXr.lt
   have lt_re:rb < wr.heap.size:=hXr.lt
   have HXR:=Lib.hid hXr2
   have HB2:=Lib.hid hB2
   clear hi hfr hok hx htw hB hB2 hXr hXr2 hb1
   go_upto_region 5 with fail
   clear c0 e0 e1 e2 e3 e4 e5 e6 e7 habr hab
   generalize wr.alloc (.cells #[.int .i64 x.id,.int .i64 x.fr,.int .i64 x.tn,.int .i64 x.op,.int .i64 x.en,.int .i64 x.ra,.int .i64 x.ow,.int .i64 x.ro] 86) = w2 at *
   generalize wr.heap.size = eb at *
   clear wr
   have x0:w2.cell? ⟨eb,0,none⟩ = some (.int .i64 x.id):=hX.cell 0
   have x1:w2.cell? ⟨eb,1,none⟩ = some (.int .i64 x.fr):=hX.cell 1
   have x2:w2.cell? ⟨eb,2,none⟩ = some (.int .i64 x.tn):=hX.cell 2
   have x3:w2.cell? ⟨eb,3,none⟩ = some (.int .i64 x.op):=hX.cell 3
   have x4:w2.cell? ⟨eb,4,none⟩ = some (.int .i64 x.en):=hX.cell 4
   have x5:w2.cell? ⟨eb,5,none⟩ = some (.int .i64 x.ra):=hX.cell 5
   have x6:w2.cell? ⟨eb,6,none⟩ = some (.int .i64 x.ow):=hX.cell 6
   have x7:w2.cell? ⟨eb,7,none⟩ = some (.int .i64 x.ro):=hX.cell 7
   have lt_x:=hX.lt
   have HXB:=Lib.hid hX
   clear hX
   cases hp:x.pass t size with
   | none =>
    have HP2:=Lib.hid hp
    clear hp
    have hI2:=first_next hjR HIE.out HI.out (by rw [HX.out]; unfold goE; rw [HP2.out])
    have HI2:=Lib.hid hI2
    clear hI2
    go_wp2_with fail
    refine (hpass_no HP2.out _).mono ?_
    rintro e w3 ⟨rfl,hb3⟩
    clear x0 x1 x2 x3 x4 x5 x6 x7 lt_x
    have hX3:=HXR.out.below hb3 HXR.out.lt
    have hB3:=HB2.out.trans (hb3.mono HB2.out.size)
    clear hb3
    go_wp2_with fail
    go_roundw
    case rel => exact ⟨j + 1,by go_num,by omega,HI2.out,hX3,hB3⟩
    case measure => simp [intOf]; omega
   | some p =>
    obtain ⟨s,a⟩:=p
    have HP2:=Lib.hid hp
    clear hp
    obtain ⟨b,hbb⟩:∃ z,thrB l size sh q by_ k x.tn a = z:=⟨_,rfl⟩
    have HBB:=Lib.hid hbb
    have HG:Hid (goE l size sh q by_ k t (gEd l i) = b):=by
     show goE l size sh q by_ k t (gEd l i) = b
     rw [HX.out]
     unfold goE
     rw [HP2.out]
     exact HBB.out
    clear hbb
    go_wp2_with fail
    refine (hpass_yes HP2.out _).mono ?_
    rintro e w3 ⟨rfl,hb3⟩
    clear x0 x1 x2 x3 x4 x5 x6 x7 lt_x
    have hX3:=HXR.out.below hb3 HXR.out.lt
    have hE3:=HXB.out.below hb3 HXB.out.lt
    have hB3:=HB2.out.trans (hb3.mono HB2.out.size)
    have y0:w3.cell? ⟨eb,0,none⟩ = some (.int .i64 x.id):=hE3.cell 0
    have y1:w3.cell? ⟨eb,1,none⟩ = some (.int .i64 x.fr):=hE3.cell 1
    have y2:w3.cell? ⟨eb,2,none⟩ = some (.int .i64 x.tn):=hE3.cell 2
    have y3:w3.cell? ⟨eb,3,none⟩ = some (.int .i64 x.op):=hE3.cell 3
    have y4:w3.cell? ⟨eb,4,none⟩ = some (.int .i64 x.en):=hE3.cell 4
    have y5:w3.cell? ⟨eb,5,none⟩ = some (.int .i64 x.ra):=hE3.cell 5
    have y6:w3.cell? ⟨eb,6,none⟩ = some (.int .i64 x.ow):=hE3.cell 6
    have y7:w3.cell? ⟨eb,7,none⟩ = some (.int .i64 x.ro):=hE3.cell 7
    have lt_y:=hE3.lt
    have HX3:=Lib.hid hX3
    have HE3:=Lib.hid hE3
    have HB3:=Lib.hid hB3
    clear hb3 hX3 hE3 hB3
    go_wp2_with fail
    refine (rclos_any (HTT.out _ HB3.out) hh x.tn a k hk HTW.out b HBB.out (H1.out _ HB3.out) (H2.out _ HB3.out)).mono ?_
    rintro e w4 ⟨rfl,hb4⟩
    clear y0 y1 y2 y3 y4 y5 y6 y7 lt_y
    have hX4:=HX3.out.below hb4 HX3.out.lt
    have hE4:=HE3.out.below hb4 HE3.out.lt
    have hB4:=HB3.out.trans (hb4.mono HB3.out.size)
    clear hb4
    cases b with
    | false =>
     have hI2:=first_next hjR HIE.out HI.out HG.out
     go_wp2_with fail
     go_roundw
     case rel => exact ⟨j + 1,by go_num,by omega,hI2,hX4,hB4⟩
     case measure => simp [intOf]; omega
    | true =>
     have hF:=first_at hjR HIE.out HI.out HG.out
     have hO:o = some x:=by rw [← HO.out,hF,HX.out]
     subst hO
     have y0:w4.cell? ⟨eb,0,none⟩ = some (.int .i64 x.id):=hE4.cell 0
     have y1:w4.cell? ⟨eb,1,none⟩ = some (.int .i64 x.fr):=hE4.cell 1
     have y2:w4.cell? ⟨eb,2,none⟩ = some (.int .i64 x.tn):=hE4.cell 2
     have y3:w4.cell? ⟨eb,3,none⟩ = some (.int .i64 x.op):=hE4.cell 3
     have y4:w4.cell? ⟨eb,4,none⟩ = some (.int .i64 x.en):=hE4.cell 4
     have y5:w4.cell? ⟨eb,5,none⟩ = some (.int .i64 x.ra):=hE4.cell 5
     have y6:w4.cell? ⟨eb,6,none⟩ = some (.int .i64 x.ow):=hE4.cell 6
     have y7:w4.cell? ⟨eb,7,none⟩ = some (.int .i64 x.ro):=hE4.cell 7
     have lt_y:=hE4.lt
     have r0:w4.cell? ⟨rb,0,none⟩ = some (.int .i64 0):=hX4.cell 0
     have r1:w4.cell? ⟨rb,1,none⟩ = some (.int .i64 0):=hX4.cell 1
     have r2:w4.cell? ⟨rb,2,none⟩ = some (.int .i64 0):=hX4.cell 2
     have lt_r:=hX4.lt
     go_upto_region 7 with fail
     have HX4:=Lib.hid hX4
     have HB4:=Lib.hid hB4
     have f_0:=hX4.free 0
     have f_1:=hX4.free 1
     have f_2:=hX4.free 2
     clear hX4 hB4 hE4
     go_region
     have hws:=HWS.out
     have hF0:Blok (((w4.setCell ⟨rb,0,none⟩ (.int .i64 x.id)).setCell ⟨rb,1,none⟩ (.int .i64 s)).setCell ⟨rb,2,none⟩ (.int .i64 a)) rb 67 #[.int .i64 x.id,.int .i64 s,.int .i64 a]:=by
      have h:=((HX4.out.set_ 0 (.int .i64 x.id)).set_ 1 (.int .i64 s)).set_ 2 (.int .i64 a)
      simpa using h
     have hWf0:Below w.heap.size w (((w4.setCell ⟨rb,0,none⟩ (.int .i64 x.id)).setCell ⟨rb,1,none⟩ (.int .i64 s)).setCell ⟨rb,2,none⟩ (.int .i64 a)):=((HB4.out.setCell (p:=⟨rb,0,none⟩) hws (.int .i64 x.id)).setCell (p:=⟨rb,1,none⟩) hws (.int .i64 s)).setCell (p:=⟨rb,2,none⟩) hws (.int .i64 a)
     have hF:=hF0.below (Below.refl _ _).drew hF0.lt
     have hWf:=hWf0.drew
     clear r0 r1 r2 f_0 f_1 f_2 y0 y1 y2 y3 y4 y5 y6 y7 hF0 hWf0
     generalize (((w4.setCell ⟨rb,0,none⟩ (.int .i64 x.id)).setCell ⟨rb,1,none⟩ (.int .i64 s)).setCell ⟨rb,2,none⟩ (.int .i64 a)).drew = wf at *
     have hlF:=hF.lt
     have r0:wf.cell? ⟨rb,0,none⟩ = some (.int .i64 x.id):=hF.cell 0
     have r1:wf.cell? ⟨rb,1,none⟩ = some (.int .i64 s):=hF.cell 1
     have r2:wf.cell? ⟨rb,2,none⟩ = some (.int .i64 a):=hF.cell 2
     go_wp2_with fail
     refine bodyPost_ret (v:=.tuple #[.agg #[.int .i64 x.id,.int .i64 s,.int .i64 a],.int .i64 x.tn,.bool true]) (by simp [results,Tryz.results70,go_sem,r0,r1,r2,hlF]) rfl ?_
     exact ⟨by rw [stepV_some HP2.out],hWf⟩
  ·obtain rfl:j = nr:=by omega
   have hO:o = none:=by rw [← HO.out]; exact first_none HNR.out HI.out
   subst hO
   have r0:wr.cell? ⟨rb,0,none⟩ = some (.int .i64 0):=hXr.cell 0
   have r1:wr.cell? ⟨rb,1,none⟩ = some (.int .i64 0):=hXr.cell 1
   have r2:wr.cell? ⟨rb,2,none⟩ = some (.int .i64 0):=hXr.cell 2
   have f_0:=hXr.free 0
   have f_1:=hXr.free 1
   have f_2:=hXr.free 2
   have lt_r:=hXr.lt
   have HXR:=Lib.hid hXr
   have HBR:=Lib.hid hB
   clear hXr hB
   go_wp2_with fail
   have hX:=HXR.out
   have hB:=HBR.out
   have hws:=HWS.out
   clear r0 r1 r2
   have hF:Blok (((wr.setCell ⟨rb,0,none⟩ (.int .i64 0)).setCell ⟨rb,1,none⟩ (.int .i64 0)).setCell ⟨rb,2,none⟩ (.int .i64 0)) rb 67 #[.int .i64 0,.int .i64 0,.int .i64 0]:=by have h:=(((hX.set_ 0 (.int .i64 0)).set_ 1 (.int .i64 0)).set_ 2 (.int .i64 0)); simpa using h
   have hle0:w.heap.size ≤ rb:=by first | exact Nat.le_refl _ | omega
   have hWf:Below w.heap.size w (((wr.setCell ⟨rb,0,none⟩ (.int .i64 0)).setCell ⟨rb,1,none⟩ (.int .i64 0)).setCell ⟨rb,2,none⟩ (.int .i64 0)):=(((hB.setCell (p:=⟨rb,0,none⟩) hle0 (.int .i64 0)).setCell (p:=⟨rb,1,none⟩) hle0 (.int .i64 0)).setCell (p:=⟨rb,2,none⟩) hle0 (.int .i64 0))
   have hlF:=hF.lt
   have hgw:wr.grownBy (((wr.setCell ⟨rb,0,none⟩ (.int .i64 0)).setCell ⟨rb,1,none⟩ (.int .i64 0)).setCell ⟨rb,2,none⟩ (.int .i64 0)) (some rb):=grown_trans (grown_trans (grown_set _ _ _) (grown_set _ _ _)) (grown_set _ _ _)
   generalize (((wr.setCell ⟨rb,0,none⟩ (.int .i64 0)).setCell ⟨rb,1,none⟩ (.int .i64 0)).setCell ⟨rb,2,none⟩ (.int .i64 0)) = wf at *
   have r0:wf.cell? ⟨rb,0,none⟩ = some (.int .i64 0):=hF.cell 0
   have r1:wf.cell? ⟨rb,1,none⟩ = some (.int .i64 0):=hF.cell 1
   have r2:wf.cell? ⟨rb,2,none⟩ = some (.int .i64 0):=hF.cell 2
   refine bodyPost_ret (v:=.tuple #[.agg #[.int .i64 0,.int .i64 0,.int .i64 0],.int .i64 0,.bool false]) (by simp [results,Tryz.results70,go_sem,r0,r1,r2,hlF]) rfl ?_
   exact ⟨rfl,hWf⟩
end Go.Proofs.YtodcoockhkghdaaGreat
namespace Go.Proofs.YtodcoockhkghdaaGreat
open Go.ChangeShapes Go.WideShapes Go.ChangeAt Go.RowKit Go.Sort Hp
set_option linter.unusedSimpArgs false
set_option linter.unusedVariables false
set_option maxHeartbeats 1000000 in
set_option maxRecDepth 100000 in
theorem eat_any (A:Option Addr) (n c:Nat) (d:List (Int × Int)) (q:Int) (w:World) (hd:d.length = n) (hn:n ≤ 1000000) (h:Sl w w.heap.size 2 A n c (flat2 d)) (u:Int) (b:Bool) (hu:(atR d q).getD 0 = u) (hb:(atR d q).isSome = b) :
  Calls Tryz.prog 65 #[.slice A n c,.int .i64 q] w fun e w' => e = .returned (.tuple #[.int .i64 u,.bool b]) ∧ Below w.heap.size w w':=by
 have HD:=Lib.hid hd
 have HL:=Lib.hid h
 have HU:=Lib.hid hu
 have HB:=Lib.hid hb
 clear hd h hu hb
 go_enter Tryz.func65,Tryz.ntmps65
 go_wp2
 go_loopw [10] (fun iv wr => ∃ (i:Nat),iv = .int .i64 i ∧ i ≤ n ∧ Hid (∀ j,j < i → (gt d j).1 ≠ q) ∧ Below w.heap.size w wr) (fun iv _ => n - (intOf iv).toNat)
 case atStart => exact ⟨0,rfl,by omega,fun j hj => by omega,Below.refl _ _⟩
 case round =>
  obtain ⟨i,rfl,hi,HN,hB⟩:=hrel
  have hs:=hB.size
  by_cases hin:i < n
  ·obtain ⟨ad,rfl,hab,c0,c1⟩:=(HL.out.up hB).lst.fst2 HD.out hin
   obtain ⟨x,hx⟩:∃ x,gt d i = x:=⟨_,rfl⟩
   rw [hx] at c0 c1
   have HX:=Lib.hid hx
   clear hx
   have hX:=Blok.new wr 150 #[.int .i64 x.1,.int .i64 x.2]
   have hb:Below wr.heap.size wr (wr.alloc (.cells #[.int .i64 x.1,.int .i64 x.2] 150)):=by (repeat (first | exact Below.refl _ _ | refine Below.alloc ?_ (by first | omega | (simp; done) | (simp; omega)) _ | refine Below.setCell ?_ (by first | omega | (simp; done) | (simp; omega)) _ | refine Below.drew ?_))
   have hB2:=hB.trans (hb.mono hs)
   go_upto_region 4 with fail
   clear c0 c1 hb hB hs
   generalize wr.alloc (.cells #[.int .i64 x.1,.int .i64 x.2] 150) = w2 at *
   generalize wr.heap.size = bx at *
   have k0:w2.cell? ⟨bx,0,none⟩ = some (.int .i64 x.1):=hX.cell 0
   have k1:w2.cell? ⟨bx,1,none⟩ = some (.int .i64 x.2):=hX.cell 1
   have lt_x:=hX.lt
   by_cases he:x.1 = q
   ·have hff:=atR_at (d:=d) (i:=i) (n:=q) (by rw [HD.out]; exact hin) (by rw [HX.out]; exact he) HN.out
    have f1:x.2 = u:=by rw [← HU.out,hff,HX.out]; rfl
    have f2:b = true:=by rw [← HB.out,hff]; rfl
    clear hff
    subst f2
    have hq:(x.1 == q) = true:=beq_iff_eq.2 he
    rw [f1] at k1
    clear he f1
    go_wp2
    exact bodyPost_ret (v:=.tuple #[.int .i64 u,.bool true]) (by simp [results,Tryz.results65,go_sem]) rfl ⟨rfl,hB2⟩
   ·have hq:(x.1 == q) = false:=beq_eq_false_iff_ne.2 he
    have HN2:Hid (∀ j,j < i + 1 → (gt d j).1 ≠ q):=fun j hj => by
     by_cases e:j = i
     ·subst e; rw [HX.out]; exact he
     ·exact HN.out j (by omega)
    clear he
    go_wp2_with fail
    go_roundw
    case rel => exact ⟨i + 1,by go_num,by omega,HN2,hB2⟩
    case measure => simp [intOf]; omega
  ·have hff:=atR_off (d:=d) (n:=q) (fun j hj => HN.out j (by rw [HD.out] at hj; omega))
   have f1:u = 0:=by rw [← HU.out,hff]; rfl
   have f2:b = false:=by rw [← HB.out,hff]; rfl
   clear hff
   subst f1 f2
   go_wp2
   exact bodyPost_ret (v:=.tuple #[.int .i64 0,.bool false]) (by simp [results,Tryz.results65,go_sem]) rfl ⟨rfl,hB⟩
end Go.Proofs.YtodcoockhkghdaaGreat
namespace Go.Proofs.YtodcoockhkghdaaGreat
open Go.ChangeShapes Go.WideShapes Go.ChangeAt Go.RowKit Go.Sort Go.Maps Hp
set_option linter.unusedSimpArgs false
set_option linter.unusedVariables false
set_option maxHeartbeats 4000000 in
set_option maxRecDepth 100000 in
theorem etimes_any (Ae:Option Addr) (ne ce:Nat) (l:List Ed) (q now size:Int) (As:Option Addr) (ns cs:Nat) (sh:List Int) (w:World) (hde:l.length = ne) (hne:ne ≤ 1000) (hds:sh.length = ns) (hns:ns ≤ 100000) (hwf:∀ k,k < ns → (Lit.int .i64 (sh.getD k 0)).wf = true) (hle:Sl w w.heap.size 8 Ae ne ce (flatEd l)) (hls:Sl w w.heap.size 1 As ns cs (sh.map (Value.int .i64))) :
  Calls Tryz.prog 66 #[.slice Ae ne ce,.int .i64 q,.int .i64 now,.int .i64 size,.slice As ns cs] w fun e w' => ∃ A' n' c' r,e = .returned (.slice A' n' c') ∧ r.length = n' ∧ n' ≤ ne + 1 ∧ IsTimes l q now size sh r ∧ Sl w' w'.heap.size 2 A' n' c' (flat2 r) ∧ Below w.heap.size w w':=by
 have HDE:=Lib.hid hde
 have HDS:=Lib.hid hds
 have HWF:=Lib.hid hwf
 obtain ⟨ab,hab⟩:∃ b,askE l q now size = b:=⟨_,rfl⟩
 have HAB:=Lib.hid hab
 cases ab with
 | false =>
  have HO:Hid (walkE l [] q now size = none):=by
   show walkE l [] q now size = none
   unfold walkE
   rw [hab]; rfl
  clear hde hds hwf hab
  go_enter Tryz.func66,Tryz.ntmps66
  go_wp2_with fail
  refine (pwalk_any Ae ne ce l none 0 0 [] q now size w HDE.out (by omega) rfl (by omega) (fun k hk => by omega) hle (Sl.nil0 _ _ _) none HO.out).mono ?_
  rintro e w1 ⟨v,rfl,hv,hb⟩
  clear hv
  go_wp2_with fail
  go_ret
  exact ⟨none,0,0,[],rfl,rfl,by omega,⟨List.Pairwise.nil,fun _ => rfl,fun h => by rw [HAB.out] at h; cases h⟩,Sl.nil0 _ _ _,hb⟩
 | true =>
  have HO:Hid (walkE l [] q now size = some []):=by
   show walkE l [] q now size = some []
   unfold walkE
   rw [hab]; rfl
  have hq:=(askE_spec.1 hab).1
  have HQ:=Lib.hid hq
  have HRE:=Lib.hid (askE_spec.1 hab).2.2.2
  have hqw:(Lit.int .i64 q).wf = true:=wfI (by omega)
  clear hde hds hwf hab hq
  go_enter Tryz.func66,Tryz.ntmps66
  go_wp2_with fail
  refine (pwalk_any Ae ne ce l none 0 0 [] q now size w HDE.out (by omega) rfl (by omega) (fun k hk => by omega) hle (Sl.nil0 _ _ _) (some []) HO.out).mono ?_
  rintro e w1 ⟨v,rfl,hv,hb⟩
  have hB:=hb
  replace hle:=hle.up hb
  replace hls:=hls.up hb
  clear hv hb
  go_wp2_with fail
  refine (eclosed_any q As ns cs sh w1 hqw HDS.out hns HWF.out hls).mono ?_
  rintro e w2 ⟨cb,cn,rfl,hcb,hcn,hS,hb⟩
  replace hB:=hB.trans (hb.mono hB.size)
  replace hle:=hle.up hb
  clear hb hcb hls
  go_wp2_with fail
  refine (espread_any Ae ne ce l q now size cb cn sh w2 HDE.out hne HAB.out hle hS).mono ?_
  rintro e w3 ⟨b,nm,T,rfl,hM,hnm,hE,hb⟩
  replace hB:=hB.trans (hb.mono hB.size)
  have HE:=Lib.hid hE
  have HTW:Hid (∀ x,(T x).isSome = true → (Lit.int .i64 x).wf = true):=fun x hx => by
   obtain ⟨u,hu⟩:=Option.isSome_iff_exists.1 hx
   have:=(HE.out.rch x u hu).node HRE.out HQ.out
   exact wfI (by omega)
  clear hb hle hS hE hcn
  go_wp2_with fail
  refine (esort_any b nm T w3 hM (by omega) HTW.out).mono ?_
  rintro e w4 ⟨v4,r,rfl,hsr,hat,hrn,hown,hb⟩
  replace hB:=hB.trans (hb.mono hB.size)
  obtain ⟨A4,c4,rfl⟩:=slice_of_own hown
  have HOW:=Lib.hid (Sl.of_own hown)
  have HSR:=Lib.hid hsr
  have HAT:=Lib.hid hat
  clear hb hM hsr hat hown
  go_wp2_with fail
  go_ret
  exact ⟨A4,r.length,c4,r,rfl,rfl,by omega,⟨HSR.out,(fun h => by rw [HAB.out] at h; cases h),fun _ => by rw [HAT.out]; exact HE.out⟩,HOW.out,hB⟩
theorem best_step {l:List Ed} {size:Int} {sh:List Int} {q by_:Int} {k m:Nat} {t:Int} {es:List Ed} (h:bestE l size (opn sh q) q by_ (k + 1) (m:Int) t = some es):∃ e rs s a,firstE l size sh q by_ k t (rowI l l.length m) = some e ∧ e ∈ l ∧ e.pass t size = some (s,a) ∧ es = e :: rs ∧ bestE l size (opn sh q) q by_ k e.tn a = some rs:=by
 rw [bestE] at h
 cases hf:l.find? (fitE l size (opn sh q) q by_ k (m:Int) t) with
 | none => rw [hf] at h; cases h
 | some e =>
  rw [hf] at h
  simp only [Option.bind] at h
  cases hp:e.pass t size with
  | none => rw [hp] at h; cases h
  | some p =>
   rw [hp] at h
   simp only at h
   cases hb:bestE l size (opn sh q) q by_ k e.tn p.2 with
   | none => rw [hb] at h; cases h
   | some rs =>
    rw [hb] at h
    injection h with h
    exact ⟨e,rs,p.1,p.2,by rw [firstE_row]; exact hf,List.mem_of_find?_eq_some hf,hp,h.symm,hb⟩
theorem best_end {l:List Ed} {size:Int} {op:Int → Bool} {q by_ n t:Int} {es:List Ed} (h:bestE l size op q by_ 0 n t = some es):es = []:=by
 injection h with h
 exact h.symm
theorem IsFew.few {l:List Ed} {size:Int} {op:Int → Bool} {q by_ x now:Int} {k:Nat} (h0:0 ≤ now) (h:IsFew l size op q by_ x now (some k)):FewAt l size op q by_ k x now:=⟨h0,h.1,h.2⟩
def hopsE (size:Int):Int → List Ed → List Hp
 | _,[] => []
 | t,e :: r => ⟨e.id,((e.pass t size).getD (0,0)).1,((e.pass t size).getD (0,0)).2⟩ :: hopsE size ((e.pass t size).getD (0,0)).2 r
theorem hopsE_cons {size t s a:Int} {e:Ed} {r:List Ed} (h:e.pass t size = some (s,a)):hopsE size t (e :: r) = ⟨e.id,s,a⟩ :: hopsE size a r:=by
 rw [hopsE,h]; rfl
theorem hopsE_length (size:Int):∀ (t:Int) (es:List Ed),(hopsE size t es).length = es.length
 | _,[] => rfl
 | t,e :: r => by rw [hopsE,List.length_cons,List.length_cons,hopsE_length]
def IsBestR (l:List Ed) (f q now size by_:Int) (sh:List Int) (o:Option (List Hp × Int)):Prop:=
 ∃ r,IsTimes l f now size sh r ∧ match atR r q with
  | none => o = none
  | some a => if by_ < a then o = none else ∃ g,IsFew l size (opn sh q) q a f now g ∧ match g with
   | none => o = none
   | some k => ∃ es,bestE l size (opn sh q) q a k f now = some es ∧ o = some (hopsE size now es,a)
theorem runE_in255 {size:Int} {no:Int → Bool}:∀ {es:List Ed} {n t m u:Int},1 ≤ n ∧ n ≤ 255 → runE size no n t es = some (m,u) → 1 ≤ m ∧ m ≤ 255
 | [],n,t,m,u,hn,h => by
  injection h with h
  injection h with h1 _
  omega
 | e :: r,n,t,m,u,hn,h => by
  obtain ⟨s,a,hf,ho,hp,hr⟩:=runE_cons h
  have h1:=pass_facts hp
  have h2:=(Ed.ok_spec.1 h1.1).2.2.1
  exact runE_in255 h2 hr
theorem IsTimes.lim {l:List Ed} {q now size:Int} {sh:List Int} {r:List (Int × Int)} (h:IsTimes l q now size sh r) {m t:Int} (ht:atR r m = some t):askE l q now size = true ∧ (1 ≤ m ∧ m ≤ 255) ∧ now ≤ t ∧ t ≤ 1099511627776:=by
 have ha:=h.ask ht
 have hs:=askE_spec.1 ha
 obtain ⟨es,hl,hr⟩:=(h.yes ha).rch m t ht
 exact ⟨ha,runE_in255 hs.1 hr,runE_ge hr,runE_time hs.2.1.2 hr⟩
end Go.Proofs.YtodcoockhkghdaaGreat
