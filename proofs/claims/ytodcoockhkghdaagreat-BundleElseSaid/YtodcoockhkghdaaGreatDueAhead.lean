/- due.Table's ahead: what is later by the edges into one node. It writes that one map, and new memory. -/
import Derived.Test.YtodcoockhkghdaaGreatGQ16
import Derived.Test.YtodcoockhkghdaaGreatGQ15
namespace Go.Proofs.YtodcoockhkghdaaGreat
open Go.ChangeShapes Go.WideShapes Go.ChangeAt Go.RowKit Go.Sort Go.Maps Hp
set_option linter.unusedSimpArgs false
set_option linter.unusedVariables false
theorem not_both {k:Bool} {p:Prop} (h:¬ (k = true ∧ p)):k = false ∨ (k = true ∧ ¬ p):=by
 cases k with
 | false => exact .inl rfl
 | true => exact .inr ⟨rfl,fun hp => h ⟨rfl,hp⟩⟩
set_option maxHeartbeats 8000000 in
set_option maxRecDepth 100000 in
theorem dahead_any {w0 wm:World} {tb:Nat} {A:Option Addr} {n c:Nat} {l:List Ed} {q by_ size:Int} {sh:List Int} {h:Nat} (t:TabH w0 wm tb A n c l q by_ size sh h) (hh:h ≤ 10000) (hd:l.length = n) (hn:n ≤ 1000) (hre:rightE l = true) (x:Int) (hx:1 ≤ x ∧ x ≤ 255) (hxs:(lateL l size (opn sh q) q by_ h x).isSome = true) (hop:opn sh q x = true)
  (lb nml:Nat) (L:Int → Option Int) (D:List Int) (w:World) (hB:Below wm.heap.size wm w) (hlb:wm.heap.size ≤ lb) (hM:MapT w lb nml L) (hnml:nml ≤ 1000000) (hL:Later l size (opn sh q) q (lateL l size (opn sh q) q by_ h) D L) :
  Calls Tryz.prog 153 #[.pointer (some ⟨tb,0,none⟩),.int .i64 x,.map (some lb)] w fun e w' => e = .returned (.tuple #[]) ∧ ∃ nml' L',MapT w' lb nml' L' ∧ nml' ≤ nml + n ∧ Later l size (opn sh q) q (lateL l size (opn sh q) q by_ h) (D ++ [x]) L' ∧ Below wm.heap.size wm w':=by
 obtain ⟨B,hBB⟩:∃ z,wm.heap.size = z:=⟨_,rfl⟩
 have HT:Hid (∀ w',Below B wm w' → TabH w0 w' tb A n c l q by_ size sh h):=fun w' hb => t.below (by rw [hBB]; exact hb)
 obtain ⟨w1,pb,ub,sb,nm,ct,P,cs,vf,F,hdc,ht,hS,hC,hF,hF3,hF2,hP,hnm⟩:=t
 rw [hBB] at hB hlb ⊢
 have HBB:=Lib.hid hBB
 have htl:=ht.box.lt
 rw [hBB] at htl
 have HTB:Hid (∀ w',Below B wm w' → Blok w' tb 157 #[.slice A n c,.pointer (some ⟨pb,0,none⟩),.int .i64 q,.int .i64 size,.map (some ub),.int .i64 h,.map (some sb),vf]):=fun w' hb => ht.box.below hb htl
 have hbl:∀ w',Below B wm w' → Below tb w1 w':=fun w' hb => ht.bl.trans (hb.mono (by omega))
 have HPL:Hid (∀ w',Below B wm w' → PlcT w' (w0.heap.size + 1) l n ct ∧ Blok w' pb 162 ct.toArray):=fun w' hb => hdc.pl _ (hbl w' hb)
 have HED:Hid (∀ w',Below B wm w' → Sl w' w'.heap.size 8 A n c (flatEd l)):=fun w' hb => hdc.ed _ (hbl w' hb)
 have HD:=Lib.hid hd
 have HOK:Hid (∀ k,k < n → (gEd l k).ok = true):=fun k hk => rightE_ok hre (gEd_mem (by omega))
 obtain ⟨tt,htt⟩:∃ z,lateL l size (opn sh q) q by_ h = z:=⟨_,rfl⟩
 rw [htt] at hxs hL ⊢
 have HTT:=Lib.hid htt
 have HL:=Lib.hid hL
 have HOP:=Lib.hid hop
 obtain ⟨b0,hb0⟩:=Option.isSome_iff_exists.1 hxs
 have HB0:=Lib.hid hb0
 have hxw:(Lit.int .i64 x).wf = true:=wfI (by omega)
 obtain ⟨f,hf⟩:∃ f:Nat,x = (f:Int):=⟨x.toNat,by omega⟩
 have hf2:f < 256:=by omega
 have HF:=Lib.hid hf
 clear hf
 clear hBB hdc ht hS hC hF hF3 hF2 hP hnm hbl hd htt hL hop hxs hb0 hre
 have hbx:=HTB.out _ hB
 have t0:w.cell? ⟨tb,0,none⟩ = some (.slice (A) n c):=hbx.cell 0
 have t1:w.cell? ⟨tb,1,none⟩ = some (.pointer (some ⟨pb,0,none⟩)):=hbx.cell 1
 have t2:w.cell? ⟨tb,2,none⟩ = some (.int .i64 q):=hbx.cell 2
 have t3:w.cell? ⟨tb,3,none⟩ = some (.int .i64 size):=hbx.cell 3
 have t4:w.cell? ⟨tb,4,none⟩ = some (.map (some ub)):=hbx.cell 4
 have t5:w.cell? ⟨tb,5,none⟩ = some (.int .i64 (h:Int)):=hbx.cell 5
 have lt_t:=hbx.lt
 clear hbx
 go_enter Tryz.func153,Tryz.ntmps153
 go_wp2_with fail
 clear t0 t1 t2 t3 t4 t5 lt_t
 refine (dat_any (HT.out _ hB) hh x h (Nat.le_refl _) hxw b0 true (by rw [HTT.out,HB0.out]; rfl) (by rw [HTT.out,HB0.out]; rfl)).mono ?_
 rintro e w2 ⟨rfl,hb⟩
 replace hB:=hB.trans (hb.mono (by have:=hB.size; have:=HBB.out; omega))
 replace hM:=MapV.below hM hb
 clear hb
 have hbx:=HTB.out _ hB
 have t0:w2.cell? ⟨tb,0,none⟩ = some (.slice (A) n c):=hbx.cell 0
 have t1:w2.cell? ⟨tb,1,none⟩ = some (.pointer (some ⟨pb,0,none⟩)):=hbx.cell 1
 have t2:w2.cell? ⟨tb,2,none⟩ = some (.int .i64 q):=hbx.cell 2
 have t3:w2.cell? ⟨tb,3,none⟩ = some (.int .i64 size):=hbx.cell 3
 have t4:w2.cell? ⟨tb,4,none⟩ = some (.map (some ub)):=hbx.cell 4
 have t5:w2.cell? ⟨tb,5,none⟩ = some (.int .i64 (h:Int)):=hbx.cell 5
 have lt_t:=hbx.lt
 clear hbx
 have hRT:RowT l (f:Int) (rowT l n f):=by have:=rowT_of l f; rw [HD.out] at this; exact this
 rw [← HF.out] at hRT
 have hrl:=rowT_len l n f
 obtain ⟨R,hRd⟩:∃ R,rowT l n f = R:=⟨_,rfl⟩
 rw [hRd] at hRT hrl
 obtain ⟨nr,hnr⟩:∃ z,R.length = z:=⟨_,rfl⟩
 rw [hnr] at hrl
 obtain ⟨vr,hvr⟩:∃ v,cellP ct f = v:=⟨_,rfl⟩
 have hrow:=(HPL.out w2 hB).1.row f hf2
 rw [hvr,hRd,hnr] at hrow
 obtain ⟨Ar,cr,rfl⟩:=slice_of_own hrow
 have HRR:Hid (∀ w',Below B wm w' → Sl w' w'.heap.size 1 Ar nr cr (R.map (Value.int .i64))):=fun w' hb => by
  have h:=(HPL.out w' hb).1.row f hf2
  rw [hvr,hRd,hnr] at h
  exact Sl.of_own h
 have hGw:=(HPL.out w2 hB).2
 have hcl:=(HPL.out w2 hB).1.len
 have pg:w2.cell? ⟨pb,f,none⟩ = some (.slice Ar nr cr):=by
  rw [hGw.cell f,← hvr]
  have:=cellP_at (cs:=ct) (n:=f) (by omega)
  simpa using this
 have lt_g:=hGw.lt
 have hfI:(f:Int) < 256:=by omega
 have hf0:(0:Int) ≤ (f:Int):=by omega
 have HI0:=Lib.hid (HL.out.at_ x)
 have HRT:=Lib.hid hRT
 have HNR:=Lib.hid hnr
 clear hRT hRd hnr hvr hrow hGw hcl HL
 try rw [HF.out]
 go_wp2_with fail
 try rw [← HF.out]
 clear pg lt_g t0 t1 t2 t3 t4 t5 lt_t
 go_loopw [36] (fun iv wr => ∃ (j nm':Nat) (L:Int → Option Int),iv = .int .i64 j ∧ j ≤ nr ∧ MapT wr lb nm' L ∧ nm' ≤ nml + j ∧ Hid (LaterAt l size (opn sh q) q tt D x (psE l R j) L) ∧ Below B wm wr) (fun iv _ => nr - (intOf iv).toNat)
 case atStart => exact ⟨0,nml,L,rfl,by omega,hM,by omega,HI0,hB⟩
 case round =>
  clear hM hB HI0 L w2
  obtain ⟨j,nm',L,rfl,hj,hM,hnm',HI,hB⟩:=hrel
  by_cases hjn:j < nr
  ·have hjR:j < R.length:=by rw [HNR.out]; exact hjn
   obtain ⟨adr,rfl,habr,c0⟩:=(HRR.out _ hB).lst.atI HNR.out hjn
   obtain ⟨i,hi,hil',hfr⟩:=HRT.out.at_ j hjR
   rw [hi] at c0
   have HIE:=Lib.hid hi
   have hil:i < n:=by have:=HD.out; omega
   obtain ⟨ad,rfl,hab,e0,e1,e2,e3,e4,e5,e6,e7⟩:=(HED.out _ hB).lst.atEd HD.out hil
   have hok:=HOK.out i hil
   have hmem:=gEd_mem hil'
   obtain ⟨y,hy⟩:∃ y,gEd l i = y:=⟨_,rfl⟩
   rw [hy] at e0 e1 e2 e3 e4 e5 e6 e7 hok hfr hmem
   have HX:=Lib.hid hy
   have HMEM:=Lib.hid hmem
   have HOK2:=Lib.hid hok
   have HTN:=Lib.hid hfr
   have hfw:(Lit.int .i64 y.fr).wf = true:=wfI (by have:=(Ed.ok_spec.1 hok).2.1; omega)
   have hX:=Blok.new wr 86 #[.int .i64 y.id,.int .i64 y.fr,.int .i64 y.tn,.int .i64 y.op,.int .i64 y.en,.int .i64 y.ra,.int .i64 y.ow,.int .i64 y.ro]
   have hb1:Below wr.heap.size wr (wr.alloc (.cells #[.int .i64 y.id,.int .i64 y.fr,.int .i64 y.tn,.int .i64 y.op,.int .i64 y.en,.int .i64 y.ra,.int .i64 y.ow,.int .i64 y.ro] 86)):=(Below.refl _ _).alloc (Nat.le_refl _) _
   have hB2:=hB.trans (hb1.mono (by have:=hB.size; have:=HBB.out; omega))
   have hM2:=MapV.below hM hb1
   have heb:lb < wr.heap.size:=MapV.lt hM
   have hbx:=HTB.out _ hB
   have t0:wr.cell? ⟨tb,0,none⟩ = some (.slice (some ad) n c):=hbx.cell 0
   have t1:wr.cell? ⟨tb,1,none⟩ = some (.pointer (some ⟨pb,0,none⟩)):=hbx.cell 1
   have t2:wr.cell? ⟨tb,2,none⟩ = some (.int .i64 q):=hbx.cell 2
   have t3:wr.cell? ⟨tb,3,none⟩ = some (.int .i64 size):=hbx.cell 3
   have t4:wr.cell? ⟨tb,4,none⟩ = some (.map (some ub)):=hbx.cell 4
   have t5:wr.cell? ⟨tb,5,none⟩ = some (.int .i64 (h:Int)):=hbx.cell 5
   have lt_t:=hbx.lt
   clear hbx
   clear hi hfr hok hmem hy
   go_upto_region 5 with fail
   clear c0 e0 e1 e2 e3 e4 e5 e6 e7 habr hab t0 t1 t2 t3 t4 t5 lt_t hb1 hM
   replace hB:=hB2
   have hM:=hM2
   clear hB2 hM2
   generalize wr.alloc (.cells #[.int .i64 y.id,.int .i64 y.fr,.int .i64 y.tn,.int .i64 y.op,.int .i64 y.en,.int .i64 y.ra,.int .i64 y.ow,.int .i64 y.ro] 86) = w2 at *
   generalize wr.heap.size = eb at *
   clear wr
   have x0:w2.cell? ⟨eb,0,none⟩ = some (.int .i64 y.id):=hX.cell 0
   have x1:w2.cell? ⟨eb,1,none⟩ = some (.int .i64 y.fr):=hX.cell 1
   have x2:w2.cell? ⟨eb,2,none⟩ = some (.int .i64 y.tn):=hX.cell 2
   have x3:w2.cell? ⟨eb,3,none⟩ = some (.int .i64 y.op):=hX.cell 3
   have x4:w2.cell? ⟨eb,4,none⟩ = some (.int .i64 y.en):=hX.cell 4
   have x5:w2.cell? ⟨eb,5,none⟩ = some (.int .i64 y.ra):=hX.cell 5
   have x6:w2.cell? ⟨eb,6,none⟩ = some (.int .i64 y.ow):=hX.cell 6
   have x7:w2.cell? ⟨eb,7,none⟩ = some (.int .i64 y.ro):=hX.cell 7
   have lt_x:=hX.lt
   have hbx:=HTB.out _ hB
   have t0:w2.cell? ⟨tb,0,none⟩ = some (.slice (some ad) n c):=hbx.cell 0
   have t1:w2.cell? ⟨tb,1,none⟩ = some (.pointer (some ⟨pb,0,none⟩)):=hbx.cell 1
   have t2:w2.cell? ⟨tb,2,none⟩ = some (.int .i64 q):=hbx.cell 2
   have t3:w2.cell? ⟨tb,3,none⟩ = some (.int .i64 size):=hbx.cell 3
   have t4:w2.cell? ⟨tb,4,none⟩ = some (.map (some ub)):=hbx.cell 4
   have t5:w2.cell? ⟨tb,5,none⟩ = some (.int .i64 (h:Int)):=hbx.cell 5
   have lt_t:=hbx.lt
   clear hbx
   cases hp:y.latest b0 size with
   | none =>
    have HP2:=Lib.hid hp
    clear hp
    have q_x0:=fun d os => cell_regrown x0 d os
    have q_x1:=fun d os => cell_regrown x1 d os
    have q_x2:=fun d os => cell_regrown x2 d os
    have q_x3:=fun d os => cell_regrown x3 d os
    have q_x4:=fun d os => cell_regrown x4 d os
    have q_x5:=fun d os => cell_regrown x5 d os
    have q_x6:=fun d os => cell_regrown x6 d os
    have q_x7:=fun d os => cell_regrown x7 d os
    have q_t0:=fun d os => cell_regrown t0 d os
    have q_t1:=fun d os => cell_regrown t1 d os
    have q_t2:=fun d os => cell_regrown t2 d os
    have q_t3:=fun d os => cell_regrown t3 d os
    have q_t4:=fun d os => cell_regrown t4 d os
    have q_t5:=fun d os => cell_regrown t5 d os
    try simp only [List.append]
    first | refine wp_region_text_below ?_ | refine wp_region_quiet_below (by kernel_rfl) (by kernel_rfl) ?_
    repeat (go_big_quiet_step ((go_at_call 181; with_reducible exact Calls.regrown_of (hlat_no HP2.out _))))
    refine wpQuiet_nil ?_
    intro _ hqw
    obtain ⟨pq,hqw⟩:=hqw
    subst hqw
    clear q_x0 q_x1 q_x2 q_x3 q_x4 q_x5 q_x6 q_x7 q_t0 q_t1 q_t2 q_t3 q_t4 q_t5
    have hbel:=below_regrown w2 pq.d pq.os
    replace hB:=hB.trans (hbel.mono (by have:=hB.size; have:=HBB.out; omega))
    replace hX:=hX.below hbel hX.lt
    replace hM:=MapV.below hM hbel
    clear hbel x0 x1 x2 x3 x4 x5 x6 x7 t0 t1 t2 t3 t4 t5 lt_x lt_t
    generalize grow (redrawn w2 pq.d) pq.os = w3 at *
    have x0:w3.cell? ⟨eb,0,none⟩ = some (.int .i64 y.id):=hX.cell 0
    have x1:w3.cell? ⟨eb,1,none⟩ = some (.int .i64 y.fr):=hX.cell 1
    have x2:w3.cell? ⟨eb,2,none⟩ = some (.int .i64 y.tn):=hX.cell 2
    have x3:w3.cell? ⟨eb,3,none⟩ = some (.int .i64 y.op):=hX.cell 3
    have x4:w3.cell? ⟨eb,4,none⟩ = some (.int .i64 y.en):=hX.cell 4
    have x5:w3.cell? ⟨eb,5,none⟩ = some (.int .i64 y.ra):=hX.cell 5
    have x6:w3.cell? ⟨eb,6,none⟩ = some (.int .i64 y.ow):=hX.cell 6
    have x7:w3.cell? ⟨eb,7,none⟩ = some (.int .i64 y.ro):=hX.cell 7
    have lt_x:=hX.lt
    have hbx:=HTB.out _ hB
    have t0:w3.cell? ⟨tb,0,none⟩ = some (.slice (some ad) n c):=hbx.cell 0
    have t1:w3.cell? ⟨tb,1,none⟩ = some (.pointer (some ⟨pb,0,none⟩)):=hbx.cell 1
    have t2:w3.cell? ⟨tb,2,none⟩ = some (.int .i64 q):=hbx.cell 2
    have t3:w3.cell? ⟨tb,3,none⟩ = some (.int .i64 size):=hbx.cell 3
    have t4:w3.cell? ⟨tb,4,none⟩ = some (.map (some ub)):=hbx.cell 4
    have t5:w3.cell? ⟨tb,5,none⟩ = some (.int .i64 (h:Int)):=hbx.cell 5
    have lt_t:=hbx.lt
    clear hbx
    go_wp2_with fail
    have q_x0:=fun d os => cell_regrown x0 d os
    have q_x1:=fun d os => cell_regrown x1 d os
    have q_x2:=fun d os => cell_regrown x2 d os
    have q_x3:=fun d os => cell_regrown x3 d os
    have q_x4:=fun d os => cell_regrown x4 d os
    have q_x5:=fun d os => cell_regrown x5 d os
    have q_x6:=fun d os => cell_regrown x6 d os
    have q_x7:=fun d os => cell_regrown x7 d os
    have q_t0:=fun d os => cell_regrown t0 d os
    have q_t1:=fun d os => cell_regrown t1 d os
    have q_t2:=fun d os => cell_regrown t2 d os
    have q_t3:=fun d os => cell_regrown t3 d os
    have q_t4:=fun d os => cell_regrown t4 d os
    have q_t5:=fun d os => cell_regrown t5 d os
    try simp only [List.append]
    first | refine wp_region_text_below ?_ | refine wp_region_quiet_below (by kernel_rfl) (by kernel_rfl) ?_
    repeat (go_big_quiet_step ((fail)))
    refine wpQuiet_nil ?_
    intro _ hqw
    obtain ⟨pq,hqw⟩:=hqw
    subst hqw
    clear q_x0 q_x1 q_x2 q_x3 q_x4 q_x5 q_x6 q_x7 q_t0 q_t1 q_t2 q_t3 q_t4 q_t5
    have hbel:=below_regrown w3 pq.d pq.os
    replace hB:=hB.trans (hbel.mono (by have:=hB.size; have:=HBB.out; omega))
    replace hX:=hX.below hbel hX.lt
    replace hM:=MapV.below hM hbel
    clear hbel x0 x1 x2 x3 x4 x5 x6 x7 t0 t1 t2 t3 t4 t5 lt_x lt_t
    generalize grow (redrawn w3 pq.d) pq.os = w4 at *
    have x0:w4.cell? ⟨eb,0,none⟩ = some (.int .i64 y.id):=hX.cell 0
    have x1:w4.cell? ⟨eb,1,none⟩ = some (.int .i64 y.fr):=hX.cell 1
    have x2:w4.cell? ⟨eb,2,none⟩ = some (.int .i64 y.tn):=hX.cell 2
    have x3:w4.cell? ⟨eb,3,none⟩ = some (.int .i64 y.op):=hX.cell 3
    have x4:w4.cell? ⟨eb,4,none⟩ = some (.int .i64 y.en):=hX.cell 4
    have x5:w4.cell? ⟨eb,5,none⟩ = some (.int .i64 y.ra):=hX.cell 5
    have x6:w4.cell? ⟨eb,6,none⟩ = some (.int .i64 y.ow):=hX.cell 6
    have x7:w4.cell? ⟨eb,7,none⟩ = some (.int .i64 y.ro):=hX.cell 7
    have lt_x:=hX.lt
    have hbx:=HTB.out _ hB
    have t0:w4.cell? ⟨tb,0,none⟩ = some (.slice (some ad) n c):=hbx.cell 0
    have t1:w4.cell? ⟨tb,1,none⟩ = some (.pointer (some ⟨pb,0,none⟩)):=hbx.cell 1
    have t2:w4.cell? ⟨tb,2,none⟩ = some (.int .i64 q):=hbx.cell 2
    have t3:w4.cell? ⟨tb,3,none⟩ = some (.int .i64 size):=hbx.cell 3
    have t4:w4.cell? ⟨tb,4,none⟩ = some (.map (some ub)):=hbx.cell 4
    have t5:w4.cell? ⟨tb,5,none⟩ = some (.int .i64 (h:Int)):=hbx.cell 5
    have lt_t:=hbx.lt
    clear hbx
    have HI2:Hid (LaterAt l size (opn sh q) q tt D x (psE l R (j + 1)) L):=by
     show LaterAt l size (opn sh q) q tt D x (psE l R (j + 1)) L
     rw [psE_next (n:=x) hjR HIE.out,HX.out]
     refine HI.out.skip (fun hq t z ht hz => ?_)
     rw [HB0.out] at ht
     injection ht with ht
     rw [← ht,HP2.out] at hz
     cases hz
    go_wp2_with fail
    go_roundw
    case rel => exact ⟨j + 1,nm',L,by go_num,by omega,hM,by omega,HI2,hB⟩
    case measure => simp [intOf]; omega
   | some a =>
    have HP2:=Lib.hid hp
    clear hp
    have q_x0:=fun d os => cell_regrown x0 d os
    have q_x1:=fun d os => cell_regrown x1 d os
    have q_x2:=fun d os => cell_regrown x2 d os
    have q_x3:=fun d os => cell_regrown x3 d os
    have q_x4:=fun d os => cell_regrown x4 d os
    have q_x5:=fun d os => cell_regrown x5 d os
    have q_x6:=fun d os => cell_regrown x6 d os
    have q_x7:=fun d os => cell_regrown x7 d os
    have q_t0:=fun d os => cell_regrown t0 d os
    have q_t1:=fun d os => cell_regrown t1 d os
    have q_t2:=fun d os => cell_regrown t2 d os
    have q_t3:=fun d os => cell_regrown t3 d os
    have q_t4:=fun d os => cell_regrown t4 d os
    have q_t5:=fun d os => cell_regrown t5 d os
    try simp only [List.append]
    first | refine wp_region_text_below ?_ | refine wp_region_quiet_below (by kernel_rfl) (by kernel_rfl) ?_
    repeat (go_big_quiet_step ((go_at_call 181; with_reducible exact Calls.regrown_of (hlat_yes HP2.out _))))
    refine wpQuiet_nil ?_
    intro _ hqw
    obtain ⟨pq,hqw⟩:=hqw
    subst hqw
    clear q_x0 q_x1 q_x2 q_x3 q_x4 q_x5 q_x6 q_x7 q_t0 q_t1 q_t2 q_t3 q_t4 q_t5
    have hbel:=below_regrown w2 pq.d pq.os
    replace hB:=hB.trans (hbel.mono (by have:=hB.size; have:=HBB.out; omega))
    replace hX:=hX.below hbel hX.lt
    replace hM:=MapV.below hM hbel
    clear hbel x0 x1 x2 x3 x4 x5 x6 x7 t0 t1 t2 t3 t4 t5 lt_x lt_t
    generalize grow (redrawn w2 pq.d) pq.os = w3 at *
    have x0:w3.cell? ⟨eb,0,none⟩ = some (.int .i64 y.id):=hX.cell 0
    have x1:w3.cell? ⟨eb,1,none⟩ = some (.int .i64 y.fr):=hX.cell 1
    have x2:w3.cell? ⟨eb,2,none⟩ = some (.int .i64 y.tn):=hX.cell 2
    have x3:w3.cell? ⟨eb,3,none⟩ = some (.int .i64 y.op):=hX.cell 3
    have x4:w3.cell? ⟨eb,4,none⟩ = some (.int .i64 y.en):=hX.cell 4
    have x5:w3.cell? ⟨eb,5,none⟩ = some (.int .i64 y.ra):=hX.cell 5
    have x6:w3.cell? ⟨eb,6,none⟩ = some (.int .i64 y.ow):=hX.cell 6
    have x7:w3.cell? ⟨eb,7,none⟩ = some (.int .i64 y.ro):=hX.cell 7
    have lt_x:=hX.lt
    have hbx:=HTB.out _ hB
    have t0:w3.cell? ⟨tb,0,none⟩ = some (.slice (some ad) n c):=hbx.cell 0
    have t1:w3.cell? ⟨tb,1,none⟩ = some (.pointer (some ⟨pb,0,none⟩)):=hbx.cell 1
    have t2:w3.cell? ⟨tb,2,none⟩ = some (.int .i64 q):=hbx.cell 2
    have t3:w3.cell? ⟨tb,3,none⟩ = some (.int .i64 size):=hbx.cell 3
    have t4:w3.cell? ⟨tb,4,none⟩ = some (.map (some ub)):=hbx.cell 4
    have t5:w3.cell? ⟨tb,5,none⟩ = some (.int .i64 (h:Int)):=hbx.cell 5
    have lt_t:=hbx.lt
    clear hbx
    by_cases hyq:y.fr = q
    ·have g0:(y.fr == q) = true:=beq_iff_eq.2 hyq
     have HYQ:=Lib.hid hyq
     clear hyq
     go_wp2_with fail
     have q_x0:=fun d os => cell_regrown x0 d os
     have q_x1:=fun d os => cell_regrown x1 d os
     have q_x2:=fun d os => cell_regrown x2 d os
     have q_x3:=fun d os => cell_regrown x3 d os
     have q_x4:=fun d os => cell_regrown x4 d os
     have q_x5:=fun d os => cell_regrown x5 d os
     have q_x6:=fun d os => cell_regrown x6 d os
     have q_x7:=fun d os => cell_regrown x7 d os
     have q_t0:=fun d os => cell_regrown t0 d os
     have q_t1:=fun d os => cell_regrown t1 d os
     have q_t2:=fun d os => cell_regrown t2 d os
     have q_t3:=fun d os => cell_regrown t3 d os
     have q_t4:=fun d os => cell_regrown t4 d os
     have q_t5:=fun d os => cell_regrown t5 d os
     try simp only [List.append]
     first | refine wp_region_text_below ?_ | refine wp_region_quiet_below (by kernel_rfl) (by kernel_rfl) ?_
     repeat (go_big_quiet_step ((fail)))
     refine wpQuiet_nil ?_
     intro _ hqw
     obtain ⟨pq,hqw⟩:=hqw
     subst hqw
     clear q_x0 q_x1 q_x2 q_x3 q_x4 q_x5 q_x6 q_x7 q_t0 q_t1 q_t2 q_t3 q_t4 q_t5
     have hbel:=below_regrown w3 pq.d pq.os
     replace hB:=hB.trans (hbel.mono (by have:=hB.size; have:=HBB.out; omega))
     replace hX:=hX.below hbel hX.lt
     replace hM:=MapV.below hM hbel
     clear hbel x0 x1 x2 x3 x4 x5 x6 x7 t0 t1 t2 t3 t4 t5 lt_x lt_t
     generalize grow (redrawn w3 pq.d) pq.os = w4 at *
     have x0:w4.cell? ⟨eb,0,none⟩ = some (.int .i64 y.id):=hX.cell 0
     have x1:w4.cell? ⟨eb,1,none⟩ = some (.int .i64 y.fr):=hX.cell 1
     have x2:w4.cell? ⟨eb,2,none⟩ = some (.int .i64 y.tn):=hX.cell 2
     have x3:w4.cell? ⟨eb,3,none⟩ = some (.int .i64 y.op):=hX.cell 3
     have x4:w4.cell? ⟨eb,4,none⟩ = some (.int .i64 y.en):=hX.cell 4
     have x5:w4.cell? ⟨eb,5,none⟩ = some (.int .i64 y.ra):=hX.cell 5
     have x6:w4.cell? ⟨eb,6,none⟩ = some (.int .i64 y.ow):=hX.cell 6
     have x7:w4.cell? ⟨eb,7,none⟩ = some (.int .i64 y.ro):=hX.cell 7
     have lt_x:=hX.lt
     have hbx:=HTB.out _ hB
     have t0:w4.cell? ⟨tb,0,none⟩ = some (.slice (some ad) n c):=hbx.cell 0
     have t1:w4.cell? ⟨tb,1,none⟩ = some (.pointer (some ⟨pb,0,none⟩)):=hbx.cell 1
     have t2:w4.cell? ⟨tb,2,none⟩ = some (.int .i64 q):=hbx.cell 2
     have t3:w4.cell? ⟨tb,3,none⟩ = some (.int .i64 size):=hbx.cell 3
     have t4:w4.cell? ⟨tb,4,none⟩ = some (.map (some ub)):=hbx.cell 4
     have t5:w4.cell? ⟨tb,5,none⟩ = some (.int .i64 (h:Int)):=hbx.cell 5
     have lt_t:=hbx.lt
     clear hbx
     have HI2:Hid (LaterAt l size (opn sh q) q tt D x (psE l R (j + 1)) L):=by
      show LaterAt l size (opn sh q) q tt D x (psE l R (j + 1)) L
      rw [psE_next (n:=x) hjR HIE.out,HX.out]
      refine HI.out.skip (fun hq t z ht hz => ?_)
      exact absurd HYQ.out hq
     go_wp2_with fail
     go_roundw
     case rel => exact ⟨j + 1,nm',L,by go_num,by omega,hM,by omega,HI2,hB⟩
     case measure => simp [intOf]; omega
    ·have g0:(y.fr == q) = false:=beq_eq_false_iff_ne.2 hyq
     have HYQ:=Lib.hid hyq
     clear hyq
     go_wp2_with fail
     have q_x0:=fun d os => cell_regrown x0 d os
     have q_x1:=fun d os => cell_regrown x1 d os
     have q_x2:=fun d os => cell_regrown x2 d os
     have q_x3:=fun d os => cell_regrown x3 d os
     have q_x4:=fun d os => cell_regrown x4 d os
     have q_x5:=fun d os => cell_regrown x5 d os
     have q_x6:=fun d os => cell_regrown x6 d os
     have q_x7:=fun d os => cell_regrown x7 d os
     have q_t0:=fun d os => cell_regrown t0 d os
     have q_t1:=fun d os => cell_regrown t1 d os
     have q_t2:=fun d os => cell_regrown t2 d os
     have q_t3:=fun d os => cell_regrown t3 d os
     have q_t4:=fun d os => cell_regrown t4 d os
     have q_t5:=fun d os => cell_regrown t5 d os
     try simp only [List.append]
     first | refine wp_region_text_below ?_ | refine wp_region_quiet_below (by kernel_rfl) (by kernel_rfl) ?_
     repeat (go_big_quiet_step ((fail)))
     refine wpQuiet_nil ?_
     intro _ hqw
     obtain ⟨pq,hqw⟩:=hqw
     subst hqw
     clear q_x0 q_x1 q_x2 q_x3 q_x4 q_x5 q_x6 q_x7 q_t0 q_t1 q_t2 q_t3 q_t4 q_t5
     have hbel:=below_regrown w3 pq.d pq.os
     replace hB:=hB.trans (hbel.mono (by have:=hB.size; have:=HBB.out; omega))
     replace hX:=hX.below hbel hX.lt
     replace hM:=MapV.below hM hbel
     clear hbel x0 x1 x2 x3 x4 x5 x6 x7 t0 t1 t2 t3 t4 t5 lt_x lt_t
     generalize grow (redrawn w3 pq.d) pq.os = w4 at *
     have x0:w4.cell? ⟨eb,0,none⟩ = some (.int .i64 y.id):=hX.cell 0
     have x1:w4.cell? ⟨eb,1,none⟩ = some (.int .i64 y.fr):=hX.cell 1
     have x2:w4.cell? ⟨eb,2,none⟩ = some (.int .i64 y.tn):=hX.cell 2
     have x3:w4.cell? ⟨eb,3,none⟩ = some (.int .i64 y.op):=hX.cell 3
     have x4:w4.cell? ⟨eb,4,none⟩ = some (.int .i64 y.en):=hX.cell 4
     have x5:w4.cell? ⟨eb,5,none⟩ = some (.int .i64 y.ra):=hX.cell 5
     have x6:w4.cell? ⟨eb,6,none⟩ = some (.int .i64 y.ow):=hX.cell 6
     have x7:w4.cell? ⟨eb,7,none⟩ = some (.int .i64 y.ro):=hX.cell 7
     have lt_x:=hX.lt
     have hbx:=HTB.out _ hB
     have t0:w4.cell? ⟨tb,0,none⟩ = some (.slice (some ad) n c):=hbx.cell 0
     have t1:w4.cell? ⟨tb,1,none⟩ = some (.pointer (some ⟨pb,0,none⟩)):=hbx.cell 1
     have t2:w4.cell? ⟨tb,2,none⟩ = some (.int .i64 q):=hbx.cell 2
     have t3:w4.cell? ⟨tb,3,none⟩ = some (.int .i64 size):=hbx.cell 3
     have t4:w4.cell? ⟨tb,4,none⟩ = some (.map (some ub)):=hbx.cell 4
     have t5:w4.cell? ⟨tb,5,none⟩ = some (.int .i64 (h:Int)):=hbx.cell 5
     have lt_t:=hbx.lt
     clear hbx
     go_wp2_with fail
     obtain ⟨v,hv⟩:∃ v,(tt y.fr).getD 0 = v:=⟨_,rfl⟩
     obtain ⟨kn,hkn⟩:∃ v,(tt y.fr).isSome = v:=⟨_,rfl⟩
     have HV:=Lib.hid hv
     have HK:=Lib.hid hkn
     clear hv hkn
     have q_x0:=fun d os => cell_regrown x0 d os
     have q_x1:=fun d os => cell_regrown x1 d os
     have q_x2:=fun d os => cell_regrown x2 d os
     have q_x3:=fun d os => cell_regrown x3 d os
     have q_x4:=fun d os => cell_regrown x4 d os
     have q_x5:=fun d os => cell_regrown x5 d os
     have q_x6:=fun d os => cell_regrown x6 d os
     have q_x7:=fun d os => cell_regrown x7 d os
     have q_t0:=fun d os => cell_regrown t0 d os
     have q_t1:=fun d os => cell_regrown t1 d os
     have q_t2:=fun d os => cell_regrown t2 d os
     have q_t3:=fun d os => cell_regrown t3 d os
     have q_t4:=fun d os => cell_regrown t4 d os
     have q_t5:=fun d os => cell_regrown t5 d os
     try simp only [List.append]
     first | refine wp_region_text_below ?_ | refine wp_region_quiet_below (by kernel_rfl) (by kernel_rfl) ?_
     repeat (go_big_quiet_step ((go_at_call 110; with_reducible exact Calls.regrown_of (dat_any ((HT.out _ hB).below (below_regrown _ _ _)) hh y.fr h (Nat.le_refl _) hfw v kn (by rw [HTT.out]; exact HV.out) (by rw [HTT.out]; exact HK.out)))))
     refine wpQuiet_nil ?_
     intro _ hqw
     obtain ⟨pq,hqw⟩:=hqw
     subst hqw
     clear q_x0 q_x1 q_x2 q_x3 q_x4 q_x5 q_x6 q_x7 q_t0 q_t1 q_t2 q_t3 q_t4 q_t5
     have hbel:=below_regrown w4 pq.d pq.os
     replace hB:=hB.trans (hbel.mono (by have:=hB.size; have:=HBB.out; omega))
     replace hX:=hX.below hbel hX.lt
     replace hM:=MapV.below hM hbel
     clear hbel x0 x1 x2 x3 x4 x5 x6 x7 t0 t1 t2 t3 t4 t5 lt_x lt_t
     generalize grow (redrawn w4 pq.d) pq.os = w5 at *
     have x0:w5.cell? ⟨eb,0,none⟩ = some (.int .i64 y.id):=hX.cell 0
     have x1:w5.cell? ⟨eb,1,none⟩ = some (.int .i64 y.fr):=hX.cell 1
     have x2:w5.cell? ⟨eb,2,none⟩ = some (.int .i64 y.tn):=hX.cell 2
     have x3:w5.cell? ⟨eb,3,none⟩ = some (.int .i64 y.op):=hX.cell 3
     have x4:w5.cell? ⟨eb,4,none⟩ = some (.int .i64 y.en):=hX.cell 4
     have x5:w5.cell? ⟨eb,5,none⟩ = some (.int .i64 y.ra):=hX.cell 5
     have x6:w5.cell? ⟨eb,6,none⟩ = some (.int .i64 y.ow):=hX.cell 6
     have x7:w5.cell? ⟨eb,7,none⟩ = some (.int .i64 y.ro):=hX.cell 7
     have lt_x:=hX.lt
     have hbx:=HTB.out _ hB
     have t0:w5.cell? ⟨tb,0,none⟩ = some (.slice (some ad) n c):=hbx.cell 0
     have t1:w5.cell? ⟨tb,1,none⟩ = some (.pointer (some ⟨pb,0,none⟩)):=hbx.cell 1
     have t2:w5.cell? ⟨tb,2,none⟩ = some (.int .i64 q):=hbx.cell 2
     have t3:w5.cell? ⟨tb,3,none⟩ = some (.int .i64 size):=hbx.cell 3
     have t4:w5.cell? ⟨tb,4,none⟩ = some (.map (some ub)):=hbx.cell 4
     have t5:w5.cell? ⟨tb,5,none⟩ = some (.int .i64 (h:Int)):=hbx.cell 5
     have lt_t:=hbx.lt
     clear hbx
     by_cases hold:kn = true ∧ a ≤ v
     ·obtain ⟨rfl,hav⟩:=hold
      have g1:decide (a ≤ v) = true:=decide_eq_true hav
      have HI2:Hid (LaterAt l size (opn sh q) q tt D x (psE l R (j + 1)) L):=by
       show LaterAt l size (opn sh q) q tt D x (psE l R (j + 1)) L
       rw [psE_next (n:=x) hjR HIE.out,HX.out]
       refine HI.out.skip (fun hq t z ht hz => ?_)
       rw [HB0.out] at ht
       injection ht with ht
       rw [← ht,HP2.out] at hz
       injection hz with hz
       have h1:=HV.out
       have h2:=HK.out
       cases hu:tt y.fr with
       | none => rw [hu] at h2; cases h2
       | some u => rw [hu] at h1; exact .inl ⟨u,rfl,by have:u = v:=h1; omega⟩
      clear hav
      go_wp2_with fail
      go_roundw
      case rel => exact ⟨j + 1,nm',L,by go_num,by omega,hM,by omega,HI2,hB⟩
      case measure => simp [intOf]; omega
     ·have hcase:=not_both hold
      clear hold
      have HNEW:Hid (∀ u,tt y.fr = some u → u < a):=fun u hu => by
       have h1:=HV.out
       have h2:=HK.out
       rw [hu] at h1 h2
       rcases hcase with e | ⟨_,e⟩
       ·rw [e] at h2; cases h2
       ·have:u = v:=h1
        omega
      obtain ⟨ov,hov⟩:∃ z,(L y.fr).getD 0 = z:=⟨_,rfl⟩
      obtain ⟨ok,hok⟩:∃ z,(L y.fr).isSome = z:=⟨_,rfl⟩
      have hlk:=MapT.look_ok hM hfw hov hok
      have HOV:=Lib.hid hov
      have HOKK:=Lib.hid hok
      clear hov hok
      by_cases hlay:ok = true ∧ a ≤ ov
      ·obtain ⟨rfl,hav⟩:=hlay
       have g2:decide (ov < a) = false:=decide_eq_false (by omega)
       have HI2:Hid (LaterAt l size (opn sh q) q tt D x (psE l R (j + 1)) L):=by
        show LaterAt l size (opn sh q) q tt D x (psE l R (j + 1)) L
        rw [psE_next (n:=x) hjR HIE.out,HX.out]
        refine HI.out.skip (fun hq t z ht hz => ?_)
        rw [HB0.out] at ht
        injection ht with ht
        rw [← ht,HP2.out] at hz
        injection hz with hz
        have h1:=HOV.out
        have h2:=HOKK.out
        cases hu:L y.fr with
        | none => rw [hu] at h2; cases h2
        | some u => rw [hu] at h1; exact .inr ⟨u,rfl,by have:u = ov:=h1; omega⟩
       clear hav
       rcases hcase with rfl | ⟨rfl,hav⟩
       ·clear HNEW
        go_wp2_with fail
        go_roundw
        case rel => exact ⟨j + 1,nm',L,by go_num,by omega,hM,by omega,HI2,hB⟩
        case measure => simp [intOf]; omega
       ·have g1:decide (a ≤ v) = false:=decide_eq_false hav
        clear HNEW hav
        go_wp2_with fail
        go_roundw
        case rel => exact ⟨j + 1,nm',L,by go_num,by omega,hM,by omega,HI2,hB⟩
        case measure => simp [intOf]; omega
      ·have hcase2:=not_both hlay
       clear hlay
       have HNEW2:Hid (∀ u,L y.fr = some u → u < a):=fun u hu => by
        have h1:=HOV.out
        have h2:=HOKK.out
        rw [hu] at h1 h2
        rcases hcase2 with e | ⟨_,e⟩
        ·rw [e] at h2; cases h2
        ·have:u = ov:=h1
         omega
       have HI2:Hid (LaterAt l size (opn sh q) q tt D x (psE l R (j + 1)) (setT L y.fr a)):=by
        show LaterAt l size (opn sh q) q tt D x (psE l R (j + 1)) (setT L y.fr a)
        rw [psE_next (n:=x) hjR HIE.out,HX.out]
        exact HI.out.put HMEM.out HTN.out HOP.out HYQ.out HB0.out HP2.out HNEW.out HNEW2.out
       obtain ⟨w5,hput,hM5,hg5⟩:=MapT.put hM (by unfold maxLen; omega) hfw a
       have hB5:=hB.grown hg5 (by have:=hB.size; have:=HBB.out; omega) (fun k hk => by injection hk with hk; omega)
       have hX5:=hX.grown hg5 (fun e => by injection e with e; omega)
       have HM5:=Lib.hid hM5
       have HB5:=Lib.hid hB5
       clear hM5 hg5 hB5 hX5 hM hB hX HNEW HNEW2
       rcases hcase with rfl | ⟨rfl,hav⟩
       ·rcases hcase2 with rfl | ⟨rfl,hao⟩
        ·go_wp2_with fail
         go_roundw
         case rel => exact ⟨j + 1,nm' + 1,setT L y.fr a,by go_num,by omega,HM5.out,by omega,HI2,HB5.out⟩
         case measure => simp [intOf]; omega
        ·have g2:decide (ov < a) = true:=decide_eq_true (by omega)
         clear hao
         go_wp2_with fail
         go_roundw
         case rel => exact ⟨j + 1,nm' + 1,setT L y.fr a,by go_num,by omega,HM5.out,by omega,HI2,HB5.out⟩
         case measure => simp [intOf]; omega
       ·have g1:decide (a ≤ v) = false:=decide_eq_false hav
        clear hav
        rcases hcase2 with rfl | ⟨rfl,hao⟩
        ·go_wp2_with fail
         go_roundw
         case rel => exact ⟨j + 1,nm' + 1,setT L y.fr a,by go_num,by omega,HM5.out,by omega,HI2,HB5.out⟩
         case measure => simp [intOf]; omega
        ·have g2:decide (ov < a) = true:=decide_eq_true (by omega)
         clear hao
         go_wp2_with fail
         go_roundw
         case rel => exact ⟨j + 1,nm' + 1,setT L y.fr a,by go_num,by omega,HM5.out,by omega,HI2,HB5.out⟩
         case measure => simp [intOf]; omega
  ·obtain rfl:j = nr:=by omega
   have hfin:Later l size (opn sh q) q tt (D ++ [x]) L:=HI.out.end_ (fun e he hf => by
    have:=HRT.out.all e he hf
    unfold psE
    rw [List.take_of_length_le (by rw [HNR.out]; exact Nat.le_refl _)]
    exact this)
   have HFIN:=Lib.hid hfin
   clear hfin HI
   go_wp2_with fail
   go_end0
   exact ⟨rfl,nm',L,hM,by omega,HFIN.out,hB⟩
end Go.Proofs.YtodcoockhkghdaaGreat
