/- Contracts of package path: pass, ends, leads, arrive. They make new memory alone. -/
import Derived.Test.YtodcoockhkghdaaGreatGQ10
namespace Go.Proofs.YtodcoockhkghdaaGreat
open Go.ChangeShapes Go.WideShapes Go.ChangeAt Go.RowKit Go.Sort
set_option linter.unusedSimpArgs false
set_option linter.unusedVariables false
theorem infoI12:(Tryz.prog.info? 3).map (fun i => (i.zero,i.size,i.bytes)) = some (some (.int .i64 0),1,8):=by kernel_rfl
theorem hpass_yes {x:Ed} {t size a b:Int} (h:x.pass t size = some (a,b)) (w:World) :
  Calls Tryz.prog 86 #[.agg #[.int .i64 x.id,.int .i64 x.fr,.int .i64 x.tn,.int .i64 x.op,.int .i64 x.en,.int .i64 x.ra,.int .i64 x.ow,.int .i64 x.ro],.int .i64 t,.int .i64 size] w fun e w' => e = .returned (.tuple #[.int .i64 a,.int .i64 b,.bool true]) ∧ Below w.heap.size w w':=pass_yes h w
theorem hpass_no {x:Ed} {t size:Int} (h:x.pass t size = none) (w:World) :
  Calls Tryz.prog 86 #[.agg #[.int .i64 x.id,.int .i64 x.fr,.int .i64 x.tn,.int .i64 x.op,.int .i64 x.en,.int .i64 x.ra,.int .i64 x.ow,.int .i64 x.ro],.int .i64 t,.int .i64 size] w fun e w' => e = .returned (.tuple #[.int .i64 0,.int .i64 0,.bool false]) ∧ Below w.heap.size w w':=pass_no h w
set_option maxHeartbeats 4000000 in
set_option maxRecDepth 100000 in
theorem ppass_any (A:Option Addr) (n c:Nat) (d:List Ed) (t size:Int) (w:World) (hd:d.length = n) (hn:n ≤ 1000000) (h:Sl w w.heap.size 8 A n c (flatEd d)) (o:Option (List Hp)) (ho:passE size d t = o) :
  Calls Tryz.prog 49 #[.slice A n c,.int .i64 t,.int .i64 size] w fun e w' => ∃ v,e = .returned (.tuple #[v,.bool o.isSome]) ∧ w'.ownsRow w.heap.size 67 3 v (o.getD []).length (flatHp (o.getD [])) ∧ Below w.heap.size w w':=by
 obtain ⟨i0,hi0,hz0,hz1,hz2⟩:=info_parts infoHp
 have HD:=Lib.hid hd
 have HL:=Lib.hid h
 have HO:=Lib.hid ho
 clear hd h ho
 go_enter Tryz.func49,Tryz.ntmps49
 go_wp2
 go_loopw [8,9,18] (fun ev qv iv wr => ∃ (hs:List Hp) (k:Nat) (t':Int) (i:Nat),iv = .int .i64 i ∧ qv = .int .i64 t' ∧ i ≤ n ∧ k ≤ i ∧ Hid (hs.length = k) ∧ wr.ownsRow w.heap.size 67 3 ev k (flatHp hs) ∧ Hid ((passE size (d.drop i) t').map (hs ++ ·) = o) ∧ Below w.heap.size w wr) (fun _ _ iv _ => n - (intOf iv).toNat)
 case atStart => exact ⟨[],0,t,0,rfl,rfl,by omega,by omega,rfl,World.ownsRow_nil _ _ _ _,(by show (passE size (d.drop 0) t).map ([] ++ ·) = o; rw [List.drop_zero,HO.out]; cases o <;> simp),Below.refl _ _⟩
 case round =>
  clear HO
  obtain ⟨hs,k,t',i,rfl,rfl,hi,hk,HE,hown,HF,hB⟩:=hrel
  have hsz:=hB.size
  obtain ⟨Ae,ce,rfl⟩:=slice_of_own hown
  by_cases hin:i < n
  ·obtain ⟨ad,rfl,hab,c0,c1,c2,c3,c4,c5,c6,c7⟩:=(HL.out.below hB).lst.atEd HD.out hin
   have hdr:=drop_atEd' (l:=d) (i:=i) (by rw [HD.out]; exact hin)
   obtain ⟨x,hx⟩:∃ x,gEd d i = x:=⟨_,rfl⟩
   rw [hx] at c0 c1 c2 c3 c4 c5 c6 c7 hdr
   have HDR:=Lib.hid hdr
   have hX:=Blok.new wr 86 #[.int .i64 x.id,.int .i64 x.fr,.int .i64 x.tn,.int .i64 x.op,.int .i64 x.en,.int .i64 x.ra,.int .i64 x.ow,.int .i64 x.ro]
   have hBa:Below wr.heap.size wr (wr.alloc (.cells #[.int .i64 x.id,.int .i64 x.fr,.int .i64 x.tn,.int .i64 x.op,.int .i64 x.en,.int .i64 x.ra,.int .i64 x.ow,.int .i64 x.ro] 86)):=by (repeat (first | exact Below.refl _ _ | refine Below.alloc ?_ (by first | omega | (simp; done) | (simp; omega)) _ | refine Below.setCell ?_ (by first | omega | (simp; done) | (simp; omega)) _ | refine Below.drew ?_))
   have hB2:=hB.trans (hBa.mono hsz)
   have hown2:=own_below hown hBa
   have HQB:=Lib.hid (show ∀ q,(Value.slice Ae k ce).ownBlock = some q → q < wr.heap.size from fun q hq => (hown.lt q hq).2)
   clear hx hdr
   go_upto_region 6 with fail
   clear c0 c1 c2 c3 c4 c5 c6 c7 hBa hB hown
   generalize wr.alloc (.cells #[.int .i64 x.id,.int .i64 x.fr,.int .i64 x.tn,.int .i64 x.op,.int .i64 x.en,.int .i64 x.ra,.int .i64 x.ow,.int .i64 x.ro] 86) = wx at *
   generalize wr.heap.size = bb at *
   have x0:wx.cell? ⟨bb,0,none⟩ = some (.int .i64 x.id):=hX.cell 0
   have x1:wx.cell? ⟨bb,1,none⟩ = some (.int .i64 x.fr):=hX.cell 1
   have x2:wx.cell? ⟨bb,2,none⟩ = some (.int .i64 x.tn):=hX.cell 2
   have x3:wx.cell? ⟨bb,3,none⟩ = some (.int .i64 x.op):=hX.cell 3
   have x4:wx.cell? ⟨bb,4,none⟩ = some (.int .i64 x.en):=hX.cell 4
   have x5:wx.cell? ⟨bb,5,none⟩ = some (.int .i64 x.ra):=hX.cell 5
   have x6:wx.cell? ⟨bb,6,none⟩ = some (.int .i64 x.ow):=hX.cell 6
   have x7:wx.cell? ⟨bb,7,none⟩ = some (.int .i64 x.ro):=hX.cell 7
   have lt_x:=hX.lt
   have hsx:=hB2.size
   cases hp:x.pass t' size with
   | none =>
    have hov:o = none:=by rw [← HF.out,HDR.out,passE_no hp]; rfl
    have HOV:=Lib.hid hov
    have HP:=Lib.hid hp
    clear hp hov
    go_wp2_with fail
    refine (hpass_no HP.out _).mono ?_
    rintro e w4 ⟨rfl,hb⟩
    go_wp2_with fail
    go_ret2
    rw [HOV.out]
    exact ⟨_,rfl,World.ownsRow_nil _ _ _ _,hB2.trans (hb.mono hsx)⟩
   | some p =>
    obtain ⟨a,b⟩:=p
    have hnx:(passE size (d.drop (i + 1)) b).map ((hs ++ [⟨x.id,a,b⟩]) ++ ·) = o:=by
     rw [← HF.out,HDR.out,passE_yes hp,map_app]
    have HNX:=Lib.hid hnx
    have HP:=Lib.hid hp
    clear hp hnx
    go_wp2_with fail
    refine (hpass_yes HP.out _).mono ?_
    rintro e w4 ⟨rfl,hb⟩
    clear x0 x1 x2 x3 x4 x5 x6 x7 lt_x
    have hX4:=hX.below hb hX.lt
    have hB4:=hB2.trans (hb.mono hsx)
    have hown4:=own_below hown2 hb
    have hs4:=hB4.size
    have x0:w4.cell? ⟨bb,0,none⟩ = some (.int .i64 x.id):=hX4.cell 0
    have lt_x:=hX4.lt
    clear hb hX hB2 hown2 hsx
    go_wp2_with (first | (at_builtin; refine wpList_append_own _ rfl _ _ 29 rfl w.heap.size 67 i0 _ 3 24 Tryz.underlying29 hi0 hz0 hz1 hz2 rfl (by decide) _ _ _ rfl (hown4.alloc _) ⟨w4.heap.size,0,none⟩ 1 1 [.int .i64 x.id,.int .i64 a,.int .i64 b] rfl rfl (by exact lit_cells w4 #[.int .i64 x.id,.int .i64 a,.int .i64 b] _ _ rfl) (by simp [Value.oneCell']) (by unfold maxLen; omega) (by omega) (by simp; omega) ?_; intro v' w3 hown' hgrow3 hnil3))
    have hbN:Below w.heap.size w w3:=(hB4.alloc hs4 _).grown hgrow3 (by simp; omega) (fun q hq => (hown4.lt q hq).1)
    clear hgrow3 hnil3
    go_wp2_with fail
    go_roundw
    case rel => exact ⟨hs ++ [⟨x.id,a,b⟩],k + 1,b,i + 1,by go_num,rfl,by omega,by omega,by simp [Hid,HE.out],(by rw [flatHp_append,flatHp_one_]; exact hown'),HNX,hbN⟩
    case measure => simp [intOf]; omega
  ·obtain rfl:i = n:=by omega
   have hov:o = some hs:=by
    rw [← HF.out,List.drop_of_length_le (by rw [HD.out]; omega),passE_nil]; simp
   have HOV:=Lib.hid hov
   clear hov
   go_wp2_with fail
   go_ret2
   rw [HOV.out]
   refine ⟨_,rfl,?_,hB⟩
   rw [show ((some hs).getD []).length = k from HE.out]
   exact hown
theorem ints_app (a b:List Int):(a ++ b).map (Value.int .i64) = a.map (Value.int .i64) ++ b.map (Value.int .i64):=List.map_append
theorem nodes_next {q:Int} {d:List Ed} {i:Nat} (h:i < d.length):nodesE q (d.take (i + 1)) = nodesE q (d.take i) ++ [(gEd d i).tn]:=by
 unfold nodesE; rw [take_nextEd h,List.map_append]; rfl
set_option maxHeartbeats 4000000 in
set_option maxRecDepth 100000 in
theorem pends_any (A:Option Addr) (n c:Nat) (d:List Ed) (q:Int) (w:World) (hd:d.length = n) (hn:n ≤ 1000000) (h:Sl w w.heap.size 8 A n c (flatEd d)) :
  Calls Tryz.prog 48 #[.slice A n c,.int .i64 q] w fun e w' => ∃ v,e = .returned v ∧ w'.ownsRow w.heap.size 3 1 v (n + 1) ((nodesE q d).map (Value.int .i64)) ∧ Below w.heap.size w w':=by
 obtain ⟨i0,hi0,hz0,hz1,hz2⟩:=info_parts infoI12
 have HD:=Lib.hid hd
 have HL:=Lib.hid h
 have hlit:((w.alloc (.cells #[.int .i64 q] 3))).ownsRow w.heap.size 3 1 (.slice (some ⟨w.heap.size,0,none⟩) 1 1) 1 [.int .i64 q]:=own_lit w w.heap.size 3 1 1 #[.int .i64 q] (by first | omega | simp) rfl (by simp [maxLen])
 have hB0:Below w.heap.size w (w.alloc (.cells #[.int .i64 q] 3)):=by (repeat (first | exact Below.refl _ _ | refine Below.alloc ?_ (by first | omega | (simp; done) | (simp; omega)) _ | refine Below.setCell ?_ (by first | omega | (simp; done) | (simp; omega)) _ | refine Below.drew ?_))
 clear hd h
 go_enter Tryz.func48,Tryz.ntmps48
 go_wp2
 go_loopw [5,12] (fun ev iv wr => ∃ (i:Nat),iv = .int .i64 i ∧ i ≤ n ∧ wr.ownsRow w.heap.size 3 1 ev (i + 1) ((nodesE q (d.take i)).map (Value.int .i64)) ∧ Below w.heap.size w wr) (fun _ iv _ => n - (intOf iv).toNat)
 case atStart => exact ⟨0,rfl,by omega,hlit,hB0⟩
 case round =>
  clear hlit hB0
  obtain ⟨i,rfl,hi,hown,hB⟩:=hrel
  have hsz:=hB.size
  obtain ⟨Ae,ce,rfl⟩:=slice_of_own hown
  by_cases hin:i < n
  ·obtain ⟨ad,rfl,hab,c0,c1,c2,c3,c4,c5,c6,c7⟩:=(HL.out.below hB).lst.atEd HD.out hin
   have hnx:=nodes_next (q:=q) (d:=d) (i:=i) (by rw [HD.out]; exact hin)
   obtain ⟨x,hx⟩:∃ x,gEd d i = x:=⟨_,rfl⟩
   rw [hx] at c0 c1 c2 c3 c4 c5 c6 c7 hnx
   have HNX:=Lib.hid hnx
   have hX:=Blok.new wr 86 #[.int .i64 x.id,.int .i64 x.fr,.int .i64 x.tn,.int .i64 x.op,.int .i64 x.en,.int .i64 x.ra,.int .i64 x.ow,.int .i64 x.ro]
   have hBa:Below wr.heap.size wr (wr.alloc (.cells #[.int .i64 x.id,.int .i64 x.fr,.int .i64 x.tn,.int .i64 x.op,.int .i64 x.en,.int .i64 x.ra,.int .i64 x.ow,.int .i64 x.ro] 86)):=by (repeat (first | exact Below.refl _ _ | refine Below.alloc ?_ (by first | omega | (simp; done) | (simp; omega)) _ | refine Below.setCell ?_ (by first | omega | (simp; done) | (simp; omega)) _ | refine Below.drew ?_))
   have hB2:=hB.trans (hBa.mono hsz)
   have hown2:=own_below hown hBa
   clear hx hnx
   go_upto_region 5 with fail
   clear c0 c1 c2 c3 c4 c5 c6 c7 hBa hB hown
   generalize wr.alloc (.cells #[.int .i64 x.id,.int .i64 x.fr,.int .i64 x.tn,.int .i64 x.op,.int .i64 x.en,.int .i64 x.ra,.int .i64 x.ow,.int .i64 x.ro] 86) = wx at *
   generalize wr.heap.size = bb at *
   have x0:wx.cell? ⟨bb,0,none⟩ = some (.int .i64 x.id):=hX.cell 0
   have x1:wx.cell? ⟨bb,1,none⟩ = some (.int .i64 x.fr):=hX.cell 1
   have x2:wx.cell? ⟨bb,2,none⟩ = some (.int .i64 x.tn):=hX.cell 2
   have x3:wx.cell? ⟨bb,3,none⟩ = some (.int .i64 x.op):=hX.cell 3
   have x4:wx.cell? ⟨bb,4,none⟩ = some (.int .i64 x.en):=hX.cell 4
   have x5:wx.cell? ⟨bb,5,none⟩ = some (.int .i64 x.ra):=hX.cell 5
   have x6:wx.cell? ⟨bb,6,none⟩ = some (.int .i64 x.ow):=hX.cell 6
   have x7:wx.cell? ⟨bb,7,none⟩ = some (.int .i64 x.ro):=hX.cell 7
   have lt_x:=hX.lt
   have hsx:=hB2.size
   go_wp2_with (first | (at_builtin; refine wpList_append_own _ rfl _ _ 44 rfl w.heap.size 3 i0 _ 1 8 Tryz.underlying44 hi0 hz0 hz1 hz2 rfl (by decide) _ _ _ rfl (hown2.alloc _) ⟨wx.heap.size,0,none⟩ 1 1 [.int .i64 x.tn] rfl rfl (by exact lit_cells wx #[.int .i64 x.tn] _ _ rfl) (by simp [Value.oneCell']) (by unfold maxLen; omega) (by omega) (by simp; omega) ?_; intro v' w3 hown' hgrow3 hnil3))
   have hbN:Below w.heap.size w w3:=(hB2.alloc hsx _).grown hgrow3 (by simp; omega) (fun q hq => (hown2.lt q hq).1)
   clear hgrow3 hnil3
   go_wp2_with fail
   go_roundw
   case rel => exact ⟨i + 1,by go_num,by omega,(by rw [HNX.out,ints_app]; exact hown'),hbN⟩
   case measure => simp [intOf]; omega
  ·obtain rfl:i = n:=by omega
   rw [List.take_of_length_le (by rw [HD.out]; omega)] at hown
   have HOWN:=Lib.hid hown
   clear hown
   go_wp2_with fail
   go_ret
   exact ⟨_,rfl,HOWN.out,hB⟩
theorem parrive_any (A:Option Addr) (n c:Nat) (d:List Hp) (t:Int) (w:World) (hd:d.length = n) (hn:n ≤ 1000000) (h:Sl w w.heap.size 3 A n c (flatHp d)) (v:Int) (hv:arrE t d = v) :
  Calls Tryz.prog 50 #[.slice A n c,.int .i64 t] w fun e w' => e = .returned (.int .i64 v) ∧ Below w.heap.size w w':=by
 subst hv
 by_cases h0:n = 0
 ·subst h0
  obtain rfl:d = []:=List.eq_nil_of_length_eq_zero hd
  go_enter Tryz.func50,Tryz.ntmps50
  go_wp2
  go_ret
  exact ⟨rfl,Below.refl _ _⟩
 ·obtain ⟨ad,rfl,hab,c0,c1,c2⟩:=h.lst.atHp hd (show n - 1 < n by omega)
  have hne:d ≠ []:=fun e => by rw [e] at hd; simp at hd; omega
  have he:=arrE_at (t:=t) hne
  rw [hd] at he
  have HE:=Lib.hid he
  have g1:((n:Int) == 0) = false:=by simp; omega
  obtain ⟨p,rfl⟩:∃ p,n = p + 1:=⟨n - 1,by omega⟩
  rw [Nat.add_sub_cancel] at c0 c1 c2
  have t0:IntKind.i64.wrap (((p + 1:Nat):Int) - 1) = (p:Int):=by rw [IntWalk.i64_in _ (by omega)]; omega
  clear he hne
  go_enter Tryz.func50,Tryz.ntmps50
  go_wp2
  go_ret
  exact ⟨by rw [HE.out,Nat.add_sub_cancel]; rfl,Below.refl _ _⟩
/-- The nodes that were seen. -/
def seenN (l:List Int) (k:Int):Bool:=decide (k ∈ l)
set_option maxHeartbeats 4000000 in
set_option maxRecDepth 100000 in
theorem pleads_any (A:Option Addr) (n c:Nat) (d:List Int) (t:Int) (w:World) (hd:d.length = n) (hn:n ≤ 1000000) (hn0:0 < n) (hwf:∀ q,q < n → (Lit.int .i64 (d.getD q 0)).wf = true) (h:Sl w w.heap.size 1 A n c (d.map (Value.int .i64))) (v:Bool) (hv:leadE d t = v) :
  Calls Tryz.prog 47 #[.slice A n c,.int .i64 t] w fun e w' => e = .returned (.bool v) ∧ Below w.heap.size w w':=by
 have HD:=Lib.hid hd
 have HWF:=Lib.hid hwf
 have HV:=Lib.hid hv
 clear hd hwf hv
 have hmk:=run_makeMapV (P:=Tryz.prog) 134 3 4 .i64 (n:Int) Tryz.underlying134 w
 obtain ⟨g,hg⟩:∃ g,w.heap.size = g:=⟨_,rfl⟩
 have hS0:=SetW.made w
 rw [hg] at hS0
 rw [hg] at hmk
 have HG:=Lib.hid hg
 have hB0:Below w.heap.size w (w.alloc (.map #[] 0)):=(Below.refl _ _).alloc (Nat.le_refl _) _
 have h0:=h.below hB0
 clear hg h
 go_enter Tryz.func47,Tryz.ntmps47
 go_wp2
 clear hmk
 generalize w.alloc (.map #[] 0) = w1 at *
 have HL:=Lib.hid h0
 clear h0
 go_loopw [13] (fun i wr => ∃ k:Nat,k ≤ n ∧ i = .int .i64 k ∧ Hid ((d.take k).Nodup) ∧ Below w.heap.size w wr ∧ Hid (Sl wr w.heap.size 1 A n c (d.map (Value.int .i64))) ∧ SetW wr g k (seenN (d.take k))) (fun i _ => n - (intOf i).toNat)
 case atStart => exact ⟨0,by omega,rfl,(by simp [Hid]),hB0,HL.out,hS0.congr (fun k _ => by simp [seenN])⟩
 case round =>
  clear hB0 hS0 HL
  obtain ⟨k,hk,rfl,HN,hB,HL,hS⟩:=hrel
  have hs:=hB.size
  by_cases hkn:k < n
  ·obtain ⟨ad,rfl,hab,c0⟩:=HL.out.lst.atI HD.out hkn
   have htk:=take_nextI (l:=d) (k:=k) (by rw [HD.out]; exact hkn)
   have hw:=HWF.out k hkn
   obtain ⟨id,hid⟩:∃ q,d.getD k 0 = q:=⟨_,rfl⟩
   rw [hid] at c0 hw htk
   have HW:=Lib.hid hw
   have HTK:=Lib.hid htk
   have hlk:=hS.look hw
   obtain ⟨s,hsn⟩:∃ s,seenN (d.take k) id = s:=⟨_,rfl⟩
   rw [hsn] at hlk
   have HSN:=Lib.hid hsn
   clear hid hw htk hsn
   cases s
   ·have hni:¬ id ∈ d.take k:=by simpa [seenN] using HSN.out
    have hnd:(d.take (k + 1)).Nodup:=by
     rw [HTK.out,List.nodup_append]
     refine ⟨HN.out,by simp,fun a ha b hb => ?_⟩
     simp only [List.mem_singleton] at hb
     subst hb
     exact fun e => hni (by rw [← e]; exact ha)
    have HND:=Lib.hid hnd
    clear hni hnd
    go_wp2_with (at_mapUpdate; refine wpList_put_set rfl _ _ _ rfl g k _ id true rfl hS (by unfold maxLen; omega) rfl HW.out rfl ?_; intro w4 hS4 hg4)
    clear hlk c0
    have hgl:∀ j,some g = some j → w.heap.size ≤ j:=fun j hj => by have:=HG.out; simp at hj; omega
    have hB4:Below w.heap.size w w4:=hB.grown hg4 hs hgl
    have hL4:=Lib.hid (HL.out.below (Below.grown (Below.refl _ _) hg4 hs hgl))
    have hS5:SetW w4 g (k + 1) (seenN (d.take (k + 1))):=hS4.congr (fun j _ => by
     rw [HTK.out]
     unfold seenN
     by_cases e:j = id
     ·subst e; simp
     ·rw [if_neg e]; simp [e])
    clear hS4 hg4 hgl hS HL
    go_wp2
    go_roundw
    case rel => exact ⟨k + 1,by omega,by go_num,HND,hB4,hL4,hS5⟩
    case measure => simp [intOf]; omega
   ·have hno:leadE d t = false:=by
     have hin:id ∈ d.take k:=by simpa [seenN] using HSN.out
     unfold leadE
     rw [decide_eq_false,Bool.false_and]
     intro hnd
     have h2:(d.take (k + 1)).Nodup:=hnd.sublist (List.take_sublist _ _)
     rw [HTK.out,List.nodup_append] at h2
     exact h2.2.2 id hin id (by simp) rfl
    have HNO:=Lib.hid (HV.out.symm.trans hno)
    clear hno
    go_wp2_with fail
    go_ret
    exact ⟨by rw [HNO.out]; rfl,hB⟩
  ·obtain rfl:k = n:=by omega
   rw [List.take_of_length_le (by rw [HD.out]; omega)] at HN
   obtain ⟨ad,rfl,hab,c0⟩:=HL.out.lst.atI HD.out (show k - 1 < k by omega)
   obtain ⟨id,hid⟩:∃ q,d.getD (k - 1) 0 = q:=⟨_,rfl⟩
   rw [hid] at c0
   have hld:(id == t) = v:=by
    rw [← HV.out]
    unfold leadE
    rw [decide_eq_true HN.out,HD.out,hid]
    rfl
   obtain ⟨p,rfl⟩:∃ p,k = p + 1:=⟨k - 1,by omega⟩
   rw [Nat.add_sub_cancel] at c0
   have t0:IntKind.i64.wrap (((p + 1:Nat):Int) - 1) = (p:Int):=by rw [IntWalk.i64_in _ (by omega)]; omega
   have HLD:=Lib.hid hld
   clear hld hid
   go_wp2_with fail
   go_ret
   exact ⟨by rw [← HLD.out]; rfl,hB⟩
end Go.Proofs.YtodcoockhkghdaaGreat
