/- Several texts of mine in one: Path2, Path3. No condition. -/
import Derived.Test.YtodcoockhkghdaaGreatGQ9
import Derived.Test.YtodcoockhkghdaaGreatGQ2
import Derived.Deep.CutBlock
import Derived.Deep.DeepCutAuto
import Derived.Test.YtodcoockhkghdaaGreatGQ0
namespace Go.Proofs.YtodcoockhkghdaaGreat
open Go.ChangeShapes Go.WideShapes Go.ChangeAt Go.RowKit Go.Sort
set_option linter.unusedSimpArgs false
set_option linter.unusedVariables false
theorem run_makeMapV {P:Program} (t k e:TypeId) (kd:IntKind) (n:Int) (ht:P.underlying t = some (.map k e)) (w:World) :
  (Instr.makeMap t (some (.int kd n))).run P w = .ok (.map (some w.heap.size)) (w.alloc (.map #[] 0)):=by
 simp [Instr.makeMap,run_underlying ht]; rfl
def zeroE:Ed:=⟨0,0,0,0,0,0,0,0⟩
def edV (x:Ed):Value:=.agg #[.int .i64 x.id,.int .i64 x.fr,.int .i64 x.tn,.int .i64 x.op,.int .i64 x.en,.int .i64 x.ra,.int .i64 x.ow,.int .i64 x.ro]
def gotE (l:List Ed) (k:Int):Ed:=(findE l k).getD zeroE
def foundS (l:List Ed) (ids:List Int) (kl:Lit):Option Value:=match kl with
 | .int .i64 k => if k ∈ ids then some (edV (gotE l k)) else none
 | _ => none
theorem foundS_int (l:List Ed) (ids:List Int) (k:Int):foundS l ids (.int .i64 k) = if k ∈ ids then some (edV (gotE l k)) else none:=rfl
theorem foundS_nil (kl:Lit):foundS [] [] kl = none:=by
 unfold foundS; split
 ·simp
 ·rfl
theorem take_nextI {l:List Int} {k:Nat} (h:k < l.length):l.take (k + 1) = l.take k ++ [l.getD k 0]:=by
 rw [List.take_succ_eq_append_getElem h,List.getD_eq_getElem?_getD,List.getElem?_eq_getElem h]; rfl
theorem foundS_id (ids:List Int) {k:Nat} (h:k < ids.length) (kl:Lit):setS (foundS [] (ids.take k)) (.int .i64 (ids.getD k 0)) (edV zeroE) kl = foundS [] (ids.take (k + 1)) kl:=by
 rw [take_nextI h]
 by_cases e:kl = .int .i64 (ids.getD k 0)
 ·subst e
  rw [setS_same,foundS_int,if_pos (by simp)]; rfl
 ·rw [setS_other _ _ e]
  unfold foundS
  split
  ·rename_i j
   have:j ≠ ids.getD k 0:=fun h => e (by rw [h])
   simp only [List.mem_append,List.mem_singleton,this,or_false]
  ·rfl
theorem findE_next {l:List Ed} (hr:rightE l = true) {i:Nat} (hi:i < l.length) (k:Int):findE (l.take (i + 1)) k = if k = (gEd l i).id then some (gEd l i) else findE (l.take i) k:=by
 rw [take_nextEd hi]
 unfold findE
 rw [List.find?_append]
 by_cases e:k = (gEd l i).id
 ·subst e
  have:(l.take i).find? (fun e => e.id == (gEd l i).id) = none:=by
   rw [List.find?_eq_none]
   intro x hx
   obtain ⟨j,hj,rfl⟩:=List.mem_take_iff_getElem.1 hx
   have:=rightE_lt hr i j (by omega) hi
   rw [gEd_eq (by omega:j < l.length)] at this
   simp; omega
  rw [this]; simp
 ·have:((gEd l i).id == k) = false:=by simp; exact fun h => e h.symm
  rw [if_neg e]
  simp [this]
theorem findE_new {l:List Ed} (hr:rightE l = true) {i:Nat} (hi:i < l.length):findE (l.take i) (gEd l i).id = none:=by
 unfold findE
 rw [List.find?_eq_none]
 intro x hx
 obtain ⟨j,hj,rfl⟩:=List.mem_take_iff_getElem.1 hx
 have:=rightE_lt hr i j (by omega) hi
 rw [gEd_eq (by omega:j < l.length)] at this
 simp; omega
theorem foundS_hit {l:List Ed} (hr:rightE l = true) {i:Nat} (hi:i < l.length) {ids:List Int} (hm:(gEd l i).id ∈ ids) (kl:Lit):setS (foundS (l.take i) ids) (.int .i64 (gEd l i).id) (edV (gEd l i)) kl = foundS (l.take (i + 1)) ids kl:=by
 by_cases e:kl = .int .i64 (gEd l i).id
 ·subst e
  rw [setS_same,foundS_int,if_pos hm]
  unfold gotE
  rw [findE_next hr hi,if_pos rfl]; rfl
 ·rw [setS_other _ _ e]
  unfold foundS gotE
  split
  ·rename_i j
   have:j ≠ (gEd l i).id:=fun h => e (by rw [h])
   rw [findE_next hr hi,if_neg this]
  ·rfl
theorem foundS_miss {l:List Ed} (hr:rightE l = true) {i:Nat} (hi:i < l.length) {ids:List Int} (hm:¬ (gEd l i).id ∈ ids) (kl:Lit):foundS (l.take i) ids kl = foundS (l.take (i + 1)) ids kl:=by
 unfold foundS gotE
 split
 ·rename_i j
  by_cases hj:j ∈ ids
  ·have:j ≠ (gEd l i).id:=fun h => hm (by rw [← h]; exact hj)
   rw [findE_next hr hi,if_neg this]
  ·rw [if_neg hj,if_neg hj]
 ·rfl
theorem zeroEd_run (w:World):(zeroValue 86).run Tryz.prog w = .ok (edV zeroE) w:=by kernel_rfl
theorem ok_wf {x:Ed} (h:x.ok = true):(Lit.int .i64 x.id).wf = true:=wfI (by have:=Ed.ok_spec.1 h; omega)
set_option maxHeartbeats 4000000 in
set_option maxRecDepth 100000 in
theorem pfind_any (A:Option Addr) (n c:Nat) (d:List Ed) (A':Option Addr) (m c':Nat) (ids:List Int) (w:World) (hd:d.length = n) (hn:n ≤ 1000000) (hi:ids.length = m) (hm:m ≤ 1000000) (hwf:∀ q,q < m → (Lit.int .i64 (ids.getD q 0)).wf = true) (h:Sl w w.heap.size 8 A n c (flatEd d)) (h':Sl w w.heap.size 1 A' m c' (ids.map (Value.int .i64))) (hr:rightE d = true) :
  Calls Tryz.prog 85 #[.slice A n c,.slice A' m c'] w fun e w' => ∃ g K,e = .returned (.map (some g)) ∧ w.heap.size ≤ g ∧ MapV w' 3 g K (foundS d ids) ∧ Below w.heap.size w w':=by
 have HD:=Lib.hid hd
 have HI:=Lib.hid hi
 have HWF:=Lib.hid hwf
 have HR:=Lib.hid hr
 clear hd hi hwf hr
 have hmk:=run_makeMapV (P:=Tryz.prog) 132 3 86 .i64 (m:Int) Tryz.underlying132 w
 obtain ⟨g,hg⟩:∃ g,w.heap.size = g:=⟨_,rfl⟩
 have hS0:=MapV.made w 3
 rw [hg] at hS0
 rw [hg] at hmk
 have HG:=Lib.hid hg
 have hB0:Below w.heap.size w (w.alloc (.map #[] 0)):=(Below.refl _ _).alloc (Nat.le_refl _) _
 have h0:=h.below hB0
 have h0':=h'.below hB0
 clear hg h h'
 go_enter Tryz.func85,Tryz.ntmps85
 go_wp2
 clear hmk
 generalize w.alloc (.map #[] 0) = w1 at *
 have HL:=Lib.hid h0
 have HL':=Lib.hid h0'
 clear h0 h0'
 go_loopw [17] (fun i wr => ∃ k:Nat,k ≤ m ∧ i = .int .i64 k ∧ Below w.heap.size w wr ∧ Hid (Below w.heap.size w1 wr) ∧ MapV wr 3 g k (foundS [] (ids.take k))) (fun i _ => m - (intOf i).toNat)
 case atStart => exact ⟨0,by omega,rfl,hB0,(Below.refl _ _),hS0.congr (fun k => by rw [List.take_zero,foundS_nil])⟩
 case round =>
  clear hB0 hS0
  obtain ⟨k,hk,rfl,hB,HB1,hS⟩:=hrel
  by_cases hkm:k < m
  ·have hl':=HL'.out.below HB1.out
   obtain ⟨ad,rfl,hab,c0⟩:=hl'.lst.atI HI.out hkm
   obtain ⟨id,hid⟩:∃ q,ids.getD k 0 = q:=⟨_,rfl⟩
   rw [hid] at c0
   have hw:=HWF.out k hkm
   rw [hid] at hw
   have HW:=Lib.hid hw
   have HID:=Lib.hid hid
   have hs:=hB.size
   clear hid hw
   go_wp2_with (at_mapUpdate; refine wpList_put_map rfl _ _ _ 132 rfl 3 86 g k _ rfl hS keyedV Tryz.underlying132 (by unfold maxLen; omega) (.int .i64 id) (.int .i64 id) rfl (keyI id HW.out) (isKeyI id) (edV zeroE) rfl ?_; intro w4 hS4 hg4)
   have hgl:∀ j,some g = some j → w.heap.size ≤ j:=fun j hj => by have:=HG.out; simp at hj; omega
   have hB4:Below w.heap.size w w4:=hB.grown hg4 hs hgl
   have hB5:Hid (Below w.heap.size w1 w4):=HB1.out.grown hg4 hs hgl
   have hS5:MapV w4 3 g (k + 1) (foundS [] (ids.take (k + 1))):=hS4.congr (fun kl => by rw [← HID.out]; exact foundS_id ids (by rw [HI.out]; exact hkm) kl)
   have HS5:=Lib.hid hS5
   clear hS4 hS5 hg4 hS hgl
   go_wp2
   go_roundw
   case rel => exact ⟨k + 1,by omega,by go_num,hB4,hB5,HS5.out⟩
   case measure => simp [intOf]; omega
  ·obtain rfl:k = m:=by omega
   rw [List.take_of_length_le (by rw [HI.out]; omega)] at hS
   obtain ⟨q,hq,hqn,hqp⟩:=hS.len (t:=132) (e:=86) Tryz.underlying132 3
   have HQN:=Lib.hid hqn
   have HQP:=Lib.hid hqp
   clear hqn hqp
   by_cases hk0:k = 0
   ·have hq0:q = 0:=by have:=HQN.out; omega
    subst hq0
    have hids:ids = []:=List.eq_nil_of_length_eq_zero (by rw [HI.out]; exact hk0)
    have hfS:∀ kl,foundS [] ids kl = foundS d ids kl:=fun kl => by
     rw [hids]; unfold foundS; split
     ·simp
     ·rfl
    have HS:=Lib.hid (hS.congr hfS)
    have hgg:=HG.out
    have HGG:=Lib.hid (show w.heap.size ≤ g by omega)
    clear hfS hids hgg hS
    go_wp2_with fail
    go_ret
    exact ⟨g,_,rfl,HGG.out,HS.out,hB⟩
   ·have hqz:0 < q:=HQP.out (.int .i64 (ids.getD 0 0)) (isKeyI _) (by
     rw [foundS_int,if_pos]; · rfl
     have h0:0 < ids.length:=by rw [HI.out]; omega
     rw [List.getD_eq_getElem?_getD,List.getElem?_eq_getElem h0]
     exact List.getElem_mem h0)
    have g1:((q:Int) == 0) = false:=by simp; omega
    have HS:=Lib.hid hS
    clear hS
    go_wp2_with fail
    clear hq g1 hqz
    go_loopw [31] (fun iv wx => ∃ (i K:Nat),i ≤ n ∧ iv = .int .i64 i ∧ K ≤ k + i ∧ Below w.heap.size w wx ∧ Hid (Below w.heap.size w1 wx) ∧ MapV wx 3 g K (foundS (d.take i) ids)) (fun iv _ => n - (intOf iv).toNat)
    case atStart => exact ⟨0,k,by omega,rfl,by omega,hB,HB1,HS.out⟩
    case round =>
     clear HS hB HB1 HQN HQP
     obtain ⟨i,K,hi,rfl,hK,hB,HB1,hS⟩:=hrel
     by_cases hin:i < n
     ·have hl:=HL.out.below HB1.out
      obtain ⟨ad,rfl,hab,c0,c1,c2,c3,c4,c5,c6,c7⟩:=hl.lst.atEd HD.out hin
      have hin':i < d.length:=by rw [HD.out]; exact hin
      obtain ⟨x,hx⟩:∃ x,gEd d i = x:=⟨_,rfl⟩
      have hwx:=ok_wf (rightE_at HR.out hin').1
      have hnew:=findE_new HR.out hin'
      rw [hx] at c0 c1 c2 c3 c4 c5 c6 c7 hwx hnew
      have HX:=Lib.hid hx
      have HWX:=Lib.hid hwx
      have HNW:=Lib.hid hnew
      have hs:=hB.size
      have hBa:Below wr.heap.size wr (wr.alloc (.cells #[.int .i64 x.id,.int .i64 x.fr,.int .i64 x.tn,.int .i64 x.op,.int .i64 x.en,.int .i64 x.ra,.int .i64 x.ow,.int .i64 x.ro] 86)):=by (repeat (first | exact Below.refl _ _ | refine Below.alloc ?_ (by first | omega | (simp; done) | (simp; omega)) _ | refine Below.setCell ?_ (by first | omega | (simp; done) | (simp; omega)) _ | refine Below.drew ?_))
      have hX:=Blok.new wr 86 #[.int .i64 x.id,.int .i64 x.fr,.int .i64 x.tn,.int .i64 x.op,.int .i64 x.en,.int .i64 x.ra,.int .i64 x.ow,.int .i64 x.ro]
      have hB2:=hB.trans (hBa.mono hs)
      have hB12:=Lib.hid (HB1.out.trans (hBa.mono (by have:=HB1.out.size; have:=HG.out; omega)))
      have hS2:=hS.below hBa
      go_upto_region 12 with fail
      clear c0 c1 c2 c3 c4 c5 c6 c7 hB hl hBa hS HB1
      generalize wr.alloc (.cells #[.int .i64 x.id,.int .i64 x.fr,.int .i64 x.tn,.int .i64 x.op,.int .i64 x.en,.int .i64 x.ra,.int .i64 x.ow,.int .i64 x.ro] 86) = wx at *
      generalize wr.heap.size = bb at *
      have x0:wx.cell? ⟨bb,0,none⟩ = some (.int .i64 x.id):=hX.cell 0
      have x1:wx.cell? ⟨bb,1,none⟩ = some (.int .i64 x.fr):=hX.cell 1
      have x2:wx.cell? ⟨bb,2,none⟩ = some (.int .i64 x.tn):=hX.cell 2
      have x3:wx.cell? ⟨bb,3,none⟩ = some (.int .i64 x.op):=hX.cell 3
      have x4:wx.cell? ⟨bb,4,none⟩ = some (.int .i64 x.en):=hX.cell 4
      have x5:wx.cell? ⟨bb,5,none⟩ = some (.int .i64 x.ra):=hX.cell 5
      have x6:wx.cell? ⟨bb,6,none⟩ = some (.int .i64 x.ow):=hX.cell 6
      have x7:wx.cell? ⟨bb,7,none⟩ = some (.int .i64 x.ro):=hX.cell 7
      have lt_x:=hX.lt
      obtain ⟨v0,hv0⟩:∃ q,(foundS (d.take i) ids (.int .i64 x.id)).isSome = q:=⟨_,rfl⟩
      have hvz:(foundS (d.take i) ids (.int .i64 x.id)).getD (edV zeroE) = .agg #[.int .i64 0,.int .i64 0,.int .i64 0,.int .i64 0,.int .i64 0,.int .i64 0,.int .i64 0,.int .i64 0]:=by
       rw [foundS_int]
       unfold gotE
       rw [HNW.out]
       split <;> rfl
      have HVZ:=Lib.hid hvz
      have HV0:=Lib.hid hv0
      have hmem:x.id ∈ ids ↔ v0 = true:=by
       rw [← hv0,foundS_int]
       by_cases hm:x.id ∈ ids <;> simp [hm]
      have HMEM:=Lib.hid hmem
      have hBz:Below wx.heap.size wx (wx.alloc (.cells #[.int .i64 0,.int .i64 0,.int .i64 0,.int .i64 0,.int .i64 0,.int .i64 0,.int .i64 0,.int .i64 0] 86)):=by (repeat (first | exact Below.refl _ _ | refine Below.alloc ?_ (by first | omega | (simp; done) | (simp; omega)) _ | refine Below.setCell ?_ (by first | omega | (simp; done) | (simp; omega)) _ | refine Below.drew ?_))
      have hXz:=hX.below hBz hX.lt
      have hSz:=hS2.below hBz
      have hBB:=hB2.trans (hBz.mono hB2.size)
      have hBB1:=Lib.hid (hB12.out.trans (hBz.mono (by have:=hB12.out.size; have:=HG.out; omega)))
      clear hvz hv0 hmem hx hwx hnew
      go_upto_region 13 with (at_lookup; refine wpList_lookok_map rfl _ _ 132 rfl 3 86 g K _ rfl hS2 keyedV Tryz.underlying132 (zeroEd_run _) (.int .i64 x.id) (.int .i64 x.id) rfl (keyI x.id HWX.out) (isKeyI _) _ HVZ.out v0 HV0.out ?_)
      generalize wx.alloc (.cells #[.int .i64 0,.int .i64 0,.int .i64 0,.int .i64 0,.int .i64 0,.int .i64 0,.int .i64 0,.int .i64 0] 86) = wz at *
      clear x0 x1 x2 x3 x4 x5 x6 x7 lt_x hX hS2 hB2 hB12
      have x0:wz.cell? ⟨bb,0,none⟩ = some (.int .i64 x.id):=hXz.cell 0
      have x1:wz.cell? ⟨bb,1,none⟩ = some (.int .i64 x.fr):=hXz.cell 1
      have x2:wz.cell? ⟨bb,2,none⟩ = some (.int .i64 x.tn):=hXz.cell 2
      have x3:wz.cell? ⟨bb,3,none⟩ = some (.int .i64 x.op):=hXz.cell 3
      have x4:wz.cell? ⟨bb,4,none⟩ = some (.int .i64 x.en):=hXz.cell 4
      have x5:wz.cell? ⟨bb,5,none⟩ = some (.int .i64 x.ra):=hXz.cell 5
      have x6:wz.cell? ⟨bb,6,none⟩ = some (.int .i64 x.ow):=hXz.cell 6
      have x7:wz.cell? ⟨bb,7,none⟩ = some (.int .i64 x.ro):=hXz.cell 7
      have lt_x:=hXz.lt
      have hs2:=hBB.size
      cases v0
      ·have hSn:=Lib.hid (hSz.congr (fun kl => foundS_miss HR.out hin' (by rw [HX.out]; intro hm; exact absurd (HMEM.out.1 hm) (by decide)) kl))
       clear hSz
       go_wp2
       go_roundw
       case rel => exact ⟨i + 1,K,by omega,by go_num,by omega,hBB,hBB1,hSn.out⟩
       case measure => simp [intOf]; omega
      ·go_wp2_with (at_mapUpdate; refine wpList_put_map rfl _ _ _ 132 rfl 3 86 g K _ rfl hSz keyedV Tryz.underlying132 (by unfold maxLen; omega) (.int .i64 x.id) (.int .i64 x.id) rfl (keyI x.id HWX.out) (isKeyI _) (edV x) rfl ?_; intro w4 hS4 hg4)
       have hgl:∀ j,some g = some j → w.heap.size ≤ j:=fun j hj => by have:=HG.out; simp at hj; omega
       have hB4:Below w.heap.size w w4:=hBB.grown hg4 hs2 hgl
       have hB5:Hid (Below w.heap.size w1 w4):=hBB1.out.grown hg4 hs2 hgl
       have hS5:Hid (MapV w4 3 g (K + 1) (foundS (d.take (i + 1)) ids)):=hS4.congr (fun kl => by have h:=foundS_hit HR.out hin' (by rw [HX.out]; exact HMEM.out.2 rfl) kl; rw [HX.out] at h; exact h)
       clear hS4 hg4 hSz hgl
       go_wp2
       go_roundw
       case rel => exact ⟨i + 1,K + 1,by omega,by go_num,by omega,hB4,hB5,hS5.out⟩
       case measure => simp [intOf]; omega
     ·obtain rfl:i = n:=by omega
      rw [List.take_of_length_le (by rw [HD.out]; omega)] at hS
      have HS:=Lib.hid hS
      have hgg:=HG.out
      have HGG:=Lib.hid (show w.heap.size ≤ g by omega)
      clear hS hgg
      go_wp2_with fail
      go_ret
      exact ⟨g,_,rfl,HGG.out,HS.out,hB⟩
theorem own_below {w w':World} {base:Nat} {e:TypeId} {size n:Nat} {v:Value} {xs:List Value} (h:w.ownsRow base e size v n xs) (hb:Below w.heap.size w w'):w'.ownsRow base e size v n xs:=
 h.kept (grown_of_below (row:=some w.heap.size) hb) (.inr (fun e => by have:=(h.lt _ e).2; omega))
theorem flatEd_one_ (y:Ed):flatEd [y] = [.int .i64 y.id,.int .i64 y.fr,.int .i64 y.tn,.int .i64 y.op,.int .i64 y.en,.int .i64 y.ra,.int .i64 y.ow,.int .i64 y.ro]:=rfl
theorem flatHp_one_ (y:Hp):flatHp [y] = [.int .i64 y.id,.int .i64 y.se,.int .i64 y.ar]:=rfl
theorem drop_at {l:List Int} {i:Nat} (h:i < l.length):l.drop i = l.getD i 0 :: l.drop (i + 1):=by
 rw [List.drop_eq_getElem_cons h,List.getD_eq_getElem?_getD,List.getElem?_eq_getElem h]; rfl
theorem drop_atEd' {l:List Ed} {i:Nat} (h:i < l.length):l.drop i = gEd l i :: l.drop (i + 1):=by
 rw [List.drop_eq_getElem_cons h,gEd_eq h]
theorem map_app {α:Type} (a:List α) (x:α) (o:Option (List α)):(o.map (x :: ·)).map (a ++ ·) = o.map ((a ++ [x]) ++ ·):=by
 cases o <;> simp
set_option maxHeartbeats 4000000 in
set_option maxRecDepth 100000 in
theorem pfollow_any (A:Option Addr) (n c:Nat) (d:List Ed) (A':Option Addr) (m c':Nat) (ids:List Int) (q:Int) (w:World) (hd:d.length = n) (hn:n ≤ 1000000) (hi:ids.length = m) (hm:m ≤ 1000000) (hwf:∀ q,q < m → (Lit.int .i64 (ids.getD q 0)).wf = true) (h:Sl w w.heap.size 8 A n c (flatEd d)) (h':Sl w w.heap.size 1 A' m c' (ids.map (Value.int .i64))) (hr:rightE d = true) (hq:1 ≤ q) (o:Option (List Ed)) (ho:followE d ids q = o) :
  Calls Tryz.prog 46 #[.slice A n c,.slice A' m c',.int .i64 q] w fun e w' => ∃ v,e = .returned (.tuple #[v,.bool o.isSome]) ∧ w'.ownsRow w.heap.size 86 8 v (o.getD []).length (flatEd (o.getD [])) ∧ Below w.heap.size w w':=by
 obtain ⟨i0,hi0,hz0,hz1,hz2⟩:=info_parts infoEd
 have HF0:=Lib.hid (pfind_any A n c d A' m c' ids w hd hn hi hm hwf h h' hr)
 have HD:=Lib.hid hd
 have HI:=Lib.hid hi
 have HWF:=Lib.hid hwf
 have HR:=Lib.hid hr
 have HO:=Lib.hid ho
 have HL':=Lib.hid h'
 clear hd hi hwf hr h h' ho
 go_enter Tryz.func46,Tryz.ntmps46
 go_wp2_with fail
 refine HF0.out.mono ?_
 rintro e w1 ⟨g,K,rfl,hg,hS,hb1⟩
 have hl1':=HL'.out.below hb1
 have hgl:=hS.lt
 obtain ⟨b1,hb1e⟩:∃ q,w1.heap.size = q:=⟨_,rfl⟩
 have hwb:=hb1.size
 rw [hb1e] at hgl hwb
 have HS:=Lib.hid hS
 have HL1:=Lib.hid hl1'
 have HB:=Lib.hid hb1
 have HBE:=Lib.hid hb1e
 clear hS hl1' hg hb1 HF0 HL' hb1e
 go_wp2
 go_loopw [9,10,20] (fun ev qv iv wr => ∃ (es:List Ed) (k:Nat) (q':Int) (i:Nat),iv = .int .i64 i ∧ qv = .int .i64 q' ∧ i ≤ m ∧ 1 ≤ q' ∧ k ≤ i ∧ Hid (es.length = k) ∧ wr.ownsRow b1 86 8 ev k (flatEd es) ∧ Hid ((followE d (ids.drop i) q').map (es ++ ·) = o) ∧ Below w.heap.size w wr ∧ b1 ≤ wr.heap.size ∧ Hid (MapV wr 3 g K (foundS d ids)) ∧ Hid (Sl wr w.heap.size 1 A' m c' (ids.map (Value.int .i64)))) (fun _ _ iv _ => m - (intOf iv).toNat)
 case atStart => exact ⟨[],0,q,0,rfl,rfl,by omega,hq,by omega,rfl,World.ownsRow_nil _ _ _ _,(by show (followE d (ids.drop 0) q).map ([] ++ ·) = o; rw [List.drop_zero,HO.out]; cases o <;> simp),HB.out,by rw [HBE.out]; omega,HS.out,HL1.out⟩
 case round =>
  clear HS HL1 HB HO HBE
  obtain ⟨es,k,q',i,rfl,rfl,hi,hq',hk,HE,hown,HF,hB,hs1,HS,HL⟩:=hrel
  have hs:=hB.size
  obtain ⟨Ae,ce,rfl⟩:=slice_of_own hown
  by_cases him:i < m
  ·obtain ⟨ad,rfl,hab,c0⟩:=HL.out.lst.atI HI.out him
   have hdr:=drop_at (l:=ids) (i:=i) (by rw [HI.out]; exact him)
   have hw:=HWF.out i him
   have hmem:ids.getD i 0 ∈ ids:=by
    rw [List.getD_eq_getElem?_getD,List.getElem?_eq_getElem (by rw [HI.out]; exact him)]
    exact List.getElem_mem _
   obtain ⟨id,hid⟩:∃ q,ids.getD i 0 = q:=⟨_,rfl⟩
   rw [hid] at c0 hw hdr hmem
   obtain ⟨x,hx⟩:∃ x,gotE d id = x:=⟨_,rfl⟩
   have hxv:(foundS d ids (.int .i64 id)).getD (edV zeroE) = .agg #[.int .i64 x.id,.int .i64 x.fr,.int .i64 x.tn,.int .i64 x.op,.int .i64 x.en,.int .i64 x.ra,.int .i64 x.ow,.int .i64 x.ro]:=by
    rw [foundS_int,if_pos hmem,hx]; rfl
   have hstep:(x.fr = q' → findE d id = some x) ∧ (x.fr ≠ q' → followE d (ids.drop i) q' = none):=by
    rw [hdr]
    unfold gotE at hx
    cases hf:findE d id with
    | none =>
     rw [hf] at hx
     have:x.fr = 0:=by rw [← hx]; rfl
     exact ⟨fun h => by omega,fun _ => followE_none hf⟩
    | some y =>
     rw [hf] at hx
     have hyx:y = x:=hx
     subst hyx
     exact ⟨fun _ => rfl,fun h => followE_off hf h⟩
   have HW:=Lib.hid hw
   have HDR:=Lib.hid hdr
   have HXV:=Lib.hid hxv
   have HST:=Lib.hid hstep
   have hS:=HS.out
   have hX:=Blok.new wr 86 #[.int .i64 x.id,.int .i64 x.fr,.int .i64 x.tn,.int .i64 x.op,.int .i64 x.en,.int .i64 x.ra,.int .i64 x.ow,.int .i64 x.ro]
   have hBa:Below wr.heap.size wr (wr.alloc (.cells #[.int .i64 x.id,.int .i64 x.fr,.int .i64 x.tn,.int .i64 x.op,.int .i64 x.en,.int .i64 x.ra,.int .i64 x.ow,.int .i64 x.ro] 86)):=by (repeat (first | exact Below.refl _ _ | refine Below.alloc ?_ (by first | omega | (simp; done) | (simp; omega)) _ | refine Below.setCell ?_ (by first | omega | (simp; done) | (simp; omega)) _ | refine Below.drew ?_))
   have hS2:=Lib.hid (hS.below hBa)
   have hB2:=hB.trans (hBa.mono hs)
   have hL2:=Lib.hid (HL.out.below (hBa.mono hs))
   have hown2:=own_below hown hBa
   have hqb:∀ q,(Value.slice Ae k ce).ownBlock = some q → q < wr.heap.size:=fun q hq => (hown.lt q hq).2
   clear hid hx hxv hstep hw hdr hmem
   go_upto_region 8 with (at_lookup; refine wpList_look_map rfl _ _ 132 rfl 3 86 g K _ rfl hS keyedV Tryz.underlying132 (zeroEd_run _) (.int .i64 id) (.int .i64 id) rfl (keyI id HW.out) (isKeyI _) _ HXV.out ?_)
   have HQB:=Lib.hid hqb
   have hsa:=hBa.size
   clear c0 hS hBa hB hown HS HL hqb
   generalize wr.alloc (.cells #[.int .i64 x.id,.int .i64 x.fr,.int .i64 x.tn,.int .i64 x.op,.int .i64 x.en,.int .i64 x.ra,.int .i64 x.ow,.int .i64 x.ro] 86) = wx at *
   generalize wr.heap.size = bb at *
   have x0:wx.cell? ⟨bb,0,none⟩ = some (.int .i64 x.id):=hX.cell 0
   have x1:wx.cell? ⟨bb,1,none⟩ = some (.int .i64 x.fr):=hX.cell 1
   have x2:wx.cell? ⟨bb,2,none⟩ = some (.int .i64 x.tn):=hX.cell 2
   have x3:wx.cell? ⟨bb,3,none⟩ = some (.int .i64 x.op):=hX.cell 3
   have x4:wx.cell? ⟨bb,4,none⟩ = some (.int .i64 x.en):=hX.cell 4
   have x5:wx.cell? ⟨bb,5,none⟩ = some (.int .i64 x.ra):=hX.cell 5
   have x6:wx.cell? ⟨bb,6,none⟩ = some (.int .i64 x.ow):=hX.cell 6
   have x7:wx.cell? ⟨bb,7,none⟩ = some (.int .i64 x.ro):=hX.cell 7
   have lt_x:=hX.lt
   have hsx:=hB2.size
   by_cases hfr:x.fr = q'
   ·have hfe:=HST.out.1 hfr
    have hon:=followE_on (r:=ids.drop (i + 1)) hfe hfr
    have hnx:(followE d (ids.drop (i + 1)) x.tn).map ((es ++ [x]) ++ ·) = o:=by
     rw [← HF.out,HDR.out,hon,map_app]
    have htn:1 ≤ x.tn:=by
     have:=Ed.ok_spec.1 (rightE_ok HR.out (findE_some hfe).1)
     omega
    have HNX:=Lib.hid hnx
    have g1:(x.fr != q') = false:=by simp [hfr]
    clear hfe hon hnx hfr
    go_upto_region 11 with (first | (at_builtin; refine wpList_append_own _ rfl _ _ 47 rfl b1 86 i0 _ 8 64 Tryz.underlying47 hi0 hz0 hz1 hz2 rfl (by decide) _ _ _ rfl (hown2.alloc _) ⟨wx.heap.size,0,none⟩ 1 1 [.int .i64 x.id,.int .i64 x.fr,.int .i64 x.tn,.int .i64 x.op,.int .i64 x.en,.int .i64 x.ra,.int .i64 x.ow,.int .i64 x.ro] rfl rfl (by exact lit_cells wx #[.int .i64 x.id,.int .i64 x.fr,.int .i64 x.tn,.int .i64 x.op,.int .i64 x.en,.int .i64 x.ra,.int .i64 x.ow,.int .i64 x.ro] _ _ rfl) (by simp [Value.oneCell']) (by unfold maxLen; omega) (by omega) (by simp; omega) ?_; intro v' w3 hown' hgrow3 hnil3))
    have hbN:Below w.heap.size w w3:=(hB2.alloc hsx _).grown hgrow3 (by simp; omega) (fun q hq => by have:=(hown2.lt q hq).1; omega)
    have hSN:=Lib.hid ((hS2.out.alloc (.cells #[.int .i64 x.id,.int .i64 x.fr,.int .i64 x.tn,.int .i64 x.op,.int .i64 x.en,.int .i64 x.ra,.int .i64 x.ow,.int .i64 x.ro] 86)).kept hgrow3 (fun e => by have:=(hown2.lt g e.symm).1; omega))
    have hLN:=Lib.hid (hL2.out.below (((Below.refl _ _).alloc hsx (.cells #[.int .i64 x.id,.int .i64 x.fr,.int .i64 x.tn,.int .i64 x.op,.int .i64 x.en,.int .i64 x.ra,.int .i64 x.ow,.int .i64 x.ro] 86)).grown hgrow3 (by simp; omega) (fun q hq => by have:=(hown2.lt q hq).1; omega)))
    have hXN:=(hX.alloc (.cells #[.int .i64 x.id,.int .i64 x.fr,.int .i64 x.tn,.int .i64 x.op,.int .i64 x.en,.int .i64 x.ra,.int .i64 x.ow,.int .i64 x.ro] 86)).grown hgrow3 (fun e => by have:=HQB.out bb e.symm; omega)
    have hs3:b1 ≤ w3.heap.size:=by have h1:=hgrow3.size; rw [World.size_alloc] at h1; omega
    clear hgrow3 hnil3 x0 x1 x2 x3 x4 x5 x6 x7 lt_x
    have x0:w3.cell? ⟨bb,0,none⟩ = some (.int .i64 x.id):=hXN.cell 0
    have x1:w3.cell? ⟨bb,1,none⟩ = some (.int .i64 x.fr):=hXN.cell 1
    have x2:w3.cell? ⟨bb,2,none⟩ = some (.int .i64 x.tn):=hXN.cell 2
    have x3:w3.cell? ⟨bb,3,none⟩ = some (.int .i64 x.op):=hXN.cell 3
    have x4:w3.cell? ⟨bb,4,none⟩ = some (.int .i64 x.en):=hXN.cell 4
    have x5:w3.cell? ⟨bb,5,none⟩ = some (.int .i64 x.ra):=hXN.cell 5
    have x6:w3.cell? ⟨bb,6,none⟩ = some (.int .i64 x.ow):=hXN.cell 6
    have x7:w3.cell? ⟨bb,7,none⟩ = some (.int .i64 x.ro):=hXN.cell 7
    have lt_x:=hXN.lt
    go_wp2_with fail
    go_roundw
    case rel => exact ⟨es ++ [x],k + 1,x.tn,i + 1,by go_num,rfl,by omega,htn,by omega,by simp [Hid,HE.out],(by rw [flatEd_append,flatEd_one_]; exact hown'),HNX,hbN,hs3,hSN,hLN⟩
    case measure => simp [intOf]; omega
   ·have hno:=HST.out.2 hfr
    have hov:o = none:=by rw [← HF.out,hno]; rfl
    have g1:(x.fr != q') = true:=by simp [hfr]
    have HOV:=Lib.hid hov
    clear hno hov hfr
    go_wp2_with fail
    go_ret2
    rw [HOV.out]
    exact ⟨_,rfl,World.ownsRow_nil _ _ _ _,hB2⟩
  ·obtain rfl:i = m:=by omega
   have hov:o = some es:=by
    rw [← HF.out,List.drop_of_length_le (by rw [HI.out]; omega),followE_nil]; simp
   have HOV:=Lib.hid hov
   clear hov
   go_wp2_with fail
   go_ret2
   rw [HOV.out]
   refine ⟨_,rfl,?_,hB⟩
   rw [show ((some es).getD []).length = k from HE.out]
   exact own_down hown hwb
end Go.Proofs.YtodcoockhkghdaaGreat
