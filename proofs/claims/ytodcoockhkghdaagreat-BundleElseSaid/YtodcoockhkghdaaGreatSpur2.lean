/- spur.Route: the best way on from a root. It makes new memory alone. -/
import Derived.Test.YtodcoockhkghdaaGreatGQ21
import Derived.Test.YtodcoockhkghdaaGreatGQ23
import Derived.Test.YtodcoockhkghdaaGreatGQ26
import Derived.Test.YtodcoockhkghdaaGreatGQ20
namespace Go.Proofs.YtodcoockhkghdaaGreat
open Go.ChangeShapes Go.WideShapes Go.ChangeAt Go.RowKit Go.Sort Go.Maps Hp
set_option linter.unusedSimpArgs false
set_option linter.unusedVariables false
theorem ends_wf {l:List Ed} {ids:List Int} {f:Int} {N:List Int} (h:endsE l ids f = some N):∀ y ∈ N,(Lit.int .i64 y).wf = true:=fun y hy => by
 unfold endsE at h
 split at h
 ·rename_i ha
  cases hf:followE l ids f with
  | none => rw [hf] at h; cases h
  | some es =>
   rw [hf] at h
   injection h with h
   subst h
   have hs:=askE_spec.1 ha
   rcases List.mem_cons.1 (show y ∈ f :: es.map Ed.tn from hy) with rfl | h1
   ·exact wfI (by omega)
   ·obtain ⟨e,he,rfl⟩:=List.mem_map.1 h1
    have:=(Ed.ok_spec.1 (rightE_ok hs.2.2.2 (followE_mem hf e he))).2.2.1
    exact wfI (by omega)
 ·cases h
theorem run_hiI (w0:World) (A:Option Addr) (n c p:Nat) (hp:p ≤ c):(Instr.slice 44 (.slice A n c) none (some (.int .i64 (p:Int))) none).run Tryz.prog w0 = .ok (.slice A p c) w0:=by
 have ht:Tryz.prog.underlying 44 = some (.slice (Tryz.prog.elem 44)):=by kernel_rfl
 have hsz:(sizeOf (Tryz.prog.elem 44)).run Tryz.prog w0 = .ok 1 w0:=by kernel_rfl
 rw [run_slice_h w0 44 A n c ht .i64 (p:Int) (by omega) (by omega),hsz]
 simp [Result.andThen,sliced]
 intro _
 cases A <;> simp [Addr.add_zero']
theorem concat2Hp (TS:TypeId) (base:Nat) (v:Value) (A0 A1:Option Addr) (n0 n1 c0 c1:Nat) (d0 d1:List Hp) (w:World) (hd0:d0.length = n0) (hd1:d1.length = n1) (hn:n0 + n1 ≤ 1000000)
  (hO:w.ownsRow base TS 1 v 2 [.slice A0 n0 c0,.slice A1 n1 c1]) (h0:Sl w w.heap.size 3 A0 n0 c0 (flatHp d0)) (h1:Sl w w.heap.size 3 A1 n1 c1 (flatHp d1)) :
  Calls Tryz.prog 121 #[v] w fun e w' => ∃ v,e = .returned v ∧ w'.ownsRow w.heap.size 67 3 v (d0 ++ d1).length (flatHp (d0 ++ d1)) ∧ Below w.heap.size w w':=by
 have e3:catHp (fun k => if k = 0 then d0 else d1) 2 = d0 ++ d1:=by simp [catHp]
 obtain ⟨g,cO,rfl,hcap,hmax,hgb,hgl⟩:=own_at hO (by omega)
 have hcell:∀ k,k < 2 → w.cell? ⟨g,k,none⟩ = some ((fun k => if k = 0 then Value.slice A0 n0 c0 else .slice A1 n1 c1) k):=fun k hk => by
  have hS:=Sl.of_own hO
  obtain ⟨ad,hA,_,hc⟩:=hS.lst.2 (by omega)
  injection hA with hA
  subst hA
  have h3:k = 0 ∨ k = 1:=by omega
  rcases h3 with rfl | rfl
  ·have:=hc 0 _ rfl
   rw [Addr.add_zero'] at this
   exact this
  ·have:=hc 1 _ rfl
   simpa [Addr.add] using this
 have h:=concatHp g 2 cO (fun k => if k = 0 then A0 else A1) (fun k => if k = 0 then n0 else n1) (fun k => if k = 0 then c0 else c1) (fun k => if k = 0 then d0 else d1) w (by omega)
  (fun k hk => by
   have h3:k = 0 ∨ k = 1:=by omega
   rcases h3 with rfl | rfl <;> simpa) (by rw [e3]; simp; omega)
  (fun k hk => by
   have h3:k = 0 ∨ k = 1:=by omega
   rcases h3 with rfl | rfl <;> (rw [hcell _ hk]; simp))
  (fun k hk => by
   have h3:k = 0 ∨ k = 1:=by omega
   rcases h3 with rfl | rfl <;> simpa)
 rw [e3] at h
 exact h

set_option maxHeartbeats 8000000 in
set_option maxRecDepth 100000 in
theorem sproute_any (A:Option Addr) (n c:Nat) (l:List Ed) (Ar:Option Addr) (nr cr:Nat) (root:List Int) (Ab:Option Addr) (nb cb:Nat) (bans:List Int) (f q now size by_:Int) (w:World) (hd:l.length = n) (hn:n ≤ 1000) (hdr:root.length = nr) (hnr:nr ≤ 1000) (hwr:∀ k,k < nr → (Lit.int .i64 (root.getD k 0)).wf = true) (hdb:bans.length = nb) (hnb:nb ≤ 100000) (hwb:∀ k,k < nb → (Lit.int .i64 (bans.getD k 0)).wf = true) (hle:Sl w w.heap.size 8 A n c (flatEd l)) (hlr:Sl w w.heap.size 1 Ar nr cr (root.map (Value.int .i64))) (hlb:Sl w w.heap.size 1 Ab nb cb (bans.map (Value.int .i64)))
  (o:Option (List Hp × Int)) (ho:spurX l root bans f q now size by_ = o) (t:Int) (ht:bestV o = t) (H:List Hp) (hH:bestH o = H) (b:Bool) (hb0:o.isSome = b) :
  Calls Tryz.prog 76 #[.slice A n c,.slice Ar nr cr,.slice Ab nb cb,.int .i64 f,.int .i64 q,.int .i64 now,.int .i64 size,.int .i64 by_] w fun e w' => ∃ v,e = .returned (.tuple #[.agg #[v,.int .i64 t],.bool b]) ∧ w'.ownsRow w.heap.size 67 3 v H.length (flatHp H) ∧ Below w.heap.size w w':=by
 have HD:=Lib.hid hd
 have HDR:=Lib.hid hdr
 have HWR:=Lib.hid hwr
 have HDB:=Lib.hid hdb
 have HWB:=Lib.hid hwb
 have HLE:=Lib.hid (fun w' (hb:Below w.heap.size w w') => hle.up hb)
 have HLR:=Lib.hid (fun w' (hb:Below w.heap.size w w') => hlr.up hb)
 have HLB:=Lib.hid (fun w' (hb:Below w.heap.size w w') => hlb.up hb)
 have HO:=Lib.hid (spurF_is.trans ho)
 have HTT:=Lib.hid ht
 have HH:=Lib.hid hH
 have HB0:=Lib.hid hb0
 have hB:Below w.heap.size w (w.alloc (.cells #[.slice none 0 0,.int .i64 0] 31)):=(Below.refl _ _).alloc (Nat.le_refl _) _
 have hX:=Blok.new w 31 #[.slice none 0 0,.int .i64 0]
 clear hd hdr hwr hdb hwb hle hlr hlb ho ht hH hb0
 go_enter Tryz.func76,Tryz.ntmps76
 go_upto_region 1 with fail
 generalize w.alloc (.cells #[.slice none 0 0,.int .i64 0] 31) = w1 at *
 obtain ⟨xb,hxb⟩:∃ z,w.heap.size = z:=⟨_,rfl⟩
 have HXB:Hid (w.heap.size ≤ xb):=Nat.le_of_eq hxb
 rw [hxb] at hX
 try rw [hxb]
 clear hxb
 have HBX:=Lib.hid hB
 have HXX:=Lib.hid hX
 clear hX hB
 obtain ⟨oe,hoe⟩:∃ z,endsE l root f = z:=⟨_,rfl⟩
 obtain ⟨ke,hke⟩:∃ z,oe.isSome = z:=⟨_,rfl⟩
 obtain ⟨N,hN⟩:∃ z,oe.getD [] = z:=⟨_,rfl⟩
 have HOE:=Lib.hid hoe
 have HKE:=Lib.hid hke
 have HN:=Lib.hid hN
 clear hoe hke hN
 go_wp2_with fail
 refine (pEnds_v A n c l Ar nr cr root f w1 HD.out (by omega) HDR.out (by omega) HWR.out (HLE.out _ HBX.out) (HLR.out _ HBX.out) oe HOE.out ke HKE.out N HN.out).mono ?_
 rintro e w2 ⟨An,nn,cn,rfl,hnn,hnm,sn,hb⟩
 have hX2:=HXX.out.below hb HXX.out.lt
 have hB2:=HBX.out.trans (hb.mono HBX.out.size)
 have HX2:=Lib.hid hX2
 have HB2:=Lib.hid hB2
 have HNN:=Lib.hid hnn
 have HSN:=Lib.hid (fun w' (hb:Below w2.heap.size w2 w') => sn.up hb)
 clear hX2 hB2 hnn sn hb
 cases ke with
 | false =>
  have hoe:oe = none:=by have h:=HKE.out; cases oe with | none => rfl | some x => cases h
  have HNONEH:Hid (o = none):=by
   show o = none
   rw [← HO.out]; unfold spurF; rw [HOE.out,hoe]
  clear hoe

  have r0:w2.cell? ⟨xb,0,none⟩ = some (.slice none 0 0):=HX2.out.cell 0
  have f_0:=HX2.out.free 0
  have r1:w2.cell? ⟨xb,1,none⟩ = some (.int .i64 0):=HX2.out.cell 1
  have f_1:=HX2.out.free 1
  have lt_x:=HX2.out.lt
  have hbest:o = none:=HNONEH.out
  have h1:t = 0:=by rw [← HTT.out,hbest]; rfl
  have h2:H = []:=by rw [← HH.out,hbest]; rfl
  have h3:b = false:=by rw [← HB0.out,hbest]; rfl
  subst h1 h2 h3
  clear hbest
  go_wp2_with fail
  have hX:=HX2.out
  have hB:=HB2.out
  have hws:=HXB.out
  clear r0 r1
  have hF:Blok ((w2.setCell ⟨xb,0,none⟩ (.slice none 0 0)).setCell ⟨xb,1,none⟩ (.int .i64 0)) xb 31 #[.slice none 0 0,.int .i64 0]:=by have h:=((hX.set_ 0 (.slice none 0 0)).set_ 1 (.int .i64 0)); simpa using h
  have hle0:w.heap.size ≤ xb:=by first | exact Nat.le_refl _ | omega
  have hWf:Below w.heap.size w ((w2.setCell ⟨xb,0,none⟩ (.slice none 0 0)).setCell ⟨xb,1,none⟩ (.int .i64 0)):=((hB.setCell (p:=⟨xb,0,none⟩) hle0 (.slice none 0 0)).setCell (p:=⟨xb,1,none⟩) hle0 (.int .i64 0))
  have hlF:=hF.lt
  have hgw:w2.grownBy ((w2.setCell ⟨xb,0,none⟩ (.slice none 0 0)).setCell ⟨xb,1,none⟩ (.int .i64 0)) (some xb):=grown_trans (grown_set _ _ _) (grown_set _ _ _)
  generalize ((w2.setCell ⟨xb,0,none⟩ (.slice none 0 0)).setCell ⟨xb,1,none⟩ (.int .i64 0)) = wf at *
  have r0:wf.cell? ⟨xb,0,none⟩ = some (.slice none 0 0):=hF.cell 0
  have r1:wf.cell? ⟨xb,1,none⟩ = some (.int .i64 0):=hF.cell 1
  refine bodyPost_ret (v:=.tuple #[.agg #[.slice none 0 0,.int .i64 0],.bool false]) (by simp [results,Tryz.results76,go_sem,r0,r1,hlF]) rfl ?_
  exact ⟨_,rfl,World.ownsRow_nil _ _ _ _,hWf⟩
 | true =>
  obtain ⟨ns,hns⟩:∃ ns,oe = some ns:=Option.isSome_iff_exists.1 HKE.out
  have hNn:N = ns:=by rw [← HN.out,hns]; rfl
  subst hNn
  have hlen:1 ≤ nn:=by
   rw [← HNN.out]
   have h1:=HOE.out
   rw [hns] at h1
   unfold endsE at h1
   split at h1
   ·cases hf:followE l root f with
    | none => rw [hf] at h1; cases h1
    | some es => rw [hf] at h1; injection h1 with h1; rw [← h1,nodesE_len]; omega
   ·cases h1
  have HNS:=Lib.hid hns
  obtain ⟨p,rfl⟩:∃ p,nn = p + 1:=⟨nn - 1,by omega⟩
  obtain ⟨node,hnode⟩:∃ z,N.getD p 0 = z:=⟨_,rfl⟩
  have HND:=Lib.hid hnode
  have hsp:N.getD (N.length - 1) 0 = node:=by rw [HNN.out]; exact hnode
  have HSP:=Lib.hid hsp
  clear hns hnode hsp hlen
  obtain ⟨ad,hA,hab,c0⟩:=(HSN.out w2 (Below.refl _ _)).lst.atI HNN.out (show p < p + 1 by omega)
  rw [HND.out] at c0
  have hw1:IntKind.i64.wrap (((p + 1:Nat):Int) - 1) = (p:Int):=by rw [IntWalk.i64_in _ (by omega)]; omega
  have hw2:IntKind.i64.wrap ((p:Int) + 1 - 1) = (p:Int):=by rw [IntWalk.i64_in _ (by omega)]; omega
  have hw3:((p:Int) + 1 - 1) = (p:Int):=by omega
  have hw4:IntKind.i64.wrap (p:Int) = (p:Int):=IntWalk.i64_in _ (by omega)
  have hpI:(p:Int) < ((p + 1:Nat):Int):=by omega
  have hpI2:(p:Int) < (p:Int) + 1:=by omega
  subst hA
  obtain ⟨ob,hob⟩:∃ z,routeE l root f node now size = z:=⟨_,rfl⟩
  obtain ⟨ko,hko⟩:∃ z,ob.isSome = z:=⟨_,rfl⟩
  obtain ⟨H0,hH0⟩:∃ z,hopsO ob = z:=⟨_,rfl⟩
  obtain ⟨ar0,har0⟩:∃ z,arrO ob = z:=⟨_,rfl⟩
  have HOB:=Lib.hid hob
  have HKO:=Lib.hid hko
  have HH0:=Lib.hid hH0
  have HA0:=Lib.hid har0
  clear hob hko hH0 har0
  go_wp2_with fail
  clear c0 hab hw1 hw2 hw3 hpI hpI2
  refine (proute_o A n c l Ar nr cr root f node now size w2 HD.out (by omega) HDR.out (by omega) HWR.out (HLE.out _ HB2.out) (HLR.out _ HB2.out) ob HOB.out H0 HH0.out ar0 HA0.out ko HKO.out).mono ?_
  rintro e w3 ⟨A3,n3,c3,rfl,hn3,hm3,s3,hb⟩
  have hbx:Below w3.heap.size w3 (w3.alloc (.cells #[.slice A3 n3 c3,.int .i64 ar0] 31)):=(Below.refl _ _).alloc (Nat.le_refl _) _
  have hb4:Below w2.heap.size w2 (w3.alloc (.cells #[.slice A3 n3 c3,.int .i64 ar0] 31)):=hb.trans (hbx.mono hb.size)
  have hX4:=HX2.out.below hb4 HX2.out.lt
  have hB4:=HB2.out.trans (hb4.mono HB2.out.size)
  have hS4:=own_belowJ s3 hbx
  have hY4:=Blok.new w3 31 #[.slice A3 n3 c3,.int .i64 ar0]
  have HSN4:=Lib.hid (fun w' (hb:Below (w3.alloc (.cells #[.slice A3 n3 c3,.int .i64 ar0] 31)).heap.size (w3.alloc (.cells #[.slice A3 n3 c3,.int .i64 ar0] 31)) w') => HSN.out _ (hb4.trans (hb.mono hb4.size)))
  go_upto_region 7 with fail
  generalize w3.alloc (.cells #[.slice A3 n3 c3,.int .i64 ar0] 31) = w4 at *
  generalize w3.heap.size = yb at *
  have HX4:=Lib.hid hX4
  have HB4:=Lib.hid hB4
  have HS4:=Lib.hid hS4
  have HY4:=Lib.hid hY4
  have HN3:=Lib.hid hn3
  clear hX4 hB4 hS4 hY4 hb hbx hb4 s3 hn3
  cases ko with
  | false =>
   have hob:ob = none:=by have h:=HKO.out; cases ob with | none => rfl | some x => cases h
   have HNONEH:Hid (o = none):=by
    show o = none
    rw [← HO.out]; unfold spurF; rw [HOE.out,HNS.out]
    simp only
    rw [HSP.out,HOB.out,hob]
   clear hob

   have r0:w4.cell? ⟨xb,0,none⟩ = some (.slice none 0 0):=HX4.out.cell 0
   have f_0:=HX4.out.free 0
   have r1:w4.cell? ⟨xb,1,none⟩ = some (.int .i64 0):=HX4.out.cell 1
   have f_1:=HX4.out.free 1
   have lt_x:=HX4.out.lt
   have hbest:o = none:=HNONEH.out
   have h1:t = 0:=by rw [← HTT.out,hbest]; rfl
   have h2:H = []:=by rw [← HH.out,hbest]; rfl
   have h3:b = false:=by rw [← HB0.out,hbest]; rfl
   subst h1 h2 h3
   clear hbest
   go_wp2_with fail
   have hX:=HX4.out
   have hB:=HB4.out
   have hws:=HXB.out
   clear r0 r1
   have hF:Blok ((w4.setCell ⟨xb,0,none⟩ (.slice none 0 0)).setCell ⟨xb,1,none⟩ (.int .i64 0)) xb 31 #[.slice none 0 0,.int .i64 0]:=by have h:=((hX.set_ 0 (.slice none 0 0)).set_ 1 (.int .i64 0)); simpa using h
   have hle0:w.heap.size ≤ xb:=by first | exact Nat.le_refl _ | omega
   have hWf:Below w.heap.size w ((w4.setCell ⟨xb,0,none⟩ (.slice none 0 0)).setCell ⟨xb,1,none⟩ (.int .i64 0)):=((hB.setCell (p:=⟨xb,0,none⟩) hle0 (.slice none 0 0)).setCell (p:=⟨xb,1,none⟩) hle0 (.int .i64 0))
   have hlF:=hF.lt
   have hgw:w4.grownBy ((w4.setCell ⟨xb,0,none⟩ (.slice none 0 0)).setCell ⟨xb,1,none⟩ (.int .i64 0)) (some xb):=grown_trans (grown_set _ _ _) (grown_set _ _ _)
   generalize ((w4.setCell ⟨xb,0,none⟩ (.slice none 0 0)).setCell ⟨xb,1,none⟩ (.int .i64 0)) = wf at *
   have r0:wf.cell? ⟨xb,0,none⟩ = some (.slice none 0 0):=hF.cell 0
   have r1:wf.cell? ⟨xb,1,none⟩ = some (.int .i64 0):=hF.cell 1
   refine bodyPost_ret (v:=.tuple #[.agg #[.slice none 0 0,.int .i64 0],.bool false]) (by simp [results,Tryz.results76,go_sem,r0,r1,hlF]) rfl ?_
   exact ⟨_,rfl,World.ownsRow_nil _ _ _ _,hWf⟩
  | true =>
   obtain ⟨b1,hb1⟩:∃ b1,ob = some b1:=Option.isSome_iff_exists.1 HKO.out
   have e1:b1.1 = H0:=by have h:=HH0.out; rw [hb1] at h; exact h
   have e2:b1.2 = ar0:=by have h:=HA0.out; rw [hb1] at h; exact h
   have hsf:spurF l root bans f q now size by_ = if by_ < ar0 then none else if node = q then some (H0,ar0) else match bestX (withoutE l node bans) node q ar0 size by_ (N.take p) with | none => none | some r => some (H0 ++ r.1,r.2):=by
    unfold spurF; rw [HOE.out,HNS.out]
    simp only
    rw [HSP.out,HOB.out,hb1]
    simp only
    rw [e1,e2,show N.length - 1 = p by rw [HNN.out]; rfl,← e1,← e2]
    rfl
   have HSF:=Lib.hid (hsf.symm.trans HO.out)
   obtain ⟨_,_,hask,_⟩:=routeE_some (HOB.out.trans hb1)
   have hre:=(askE_spec.1 hask).2.2.2
   have HOK:Hid (∀ k,k < n → (gEd l k).ok = true):=fun k hk => rightE_ok hre (by rw [gEd_eq (by rw [HD.out]; exact hk)]; exact List.getElem_mem _)
   have HWN:Hid (∀ k,k < p → (Lit.int .i64 ((N.take p).getD k 0)).wf = true):=fun k hk => by
    have h1:=ends_wf (HOE.out.trans HNS.out)
    have hkl:k < (N.take p).length:=by rw [List.length_take,HNN.out]; omega
    rw [List.getD_eq_getElem?_getD,List.getElem?_eq_getElem hkl]
    exact h1 _ (List.mem_of_mem_take (List.getElem_mem hkl))
   have HPC:Hid (p ≤ cn):=by
    have:=(HSN.out w2 (Below.refl _ _)).cap
    show p ≤ cn
    omega
   clear hb1 e1 e2 hsf hask hre
   have y1:w4.cell? ⟨yb,1,none⟩ = some (.int .i64 ar0):=HY4.out.cell 1
   have lt_y:=HY4.out.lt
   by_cases hby:by_ < ar0
   ·have HNONEH:Hid (o = none):=by
     show o = none
     rw [← HSF.out,if_pos hby]
    have g0:decide (by_ < ar0) = true:=decide_eq_true hby
    have g1:decide (ar0 > by_) = true:=decide_eq_true hby

    have r0:w4.cell? ⟨xb,0,none⟩ = some (.slice none 0 0):=HX4.out.cell 0
    have f_0:=HX4.out.free 0
    have r1:w4.cell? ⟨xb,1,none⟩ = some (.int .i64 0):=HX4.out.cell 1
    have f_1:=HX4.out.free 1
    have lt_x:=HX4.out.lt
    have hbest:o = none:=HNONEH.out
    have h1:t = 0:=by rw [← HTT.out,hbest]; rfl
    have h2:H = []:=by rw [← HH.out,hbest]; rfl
    have h3:b = false:=by rw [← HB0.out,hbest]; rfl
    subst h1 h2 h3
    clear hbest
    go_wp2_with fail
    have hX:=HX4.out
    have hB:=HB4.out
    have hws:=HXB.out
    clear r0 r1
    have hF:Blok ((w4.setCell ⟨xb,0,none⟩ (.slice none 0 0)).setCell ⟨xb,1,none⟩ (.int .i64 0)) xb 31 #[.slice none 0 0,.int .i64 0]:=by have h:=((hX.set_ 0 (.slice none 0 0)).set_ 1 (.int .i64 0)); simpa using h
    have hle0:w.heap.size ≤ xb:=by first | exact Nat.le_refl _ | omega
    have hWf:Below w.heap.size w ((w4.setCell ⟨xb,0,none⟩ (.slice none 0 0)).setCell ⟨xb,1,none⟩ (.int .i64 0)):=((hB.setCell (p:=⟨xb,0,none⟩) hle0 (.slice none 0 0)).setCell (p:=⟨xb,1,none⟩) hle0 (.int .i64 0))
    have hlF:=hF.lt
    have hgw:w4.grownBy ((w4.setCell ⟨xb,0,none⟩ (.slice none 0 0)).setCell ⟨xb,1,none⟩ (.int .i64 0)) (some xb):=grown_trans (grown_set _ _ _) (grown_set _ _ _)
    generalize ((w4.setCell ⟨xb,0,none⟩ (.slice none 0 0)).setCell ⟨xb,1,none⟩ (.int .i64 0)) = wf at *
    have r0:wf.cell? ⟨xb,0,none⟩ = some (.slice none 0 0):=hF.cell 0
    have r1:wf.cell? ⟨xb,1,none⟩ = some (.int .i64 0):=hF.cell 1
    refine bodyPost_ret (v:=.tuple #[.agg #[.slice none 0 0,.int .i64 0],.bool false]) (by simp [results,Tryz.results76,go_sem,r0,r1,hlF]) rfl ?_
    exact ⟨_,rfl,World.ownsRow_nil _ _ _ _,hWf⟩
   ·have g0:decide (by_ < ar0) = false:=decide_eq_false hby
    have g1:decide (ar0 > by_) = false:=decide_eq_false hby
    have HSF2:=Lib.hid ((if_neg hby).symm.trans HSF.out)
    have y0:w4.cell? ⟨yb,0,none⟩ = some (.slice A3 n3 c3):=HY4.out.cell 0
    by_cases hq:node = q
    ·have hoe:o = some (H0,ar0):=by rw [← HSF2.out,if_pos hq]
     have h1:t = ar0:=by rw [← HTT.out,hoe]; rfl
     have h2:H = H0:=by rw [← HH.out,hoe]; rfl
     have h3:b = true:=by rw [← HB0.out,hoe]; rfl
     subst h1 h2 h3
     have g2:(node == q) = true:=beq_iff_eq.2 hq
     clear hoe hq
     have r0:w4.cell? ⟨xb,0,none⟩ = some (.slice none 0 0):=HX4.out.cell 0
     have f_0:=HX4.out.free 0
     have r1:w4.cell? ⟨xb,1,none⟩ = some (.int .i64 0):=HX4.out.cell 1
     have f_1:=HX4.out.free 1
     have lt_x:=HX4.out.lt
     go_wp2_with fail
     have hX:=HX4.out
     have hB:=HB4.out
     have hws:=HXB.out
     clear r0 r1
     have hF:Blok ((w4.setCell ⟨xb,0,none⟩ (.slice A3 n3 c3)).setCell ⟨xb,1,none⟩ (.int .i64 t)) xb 31 #[.slice A3 n3 c3,.int .i64 t]:=by have h:=((hX.set_ 0 (.slice A3 n3 c3)).set_ 1 (.int .i64 t)); simpa using h
     have hle0:w.heap.size ≤ xb:=by first | exact Nat.le_refl _ | omega
     have hWf:Below w.heap.size w ((w4.setCell ⟨xb,0,none⟩ (.slice A3 n3 c3)).setCell ⟨xb,1,none⟩ (.int .i64 t)):=((hB.setCell (p:=⟨xb,0,none⟩) hle0 (.slice A3 n3 c3)).setCell (p:=⟨xb,1,none⟩) hle0 (.int .i64 t))
     have hlF:=hF.lt
     have hgw:w4.grownBy ((w4.setCell ⟨xb,0,none⟩ (.slice A3 n3 c3)).setCell ⟨xb,1,none⟩ (.int .i64 t)) (some xb):=grown_trans (grown_set _ _ _) (grown_set _ _ _)
     generalize ((w4.setCell ⟨xb,0,none⟩ (.slice A3 n3 c3)).setCell ⟨xb,1,none⟩ (.int .i64 t)) = wf at *
     have r0:wf.cell? ⟨xb,0,none⟩ = some (.slice A3 n3 c3):=hF.cell 0
     have r1:wf.cell? ⟨xb,1,none⟩ = some (.int .i64 t):=hF.cell 1
     refine bodyPost_ret (v:=.tuple #[.agg #[.slice A3 n3 c3,.int .i64 t],.bool true]) (by simp [results,Tryz.results76,go_sem,r0,r1,hlF]) rfl ?_
     refine ⟨_,rfl,?_,hWf⟩
     rw [HN3.out]
     have h7:=HB2.out.size
     have h8:=HX2.out.lt
     exact own_down (HS4.out.kept hgw (.inr (fun e => by have:=(HS4.out.lt xb e).1; omega))) h7
    ·have HSF3:=Lib.hid ((if_neg hq).symm.trans HSF2.out)
     have g2:(node == q) = false:=beq_eq_false_iff_ne.2 hq
     clear hq
     obtain ⟨nW,hnW⟩:∃ z,(withoutE l node bans).length = z:=⟨_,rfl⟩
     have hnW2:nW ≤ n:=by rw [← hnW,← HD.out]; exact without_len _ _ _
     obtain ⟨o2,ho2⟩:∃ z,bestX (withoutE l node bans) node q ar0 size by_ (N.take p) = z:=⟨_,rfl⟩
     obtain ⟨tq,ht2⟩:∃ z,bestV o2 = z:=⟨_,rfl⟩
     obtain ⟨Hq,hH2⟩:∃ z,bestH o2 = z:=⟨_,rfl⟩
     obtain ⟨k2,hk2⟩:∃ z,o2.isSome = z:=⟨_,rfl⟩
     obtain ⟨nq,hn2⟩:∃ z,Hq.length = z:=⟨_,rfl⟩
     have HNW:=Lib.hid hnW
     have HO2:=Lib.hid ho2
     have HT2:=Lib.hid ht2
     have HH2:=Lib.hid hH2
     have HK2:=Lib.hid hk2
     have HN2:=Lib.hid hn2
     have HTK:Hid ((N.take p).length = p):=by show _ = _; rw [List.length_take,HNN.out]; omega
     have HUP:Hid (∀ w',Below w4.heap.size w4 w' → Below w.heap.size w w'):=fun w' hb => HB4.out.trans (hb.mono HB4.out.size)
     have HLS:Hid (∀ w',Below w4.heap.size w4 w' → Sl w' w'.heap.size 1 (some ad) p cn ((N.take p).map (Value.int .i64))):=fun w' hb => by
      have h:=(HSN4.out _ hb).upto (show p ≤ p + 1 by omega)
      rw [Nat.mul_one,← List.map_take] at h
      exact h
     clear hnW ho2 ht2 hH2 hk2 hn2
     go_upto_region 13 with fail
     clear y0 y1 lt_y g0 g1 g2
     have hinj:∀ a c:Value,(fun u:Value => Value.tuple #[.agg #[u,.int .i64 tq],.bool k2]) a = (fun u:Value => Value.tuple #[.agg #[u,.int .i64 tq],.bool k2]) c → a = c:=fun a c h => by simpa using h
     have HINJ:=Lib.hid hinj
     clear hinj
     refine gen_frame ?_
     intro a0 ha0
     try simp only [List.append]
     refine wp_region_frames rfl (by kernel_rfl) (by kernel_rfl) (fun V x w' => Below w4.heap.size w4 w' ∧ TF [(0,.slice A n c),(1,.int .i64 node),(2,.slice Ab nb cb),(4,.int .i64 node),(5,.int .i64 q),(6,.pointer (some ⟨yb,1,none⟩)),(7,.int .i64 ar0),(8,.int .i64 size),(9,.int .i64 by_),(10,.slice (some ad) (p + 1) cn),(11,.int .i64 (p:Int)),(12,.slice (some ad) p cn),(16,.bool k2),(19,.bool k2)] V x ∧ (V.getD 3 true = true → V.getD 13 true = false → Fin1 (fun u:Value => u) w4.heap.size 86 8 nW (flatEd (withoutE l node bans)) w' (x 3)) ∧ (V.getD 13 true = true → Fin1 (fun u:Value => Value.tuple #[.agg #[u,.int .i64 tq],.bool k2]) w4.heap.size 67 3 nq (flatHp Hq) w' (x 13)) ∧ (V.getD 14 true = true → x 14 = x 13) ∧ (V.getD 15 true = true → ∀ u,x 13 = (fun u:Value => Value.tuple #[.agg #[u,.int .i64 tq],.bool k2]) u → x 15 = (fun u:Value => Value.agg #[u,.int .i64 tq]) u) ∧ (V.getD 17 true = true → V.getD 18 true = false → VarP w4.heap.size 31 #[.slice none 0 0,.int .i64 0] w' (x 17) (fun b => V.getD 13 true = true → Off1 (fun u:Value => Value.tuple #[.agg #[u,.int .i64 tq],.bool k2]) b (x 13))) ∧ (V.getD 18 true = true → StoP w4.heap.size 31 w' (x 17) (x 15))) ?_ ?_ ?_
     ·intro x
      refine ⟨(Below.refl _ _).drew,TF.none rfl,?_,?_,?_,?_,?_,?_⟩ <;> exact fun h => by simp at h
     ·intro V x b w' hbq hsz hF i hi hun haf hcl
      obtain ⟨hBw,hT,f3,f13,f14,f15,f17,f18⟩:=hF
      have hbe:b = putAll a0 [some 64,some 65,some 66,some 67,some 68,some 69,some 70,some 71,some 72,some 73,some 74,some 75,some 76,some 77,some 63,some 78,some 79,some 23,none,some 19] x 0:=hbq
      have hz0:a0.tmps.size = 92:=by rw [ha0]; rfl
      have e0:b.eval (.tmp 0) = .slice A n c:=by rw [hbe,eval_out _ _ _ (by decide),ha0]; rfl
      have t0:b.tmps[0]?.getD undef = .slice A n c:=by simpa [Act.eval] using e0
      have e2:b.eval (.tmp 2) = .slice Ab nb cb:=by rw [hbe,eval_out _ _ _ (by decide),ha0]; rfl
      have t2:b.tmps[2]?.getD undef = .slice Ab nb cb:=by simpa [Act.eval] using e2
      have e4:b.eval (.tmp 4) = .int .i64 q:=by rw [hbe,eval_out _ _ _ (by decide),ha0]; rfl
      have t4:b.tmps[4]?.getD undef = .int .i64 q:=by simpa [Act.eval] using e4
      have e6:b.eval (.tmp 6) = .int .i64 size:=by rw [hbe,eval_out _ _ _ (by decide),ha0]; rfl
      have t6:b.tmps[6]?.getD undef = .int .i64 size:=by simpa [Act.eval] using e6
      have e7:b.eval (.tmp 7) = .int .i64 by_:=by rw [hbe,eval_out _ _ _ (by decide),ha0]; rfl
      have t7:b.tmps[7]?.getD undef = .int .i64 by_:=by simpa [Act.eval] using e7
      have e18:b.eval (.tmp 18) = .slice (some ad) (p + 1) cn:=by rw [hbe,eval_out _ _ _ (by decide),ha0]; rfl
      have t18:b.tmps[18]?.getD undef = .slice (some ad) (p + 1) cn:=by simpa [Act.eval] using e18
      have e20:b.eval (.tmp 20) = .int .i64 (p:Int):=by rw [hbe,eval_out _ _ _ (by decide),ha0]; rfl
      have t20:b.tmps[20]?.getD undef = .int .i64 (p:Int):=by simpa [Act.eval] using e20
      have e21:b.eval (.tmp 21) = .int .i64 node:=by rw [hbe,eval_out _ _ _ (by decide),ha0]; rfl
      have t21:b.tmps[21]?.getD undef = .int .i64 node:=by simpa [Act.eval] using e21
      have e22:b.eval (.tmp 22) = .pointer (some ⟨yb,0,none⟩):=by rw [hbe,eval_out _ _ _ (by decide),ha0]; rfl
      have t22:b.tmps[22]?.getD undef = .pointer (some ⟨yb,0,none⟩):=by simpa [Act.eval] using e22
      have evc:∀ v,b.eval (.const v) = v:=fun _ => rfl
      have B0:=Below.refl w'.heap.size w'
      have EI:∀ (k e:Nat),([some 64,some 65,some 66,some 67,some 68,some 69,some 70,some 71,some 72,some 73,some 74,some 75,some 76,some 77,some 63,some 78,some 79,some 23,none,some 19]:List (Option Tmp))[k]? = some (some e) → e < 92 → b.eval (.tmp e) = x k:=fun k e h1 h2 => by rw [hbe,eval_in _ _ _ k (by decide) h1 (by rw [hz0]; exact h2),Nat.zero_add]
      clear hbq
      have hi':i < 20:=hi
      clear hi
      obtain rfl | rfl | rfl | rfl | rfl | rfl | rfl | rfl | rfl | rfl | rfl | rfl | rfl | rfl | rfl | rfl | rfl | rfl | rfl | rfl:i = 0 ∨ i = 1 ∨ i = 2 ∨ i = 3 ∨ i = 4 ∨ i = 5 ∨ i = 6 ∨ i = 7 ∨ i = 8 ∨ i = 9 ∨ i = 10 ∨ i = 11 ∨ i = 12 ∨ i = 13 ∨ i = 14 ∨ i = 15 ∨ i = 16 ∨ i = 17 ∨ i = 18 ∨ i = 19:=by omega
      ·refine wpOp_runs (v:=.slice A n c) rfl rfl (by simp [execOp,go_sem,t0]) ⟨_,_,rfl,rfl,⟨hBw,hT.on 0 rfl rfl,kfD f3 rfl B0,kfF f13 rfl B0,kfE f14 rfl rfl rfl,kfX f15 rfl rfl rfl,kV f17 rfl rfl B0,kS f18 rfl rfl rfl B0⟩⟩
      ·refine wpOp_runs (v:=.int .i64 node) rfl rfl (by simp [execOp,go_sem,t21]) ⟨_,_,rfl,rfl,⟨hBw,hT.on 1 rfl rfl,kfD f3 rfl B0,kfF f13 rfl B0,kfE f14 rfl rfl rfl,kfX f15 rfl rfl rfl,kV f17 rfl rfl B0,kS f18 rfl rfl rfl B0⟩⟩
      ·refine wpOp_runs (v:=.slice Ab nb cb) rfl rfl (by simp [execOp,go_sem,t2]) ⟨_,_,rfl,rfl,⟨hBw,hT.on 2 rfl rfl,kfD f3 rfl B0,kfF f13 rfl B0,kfE f14 rfl rfl rfl,kfX f15 rfl rfl rfl,kV f17 rfl rfl B0,kS f18 rfl rfl rfl B0⟩⟩
      ·have d0:=getD_ft (haf _ rfl ⟨0,.data⟩ (by simp) rfl)
       have e64:=(EI 0 64 rfl (by decide)).trans (hT.get 0 rfl d0)
       have t64:=tev e64
       have d1:=getD_ft (haf _ rfl ⟨1,.data⟩ (by simp) rfl)
       have e65:=(EI 1 65 rfl (by decide)).trans (hT.get 1 rfl d1)
       have t65:=tev e65
       have d2:=getD_ft (haf _ rfl ⟨2,.data⟩ (by simp) rfl)
       have e66:=(EI 2 66 rfl (by decide)).trans (hT.get 2 rfl d2)
       have t66:=tev e66
       refine wpOp_of rfl ?_
       refine step_call rfl 120 #[.tmp 64,.tmp 65,.tmp 66] _ rfl #[.slice A n c,.int .i64 node,.slice Ab nb cb] (by simp [e64,e65,e66]) Tryz.func120 rfl rfl ?_
       refine (without_any A n c l node Ab nb cb bans w' HD.out (by omega) HOK.out HDB.out hnb HWB.out (HLE.out _ (HUP.out _ hBw)) (HLB.out _ (HUP.out _ hBw))).mono ?_
       rintro e w'' ⟨v,rfl,hown,hb⟩
       rw [HNW.out] at hown
       exact ⟨_,rfl,_,_,rfl,rfl,⟨hBw.trans (hb.mono hBw.size),hT.off rfl,fun _ _ => by rw [upd_same]; exact ⟨_,rfl,own_down hown hBw.size⟩,kfF f13 rfl hb,kfE f14 rfl rfl rfl,kfX f15 rfl rfl rfl,kV f17 rfl rfl hb,kS f18 rfl rfl rfl hb⟩⟩
      ·refine wpOp_runs (v:=.int .i64 node) rfl rfl (by simp [execOp,go_sem,t21]) ⟨_,_,rfl,rfl,⟨hBw,hT.on 3 rfl rfl,kfD f3 rfl B0,kfF f13 rfl B0,kfE f14 rfl rfl rfl,kfX f15 rfl rfl rfl,kV f17 rfl rfl B0,kS f18 rfl rfl rfl B0⟩⟩
      ·refine wpOp_runs (v:=.int .i64 q) rfl rfl (by simp [execOp,go_sem,t4]) ⟨_,_,rfl,rfl,⟨hBw,hT.on 4 rfl rfl,kfD f3 rfl B0,kfF f13 rfl B0,kfE f14 rfl rfl rfl,kfX f15 rfl rfl rfl,kV f17 rfl rfl B0,kS f18 rfl rfl rfl B0⟩⟩
      ·refine wpOp_runs (v:=.pointer (some ⟨yb,1,none⟩)) rfl rfl (by simp [execOp,go_sem,t22]) ⟨_,_,rfl,rfl,⟨hBw,hT.on 5 rfl rfl,kfD f3 rfl B0,kfF f13 rfl B0,kfE f14 rfl rfl rfl,kfX f15 rfl rfl rfl,kV f17 rfl rfl B0,kS f18 rfl rfl rfl B0⟩⟩
      ·have d6:=getD_ft (haf _ rfl ⟨6,.data⟩ (by simp) rfl)
       have e70:=(EI 6 70 rfl (by decide)).trans (hT.get 5 rfl d6)
       have t70:=tev e70
       have bq:=HY4.out.below hBw HY4.out.lt
       have n_0:w'.cell? ⟨yb,1,none⟩ = some (.int .i64 ar0):=bq.cell 1
       refine wpOp_runs (v:=.int .i64 ar0) rfl rfl (by simp [execOp,go_sem,t70,n_0]) ⟨_,_,rfl,rfl,⟨hBw,hT.on 6 rfl rfl,kfD f3 rfl B0,kfF f13 rfl B0,kfE f14 rfl rfl rfl,kfX f15 rfl rfl rfl,kV f17 rfl rfl B0,kS f18 rfl rfl rfl B0⟩⟩
      ·refine wpOp_runs (v:=.int .i64 size) rfl rfl (by simp [execOp,go_sem,t6]) ⟨_,_,rfl,rfl,⟨hBw,hT.on 7 rfl rfl,kfD f3 rfl B0,kfF f13 rfl B0,kfE f14 rfl rfl rfl,kfX f15 rfl rfl rfl,kV f17 rfl rfl B0,kS f18 rfl rfl rfl B0⟩⟩
      ·refine wpOp_runs (v:=.int .i64 by_) rfl rfl (by simp [execOp,go_sem,t7]) ⟨_,_,rfl,rfl,⟨hBw,hT.on 8 rfl rfl,kfD f3 rfl B0,kfF f13 rfl B0,kfE f14 rfl rfl rfl,kfX f15 rfl rfl rfl,kV f17 rfl rfl B0,kS f18 rfl rfl rfl B0⟩⟩
      ·refine wpOp_runs (v:=.slice (some ad) (p + 1) cn) rfl rfl (by simp [execOp,go_sem,t18]) ⟨_,_,rfl,rfl,⟨hBw,hT.on 9 rfl rfl,kfD f3 rfl B0,kfF f13 rfl B0,kfE f14 rfl rfl rfl,kfX f15 rfl rfl rfl,kV f17 rfl rfl B0,kS f18 rfl rfl rfl B0⟩⟩
      ·refine wpOp_runs (v:=.int .i64 (p:Int)) rfl rfl (by simp [execOp,go_sem,t20]) ⟨_,_,rfl,rfl,⟨hBw,hT.on 10 rfl rfl,kfD f3 rfl B0,kfF f13 rfl B0,kfE f14 rfl rfl rfl,kfX f15 rfl rfl rfl,kV f17 rfl rfl B0,kS f18 rfl rfl rfl B0⟩⟩
      ·have d10:=getD_ft (haf _ rfl ⟨10,.data⟩ (by simp) rfl)
       have e74:=(EI 10 74 rfl (by decide)).trans (hT.get 9 rfl d10)
       have t74:=tev e74
       have d11:=getD_ft (haf _ rfl ⟨11,.data⟩ (by simp) rfl)
       have e75:=(EI 11 75 rfl (by decide)).trans (hT.get 10 rfl d11)
       have t75:=tev e75
       have hsl:=run_hiI w' (some ad) (p + 1) cn p HPC.out
       refine wpOp_runs (v:=.slice (some ad) p cn) rfl rfl (by simp [execOp,go_sem,t74,t75,hsl]) ⟨_,_,rfl,rfl,⟨hBw,hT.on 11 rfl rfl,kfD f3 rfl B0,kfF f13 rfl B0,kfE f14 rfl rfl rfl,kfX f15 rfl rfl rfl,kV f17 rfl rfl B0,kS f18 rfl rfl rfl B0⟩⟩
      ·have d3:=getD_ft (haf _ rfl ⟨3,.data⟩ (by simp) rfl)
       have e67:=EI 3 67 rfl (by decide)
       obtain ⟨m3,me3,mo3⟩:=f3 d3 hun
       rw [me3] at e67
       have t67:=tev e67
       have d4:=getD_ft (haf _ rfl ⟨4,.data⟩ (by simp) rfl)
       have e68:=(EI 4 68 rfl (by decide)).trans (hT.get 3 rfl d4)
       have t68:=tev e68
       have d5:=getD_ft (haf _ rfl ⟨5,.data⟩ (by simp) rfl)
       have e69:=(EI 5 69 rfl (by decide)).trans (hT.get 4 rfl d5)
       have t69:=tev e69
       have d7:=getD_ft (haf _ rfl ⟨7,.data⟩ (by simp) rfl)
       have e71:=(EI 7 71 rfl (by decide)).trans (hT.get 6 rfl d7)
       have t71:=tev e71
       have d8:=getD_ft (haf _ rfl ⟨8,.data⟩ (by simp) rfl)
       have e72:=(EI 8 72 rfl (by decide)).trans (hT.get 7 rfl d8)
       have t72:=tev e72
       have d9:=getD_ft (haf _ rfl ⟨9,.data⟩ (by simp) rfl)
       have e73:=(EI 9 73 rfl (by decide)).trans (hT.get 8 rfl d9)
       have t73:=tev e73
       have d12:=getD_ft (haf _ rfl ⟨12,.data⟩ (by simp) rfl)
       have e76:=(EI 12 76 rfl (by decide)).trans (hT.get 11 rfl d12)
       have t76:=tev e76
       obtain ⟨A7,c7,hm7⟩:=slice_of_own mo3
       subst hm7
       refine wpOp_of rfl ?_
       refine step_call rfl 33 #[.tmp 67,.tmp 68,.tmp 69,.tmp 71,.tmp 72,.tmp 73,.tmp 76] _ rfl #[.slice A7 nW c7,.int .i64 node,.int .i64 q,.int .i64 ar0,.int .i64 size,.int .i64 by_,.slice (some ad) p cn] (by simp [e67,e68,e69,e71,e72,e73,e76]) Tryz.func33 rfl rfl ?_
       refine (lroute_o A7 nW c7 (withoutE l node bans) node q ar0 size by_ (some ad) p cn (N.take p) w' HNW.out (by omega) HTK.out (by omega) HWN.out (Sl.of_own mo3) (HLS.out _ hBw) o2 HO2.out tq HT2.out Hq HH2.out k2 HK2.out).mono ?_
       rintro e w'' ⟨Av,nv,cv,rfl,hnv,hnv2,hown,hb⟩
       obtain rfl:nq = nv:=HN2.out.symm.trans hnv
       exact ⟨_,rfl,_,_,rfl,rfl,⟨hBw.trans (hb.mono hBw.size),hT.off rfl,kfD f3 rfl hb,fun _ => by rw [upd_same]; exact ⟨_,rfl,own_down hown hBw.size⟩,fun h => absurd (getD_ft (hcl 14 _ rfl (un_set (i:=13) rfl h) ⟨13,.data⟩ (by simp) rfl)) (by rw [hun]; decide),fun h => absurd (getD_ft (hcl 14 _ rfl (getD_ft (hcl 15 _ rfl (un_set (i:=13) rfl h) ⟨14,.data⟩ (by simp) rfl)) ⟨13,.data⟩ (by simp) rfl)) (by rw [hun]; decide),kVi f17 rfl hb HINJ.out hown,kS f18 rfl rfl rfl hb⟩⟩
      ·have d13:=getD_ft (haf _ rfl ⟨13,.data⟩ (by simp) rfl)
       have e77:=EI 13 77 rfl (by decide)
       have dF:=d13
       obtain ⟨uZ,eZ,oZ⟩:=f13 dF
       have t77:=tev e77
       refine wpOp_runs (v:=x 13) rfl rfl (by simp [execOp,go_sem,t77]) ⟨_,_,rfl,rfl,⟨hBw,hT.off rfl,kfD f3 rfl B0,kfF f13 rfl B0,fun _ => by rw [upd_same,upd_off x _ rfl],kfX f15 rfl rfl rfl,kV f17 rfl rfl B0,kS f18 rfl rfl rfl B0⟩⟩
      ·have d14:=getD_ft (haf _ rfl ⟨14,.data⟩ (by simp) rfl)
       have e63:=(EI 14 63 rfl (by decide)).trans (f14 d14)
       have dF:=(getD_ft (hcl 14 _ rfl d14 ⟨13,.data⟩ (by simp) rfl))
       obtain ⟨uZ,eZ,oZ⟩:=f13 dF
       rw [eZ] at e63
       have t63:=tev e63
       refine wpOp_runs (v:=Value.agg #[uZ,.int .i64 tq]) rfl rfl (by simp [execOp,go_sem,t63]) ⟨_,_,rfl,rfl,⟨hBw,hT.off rfl,kfD f3 rfl B0,kfF f13 rfl B0,kfE f14 rfl rfl rfl,fun _ u' hu => by rw [upd_off x _ rfl] at hu; rw [upd_same,← HINJ.out _ _ (eZ.symm.trans hu)],kV f17 rfl rfl B0,fun h => absurd (getD_ft (hcl 18 _ rfl (un_set (i:=15) rfl h) ⟨15,.data⟩ (by simp) rfl)) (by rw [hun]; decide)⟩⟩
      ·have d14:=getD_ft (haf _ rfl ⟨14,.data⟩ (by simp) rfl)
       have e63:=(EI 14 63 rfl (by decide)).trans (f14 d14)
       have dF:=(getD_ft (hcl 14 _ rfl d14 ⟨13,.data⟩ (by simp) rfl))
       obtain ⟨uZ,eZ,oZ⟩:=f13 dF
       rw [eZ] at e63
       have t63:=tev e63
       refine wpOp_runs (v:=.bool k2) rfl rfl (by simp [execOp,go_sem,t63]) ⟨_,_,rfl,rfl,⟨hBw,hT.on 12 rfl rfl,kfD f3 rfl B0,kfF f13 rfl B0,kfE f14 rfl rfl rfl,kfX f15 rfl rfl rfl,kV f17 rfl rfl B0,kS f18 rfl rfl rfl B0⟩⟩
      ·have hb:Below w'.heap.size w' (w'.alloc (.cells #[.slice none 0 0,.int .i64 0] 31)):=(Below.refl _ _).alloc (Nat.le_refl _) _
       refine wpOp_runs (v:=.pointer (some ⟨w'.heap.size,0,none⟩)) (w':=w'.alloc (.cells #[.slice none 0 0,.int .i64 0] 31)) rfl rfl (by simp [execOp,go_sem]) ⟨_,_,rfl,rfl,⟨hBw.trans (hb.mono hBw.size),hT.off rfl,kfD f3 rfl hb,kfF f13 rfl hb,kfE f14 rfl rfl rfl,kfX f15 rfl rfl rfl,kVm f13 hBw.size rfl HINJ.out,fun h => absurd (getD_ft (hcl 18 _ rfl (un_set (i:=17) rfl h) ⟨17,.data⟩ (by simp) rfl)) (by rw [hun]; decide)⟩⟩
      ·have d15:=getD_ft (haf _ rfl ⟨15,.data⟩ (by simp) rfl)
       have e78:=EI 15 78 rfl (by decide)
       have dF:=(getD_ft (hcl 14 _ rfl (getD_ft (hcl 15 _ rfl d15 ⟨14,.data⟩ (by simp) rfl)) ⟨13,.data⟩ (by simp) rfl))
       obtain ⟨uZ,eZ,oZ⟩:=f13 dF
       rw [f15 d15 uZ eZ] at e78
       have t78:=tev e78
       have d17:=getD_ft (haf _ rfl ⟨17,.data⟩ (by simp) rfl)
       have e23:=EI 17 23 rfl (by decide)
       have t23:=tev e23
       obtain ⟨b9,hx9,hl9,hk9,hn9⟩:=f17 d17 hun
       have n9:=hn9 dF uZ eZ
       rw [hx9] at e23
       have dd13:=(getD_ft (hcl 14 _ rfl (getD_ft (hcl 15 _ rfl d15 ⟨14,.data⟩ (by simp) rfl)) ⟨13,.data⟩ (by simp) rfl))
       obtain ⟨A9,c9,hu9⟩:=slice_of_own oZ
       refine wpOp_of rfl ?_
       rw [if_pos (by simp [Region.wanted])]
       refine wp_store_mid 31 (.tmp 23) (.tmp 78) rfl b9 0 #[uZ,.int .i64 tq] e23 e78 ?_ (by kernel_rfl) (by rw [hu9]; simp [Value.oneCell']) ?_
       ·intro j hj
        have hj':j < 2:=hj
        rw [Nat.zero_add]
        refine ⟨?_,hk9.free j⟩
        rw [hk9.cell j]
        obtain rfl | rfl:j = 0 ∨ j = 1:=by omega
        all_goals rfl
       ·exact ⟨_,_,rfl,rfl,⟨set_below b9 hl9 _ _ hBw,hT.off rfl,fun _ h2 => absurd (un_setF (ne_of_down h2) h2) (by rw [dd13]; decide),fun _ => by rw [upd_off x _ rfl]; exact ⟨uZ,eZ,oZ.kept (grown_sets _ _ _) (.inr n9)⟩,kfE f14 rfl rfl rfl,kfX f15 rfl rfl rfl,fun _ h2 => absurd h2 (by rw [set_up]; decide),fun _ => by rw [upd_off x _ rfl,upd_off x _ rfl]; exact ⟨b9,#[uZ,.int .i64 tq],hx9,hl9,f15 d15 uZ eZ,set_whole hk9 rfl⟩⟩⟩
      ·have d16:=getD_ft (haf _ rfl ⟨16,.data⟩ (by simp) rfl)
       have e79:=(EI 16 79 rfl (by decide)).trans (hT.get 12 rfl d16)
       have t79:=tev e79
       refine wpOp_runs (v:=.bool k2) rfl rfl (by simp [execOp,go_sem,t79]) ⟨_,_,rfl,rfl,⟨hBw,hT.on 13 rfl rfl,kfD f3 rfl B0,kfF f13 rfl B0,kfE f14 rfl rfl rfl,kfX f15 rfl rfl rfl,kV f17 rfl rfl B0,kS f18 rfl rfl rfl B0⟩⟩
     intro V x w5 hall hF
     obtain ⟨hBw,hT,f3,f13,f14,f15,f17,f18⟩:=hF
     have hx0:=hT.get 0 rfl (hall 0 (by decide))
     have hx1:=hT.get 1 rfl (hall 1 (by decide))
     have hx2:=hT.get 2 rfl (hall 2 (by decide))
     have hx4:=hT.get 3 rfl (hall 4 (by decide))
     have hx5:=hT.get 4 rfl (hall 5 (by decide))
     have hx6:=hT.get 5 rfl (hall 6 (by decide))
     have hx7:=hT.get 6 rfl (hall 7 (by decide))
     have hx8:=hT.get 7 rfl (hall 8 (by decide))
     have hx9:=hT.get 8 rfl (hall 9 (by decide))
     have hx10:=hT.get 9 rfl (hall 10 (by decide))
     have hx11:=hT.get 10 rfl (hall 11 (by decide))
     have hx12:=hT.get 11 rfl (hall 12 (by decide))
     have hx16:=hT.get 12 rfl (hall 16 (by decide))
     have hx19:=hT.get 13 rfl (hall 19 (by decide))
     obtain ⟨uF,eF,oF⟩:=f13 (hall 13 (by decide))
     have hx14:x 14 = (fun u:Value => Value.tuple #[.agg #[u,.int .i64 tq],.bool k2]) uF:=(f14 (hall 14 (by decide))).trans eF
     have hx15:=f15 (hall 15 (by decide)) uF eF
     obtain ⟨bV,csV,eV,hVb,eA,hV⟩:=f18 (hall 18 (by decide))
     rw [hx15] at eA
     have eA2:=Value.agg.inj eA
     subst eA2
     clear eA
     clear hall f3 f13 f14 f15 f17 f18 hT
     subst ha0
     simp only [List.map_cons,List.map_nil,putAll,hx0,hx1,hx2,hx4,hx5,hx6,hx7,hx8,hx9,hx10,hx11,hx12,hx16,hx19,hx14,hx15,eF,eV]
     clear hx0 hx1 hx2 hx4 hx5 hx6 hx7 hx8 hx9 hx10 hx11 hx12 hx16 hx19 hx14 hx15 eF eV
     go_simp
     have hX5:=HX4.out.below hBw HX4.out.lt
     have hB5:=HB4.out.trans (hBw.mono HB4.out.size)
     have hY5:=HY4.out.below hBw HY4.out.lt
     have hS5:=own_belowJ HS4.out hBw
     have HX5:=Lib.hid hX5
     have HB5:=Lib.hid hB5
     have HY5:=Lib.hid hY5
     have HS5:=Lib.hid hS5
     have HV5:=Lib.hid hV
     have HNQ:Hid (Hq.length = nq):=HN2.out
     clear hX5 hB5 hY5 hS5 hV
     cases k2 with
     | false =>
      have ho2:o2 = none:=by have h:=HK2.out; cases o2 with | none => rfl | some x => cases h
      have HNONEH:Hid (o = none):=by
       show o = none
       rw [← HSF3.out,HO2.out,ho2]
      clear ho2 oF
      have r0:w5.cell? ⟨xb,0,none⟩ = some (.slice none 0 0):=HX5.out.cell 0
      have f_0:=HX5.out.free 0
      have r1:w5.cell? ⟨xb,1,none⟩ = some (.int .i64 0):=HX5.out.cell 1
      have f_1:=HX5.out.free 1
      have lt_x:=HX5.out.lt
      have hbest:o = none:=HNONEH.out
      have h1:t = 0:=by rw [← HTT.out,hbest]; rfl
      have h2:H = []:=by rw [← HH.out,hbest]; rfl
      have h3:b = false:=by rw [← HB0.out,hbest]; rfl
      subst h1 h2 h3
      clear hbest
      go_wp2_with fail
      have hX:=HX5.out
      have hB:=HB5.out
      have hws:=HXB.out
      clear r0 r1
      have hF:Blok ((w5.setCell ⟨xb,0,none⟩ (.slice none 0 0)).setCell ⟨xb,1,none⟩ (.int .i64 0)) xb 31 #[.slice none 0 0,.int .i64 0]:=by have h:=((hX.set_ 0 (.slice none 0 0)).set_ 1 (.int .i64 0)); simpa using h
      have hle0:w.heap.size ≤ xb:=by first | exact Nat.le_refl _ | omega
      have hWf:Below w.heap.size w ((w5.setCell ⟨xb,0,none⟩ (.slice none 0 0)).setCell ⟨xb,1,none⟩ (.int .i64 0)):=((hB.setCell (p:=⟨xb,0,none⟩) hle0 (.slice none 0 0)).setCell (p:=⟨xb,1,none⟩) hle0 (.int .i64 0))
      have hlF:=hF.lt
      have hgw:w5.grownBy ((w5.setCell ⟨xb,0,none⟩ (.slice none 0 0)).setCell ⟨xb,1,none⟩ (.int .i64 0)) (some xb):=grown_trans (grown_set _ _ _) (grown_set _ _ _)
      generalize ((w5.setCell ⟨xb,0,none⟩ (.slice none 0 0)).setCell ⟨xb,1,none⟩ (.int .i64 0)) = wf at *
      have r0:wf.cell? ⟨xb,0,none⟩ = some (.slice none 0 0):=hF.cell 0
      have r1:wf.cell? ⟨xb,1,none⟩ = some (.int .i64 0):=hF.cell 1
      refine bodyPost_ret (v:=.tuple #[.agg #[.slice none 0 0,.int .i64 0],.bool false]) (by simp [results,Tryz.results76,go_sem,r0,r1,hlF]) rfl ?_
      exact ⟨_,rfl,World.ownsRow_nil _ _ _ _,hWf⟩
     | true =>
      obtain ⟨r2,hr2⟩:∃ r2,o2 = some r2:=Option.isSome_iff_exists.1 HK2.out
      have e1:r2.1 = Hq:=by have h:=HH2.out; rw [hr2] at h; exact h
      have e2:r2.2 = tq:=by have h:=HT2.out; rw [hr2] at h; exact h
      have hoe:o = some (H0 ++ Hq,tq):=by rw [← HSF3.out,HO2.out,hr2,← e1,← e2]
      have h1:t = tq:=by rw [← HTT.out,hoe]; rfl
      have h2:H = H0 ++ Hq:=by rw [← HH.out,hoe]; rfl
      have h3:b = true:=by rw [← HB0.out,hoe]; rfl
      have hnq:nq ≤ n:=by
       have h4:=HO2.out
       rw [hr2] at h4
       have h5:=bestX_len h4
       rw [e1,HNQ.out,HNW.out] at h5
       omega
      subst h1 h2 h3
      obtain ⟨Au,cu,hAu⟩:=slice_of_own oF
      subst hAu
      have HOF:=Lib.hid oF
      clear hr2 e1 e2 hoe oF
      go_upto_region 16 with fail
      have hinj:∀ a c:Value,(fun u:Value => u) a = (fun u:Value => u) c → a = c:=fun a c h => by simpa using h
      have HINJ:=Lib.hid hinj
      clear hinj
      refine gen_frame ?_
      intro a0 ha0
      try simp only [List.append]
      refine wp_region_frames rfl (by kernel_rfl) (by kernel_rfl) (fun V x w' => (V.getD 9 true = false → Below w5.heap.size w5 w') ∧ Below w.heap.size w w' ∧ TF [(0,.pointer (some ⟨yb,0,none⟩)),(1,.slice A3 n3 c3),(2,.pointer (some ⟨bV,0,none⟩)),(3,.slice Au nq cu),(6,.pointer (some ⟨bV,1,none⟩)),(7,.int .i64 t),(10,.bool true)] V x ∧ (V.getD 4 true = true → V.getD 5 true = false → Fin1 (fun u:Value => u) w5.heap.size 29 1 2 [.slice A3 n3 c3,.slice Au nq cu] w' (x 4)) ∧ (V.getD 5 true = true → Fin1 (fun u:Value => u) w5.heap.size 67 3 (H0 ++ Hq).length (flatHp (H0 ++ Hq)) w' (x 5)) ∧ (V.getD 8 true = true → ∀ u,x 5 = (fun u:Value => u) u → x 8 = (fun u:Value => Value.agg #[u,.int .i64 t]) u) ∧ (V.getD 9 true = true → ∃ cs,x 8 = .agg cs ∧ Blok w' xb 31 cs)) ?_ ?_ ?_
      ·intro x
       refine ⟨fun _ => (Below.refl _ _).drew,HB5.out.drew,TF.none rfl,?_,?_,?_,?_⟩ <;> exact fun h => by simp at h
      ·intro V x b w' hbq hsz hF i hi hun haf hcl
       obtain ⟨hBc,hB0,hT,f4,f5,f8,f9⟩:=hF
       have hbe:b = putAll a0 [some 83,some 84,some 85,some 86,some 87,some 88,some 89,some 90,some 91,none,some 17] x 0:=hbq
       have hz0:a0.tmps.size = 92:=by rw [ha0]; rfl
       have e16:b.eval (.tmp 16) = .pointer (some ⟨xb,0,none⟩):=by rw [hbe,eval_out _ _ _ (by decide),ha0]; rfl
       have t16:b.tmps[16]?.getD undef = .pointer (some ⟨xb,0,none⟩):=by simpa [Act.eval] using e16
       have e22:b.eval (.tmp 22) = .pointer (some ⟨yb,0,none⟩):=by rw [hbe,eval_out _ _ _ (by decide),ha0]; rfl
       have t22:b.tmps[22]?.getD undef = .pointer (some ⟨yb,0,none⟩):=by simpa [Act.eval] using e22
       have e23:b.eval (.tmp 23) = .pointer (some ⟨bV,0,none⟩):=by rw [hbe,eval_out _ _ _ (by decide),ha0]; rfl
       have t23:b.tmps[23]?.getD undef = .pointer (some ⟨bV,0,none⟩):=by simpa [Act.eval] using e23
       have evc:∀ v,b.eval (.const v) = v:=fun _ => rfl
       have B0:=Below.refl w'.heap.size w'
       have EI:∀ (k e:Nat),([some 83,some 84,some 85,some 86,some 87,some 88,some 89,some 90,some 91,none,some 17]:List (Option Tmp))[k]? = some (some e) → e < 92 → b.eval (.tmp e) = x k:=fun k e h1 h2 => by rw [hbe,eval_in _ _ _ k (by decide) h1 (by rw [hz0]; exact h2),Nat.zero_add]
       clear hbq
       have hi':i < 11:=hi
       clear hi
       obtain rfl | rfl | rfl | rfl | rfl | rfl | rfl | rfl | rfl | rfl | rfl:i = 0 ∨ i = 1 ∨ i = 2 ∨ i = 3 ∨ i = 4 ∨ i = 5 ∨ i = 6 ∨ i = 7 ∨ i = 8 ∨ i = 9 ∨ i = 10:=by omega
       ·have hBw:=hBc (by cases hq:V.getD 9 true with | false => rfl | true => exact absurd (getD_ft (hcl 1 _ rfl (getD_ft (hcl 4 _ rfl (getD_ft (hcl 5 _ rfl (getD_ft (hcl 8 _ rfl (getD_ft (hcl 9 _ rfl hq ⟨8,.data⟩ (by simp) rfl)) ⟨5,.data⟩ (by simp) rfl)) ⟨4,.data⟩ (by simp) rfl)) ⟨1,.data⟩ (by simp) rfl)) ⟨0,.data⟩ (by simp) rfl)) (by rw [hun]; decide))
        refine wpOp_runs (v:=.pointer (some ⟨yb,0,none⟩)) rfl rfl (by simp [execOp,go_sem,t22]) ⟨_,_,rfl,rfl,⟨fun h2 => hBc (un_setF (ne_of_down h2) h2),hB0,hT.on 0 rfl rfl,kfD f4 rfl B0,kfF f5 rfl B0,kfX f8 rfl rfl rfl,fun h => by obtain ⟨cs,q1,q2⟩:=f9 (un_set (i:=0) rfl h); rw [upd_off x _ rfl]; exact ⟨cs,q1,q2⟩⟩⟩
       ·have hBw:=hBc (by cases hq:V.getD 9 true with | false => rfl | true => exact absurd (getD_ft (hcl 4 _ rfl (getD_ft (hcl 5 _ rfl (getD_ft (hcl 8 _ rfl (getD_ft (hcl 9 _ rfl hq ⟨8,.data⟩ (by simp) rfl)) ⟨5,.data⟩ (by simp) rfl)) ⟨4,.data⟩ (by simp) rfl)) ⟨1,.data⟩ (by simp) rfl)) (by rw [hun]; decide))
        have d0:=getD_ft (haf _ rfl ⟨0,.data⟩ (by simp) rfl)
        have e83:=(EI 0 83 rfl (by decide)).trans (hT.get 0 rfl d0)
        have t83:=tev e83
        have bq:=HY5.out.below hBw HY5.out.lt
        have n_0:w'.cell? ⟨yb,0,none⟩ = some (.slice A3 n3 c3):=bq.cell 0
        refine wpOp_runs (v:=.slice A3 n3 c3) rfl rfl (by simp [execOp,go_sem,t83,n_0]) ⟨_,_,rfl,rfl,⟨fun h2 => hBc (un_setF (ne_of_down h2) h2),hB0,hT.on 1 rfl rfl,kfD f4 rfl B0,kfF f5 rfl B0,kfX f8 rfl rfl rfl,fun h => by obtain ⟨cs,q1,q2⟩:=f9 (un_set (i:=1) rfl h); rw [upd_off x _ rfl]; exact ⟨cs,q1,q2⟩⟩⟩
       ·have hBw:=hBc (by cases hq:V.getD 9 true with | false => rfl | true => exact absurd (getD_ft (hcl 3 _ rfl (getD_ft (hcl 4 _ rfl (getD_ft (hcl 5 _ rfl (getD_ft (hcl 8 _ rfl (getD_ft (hcl 9 _ rfl hq ⟨8,.data⟩ (by simp) rfl)) ⟨5,.data⟩ (by simp) rfl)) ⟨4,.data⟩ (by simp) rfl)) ⟨3,.data⟩ (by simp) rfl)) ⟨2,.data⟩ (by simp) rfl)) (by rw [hun]; decide))
        refine wpOp_runs (v:=.pointer (some ⟨bV,0,none⟩)) rfl rfl (by simp [execOp,go_sem,t23]) ⟨_,_,rfl,rfl,⟨fun h2 => hBc (un_setF (ne_of_down h2) h2),hB0,hT.on 2 rfl rfl,kfD f4 rfl B0,kfF f5 rfl B0,kfX f8 rfl rfl rfl,fun h => by obtain ⟨cs,q1,q2⟩:=f9 (un_set (i:=2) rfl h); rw [upd_off x _ rfl]; exact ⟨cs,q1,q2⟩⟩⟩
       ·have hBw:=hBc (by cases hq:V.getD 9 true with | false => rfl | true => exact absurd (getD_ft (hcl 4 _ rfl (getD_ft (hcl 5 _ rfl (getD_ft (hcl 8 _ rfl (getD_ft (hcl 9 _ rfl hq ⟨8,.data⟩ (by simp) rfl)) ⟨5,.data⟩ (by simp) rfl)) ⟨4,.data⟩ (by simp) rfl)) ⟨3,.data⟩ (by simp) rfl)) (by rw [hun]; decide))
        have d2:=getD_ft (haf _ rfl ⟨2,.data⟩ (by simp) rfl)
        have e85:=(EI 2 85 rfl (by decide)).trans (hT.get 2 rfl d2)
        have t85:=tev e85
        have bq:=HV5.out.below hBw HV5.out.lt
        have n_0:w'.cell? ⟨bV,0,none⟩ = some (.slice Au nq cu):=bq.cell 0
        refine wpOp_runs (v:=.slice Au nq cu) rfl rfl (by simp [execOp,go_sem,t85,n_0]) ⟨_,_,rfl,rfl,⟨fun h2 => hBc (un_setF (ne_of_down h2) h2),hB0,hT.on 3 rfl rfl,kfD f4 rfl B0,kfF f5 rfl B0,kfX f8 rfl rfl rfl,fun h => by obtain ⟨cs,q1,q2⟩:=f9 (un_set (i:=3) rfl h); rw [upd_off x _ rfl]; exact ⟨cs,q1,q2⟩⟩⟩
       ·have hBw:=hBc (by cases hq:V.getD 9 true with | false => rfl | true => exact absurd (getD_ft (hcl 5 _ rfl (getD_ft (hcl 8 _ rfl (getD_ft (hcl 9 _ rfl hq ⟨8,.data⟩ (by simp) rfl)) ⟨5,.data⟩ (by simp) rfl)) ⟨4,.data⟩ (by simp) rfl)) (by rw [hun]; decide))
        have d1:=getD_ft (haf _ rfl ⟨1,.data⟩ (by simp) rfl)
        have e84:=(EI 1 84 rfl (by decide)).trans (hT.get 1 rfl d1)
        have t84:=tev e84
        have d3:=getD_ft (haf _ rfl ⟨3,.data⟩ (by simp) rfl)
        have e86:=(EI 3 86 rfl (by decide)).trans (hT.get 3 rfl d3)
        have t86:=tev e86
        have hb:Below w'.heap.size w' (w'.alloc (.cells #[.slice A3 n3 c3,.slice Au nq cu] 29)):=(Below.refl _ _).alloc (Nat.le_refl _) _
        refine wpOp_runs (v:=.slice (some ⟨w'.heap.size,0,none⟩) 2 2) (w':=w'.alloc (.cells #[.slice A3 n3 c3,.slice Au nq cu] 29)) rfl rfl (by simp [execOp,go_sem,t84,t86]) ⟨_,_,rfl,rfl,⟨fun h2 => by have hq:=hBc (un_setF (ne_of_down h2) h2); exact hq.trans (hb.mono hq.size),hB0.trans (hb.mono hB0.size),hT.off rfl,fun _ _ => by rw [upd_same]; exact ⟨_,rfl,own_lit w' w5.heap.size 29 1 2 #[.slice A3 n3 c3,.slice Au nq cu] hBw.size rfl (by simp [maxLen])⟩,kfF f5 rfl hb,kfX f8 rfl rfl rfl,fun h => by obtain ⟨cs,q1,q2⟩:=f9 (un_set (i:=4) rfl h); rw [upd_off x _ rfl]; exact ⟨cs,q1,q2.below hb q2.lt⟩⟩⟩
       ·have hBw:=hBc (by cases hq:V.getD 9 true with | false => rfl | true => exact absurd (getD_ft (hcl 8 _ rfl (getD_ft (hcl 9 _ rfl hq ⟨8,.data⟩ (by simp) rfl)) ⟨5,.data⟩ (by simp) rfl)) (by rw [hun]; decide))
        have d4:=getD_ft (haf _ rfl ⟨4,.data⟩ (by simp) rfl)
        have e87:=EI 4 87 rfl (by decide)
        obtain ⟨m4,me4,mo4⟩:=f4 d4 hun
        rw [me4] at e87
        have t87:=tev e87
        refine wpOp_of rfl ?_
        refine step_call rfl 121 #[.tmp 87] _ rfl #[m4] (by simp [e87]) Tryz.func121 rfl rfl ?_
        refine (concat2Hp 29 w5.heap.size m4 A3 Au n3 nq c3 cu H0 Hq w' HN3.out HNQ.out (by omega) mo4 (Sl.of_own (own_belowJ HS5.out hBw)) (Sl.of_own (own_belowJ HOF.out hBw))).mono ?_
        rintro e w'' ⟨v,rfl,hown,hb⟩
        exact ⟨_,rfl,_,_,rfl,rfl,⟨fun h2 => by have hq:=hBc (un_setF (ne_of_down h2) h2); exact hq.trans (hb.mono hq.size),hB0.trans (hb.mono hB0.size),hT.off rfl,kfD f4 rfl hb,fun _ => by rw [upd_same]; exact ⟨_,rfl,own_down hown hBw.size⟩,fun h => absurd (getD_ft (hcl 8 _ rfl (un_set (i:=5) rfl h) ⟨5,.data⟩ (by simp) rfl)) (by rw [hun]; decide),fun h => by obtain ⟨cs,q1,q2⟩:=f9 (un_set (i:=5) rfl h); rw [upd_off x _ rfl]; exact ⟨cs,q1,q2.below hb q2.lt⟩⟩⟩
       ·have hBw:=hBc (by cases hq:V.getD 9 true with | false => rfl | true => exact absurd (getD_ft (hcl 7 _ rfl (getD_ft (hcl 8 _ rfl (getD_ft (hcl 9 _ rfl hq ⟨8,.data⟩ (by simp) rfl)) ⟨7,.data⟩ (by simp) rfl)) ⟨6,.data⟩ (by simp) rfl)) (by rw [hun]; decide))
        refine wpOp_runs (v:=.pointer (some ⟨bV,1,none⟩)) rfl rfl (by simp [execOp,go_sem,t23]) ⟨_,_,rfl,rfl,⟨fun h2 => hBc (un_setF (ne_of_down h2) h2),hB0,hT.on 4 rfl rfl,kfD f4 rfl B0,kfF f5 rfl B0,kfX f8 rfl rfl rfl,fun h => by obtain ⟨cs,q1,q2⟩:=f9 (un_set (i:=6) rfl h); rw [upd_off x _ rfl]; exact ⟨cs,q1,q2⟩⟩⟩
       ·have hBw:=hBc (by cases hq:V.getD 9 true with | false => rfl | true => exact absurd (getD_ft (hcl 8 _ rfl (getD_ft (hcl 9 _ rfl hq ⟨8,.data⟩ (by simp) rfl)) ⟨7,.data⟩ (by simp) rfl)) (by rw [hun]; decide))
        have d6:=getD_ft (haf _ rfl ⟨6,.data⟩ (by simp) rfl)
        have e89:=(EI 6 89 rfl (by decide)).trans (hT.get 4 rfl d6)
        have t89:=tev e89
        have bq:=HV5.out.below hBw HV5.out.lt
        have n_0:w'.cell? ⟨bV,1,none⟩ = some (.int .i64 t):=bq.cell 1
        refine wpOp_runs (v:=.int .i64 t) rfl rfl (by simp [execOp,go_sem,t89,n_0]) ⟨_,_,rfl,rfl,⟨fun h2 => hBc (un_setF (ne_of_down h2) h2),hB0,hT.on 5 rfl rfl,kfD f4 rfl B0,kfF f5 rfl B0,kfX f8 rfl rfl rfl,fun h => by obtain ⟨cs,q1,q2⟩:=f9 (un_set (i:=7) rfl h); rw [upd_off x _ rfl]; exact ⟨cs,q1,q2⟩⟩⟩
       ·have hBw:=hBc (by cases hq:V.getD 9 true with | false => rfl | true => exact absurd (getD_ft (hcl 9 _ rfl hq ⟨8,.data⟩ (by simp) rfl)) (by rw [hun]; decide))
        have d5:=getD_ft (haf _ rfl ⟨5,.data⟩ (by simp) rfl)
        have e88:=EI 5 88 rfl (by decide)
        have dF:=d5
        obtain ⟨uZ,eZ,oZ⟩:=f5 dF
        rw [eZ] at e88
        have t88:=tev e88
        have d7:=getD_ft (haf _ rfl ⟨7,.data⟩ (by simp) rfl)
        have e90:=(EI 7 90 rfl (by decide)).trans (hT.get 5 rfl d7)
        have t90:=tev e90
        obtain ⟨A9,c9,hu9⟩:=slice_of_own oZ
        refine wpOp_runs (v:=Value.agg #[uZ,.int .i64 t]) rfl rfl (by simp [execOp,go_sem,t88,t90,hu9]) ⟨_,_,rfl,rfl,⟨fun h2 => hBc (un_setF (ne_of_down h2) h2),hB0,hT.off rfl,kfD f4 rfl B0,kfF f5 rfl B0,fun _ u' hu => by rw [upd_off x _ rfl] at hu; rw [upd_same,← HINJ.out _ _ (eZ.symm.trans hu)],fun h => absurd (getD_ft (hcl 9 _ rfl (un_set (i:=8) rfl h) ⟨8,.data⟩ (by simp) rfl)) (by rw [hun]; decide)⟩⟩
       ·have hBw:=hBc (hun)
        have d8:=getD_ft (haf _ rfl ⟨8,.data⟩ (by simp) rfl)
        have e91:=EI 8 91 rfl (by decide)
        have dF:=(getD_ft (hcl 8 _ rfl d8 ⟨5,.data⟩ (by simp) rfl))
        obtain ⟨uZ,eZ,oZ⟩:=f5 dF
        rw [f8 d8 uZ eZ] at e91
        have t91:=tev e91
        have dd5:=(getD_ft (hcl 8 _ rfl d8 ⟨5,.data⟩ (by simp) rfl))
        obtain ⟨A9,c9,hu9⟩:=slice_of_own oZ
        have n9:uZ.ownBlock ≠ some xb:=fun e => by have h1:=(oZ.lt _ e).1; have h2:=HX5.out.lt; omega
        have bq:=HX5.out.below hBw HX5.out.lt
        refine wpOp_of rfl ?_
        rw [if_pos (by simp [Region.wanted])]
        refine wp_store_mid 31 (.tmp 16) (.tmp 91) rfl xb 0 #[uZ,.int .i64 t] e16 e91 ?_ (by kernel_rfl) (by rw [hu9]; simp [Value.oneCell']) ?_
        ·intro j hj
         have hj':j < 2:=hj
         rw [Nat.zero_add]
         refine ⟨?_,bq.free j⟩
         rw [bq.cell j]
         obtain rfl | rfl:j = 0 ∨ j = 1:=by omega
         all_goals rfl
        ·exact ⟨_,_,rfl,rfl,⟨fun h2 => absurd h2 (by rw [set_up]; decide),set_below xb HXB.out _ _ hB0,hT.off rfl,fun _ h2 => absurd (un_setF (ne_of_down h2) h2) (by rw [dd5]; decide),fun _ => by rw [upd_off x _ rfl]; exact ⟨uZ,eZ,oZ.kept (grown_sets _ _ _) (.inr n9)⟩,kfX f8 rfl rfl rfl,fun _ => by rw [upd_off x _ rfl]; exact ⟨#[uZ,.int .i64 t],f8 d8 uZ eZ,set_whole bq rfl⟩⟩⟩
       ·refine wpOp_runs (v:=.bool true) rfl rfl (by simp [execOp,go_sem]) ⟨_,_,rfl,rfl,⟨fun h2 => hBc (un_setF (ne_of_down h2) h2),hB0,hT.on 6 rfl rfl,kfD f4 rfl B0,kfF f5 rfl B0,kfX f8 rfl rfl rfl,fun h => by obtain ⟨cs,q1,q2⟩:=f9 (un_set (i:=10) rfl h); rw [upd_off x _ rfl]; exact ⟨cs,q1,q2⟩⟩⟩
      intro V x w6 hall hF
      obtain ⟨hBc,hB0,hT,f4,f5,f8,f9⟩:=hF
      have hx0:=hT.get 0 rfl (hall 0 (by decide))
      have hx1:=hT.get 1 rfl (hall 1 (by decide))
      have hx2:=hT.get 2 rfl (hall 2 (by decide))
      have hx3:=hT.get 3 rfl (hall 3 (by decide))
      have hx6:=hT.get 4 rfl (hall 6 (by decide))
      have hx7:=hT.get 5 rfl (hall 7 (by decide))
      have hx10:=hT.get 6 rfl (hall 10 (by decide))
      obtain ⟨uF,eF,oF⟩:=f5 (hall 5 (by decide))
      have hx8:=f8 (hall 8 (by decide)) uF eF
      obtain ⟨csV,eA,hV⟩:=f9 (hall 9 (by decide))
      rw [hx8] at eA
      have eA2:=Value.agg.inj eA
      subst eA2
      clear eA
      clear hall f4 f5 f8 f9 hT hBc
      subst ha0
      simp only [List.map_cons,List.map_nil,putAll,hx0,hx1,hx2,hx3,hx6,hx7,hx10,hx8,eF]
      clear hx0 hx1 hx2 hx3 hx6 hx7 hx10 hx8 eF
      go_simp
      have r0:w6.cell? ⟨xb,0,none⟩ = some uF:=hV.cell 0
      have r1:w6.cell? ⟨xb,1,none⟩ = some (.int .i64 t):=hV.cell 1
      have hlF:=hV.lt
      have HBF:=Lib.hid hB0
      have HOF2:=Lib.hid oF
      clear hB0 oF hV
      go_wp2_with fail
      refine bodyPost_ret (v:=.tuple #[.agg #[uF,.int .i64 t],.bool true]) (by simp [results,Tryz.results76,go_sem,r0,r1,hlF]) rfl ?_
      refine ⟨_,rfl,?_,HBF.out⟩
      have hfin:=own_down HOF2.out HB5.out.size
      rw [List.length_append] at hfin
      first | exact hfin | (rw [List.length_append]; exact hfin)
end Go.Proofs.YtodcoockhkghdaaGreat
