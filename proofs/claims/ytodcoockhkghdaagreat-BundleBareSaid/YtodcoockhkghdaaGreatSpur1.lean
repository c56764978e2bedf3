/- spur.without: the edges but those of some IDs from a node. It makes new memory alone. -/
import Derived.Test.YtodcoockhkghdaaGreatGQ20
import Derived.Test.YtodcoockhkghdaaGreatGQ2
import Derived.Test.YtodcoockhkghdaaGreatGQ3
import Derived.Test.YtodcoockhkghdaaGreatGQ34
import Derived.Test.YtodcoockhkghdaaGreatPath4
import Derived.Test.YtodcoockhkghdaaGreatGQ12
namespace Go.Proofs.YtodcoockhkghdaaGreat
open Go.ChangeShapes Go.WideShapes Go.ChangeAt Go.RowKit Go.Sort Go.Maps Hp
set_option linter.unusedSimpArgs false
set_option linter.unusedVariables false
set_option maxHeartbeats 2000000 in
set_option maxRecDepth 100000 in
theorem wclos_any (pn pm g k:Nat) (S:Int → Bool) (node:Int) (x:Ed) (w:World) (hx:(Lit.int .i64 x.id).wf = true) (h1:Blok w pn 3 #[.int .i64 node]) (h2:Blok w pm 134 #[.map (some g)]) (hS:SetW w g k S) (b:Bool) (hb:(x.fr == node && S x.id) = b) :
  Calls Tryz.prog 163 #[.agg #[.int .i64 x.id,.int .i64 x.fr,.int .i64 x.tn,.int .i64 x.op,.int .i64 x.en,.int .i64 x.ra,.int .i64 x.ow,.int .i64 x.ro],.pointer (some ⟨pn,0,none⟩),.pointer (some ⟨pm,0,none⟩)] w fun e w' => e = .returned (.bool b) ∧ Below w.heap.size w w':=by
 have hB:Below w.heap.size w (w.alloc (.cells #[.int .i64 x.id,.int .i64 x.fr,.int .i64 x.tn,.int .i64 x.op,.int .i64 x.en,.int .i64 x.ra,.int .i64 x.ow,.int .i64 x.ro] 86)):=(Below.refl _ _).alloc (Nat.le_refl _) _
 have hX:=Blok.new w 86 #[.int .i64 x.id,.int .i64 x.fr,.int .i64 x.tn,.int .i64 x.op,.int .i64 x.en,.int .i64 x.ra,.int .i64 x.ow,.int .i64 x.ro]
 have h1':=h1.below hB h1.lt
 have h2':=h2.below hB h2.lt
 have hlk:=(hS.below hB).look hx
 clear h1 h2 hS hx
 obtain ⟨s,hs⟩:∃ s,S x.id = s:=⟨_,rfl⟩
 rw [hs] at hlk hb
 clear hs
 go_enter Tryz.func163,Tryz.ntmps163
 go_upto_region 1 with fail
 have HB:=Lib.hid hB
 clear hB
 generalize w.alloc (.cells #[.int .i64 x.id,.int .i64 x.fr,.int .i64 x.tn,.int .i64 x.op,.int .i64 x.en,.int .i64 x.ra,.int .i64 x.ow,.int .i64 x.ro] 86) = w2 at *
 obtain ⟨eb,heb⟩:∃ z,w.heap.size = z:=⟨_,rfl⟩
 rw [heb] at hX
 try rw [heb]
 clear heb
 have x0:w2.cell? ⟨eb,0,none⟩ = some (.int .i64 x.id):=hX.cell 0
 have x1:w2.cell? ⟨eb,1,none⟩ = some (.int .i64 x.fr):=hX.cell 1
 have lt_x:=hX.lt
 have c1:w2.cell? ⟨pn,0,none⟩ = some (.int .i64 node):=h1'.cell 0
 have l1:=h1'.lt
 have c2:w2.cell? ⟨pm,0,none⟩ = some (.map (some g)):=h2'.cell 0
 have l2:=h2'.lt
 clear hX h1' h2'
 by_cases hf:x.fr = node
 ·have hq:(x.fr == node) = true:=beq_iff_eq.2 hf
  rw [hq,Bool.true_and] at hb
  subst hb
  clear hf
  go_wp2_with fail
  go_ret
  exact ⟨rfl,HB.out⟩
 ·have hq:(x.fr == node) = false:=beq_eq_false_iff_ne.2 hf
  rw [hq,Bool.false_and] at hb
  subst hb
  clear hf
  go_wp2_with fail
  go_ret
  exact ⟨rfl,HB.out⟩
theorem pred_without (pn pm g k:Nat) (S:Int → Bool) (node:Int) (row:Option Nat) (w:World) (h1:Blok w pn 3 #[.int .i64 node]) (h2:Blok w pm 134 #[.map (some g)]) (hS:SetW w g k S) (hr1:row ≠ some pn) (hr2:row ≠ some pm) (hr3:row ≠ some g) :
  PredEdW 163 #[.pointer (some ⟨pn,0,none⟩),.pointer (some ⟨pm,0,none⟩)] row w (fun x => x.fr == node && S x.id):=
 ⟨enter_run Tryz.func163 rfl rfl,fun w' hg x hx => wclos_any pn pm g k S node x w' (wfI (by have:=(Ed.ok_spec.1 hx).1; omega)) (h1.grown hg (fun e => hr1 e.symm)) (h2.grown hg (fun e => hr2 e.symm)) (hS.kept hg (fun e => hr3 e.symm)) _ rfl⟩
def bansB (l:List Int) (x:Int):Bool:=l.contains x
set_option maxHeartbeats 4000000 in
set_option maxRecDepth 100000 in
theorem without_any (A:Option Addr) (n c:Nat) (l:List Ed) (node:Int) (Ab:Option Addr) (nb cb:Nat) (bans:List Int) (w:World) (hd:l.length = n) (hn:n ≤ 1000000) (hok:∀ k,k < n → (gEd l k).ok = true) (hdb:bans.length = nb) (hnb:nb ≤ 100000) (hwf:∀ k,k < nb → (Lit.int .i64 (bans.getD k 0)).wf = true) (hle:Sl w w.heap.size 8 A n c (flatEd l)) (hlb:Sl w w.heap.size 1 Ab nb cb (bans.map (Value.int .i64))) :
  Calls Tryz.prog 120 #[.slice A n c,.int .i64 node,.slice Ab nb cb] w fun e w' => ∃ v,e = .returned v ∧ w'.ownsRow w.heap.size 86 8 v (withoutE l node bans).length (flatEd (withoutE l node bans)) ∧ Below w.heap.size w w':=by
 have HD:=Lib.hid hd
 have HOK:=Lib.hid hok
 have HDB:=Lib.hid hdb
 have HWF:=Lib.hid hwf
 have HLE:=Lib.hid (fun w' (hb:Below w.heap.size w w') => hle.up hb)
 have HLB:=Lib.hid (fun w' (hb:Below w.heap.size w w') => hlb.up hb)
 clear hd hok hdb hwf hle hlb
 go_enter Tryz.func120,Tryz.ntmps120
 go_upto_region 1 with fail
 have hB1:Below w.heap.size w (w.alloc (.cells #[.int .i64 node] 3)):=(Below.refl _ _).alloc (Nat.le_refl _) _
 have hN1:=Blok.new w 3 #[.int .i64 node]
 obtain ⟨pn,hpn⟩:∃ z,w.heap.size = z:=⟨_,rfl⟩
 have HPN:Hid (w.heap.size ≤ pn):=Nat.le_of_eq hpn
 generalize w.alloc (.cells #[.int .i64 node] 3) = w1 at *
 rw [hpn] at hN1
 try rw [hpn]
 clear hpn
 have hmk:=run_makeMapV (P:=Tryz.prog) 134 3 4 .i64 (nb:Int) Tryz.underlying134 w1
 have hS0:=SetW.made w1
 have hb2:Below w1.heap.size w1 (w1.alloc (.map #[] 0)):=(Below.refl _ _).alloc (Nat.le_refl _) _
 have hb3:Below (w1.alloc (.map #[] 0)).heap.size (w1.alloc (.map #[] 0)) ((w1.alloc (.map #[] 0)).alloc (.cells #[.map (some w1.heap.size)] 134)):=(Below.refl _ _).alloc (Nat.le_refl _) _
 have hM3:=Blok.new (w1.alloc (.map #[] 0)) 134 #[.map (some w1.heap.size)]
 have hs2:(w1.alloc (.map #[] 0)).heap.size = w1.heap.size + 1:=by simp
 have hN3:=(hN1.below hb2 hN1.lt).below hb3 (by have:=hN1.lt; omega)
 have hS3:=hS0.below hb3
 have hB3:=(hB1.trans (hb2.mono hB1.size)).trans (hb3.mono (hB1.trans (hb2.mono hB1.size)).size)
 have hlt1:=hN1.lt
 have hws1:=hB1.size
 rw [hs2] at hM3
 go_wp2_with fail
 clear hmk hS0 hb2 hb3 hN1 hB1 hs2
 generalize (w1.alloc (.map #[] 0)).alloc (.cells #[.map (some w1.heap.size)] 134) = w3 at *
 generalize w1.heap.size = g at *
 clear w1
 go_loopw [15] (fun i wr => ∃ k k':Nat,k ≤ nb ∧ k' ≤ k ∧ i = .int .i64 k ∧ Blok wr pn 3 #[.int .i64 node] ∧ Blok wr (g + 1) 134 #[.map (some g)] ∧ SetW wr g k' (bansB (bans.take k)) ∧ Below w.heap.size w wr) (fun i _ => nb - (intOf i).toNat)
 case atStart => exact ⟨0,0,by omega,by omega,rfl,hN3,hM3,hS3.congr (fun k _ => by simp [bansB]),hB3⟩
 case round =>
  clear hN3 hM3 hS3 hB3 w3
  obtain ⟨k,k',hk,hk',rfl,hN,hM,hS,hB⟩:=hrel
  have hs:=hB.size
  by_cases hkn:k < nb
  ·obtain ⟨ad,rfl,hab,c0⟩:=(HLB.out _ hB).lst.atI HDB.out hkn
   have htk:=take_nextI (l:=bans) (k:=k) (by rw [HDB.out]; exact hkn)
   have hw:=HWF.out k hkn
   obtain ⟨id,hid⟩:∃ q,bans.getD k 0 = q:=⟨_,rfl⟩
   rw [hid] at c0 hw htk
   have HW:=Lib.hid hw
   have HTK:=Lib.hid htk
   clear hid hw htk
   have m0:wr.cell? ⟨g + 1,0,none⟩ = some (.map (some g)):=hM.cell 0
   have lt_m:=hM.lt
   have HN:=Lib.hid hN
   have HM:=Lib.hid hM
   clear hN hM
   go_wp2_with (at_mapUpdate; refine wpList_put_set rfl _ _ _ rfl g k' _ id true rfl hS (by unfold maxLen; omega) rfl HW.out rfl ?_; intro w4 hS4 hg4)
   clear c0 m0 lt_m
   have hgl:∀ j,some g = some j → w.heap.size ≤ j:=fun j hj => by injection hj with hj; have:=HPN.out; omega
   have hB4:Below w.heap.size w w4:=hB.grown hg4 hs hgl
   have hN4:=HN.out.grown hg4 (by intro e; injection e with e; omega)
   have hM4:=HM.out.grown hg4 (by intro e; injection e with e; omega)
   have hS5:SetW w4 g (k' + 1) (bansB (bans.take (k + 1))):=hS4.congr (fun j _ => by
    rw [HTK.out]
    unfold bansB
    by_cases e:j = id
    ·subst e; simp
    ·rw [if_neg e]; simp [e])
   clear hS4 hg4 hgl hS hB HN HM
   go_wp2_with fail
   go_roundw
   case rel => exact ⟨k + 1,k' + 1,by omega,by omega,by go_num,hN4,hM4,hS5,hB4⟩
   case measure => simp [intOf]; omega
  ·obtain rfl:k = nb:=by omega
   rw [List.take_of_length_le (by rw [HDB.out]; omega)] at hS
   have HN:=Lib.hid hN
   have HM:=Lib.hid hM
   have HS:=Lib.hid hS
   have HB:=Lib.hid hB
   clear hN hM hS hB
   go_wp2_with fail
   refine (cloneEd A n c l wr HD.out hn (HLE.out _ HB.out)).mono ?_
   rintro e w4 ⟨v,rfl,hown,hb4⟩
   have hN4:=HN.out.below hb4 HN.out.lt
   have hM4:=HM.out.below hb4 HM.out.lt
   have hS4:=HS.out.below hb4
   have hB4:=HB.out.trans (hb4.mono HB.out.size)
   have hoff:∀ q,v.ownBlock = some q → wr.heap.size ≤ q:=fun q hq => (hown.lt q hq).1
   have l1:=HN.out.lt
   have l2:=HM.out.lt
   have hp:=pred_without pn (g + 1) g k' (bansB bans) node v.ownBlock w4 hN4 hM4 hS4 (fun e => by have:=hoff _ e; omega) (fun e => by have:=hoff _ e; omega) (fun e => by have:=hoff _ e; omega)
   have HP:=Lib.hid hp
   have HOW:=Lib.hid hown
   have HB4:=Lib.hid hB4
   have HOF:=Lib.hid hoff
   clear hp hN4 hM4 hS4 hB4 hown hoff hb4
   go_wp2_with fail
   refine (deleteEdW v n l _ _ _ w4 wr.heap.size HD.out hn HOW.out HOK.out HP.out).mono ?_
   rintro e w5 ⟨v',rfl,hown',hg5⟩
   have hB5:Below w.heap.size w w5:=HB4.out.grown hg5 HB4.out.size (fun q hq => by have:=HOF.out q hq; have:=HB.out.size; omega)
   have hws:=HB.out.size
   go_wp2_with fail
   go_ret
   refine ⟨_,rfl,?_,hB5⟩
   exact own_down hown' hws
end Go.Proofs.YtodcoockhkghdaaGreat
