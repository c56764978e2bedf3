/- Several texts of mine in one: LeastLaw, SpurV, AllR. No condition. -/
import Derived.Test.YtodcoockhkghdaaGreatGQ23
import Derived.Test.YtodcoockhkghdaaGreatGQ13
import Derived.Test.YtodcoockhkghdaaGreatSpur2
import Derived.Test.YtodcoockhkghdaaGreatGQ30
namespace Go.Proofs.YtodcoockhkghdaaGreat
open Go.ChangeShapes Go.WideShapes Go.ChangeAt Go.RowKit Go.Sort Go.Maps Hp
set_option linter.unusedSimpArgs false
set_option linter.unusedVariables false
section
variable {l:List Ed} {f q now size by_:Int} {sh:List Int}
theorem Best1.route {es:List Ed} {a:Int} (hq:1 ≤ q ∧ q ≤ 255) (ha:askE l f now size = true) (h:Best1 l f q now size by_ sh es a):routeE l ((hopsE size now es).map Hp.id) f q now size = some (hopsE size now es,a):=by
 rw [hopsE_ids]
 exact h.rte.route ha (by unfold nodeB inB; exact decide_eq_true hq)
end
theorem IsRte.less {l:List Ed} {f q now size later more u:Int} {sh:List Int} {es:List Ed} (h0:0 ≤ now) (h1:now ≤ later) (h2:0 ≤ size) (h3:size ≤ more) (h:IsRte l f q later more sh es u):∃ u',IsRte l f q now size sh es u' ∧ u' ≤ u:=by
 obtain ⟨u',hr,hle⟩:=runE_less h2 h3 h0 h1 h.run
 exact ⟨u',⟨h.mem,h.nd,h.no,hr⟩,hle⟩
theorem mem_getDI {l:List Int} {y:Int} (h:y ∈ l):∃ k,k < l.length ∧ l.getD k 0 = y:=by
 obtain ⟨k,hk,e⟩:=List.getElem_of_mem h
 exact ⟨k,hk,by rw [List.getD_eq_getElem?_getD,List.getElem?_eq_getElem hk]; exact e⟩
theorem wfI_ids {l:List Ed} {es:List Ed} (hre:rightE l = true) (hm:∀ e ∈ es,e ∈ l):∀ i ∈ es.map Ed.id,(Lit.int .i64 i).wf = true:=fun i hi => by
 obtain ⟨e,he,rfl⟩:=List.mem_map.1 hi
 have:=(Ed.ok_spec.1 (rightE_ok hre (hm e he))).1
 exact wfI (by omega)
theorem wf_getD {ns:List Int} {n:Nat} (hn:ns.length = n) (hw:∀ m ∈ ns,(Lit.int .i64 m).wf = true):∀ q,q < n → (Lit.int .i64 (ns.getD q 0)).wf = true:=fun q hq => by
 rw [List.getD_eq_getElem?_getD,List.getElem?_eq_getElem (by omega)]
 exact hw _ (List.getElem_mem (by omega))
end Go.Proofs.YtodcoockhkghdaaGreat
namespace Go.Proofs.YtodcoockhkghdaaGreat
open Go.ChangeShapes Go.WideShapes Go.ChangeAt Go.RowKit Go.Sort Go.Maps Hp
set_option linter.unusedSimpArgs false
set_option linter.unusedVariables false
section
variable {l:List Ed} {root bans:List Int} {f q now size by_:Int}
theorem goes_nil (ids:List Int):goesB [] [] ids = true:=goesB_spec.2 ⟨ids,rfl,fun _ _ h => by cases h⟩
theorem rte_node {es:List Ed} {u:Int} {sh:List Int} (ha:askE l f now size = true) (h:IsRte l f q now size sh es u):nodeB q = true:=by
 unfold nodeB inB
 exact decide_eq_true (runE_in255 (askE_spec.1 ha).1 h.run)
theorem spurX_route {p:List Hp × Int} (ho:spurX l root bans f q now size by_ = some p):routeE l (p.1.map Hp.id) f q now size = some p ∧ p.2 ≤ by_ ∧ goesB root bans (p.1.map Hp.id) = true:=by
 obtain ⟨ha,es,h1,h2⟩:=spurX_some ho
 have h3:=h2.rte.route ha (rte_node ha h2.rte)
 have h4:p.1.map Hp.id = es.map Ed.id:=by rw [h1,hopsE_ids]
 refine ⟨by rw [h4,h3,← h1],h2.le,by rw [h4]; exact h2.goes⟩
theorem spur_cmp {p:List Hp × Int} {es':List Ed} {u':Int} (ho:spurX l root bans f q now size by_ = some p) (hr:IsRte l f q now size [] es' u') (hu:u' ≤ by_) (hg:goesB root bans (es'.map Ed.id) = true) :
  cmpR p.2 p.1 u' (hopsE size now es') ≤ 0 ∧ (cmpR p.2 p.1 u' (hopsE size now es') = 0 → p = (hopsE size now es',u')):=by
 obtain ⟨ha,es,h1,h2⟩:=spurX_some ho
 rw [cmpR_key,h1,keyR_hops,keyR_hops]
 refine ⟨h2.min es' u' hr hu hg,fun h0 => ?_⟩
 have h3:(es,p.2) = (es',u'):=key_inj (askE_spec.1 ha).2.2.2 h2.rte.mem hr.mem h0
 injection h3 with h4 h5
 exact Prod.ext (by rw [h1,h4]) h5
end
end Go.Proofs.YtodcoockhkghdaaGreat
namespace Go.Proofs.YtodcoockhkghdaaGreat
open Go.ChangeShapes Go.WideShapes Go.ChangeAt Go.RowKit Go.Sort Go.Maps Hp
set_option linter.unusedSimpArgs false
set_option linter.unusedVariables false
def RtOk (l:List Ed) (f q now size by_:Int) (p:Rtp):Prop:=routeE l (idsT p) f q now size = some p ∧ p.2 ≤ by_
def allR (l:List Ed) (f q now size by_:Int):List Rtp:=
 if askE l f now size = true then sortX (((growE l size [] q l.length [f] f now).filter fun x => decide (x.2 ≤ by_)).map fun x => (hopsE size now x.1,x.2)) else []
section
variable {l:List Ed} {f q now size by_:Int}
theorem RtOk.rte {p:Rtp} (h:RtOk l f q now size by_ p):askE l f now size = true ∧ ∃ es,IsRte l f q now size [] es p.2 ∧ p.1 = hopsE size now es ∧ es.map Ed.id = idsT p:=by
 obtain ⟨es,h1,h2,h3,ha,_⟩:=rte_of_route h.1
 exact ⟨ha,es,h1,h3,h2⟩
theorem RtOk.of {es:List Ed} {u:Int} (ha:askE l f now size = true) (h:IsRte l f q now size [] es u) (hu:u ≤ by_):RtOk l f q now size by_ (hopsE size now es,u):=by
 refine ⟨?_,hu⟩
 have:=h.route ha (rte_node ha h)
 unfold idsT
 rw [hopsE_ids]
 exact this
theorem RtOk.ext {p p':Rtp} (h:RtOk l f q now size by_ p) (h':RtOk l f q now size by_ p') (e:idsT p = idsT p'):p = p':=by
 have h1:=h.1
 rw [e,h'.1] at h1
 injection h1 with h1
 exact h1.symm
theorem RtOk.zero {p p':Rtp} (h:RtOk l f q now size by_ p) (h':RtOk l f q now size by_ p') (e:cT p p' = 0):p = p':=h.ext h' (cT_zero e).1
theorem allR_srt:SrtT (allR l f q now size by_):=by
 unfold allR
 split
 ·exact sortX_srt _
 ·exact List.Pairwise.nil
theorem allR_ok {p:Rtp} (h:p ∈ allR l f q now size by_):RtOk l f q now size by_ p:=by
 unfold allR at h
 split at h
 ·rename_i ha
  obtain ⟨x,hx,rfl⟩:=List.mem_map.1 (sortX_mem h)
  obtain ⟨h1,h2⟩:=List.mem_filter.1 hx
  exact RtOk.of ha (rte_iff.2 h1) (of_decide_eq_true h2)
 ·cases h
theorem allR_has {p:Rtp} (h:RtOk l f q now size by_ p):p ∈ allR l f q now size by_:=by
 obtain ⟨ha,es,h1,h2,h3⟩:=h.rte
 have hm:p ∈ ((growE l size [] q l.length [f] f now).filter fun x => decide (x.2 ≤ by_)).map fun x => (hopsE size now x.1,x.2):=
  List.mem_map.2 ⟨(es,p.2),List.mem_filter.2 ⟨rte_iff.1 h1,decide_eq_true h.2⟩,by show (hopsE size now es,p.2) = p; rw [← h2]⟩
 obtain ⟨y,hy,h0⟩:=sortX_has hm
 have hy':y ∈ allR l f q now size by_:=by unfold allR; rw [if_pos ha]; exact hy
 rw [h.zero (allR_ok hy') h0]
 exact hy'
theorem RtOk.whole {p p':Rtp} {s:List Int} (h:RtOk l f q now size by_ p) (h':RtOk l f q now size by_ p') (e:idsT p' = idsT p ++ s):s = []:=by
 obtain ⟨ha,es,h1,_,h3⟩:=h.rte
 obtain ⟨_,es',h4,_,h6⟩:=h'.rte
 have hre:=(askE_spec.1 ha).2.2.2
 obtain ⟨es0,rs,m,a0,g1,g2,g3,g4,g5,g6,_⟩:=rte_prefix hre h4 (root:=idsT p) (r:=s) (by rw [h6,e])
 obtain rfl:=ids_inj hre g4 h1.mem (by rw [g2,h3])
 have h7:=h1.run
 rw [g5] at h7
 injection h7 with h7
 injection h7 with e1 _
 subst e1
 have h8:=split_rte g5 (by rw [← g1]; exact h4)
 rcases runE_mem h8.run with ⟨k1,_⟩ | k1
 ·subst k1; exact g3.symm
 ·exact absurd k1 (List.nodup_cons.1 (show (m :: rs.map Ed.tn).Nodup from h8.nd)).1
theorem RtOk.part {p p':Rtp} (h:RtOk l f q now size by_ p) (h':RtOk l f q now size by_ p') (hne:p ≠ p'):∃ i,i < (idsT p).length ∧ i < (idsT p').length ∧ (idsT p).take i = (idsT p').take i ∧ (idsT p).getD i 0 ≠ (idsT p').getD i 0:=by
 have key:∀ (a b:List Int),(∀ s,b = a ++ s → s = []) → (∀ s,a = b ++ s → s = []) → a ≠ b → ∃ i,i < a.length ∧ i < b.length ∧ a.take i = b.take i ∧ a.getD i 0 ≠ b.getD i 0:=by
  intro a
  induction a with
  | nil => intro b h1 _ h3; exact absurd (h1 b rfl).symm h3
  | cons x r ih =>
   intro b h1 h2 h3
   cases b with
   | nil => have:=h2 (x :: r) rfl; cases this
   | cons y s =>
    by_cases e:x = y
    ·subst e
     obtain ⟨i,i1,i2,i3,i4⟩:=ih s (fun t ht => h1 t (by rw [ht]; rfl)) (fun t ht => h2 t (by rw [ht]; rfl)) (fun e => h3 (by rw [e]))
     exact ⟨i + 1,by simp; omega,by simp; omega,by simp [i3],by simpa using i4⟩
    ·exact ⟨0,by simp,by simp,rfl,by simpa using e⟩
 exact key _ _ (fun s e => h.whole h' e) (fun s e => h'.whole h e) (fun e => hne (h.ext h' e))
structure Br where
 p:Rtp
 r:Nat
 bans:List Int
instance:Inhabited Br:=⟨⟨([],0),0,[]⟩⟩
def inS (l:List Ed) (f q now size by_:Int) (b:Br) (p:Rtp):Prop:=RtOk l f q now size by_ p ∧ goesB ((idsT b.p).take b.r) b.bans (idsT p) = true
structure BrOk (l:List Ed) (f q now size by_:Int) (b:Br):Prop where
 mem:inS l f q now size by_ b b.p
 le:b.r ≤ (idsT b.p).length
 min:∀ p,inS l f q now size by_ b p → cT b.p p ≤ 0
theorem spur_br {root bans:List Int} {p:Rtp} (ho:spurX l root bans f q now size by_ = some p):BrOk l f q now size by_ ⟨p,root.length,bans⟩ ∧ (idsT p).take root.length = root:=by
 obtain ⟨h1,h2,h3⟩:=spurX_route ho
 obtain ⟨r,h4,_⟩:=goesB_spec.1 h3
 have htk:(idsT p).take root.length = root:=by
  show (p.1.map Hp.id).take root.length = root
  rw [h4,List.take_left]
 refine ⟨⟨⟨⟨h1,h2⟩,?_⟩,?_,fun p' hp' => ?_⟩,htk⟩
 ·show goesB ((idsT p).take root.length) bans (idsT p) = true
  rw [htk]; exact h3
 ·show root.length ≤ (p.1.map Hp.id).length
  rw [h4,List.length_append]; omega
 ·obtain ⟨hok,hg⟩:=hp'
  have hg':goesB ((idsT p).take root.length) bans (idsT p') = true:=hg
  rw [htk] at hg'
  obtain ⟨ha,es,g1,g2,g3⟩:=hok.rte
  have:=(spur_cmp ho g1 hok.2 (by rw [g3]; exact hg')).1
  rw [← g2] at this
  exact this
theorem spur_no {root bans:List Int} (ho:spurX l root bans f q now size by_ = none) {p:Rtp} (h:RtOk l f q now size by_ p) (hg:goesB root bans (idsT p) = true):False:=by
 obtain ⟨ha,es,g1,g2,g3⟩:=h.rte
 have:=spurX_none ho ha g1 (by rw [g3]; exact hg)
 have:=h.2
 omega
theorem goesB_at {root bans ids:List Int}:goesB root bans ids = true ↔ ids.take root.length = root ∧ (root.length < ids.length → ids.getD root.length 0 ∉ bans):=by
 rw [goesB_spec]
 constructor
 ·rintro ⟨r,rfl,h⟩
  refine ⟨List.take_left ..,fun hl => ?_⟩
  cases r with
  | nil => simp at hl
  | cons j s => simpa [List.getD_eq_getElem?_getD] using h j (by simp)
 ·rintro ⟨h1,h2⟩
  refine ⟨ids.drop root.length,by have h9:=List.take_append_drop root.length ids; rw [h1] at h9; exact h9.symm,fun i hi hc => ?_⟩
  have hlt:root.length < ids.length:=by
   rcases Nat.lt_or_ge root.length ids.length with h3 | h3
   ·exact h3
   ·rw [List.drop_of_length_le h3] at hi; cases hi
  rw [List.drop_eq_getElem_cons hlt,List.head?_cons] at hi
  have hje:ids[root.length] = i:=Option.some.inj (Option.mem_def.1 hi)
  refine h2 hlt ?_
  rw [List.getD_eq_getElem?_getD,List.getElem?_eq_getElem hlt]
  show ids[root.length] ∈ bans
  rw [hje]; exact hc
def bansAt (b:Br) (i:Nat):List Int:=(if i = b.r then b.bans else []) ++ [(idsT b.p).getD i 0]
def partAt (l:List Ed) (f q now size by_:Int) (b:Br) (i:Nat):Option Br:=(spurX l ((idsT b.p).take i) (bansAt b i) f q now size by_).map fun p => ⟨p,i,bansAt b i⟩
def partsTo (l:List Ed) (f q now size by_:Int) (b:Br):Nat → List Br
 | 0 => []
 | k + 1 => (partAt l f q now size by_ b (b.r + k)).toList ++ partsTo l f q now size by_ b k
theorem part_in {b:Br} (hb:BrOk l f q now size by_ b) {i:Nat} (hr:b.r ≤ i) (hi:i < (idsT b.p).length) {p:Rtp} (hok:RtOk l f q now size by_ p):goesB ((idsT b.p).take i) (bansAt b i) (idsT p) = true ↔ (inS l f q now size by_ b p ∧ i < (idsT p).length ∧ (idsT b.p).take i = (idsT p).take i ∧ (idsT b.p).getD i 0 ≠ (idsT p).getD i 0):=by
 have hl:((idsT b.p).take i).length = i:=by rw [List.length_take]; omega
 have hmem:=(goesB_at.1 hb.mem.2)
 have hlr:((idsT b.p).take b.r).length = b.r:=by rw [List.length_take]; have:=hb.le; omega
 rw [hlr] at hmem
 rw [goesB_at,hl]
 constructor
 ·rintro ⟨h1,h2⟩
  have hil:i < (idsT p).length:=by
   rcases Nat.lt_or_ge i (idsT p).length with h3 | h3
   ·exact h3
   ·exfalso
    rw [List.take_of_length_le h3] at h1
    have h4:idsT b.p = idsT p ++ (idsT b.p).drop i:=by rw [h1,List.take_append_drop]
    have h5:=hok.whole hb.mem.1 h4
    have:((idsT b.p).drop i).length = 0:=by rw [h5]; rfl
    rw [List.length_drop] at this
    omega
  have h3:=h2 hil
  unfold bansAt at h3
  rw [List.mem_append,not_or] at h3
  refine ⟨⟨hok,goesB_at.2 ⟨?_,fun hl2 => ?_⟩⟩,hil,h1.symm,fun e => h3.2 (by rw [e]; simp)⟩
  ·rw [hlr]
   have h4:(idsT p).take b.r = ((idsT p).take i).take b.r:=by rw [List.take_take,Nat.min_eq_left hr]
   rw [h4,h1,List.take_take,Nat.min_eq_left hr]
  ·rw [hlr]
   rcases Nat.lt_or_ge b.r i with h4 | h4
   ·have h5:(idsT p).getD b.r 0 = (idsT b.p).getD b.r 0:=by
     rw [List.getD_eq_getElem?_getD,List.getD_eq_getElem?_getD,← List.getElem?_take_of_lt h4,h1,List.getElem?_take_of_lt h4]
    rw [h5]
    exact hmem.2 (by omega)
   ·obtain rfl:i = b.r:=by omega
    rw [if_pos rfl] at h3
    exact h3.1
 ·rintro ⟨hin,hil,h1,h2⟩
  refine ⟨h1.symm,fun _ hc => ?_⟩
  unfold bansAt at hc
  rcases List.mem_append.1 hc with h3 | h3
  ·split at h3
   ·rename_i e
    subst e
    have h4:=(goesB_at.1 hin.2).2
    rw [hlr] at h4
    exact h4 hil h3
   ·cases h3
  ·exact h2 (List.mem_singleton.1 h3).symm
theorem parts_spec {b:Br} (hb:BrOk l f q now size by_ b):∀ k,b.r + k ≤ (idsT b.p).length →
  (∀ x ∈ partsTo l f q now size by_ b k,BrOk l f q now size by_ x ∧ ∀ p,inS l f q now size by_ x p ↔ inS l f q now size by_ b p ∧ x.r < (idsT p).length ∧ (idsT b.p).take x.r = (idsT p).take x.r ∧ (idsT b.p).getD x.r 0 ≠ (idsT p).getD x.r 0) ∧
  (∀ x ∈ partsTo l f q now size by_ b k,b.r ≤ x.r ∧ x.r < b.r + k) ∧
  (partsTo l f q now size by_ b k).Pairwise (fun x y => y.r < x.r) ∧
  ∀ p,inS l f q now size by_ b p → ∀ i,b.r ≤ i → i < b.r + k → i < (idsT p).length → (idsT b.p).take i = (idsT p).take i → (idsT b.p).getD i 0 ≠ (idsT p).getD i 0 → ∃ x ∈ partsTo l f q now size by_ b k,inS l f q now size by_ x p
 | 0,_ => ⟨fun x hx => (by cases hx),fun x hx => (by cases hx),List.Pairwise.nil,fun p _ i h1 h2 => by omega⟩
 | k + 1,hk => by
  obtain ⟨i1,i2,i3,i4⟩:=parts_spec hb k (by omega)
  have hil:b.r + k < (idsT b.p).length:=by omega
  obtain ⟨o,ho⟩:∃ o,spurX l ((idsT b.p).take (b.r + k)) (bansAt b (b.r + k)) f q now size by_ = o:=⟨_,rfl⟩
  have hl:((idsT b.p).take (b.r + k)).length = b.r + k:=by rw [List.length_take]; omega
  have hp:partsTo l f q now size by_ b (k + 1) = (o.map fun p => (⟨p,b.r + k,bansAt b (b.r + k)⟩:Br)).toList ++ partsTo l f q now size by_ b k:=by
   rw [partsTo,partAt,ho]
  rw [hp]
  cases o with
  | none =>
   refine ⟨i1,fun x hx => by have:=i2 x hx; omega,i3,fun p hin i h1 h2 h3 h4 h5 => ?_⟩
   by_cases e:i = b.r + k
   ·subst e
    exact (spur_no ho hin.1 ((part_in hb h1 hil hin.1).2 ⟨hin,h3,h4,h5⟩)).elim
   ·exact i4 p hin i h1 (by omega) h3 h4 h5
  | some p0 =>
   obtain ⟨hbr,htk⟩:=spur_br ho
   rw [hl] at hbr htk
   have hiff:∀ p,inS l f q now size by_ ⟨p0,b.r + k,bansAt b (b.r + k)⟩ p ↔ inS l f q now size by_ b p ∧ b.r + k < (idsT p).length ∧ (idsT b.p).take (b.r + k) = (idsT p).take (b.r + k) ∧ (idsT b.p).getD (b.r + k) 0 ≠ (idsT p).getD (b.r + k) 0:=fun p => by
    constructor
    ·rintro ⟨h1,h2⟩
     have h3:goesB ((idsT p0).take (b.r + k)) (bansAt b (b.r + k)) (idsT p) = true:=h2
     rw [htk] at h3
     exact (part_in hb (by omega) hil h1).1 h3
    ·intro h
     refine ⟨h.1.1,?_⟩
     show goesB ((idsT p0).take (b.r + k)) (bansAt b (b.r + k)) (idsT p) = true
     rw [htk]
     exact (part_in hb (by omega) hil h.1.1).2 h
   refine ⟨fun x hx => ?_,fun x hx => ?_,?_,fun p hin i h1 h2 h3 h4 h5 => ?_⟩
   ·rcases List.mem_cons.1 hx with rfl | hx
    ·exact ⟨hbr,hiff⟩
    ·exact i1 x hx
   ·rcases List.mem_cons.1 hx with rfl | hx
    ·show b.r ≤ b.r + k ∧ b.r + k < _; omega
    ·have:=i2 x hx; omega
   ·exact List.pairwise_cons.2 ⟨fun y hy => (i2 y hy).2,i3⟩
   ·by_cases e:i = b.r + k
    ·subst e
     exact ⟨_,List.mem_cons_self ..,(hiff p).2 ⟨hin,h3,h4,h5⟩⟩
    ·obtain ⟨x,hx,h6⟩:=i4 p hin i h1 (by omega) h3 h4 h5
     exact ⟨x,List.mem_cons_of_mem _ hx,h6⟩
structure Seek (l:List Ed) (f q now size by_:Int) (R:List Rtp) (B:List Br):Prop where
 pre:R = (allR l f q now size by_).take R.length
 ok:∀ b ∈ B,BrOk l f q now size by_ b
 apart:B.Pairwise fun b c => ∀ p,¬ (inS l f q now size by_ b p ∧ inS l f q now size by_ c p)
 all:∀ p,RtOk l f q now size by_ p → p ∈ R ∨ ∃ b ∈ B,inS l f q now size by_ b p
 new:∀ b ∈ B,∀ p,inS l f q now size by_ b p → p ∉ R
theorem Seek.perm {R:List Rtp} {B B':List Br} (h:Seek l f q now size by_ R B) (hp:B'.Perm B):Seek l f q now size by_ R B':=
 ⟨h.pre,fun b hb => h.ok b (hp.mem_iff.1 hb),(List.Perm.pairwise_iff (fun hxy p hh => hxy p ⟨hh.2,hh.1⟩) hp.symm).1 h.apart,fun p hp' => by
  rcases h.all p hp' with h1 | ⟨b,h1,h2⟩
  ·exact .inl h1
  ·exact .inr ⟨b,hp.mem_iff.2 h1,h2⟩,fun b hb => h.new b (hp.mem_iff.1 hb)⟩
theorem Seek.start:Seek l f q now size by_ [] ((spurX l [] [] f q now size by_).map fun p => (⟨p,0,[]⟩:Br)).toList:=by
 obtain ⟨o,ho⟩:∃ o,spurX l [] [] f q now size by_ = o:=⟨_,rfl⟩
 rw [ho]
 have hin:∀ (p0 p:Rtp),RtOk l f q now size by_ p → inS l f q now size by_ ⟨p0,0,[]⟩ p:=fun p0 p hp => ⟨hp,by
  show goesB ((idsT p0).take 0) [] (idsT p) = true
  rw [List.take_zero]; exact goes_nil _⟩
 cases o with
 | none => exact ⟨rfl,fun b hb => (by cases hb),List.Pairwise.nil,fun p hp => (spur_no ho hp (goes_nil _)).elim,fun b hb => (by cases hb)⟩
 | some p0 =>
  obtain ⟨hbr,_⟩:=spur_br ho
  refine ⟨rfl,fun b hb => ?_,List.pairwise_singleton ..,fun p hp => .inr ⟨_,List.mem_cons_self ..,hin p0 p hp⟩,fun b _ p _ hc => by cases hc⟩
  have:b = ⟨p0,0,[]⟩:=by simpa using hb
  subst this
  exact hbr
theorem Seek.done {R:List Rtp} (h:Seek l f q now size by_ R []):R = allR l f q now size by_:=by
 have h1:=h.pre
 have h2:(allR l f q now size by_).length ≤ R.length:=by
  rcases Nat.lt_or_ge R.length (allR l f q now size by_).length with h3 | h3
  ·exfalso
   have hm:=List.getElem_mem h3
   rcases h.all _ (allR_ok hm) with h4 | ⟨b,hb,_⟩
   ·have h4':(allR l f q now size by_)[R.length] ∈ (allR l f q now size by_).take R.length:=by rw [← h1]; exact h4
    obtain ⟨i,hi,he⟩:=List.getElem_of_mem h4'
    rw [List.length_take] at hi
    rw [List.getElem_take] at he
    have:=srtT_ne (allR_srt (l:=l) (f:=f) (q:=q) (now:=now) (size:=size) (by_:=by_)) (i:=i) (j:=R.length) (by omega) h3 (by omega)
    rw [he,cT_self] at this
    omega
   ·cases hb
  ·exact h3
 rw [List.take_of_length_le h2] at h1
 exact h1
theorem Seek.next {R:List Rtp} {b:Br} {B:List Br} (h:Seek l f q now size by_ R (b :: B)) (hmin:∀ c ∈ B,cT b.p c.p ≤ 0):R.length < (allR l f q now size by_).length ∧ R ++ [b.p] = (allR l f q now size by_).take (R.length + 1):=by
 have hb:=h.ok b (List.mem_cons_self ..)
 have hbm:=allR_has hb.mem.1
 have hbn:=h.new b (List.mem_cons_self ..) _ hb.mem
 obtain ⟨i,hi,he⟩:=List.getElem_of_mem hbm
 have hiR:R.length ≤ i:=by
  rcases Nat.lt_or_ge i R.length with h1 | h1
  ·exfalso
   refine hbn ?_
   rw [h.pre]
   refine List.mem_iff_getElem.2 ⟨i,by rw [List.length_take]; omega,?_⟩
   rw [List.getElem_take]; exact he
  ·exact h1
 have hlt:R.length < (allR l f q now size by_).length:=by omega
 refine ⟨hlt,?_⟩
 have hy:=List.getElem_mem hlt
 have hyR:(allR l f q now size by_)[R.length] ∉ R:=fun hc => by
  have hc':(allR l f q now size by_)[R.length] ∈ (allR l f q now size by_).take R.length:=by rw [← h.pre]; exact hc
  obtain ⟨j,hj,hje⟩:=List.getElem_of_mem hc'
  rw [List.length_take] at hj
  rw [List.getElem_take] at hje
  have:=srtT_ne (allR_srt (l:=l) (f:=f) (q:=q) (now:=now) (size:=size) (by_:=by_)) (i:=j) (j:=R.length) (by omega) hlt (by omega)
  rw [hje,cT_self] at this
  omega
 have hle:cT b.p (allR l f q now size by_)[R.length] ≤ 0:=by
  rcases h.all _ (allR_ok hy) with h1 | ⟨c,hc,h1⟩
  ·exact absurd h1 hyR
  ·have h2:=(h.ok c hc).min _ h1
   rcases List.mem_cons.1 hc with rfl | hc
   ·exact h2
   ·exact cT_trans (hmin c hc) h2
 have hbe:b.p = (allR l f q now size by_)[R.length]:=by
  rcases Nat.lt_or_ge R.length i with h1 | h1
  ·have h2:=srtT_ne (allR_srt (l:=l) (f:=f) (q:=q) (now:=now) (size:=size) (by_:=by_)) hlt hi h1
   rw [he] at h2
   have:=cT_anti b.p (allR l f q now size by_)[R.length]
   omega
  ·have:i = R.length:=by omega
   subst this
   exact he.symm
 rw [List.take_succ_eq_append_getElem hlt,← h.pre,hbe]
theorem Seek.go {R:List Rtp} {b:Br} {B:List Br} (h:Seek l f q now size by_ R (b :: B)) (hmin:∀ c ∈ B,cT b.p c.p ≤ 0):Seek l f q now size by_ (R ++ [b.p]) (partsTo l f q now size by_ b ((idsT b.p).length - b.r) ++ B):=by
 have hb:=h.ok b (List.mem_cons_self ..)
 obtain ⟨_,hnx⟩:=h.next hmin
 have hle:=hb.le
 obtain ⟨h1,h2,h3,h4⟩:=parts_spec hb ((idsT b.p).length - b.r) (by omega)
 obtain ⟨ha,hB⟩:=List.pairwise_cons.1 h.apart
 refine ⟨by rw [List.length_append]; exact hnx,fun x hx => ?_,?_,fun p hp => ?_,fun x hx p hin hc => ?_⟩
 ·rcases List.mem_append.1 hx with hx | hx
  ·exact (h1 x hx).1
  ·exact h.ok x (List.mem_cons_of_mem _ hx)
 ·refine List.pairwise_append.2 ⟨?_,hB,fun x hx y hy p hh => ?_⟩
  ·refine h3.imp_of_mem fun {x y} hx hy hxy p hh => ?_
   have g1:=((h1 x hx).2 p).1 hh.1
   have g2:=((h1 y hy).2 p).1 hh.2
   refine g2.2.2.2 ?_
   have g3:=g1.2.2.1
   rw [List.getD_eq_getElem?_getD,List.getD_eq_getElem?_getD,← List.getElem?_take_of_lt hxy,g3,List.getElem?_take_of_lt hxy]
  ·exact ha y hy p ⟨(((h1 x hx).2 p).1 hh.1).1,hh.2⟩
 ·rcases h.all p hp with h5 | ⟨c,hc,h5⟩
  ·exact .inl (List.mem_append.2 (.inl h5))
  ·rcases List.mem_cons.1 hc with rfl | hc
   ·by_cases e:p = c.p
    ·subst e; exact .inl (List.mem_append.2 (.inr (by simp)))
    ·obtain ⟨i,g1,g2,g3,g4⟩:=hb.mem.1.part hp (fun e2 => e e2.symm)
     have hir:c.r ≤ i:=by
      rcases Nat.lt_or_ge i c.r with g5 | g5
      ·exfalso
       refine g4 ?_
       have g6:=(goesB_at.1 h5.2).1
       have g7:((idsT c.p).take c.r).length = c.r:=by rw [List.length_take]; omega
       rw [g7] at g6
       rw [List.getD_eq_getElem?_getD,List.getD_eq_getElem?_getD,← List.getElem?_take_of_lt g5,← g6,List.getElem?_take_of_lt g5]
      ·exact g5
     obtain ⟨x,hx,h6⟩:=h4 p h5 i hir (by omega) g2 g3 g4
     exact .inr ⟨x,List.mem_append.2 (.inl hx),h6⟩
   ·exact .inr ⟨c,List.mem_append.2 (.inr hc),h5⟩
 ·rcases List.mem_append.1 hc with hc | hc
  ·rcases List.mem_append.1 hx with hx | hx
   ·exact h.new b (List.mem_cons_self ..) p (((h1 x hx).2 p).1 hin).1 hc
   ·exact h.new x (List.mem_cons_of_mem _ hx) p hin hc
  ·have hpe:p = b.p:=by simpa using hc
   subst hpe
   rcases List.mem_append.1 hx with hx | hx
   ·exact (((h1 x hx).2 b.p).1 hin).2.2.2 rfl
   ·exact ha x hx b.p ⟨hb.mem,hin⟩
end
end Go.Proofs.YtodcoockhkghdaaGreat
