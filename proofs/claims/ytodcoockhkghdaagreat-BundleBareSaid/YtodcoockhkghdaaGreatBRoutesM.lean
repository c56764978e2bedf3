/- best.Routes: where its search stands, in memory. Plain facts. -/
import Derived.Test.YtodcoockhkghdaaGreatBPart
import Derived.Test.YtodcoockhkghdaaGreatGQ11
namespace Go.Proofs.YtodcoockhkghdaaGreat
open Go.ChangeShapes Go.WideShapes Go.ChangeAt Go.RowKit Go.Sort Go.Maps Bp
set_option linter.unusedSimpArgs false
set_option linter.unusedVariables false
def lenV:Value → Nat
 | .slice _ n _ => n
 | _ => 0
def Bx.rx (x:Bx):Rx:=⟨⟨x.A,x.n,x.c,x.t⟩,x.H⟩
theorem Bx.ok.rx {w:World} {x:Bx} (h:x.ok w):x.rx.ok w:=⟨h.hl,by have:=h.hn; show x.n ≤ _; omega,h.hs⟩
theorem Bx.off.rx {g:Nat} {x:Bx} (h:x.off g):x.rx.offP g:=h.1
theorem below_kept {S:Nat → Prop} {B:Nat} {w w1 w2:World} (hb:Below B w w1) (hB:B ≤ w.heap.size) (hk:Kept S w1 w2) (hS:∀ k,S k → B ≤ k):Below B w w2:=
 ⟨hk.os.trans hb.os,hk.tape.trans hb.tape,hk.output.trans hb.output,Nat.le_trans hb.size hk.size,fun k hkB => (hk.block k (by have:=hb.size; omega) (fun h => by have:=hS k h; omega)).trans (hb.block k hkB)⟩
/-- Where the search stands. -/
structure RoutesS (l:List Ed) (f q now size by_:Int) (w:World) (bl bf bq bn bs bb wb:Nat) (A:Option Addr) (n c km:Nat) (wr:World) (rv v:Value) (L:List Rx) (d:List Bx):Prop where
 below:Below w.heap.size w wr
 box:Boxes wr bl bf bq bn bs bb A n c f q now size by_
 hb:HB wr wb v d
 heap:isHeap d
 vnew:∀ g,v.ownBlock = some g → w.heap.size ≤ g
 seek:Seek l f q now size by_ (L.map Rx.rt) (d.map Bx.br)
 lt:L.length < km
 few:d.length ≤ 1 + L.length * 1000
 bans:∀ b ∈ d,b.bans.length ≤ L.length ∧ ∀ m ∈ b.bans,(Lit.int .i64 m).wf = true
 row:RtRow wr w.heap.size rv L
 offw:∀ x ∈ L,x.offP wb
 offv:∀ x ∈ L,∀ g,v.ownBlock = some g → x.offP g
 offr:∀ x ∈ d,∀ g,rv.ownBlock = some g → x.off g
section
variable {l:List Ed} {f q now size by_:Int} {w:World} {bl bf bq bn bs bb wb:Nat} {A:Option Addr} {n c km:Nat}
theorem add_few (o:Option Rtp) (i:Nat) (bs:List Int):((o.map fun p => (⟨p,i,bs⟩:Br)).toList).length ≤ 1:=by cases o <;> simp
theorem RoutesS.start {w7 w8:World} (hwb:w.heap.size ≤ wb) (hb7:Below w.heap.size w w7) (hx:Boxes w7 bl bf bq bn bs bb A n c f q now size by_) (h0:HB w7 wb (.slice none 0 0) []) (hkm:1 ≤ km)
  (hG:PartG w.heap.size wb (.slice none 0 0) [] ((spurX l [] [] f q now size by_).map fun p => (⟨p,0,[]⟩:Br)).toList w7 w8):∃ v d,RoutesS l f q now size by_ w bl bf bq bn bs bb wb A n c km w8 (.slice none 0 0) v [] d:=by
 obtain ⟨v',d',h1,h2,h3,h4,h5,h6⟩:=hG
 simp only [List.map_nil,List.append_nil] at h3
 refine ⟨v',d',below_kept hb7 (Nat.le_refl _) h5 (fun k hk => ?_),hx.apart h0 h5,h1,h2,fun g hg => ?_,Seek.start.perm h3,hkm,?_,fun b hb => ?_,⟨World.ownsRow_nil _ _ _ _,fun x hx => (by cases hx),fun x hx => (by cases hx)⟩,fun x hx => (by cases hx),fun x hx => (by cases hx),fun x _ g e => (by cases e)⟩
 ·rcases hk with rfl | hk
  ·exact hwb
  ·cases hk
 ·rcases h6 with h6 | ⟨k,hk,h6⟩
  ·rw [h6] at hg; cases hg
  ·rw [h6] at hg; injection hg with hg; subst hg
   exact Nat.le_trans hb7.size hk
 ·have e:=h3.length_eq
  rw [List.length_map] at e
  have:=add_few (spurX l [] [] f q now size by_) 0 []
  simp only [List.length_nil]
  omega
 ·have hm:b.br ∈ ((spurX l [] [] f q now size by_).map fun p => (⟨p,0,[]⟩:Br)).toList:=h3.mem_iff.1 (List.mem_map_of_mem hb)
  cases ho:spurX l [] [] f q now size by_ with
  | none => rw [ho] at hm; cases hm
  | some p =>
   rw [ho] at hm
   have e:b.br = ⟨p,0,[]⟩:=by simpa using hm
   have e2:b.bans = []:=congrArg Br.bans e
   rw [e2]
   exact ⟨Nat.zero_le _,fun m hm => by cases hm⟩
theorem RtRow.ro {wr:World} {base:Nat} {rv:Value} {L:List Rx} {R:List Rtp} (h:RtRow wr base rv L) (hR:L.map Rx.rt = R):RO wr base rv R:=⟨L,h.row,hR,h.ok⟩
/-- Nothing waits any more. -/
theorem RoutesS.done {wr:World} {rv v:Value} {L:List Rx} (h:RoutesS l f q now size by_ w bl bf bq bn bs bb wb A n c km wr rv v L []):RO wr w.heap.size rv ((allR l f q now size by_).take km):=by
 have h1:=h.seek.done
 refine h.row.ro ?_
 rw [← h1,List.take_of_length_le (by rw [List.length_map]; have:=h.lt; omega)]
theorem rtok_wf {p:Rtp} (h:RtOk l f q now size by_ p):∀ m ∈ p.1.map Hp.id,(Lit.int .i64 m).wf = true:=by
 obtain ⟨ha,es,h1,_,h3⟩:=h.rte
 show ∀ m ∈ idsT p,_
 rw [← h3]
 exact wfI_ids (askE_spec.1 ha).2.2.2 h1.mem
theorem parts_bans {b:Br}:∀ k,(partsTo l f q now size by_ b k).length ≤ k ∧ ∀ x ∈ partsTo l f q now size by_ b k,x.bans.length ≤ b.bans.length + 1 ∧ ∀ m ∈ x.bans,m ∈ b.bans ∨ m ∈ idsT b.p ∨ m = 0
 | 0 => ⟨Nat.le_refl _,fun x hx => by cases hx⟩
 | k + 1 => by
  obtain ⟨h1,h2⟩:=parts_bans (b:=b) k
  rw [partsTo]
  have h3:∀ x ∈ (partAt l f q now size by_ b (b.r + k)).toList,x.bans = bansAt b (b.r + k):=fun x hx => by
   unfold partAt at hx
   cases ho:spurX l ((idsT b.p).take (b.r + k)) (bansAt b (b.r + k)) f q now size by_ with
   | none => rw [ho] at hx; cases hx
   | some p =>
    rw [ho] at hx
    have e:x = ⟨p,b.r + k,bansAt b (b.r + k)⟩:=by simpa using hx
    rw [e]
  have h4:(partAt l f q now size by_ b (b.r + k)).toList.length ≤ 1:=by cases partAt l f q now size by_ b (b.r + k) <;> simp
  refine ⟨by rw [List.length_append]; omega,fun x hx => ?_⟩
  rcases List.mem_append.1 hx with hx | hx
  ·rw [h3 x hx]
   unfold bansAt
   refine ⟨?_,fun m hm => ?_⟩
   ·rw [List.length_append]
    split <;> simp
   ·rcases List.mem_append.1 hm with h | h
    ·split at h
     ·exact .inl h
     ·cases h
    ·rw [List.mem_singleton.1 h,List.getD_eq_getElem?_getD]
     rcases Nat.lt_or_ge (b.r + k) (idsT b.p).length with h5 | h5
     ·rw [List.getElem?_eq_getElem h5]
      exact .inr (.inl (List.getElem_mem _))
     ·rw [List.getElem?_eq_none h5]
      exact .inr (.inr rfl)
  ·exact h2 x hx
/-- What the search knows of the first branch of all. -/
theorem RoutesS.top {wr:World} {rv v:Value} {L:List Rx} {d d':List Bx} (h:RoutesS l f q now size by_ w bl bf bq bn bs bb wb A n c km wr rv v L d) (hd:0 < d.length) (hp:(gt d 0 :: d').Perm d) :
  Seek l f q now size by_ (L.map Rx.rt) ((gt d 0).br :: d'.map Bx.br) ∧ ∀ x ∈ d'.map Bx.br,cT (gt d 0).br.p x.p ≤ 0:=by
 refine ⟨h.seek.perm (by have:=hp.map Bx.br; rwa [List.map_cons] at this),fun x hx => ?_⟩
 obtain ⟨y,hy,rfl⟩:=List.mem_map.1 hx
 have h1:=heap_least h.heap (hp.mem_iff.1 (List.mem_cons_of_mem _ hy))
 rw [ahd_no] at h1
 have h2:=cmpR_anti2 (gt d 0) y
 show cmpR (gt d 0).t (gt d 0).H y.t y.H ≤ 0
 omega
/-- Behind a round: as many as are asked for. -/
theorem RoutesS.full {wr wc:World} {rv rv' v:Value} {L:List Rx} {d d':List Bx} (h:RoutesS l f q now size by_ w bl bf bq bn bs bb wb A n c km wr rv v L d) (hd:0 < d.length) (hp:(gt d 0 :: d').Perm d) (hr:RtRow wc w.heap.size rv' (L ++ [(gt d 0).rx])) (hk:L.length + 1 = km):RO wc w.heap.size rv' ((allR l f q now size by_).take km):=by
 obtain ⟨h1,h2⟩:=h.top hd hp
 have h3:=(h1.next h2).2
 rw [List.length_map,hk] at h3
 refine hr.ro ?_
 rw [← h3,List.map_append]
 rfl
/-- Behind a round: the next one. -/
theorem RoutesS.go {wr wd we:World} {rv rv' v vd:Value} {L:List Rx} {d d':List Bx} (h:RoutesS l f q now size by_ w bl bf bq bn bs bb wb A n c km wr rv v L d) (hwb:w.heap.size ≤ wb) (hn5:n ≤ 500) (hd:0 < d.length) (hp:(gt d 0 :: d').Perm d) (hk:L.length + 1 < km)
  (hbd:Below w.heap.size w wd) (hxd:Boxes wd bl bf bq bn bs bb A n c f q now size by_) (hvd:HB wd wb vd d') (hvn:∀ g,vd.ownBlock = some g → w.heap.size ≤ g) (hrd:RtRow wd w.heap.size rv' (L ++ [(gt d 0).rx])) (hrw:rv'.ownBlock ≠ some wb) (hrv:∀ g,rv'.ownBlock = some g → vd.ownBlock ≠ some g)
  (how:∀ x ∈ L ++ [(gt d 0).rx],x.offP wb) (hov:∀ x ∈ L ++ [(gt d 0).rx],∀ g,vd.ownBlock = some g → x.offP g) (hor:∀ x ∈ d',∀ g,rv'.ownBlock = some g → x.off g)
  (hG:PartG wd.heap.size wb vd d' (partsTo l f q now size by_ (gt d 0).br ((gt d 0).n - (gt d 0).r)) wd we):∃ v2 d2,RoutesS l f q now size by_ w bl bf bq bn bs bb wb A n c km we rv' v2 (L ++ [(gt d 0).rx]) d2:=by
 obtain ⟨v2,d2,h1,h2,h3,h4,h5,h6⟩:=hG
 obtain ⟨t1,t2⟩:=h.top hd hp
 have hgd:gt d 0 ∈ d:=gt_mem hd
 have hlen:(idsT (gt d 0).br.p).length = (gt d 0).n:=by
  show ((gt d 0).H.map Hp.id).length = _
  rw [List.length_map]
  exact (h.hb.row.ok _ hgd).hl
 have hS:Seek l f q now size by_ ((L ++ [(gt d 0).rx]).map Rx.rt) (d2.map Bx.br):=by
  have:=t1.go t2
  rw [hlen] at this
  rw [List.map_append]
  exact this.perm h3
 obtain ⟨pb1,pb2⟩:=parts_bans (l:=l) (f:=f) (q:=q) (now:=now) (size:=size) (by_:=by_) (b:=(gt d 0).br) ((gt d 0).n - (gt d 0).r)
 have hlp:=hp.length_eq
 rw [List.length_cons] at hlp
 have hle3:=h3.length_eq
 rw [List.length_map,List.length_append,List.length_map] at hle3
 have hfw:=h.few
 have hxn:=(h.hb.row.ok _ hgd).hn
 have hv2:∀ g,v2.ownBlock = some g → vd.ownBlock = some g ∨ wd.heap.size ≤ g:=fun g hg => by
  rcases h6 with h6 | ⟨k,hk,h6⟩
  ·exact .inl (h6.symm.trans hg)
  ·rw [h6] at hg; injection hg with hg; subst hg; exact .inr hk
 have hLok:∀ x ∈ L ++ [(gt d 0).rx],x.ok wd:=hrd.ok
 refine ⟨v2,d2,below_kept hbd (Nat.le_refl _) h5 (fun k hk => ?_),hxd.apart hvd h5,h1,h2,fun g hg => ?_,hS,by rw [List.length_append]; exact hk,?_,fun b hb => ?_,hrd.kept h5 (fun x hx g hg => ?_) (fun g hg hc => ?_),how,fun x hx g hg => ?_,fun x hx g hg => ?_⟩
 ·rcases hk with rfl | hk
  ·exact hwb
  ·exact hvn k hk
 ·rcases hv2 g hg with h | h
  ·exact hvn g h
  ·exact Nat.le_trans hbd.size h
 ·rw [List.length_append,List.length_singleton]
  omega
 ·have hm:=h3.mem_iff.1 (List.mem_map_of_mem (f:=Bx.br) hb)
  rw [List.length_append,List.length_singleton]
  rcases List.mem_append.1 hm with hm | hm
  ·obtain ⟨k1,k2⟩:=pb2 _ hm
   obtain ⟨g1,g2⟩:=h.bans _ hgd
   have hok:=(h.seek.ok (gt d 0).br (List.mem_map_of_mem hgd)).mem.1
   refine ⟨by have e1:b.br.bans.length = b.bans.length:=rfl; have e2:(gt d 0).br.bans.length = (gt d 0).bans.length:=rfl; omega,fun m hm => ?_⟩
   rcases k2 m hm with h7 | h7 | rfl
   ·exact g2 m h7
   ·exact rtok_wf hok m h7
   ·decide
  ·obtain ⟨y,hy,e⟩:=List.mem_map.1 hm
   obtain ⟨g1,g2⟩:=h.bans y (hp.mem_iff.1 (List.mem_cons_of_mem _ hy))
   have e1:y.bans = b.bans:=congrArg Br.bans e
   rw [← e1]
   exact ⟨by omega,g2⟩
 ·rcases hg with rfl | hg
  ·exact how x hx
  ·exact hov x hx g hg
 ·rcases hc with rfl | hc
  ·exact hrw hg
  ·exact hrv g hg hc
 ·rcases hv2 g hg with h8 | h8
  ·exact hov x hx g h8
  ·exact (hLok x hx).offP_new h8
 ·rcases h4 x hx with h8 | h8
  ·exact hor x h8 g hg
  ·exact h8.off (hrd.row.lt g hg).2
end
end Go.Proofs.YtodcoockhkghdaaGreat
