/- Several texts of mine in one: BRoutesM, BRoutes. No condition. -/
import Derived.Test.YtodcoockhkghdaaGreatBPart
import Derived.Test.YtodcoockhkghdaaGreatGQ31
import Derived.Maps.AppendAt
namespace Go.Proofs.YtodcoockhkghdaaGreat
open Go.ChangeShapes Go.WideShapes Go.ChangeAt Go.RowKit Go.Sort Go.Maps Bp
set_option linter.unusedSimpArgs false
set_option linter.unusedVariables false
def lenV:Value → Nat
 | .slice _ n _ => n
 | _ => 0
def Bx.rx (x:Bx):Rx:=⟨⟨x.A,x.n,x.c,x.t⟩,x.H⟩
theorem Bx.ok.rx {w:World} {x:Bx} (h:x.ok w):x.rx.ok w:=⟨h.hl,by have:=h.hn; show x.n ≤ _; omega,h.hs⟩
theorem Bx.off.rx {g:Nat} {x:Bx} (h:x.off g):x.rx.offP g:=h.1
theorem below_kept {S:Nat → Prop} {B:Nat} {w w1 w2:World} (hb:Below B w w1) (hB:B ≤ w.heap.size) (hk:Kept S w1 w2) (hS:∀ k,S k → B ≤ k):Below B w w2:=
 ⟨hk.os.trans hb.os,hk.tape.trans hb.tape,hk.output.trans hb.output,Nat.le_trans hb.size hk.size,fun k hkB => (hk.block k (by have:=hb.size; omega) (fun h => by have:=hS k h; omega)).trans (hb.block k hkB)⟩
structure RoutesS (l:List Ed) (f q now size by_:Int) (w:World) (bl bf bq bn bs bb wb:Nat) (A:Option Addr) (n c km:Nat) (wr:World) (rv v:Value) (L:List Rx) (d:List Bx):Prop where
 below:Below w.heap.size w wr
 box:Boxes wr bl bf bq bn bs bb A n c f q now size by_
 hb:HB wr wb v d
 heap:isHeap d
 vnew:∀ g,v.ownBlock = some g → w.heap.size ≤ g
 seek:Seek l f q now size by_ (L.map Rx.rt) (d.map Bx.br)
 lt:L.length < km
 few:d.length ≤ 1 + L.length * 1000
 bans:∀ b ∈ d,b.bans.length ≤ L.length ∧ ∀ m ∈ b.bans,(Lit.int .i64 m).wf = true
 row:RtRow wr w.heap.size rv L
 offw:∀ x ∈ L,x.offP wb
 offv:∀ x ∈ L,∀ g,v.ownBlock = some g → x.offP g
 offr:∀ x ∈ d,∀ g,rv.ownBlock = some g → x.off g
section
variable {l:List Ed} {f q now size by_:Int} {w:World} {bl bf bq bn bs bb wb:Nat} {A:Option Addr} {n c km:Nat}
theorem add_few (o:Option Rtp) (i:Nat) (bs:List Int):((o.map fun p => (⟨p,i,bs⟩:Br)).toList).length ≤ 1:=by cases o <;> simp
theorem RoutesS.start {w7 w8:World} (hwb:w.heap.size ≤ wb) (hb7:Below w.heap.size w w7) (hx:Boxes w7 bl bf bq bn bs bb A n c f q now size by_) (h0:HB w7 wb (.slice none 0 0) []) (hkm:1 ≤ km)
  (hG:PartG w.heap.size wb (.slice none 0 0) [] ((spurX l [] [] f q now size by_).map fun p => (⟨p,0,[]⟩:Br)).toList w7 w8):∃ v d,RoutesS l f q now size by_ w bl bf bq bn bs bb wb A n c km w8 (.slice none 0 0) v [] d:=by
 obtain ⟨v',d',h1,h2,h3,h4,h5,h6⟩:=hG
 simp only [List.map_nil,List.append_nil] at h3
 refine ⟨v',d',below_kept hb7 (Nat.le_refl _) h5 (fun k hk => ?_),hx.apart h0 h5,h1,h2,fun g hg => ?_,Seek.start.perm h3,hkm,?_,fun b hb => ?_,⟨World.ownsRow_nil _ _ _ _,fun x hx => (by cases hx),fun x hx => (by cases hx)⟩,fun x hx => (by cases hx),fun x hx => (by cases hx),fun x _ g e => (by cases e)⟩
 ·rcases hk with rfl | hk
  ·exact hwb
  ·cases hk
 ·rcases h6 with h6 | ⟨k,hk,h6⟩
  ·rw [h6] at hg; cases hg
  ·rw [h6] at hg; injection hg with hg; subst hg
   exact Nat.le_trans hb7.size hk
 ·have e:=h3.length_eq
  rw [List.length_map] at e
  have:=add_few (spurX l [] [] f q now size by_) 0 []
  simp only [List.length_nil]
  omega
 ·have hm:b.br ∈ ((spurX l [] [] f q now size by_).map fun p => (⟨p,0,[]⟩:Br)).toList:=h3.mem_iff.1 (List.mem_map_of_mem hb)
  cases ho:spurX l [] [] f q now size by_ with
  | none => rw [ho] at hm; cases hm
  | some p =>
   rw [ho] at hm
   have e:b.br = ⟨p,0,[]⟩:=by simpa using hm
   have e2:b.bans = []:=congrArg Br.bans e
   rw [e2]
   exact ⟨Nat.zero_le _,fun m hm => by cases hm⟩
theorem RtRow.ro {wr:World} {base:Nat} {rv:Value} {L:List Rx} {R:List Rtp} (h:RtRow wr base rv L) (hR:L.map Rx.rt = R):RO wr base rv R:=⟨L,h.row,hR,h.ok⟩
theorem RoutesS.done {wr:World} {rv v:Value} {L:List Rx} (h:RoutesS l f q now size by_ w bl bf bq bn bs bb wb A n c km wr rv v L []):RO wr w.heap.size rv ((allR l f q now size by_).take km):=by
 have h1:=h.seek.done
 refine h.row.ro ?_
 rw [← h1,List.take_of_length_le (by rw [List.length_map]; have:=h.lt; omega)]
theorem rtok_wf {p:Rtp} (h:RtOk l f q now size by_ p):∀ m ∈ p.1.map Hp.id,(Lit.int .i64 m).wf = true:=by
 obtain ⟨ha,es,h1,_,h3⟩:=h.rte
 show ∀ m ∈ idsT p,_
 rw [← h3]
 exact wfI_ids (askE_spec.1 ha).2.2.2 h1.mem
theorem parts_bans {b:Br}:∀ k,(partsTo l f q now size by_ b k).length ≤ k ∧ ∀ x ∈ partsTo l f q now size by_ b k,x.bans.length ≤ b.bans.length + 1 ∧ ∀ m ∈ x.bans,m ∈ b.bans ∨ m ∈ idsT b.p ∨ m = 0
 | 0 => ⟨Nat.le_refl _,fun x hx => by cases hx⟩
 | k + 1 => by
  obtain ⟨h1,h2⟩:=parts_bans (b:=b) k
  rw [partsTo]
  have h3:∀ x ∈ (partAt l f q now size by_ b (b.r + k)).toList,x.bans = bansAt b (b.r + k):=fun x hx => by
   unfold partAt at hx
   cases ho:spurX l ((idsT b.p).take (b.r + k)) (bansAt b (b.r + k)) f q now size by_ with
   | none => rw [ho] at hx; cases hx
   | some p =>
    rw [ho] at hx
    have e:x = ⟨p,b.r + k,bansAt b (b.r + k)⟩:=by simpa using hx
    rw [e]
  have h4:(partAt l f q now size by_ b (b.r + k)).toList.length ≤ 1:=by cases partAt l f q now size by_ b (b.r + k) <;> simp
  refine ⟨by rw [List.length_append]; omega,fun x hx => ?_⟩
  rcases List.mem_append.1 hx with hx | hx
  ·rw [h3 x hx]
   unfold bansAt
   refine ⟨?_,fun m hm => ?_⟩
   ·rw [List.length_append]
    split <;> simp
   ·rcases List.mem_append.1 hm with h | h
    ·split at h
     ·exact .inl h
     ·cases h
    ·rw [List.mem_singleton.1 h,List.getD_eq_getElem?_getD]
     rcases Nat.lt_or_ge (b.r + k) (idsT b.p).length with h5 | h5
     ·rw [List.getElem?_eq_getElem h5]
      exact .inr (.inl (List.getElem_mem _))
     ·rw [List.getElem?_eq_none h5]
      exact .inr (.inr rfl)
  ·exact h2 x hx
theorem RoutesS.top {wr:World} {rv v:Value} {L:List Rx} {d d':List Bx} (h:RoutesS l f q now size by_ w bl bf bq bn bs bb wb A n c km wr rv v L d) (hd:0 < d.length) (hp:(gt d 0 :: d').Perm d) :
  Seek l f q now size by_ (L.map Rx.rt) ((gt d 0).br :: d'.map Bx.br) ∧ ∀ x ∈ d'.map Bx.br,cT (gt d 0).br.p x.p ≤ 0:=by
 refine ⟨h.seek.perm (by have:=hp.map Bx.br; rwa [List.map_cons] at this),fun x hx => ?_⟩
 obtain ⟨y,hy,rfl⟩:=List.mem_map.1 hx
 have h1:=heap_least h.heap (hp.mem_iff.1 (List.mem_cons_of_mem _ hy))
 rw [ahd_no] at h1
 have h2:=cmpR_anti2 (gt d 0) y
 show cmpR (gt d 0).t (gt d 0).H y.t y.H ≤ 0
 omega
theorem RoutesS.full {wr wc:World} {rv rv' v:Value} {L:List Rx} {d d':List Bx} (h:RoutesS l f q now size by_ w bl bf bq bn bs bb wb A n c km wr rv v L d) (hd:0 < d.length) (hp:(gt d 0 :: d').Perm d) (hr:RtRow wc w.heap.size rv' (L ++ [(gt d 0).rx])) (hk:L.length + 1 = km):RO wc w.heap.size rv' ((allR l f q now size by_).take km):=by
 obtain ⟨h1,h2⟩:=h.top hd hp
 have h3:=(h1.next h2).2
 rw [List.length_map,hk] at h3
 refine hr.ro ?_
 rw [← h3,List.map_append]
 rfl
theorem RoutesS.go {wr wd we:World} {rv rv' v vd:Value} {L:List Rx} {d d':List Bx} (h:RoutesS l f q now size by_ w bl bf bq bn bs bb wb A n c km wr rv v L d) (hwb:w.heap.size ≤ wb) (hn5:n ≤ 500) (hd:0 < d.length) (hp:(gt d 0 :: d').Perm d) (hk:L.length + 1 < km)
  (hbd:Below w.heap.size w wd) (hxd:Boxes wd bl bf bq bn bs bb A n c f q now size by_) (hvd:HB wd wb vd d') (hvn:∀ g,vd.ownBlock = some g → w.heap.size ≤ g) (hrd:RtRow wd w.heap.size rv' (L ++ [(gt d 0).rx])) (hrw:rv'.ownBlock ≠ some wb) (hrv:∀ g,rv'.ownBlock = some g → vd.ownBlock ≠ some g)
  (how:∀ x ∈ L ++ [(gt d 0).rx],x.offP wb) (hov:∀ x ∈ L ++ [(gt d 0).rx],∀ g,vd.ownBlock = some g → x.offP g) (hor:∀ x ∈ d',∀ g,rv'.ownBlock = some g → x.off g)
  (hG:PartG wd.heap.size wb vd d' (partsTo l f q now size by_ (gt d 0).br ((gt d 0).n - (gt d 0).r)) wd we):∃ v2 d2,RoutesS l f q now size by_ w bl bf bq bn bs bb wb A n c km we rv' v2 (L ++ [(gt d 0).rx]) d2:=by
 obtain ⟨v2,d2,h1,h2,h3,h4,h5,h6⟩:=hG
 obtain ⟨t1,t2⟩:=h.top hd hp
 have hgd:gt d 0 ∈ d:=gt_mem hd
 have hlen:(idsT (gt d 0).br.p).length = (gt d 0).n:=by
  show ((gt d 0).H.map Hp.id).length = _
  rw [List.length_map]
  exact (h.hb.row.ok _ hgd).hl
 have hS:Seek l f q now size by_ ((L ++ [(gt d 0).rx]).map Rx.rt) (d2.map Bx.br):=by
  have:=t1.go t2
  rw [hlen] at this
  rw [List.map_append]
  exact this.perm h3
 obtain ⟨pb1,pb2⟩:=parts_bans (l:=l) (f:=f) (q:=q) (now:=now) (size:=size) (by_:=by_) (b:=(gt d 0).br) ((gt d 0).n - (gt d 0).r)
 have hlp:=hp.length_eq
 rw [List.length_cons] at hlp
 have hle3:=h3.length_eq
 rw [List.length_map,List.length_append,List.length_map] at hle3
 have hfw:=h.few
 have hxn:=(h.hb.row.ok _ hgd).hn
 have hv2:∀ g,v2.ownBlock = some g → vd.ownBlock = some g ∨ wd.heap.size ≤ g:=fun g hg => by
  rcases h6 with h6 | ⟨k,hk,h6⟩
  ·exact .inl (h6.symm.trans hg)
  ·rw [h6] at hg; injection hg with hg; subst hg; exact .inr hk
 have hLok:∀ x ∈ L ++ [(gt d 0).rx],x.ok wd:=hrd.ok
 refine ⟨v2,d2,below_kept hbd (Nat.le_refl _) h5 (fun k hk => ?_),hxd.apart hvd h5,h1,h2,fun g hg => ?_,hS,by rw [List.length_append]; exact hk,?_,fun b hb => ?_,hrd.kept h5 (fun x hx g hg => ?_) (fun g hg hc => ?_),how,fun x hx g hg => ?_,fun x hx g hg => ?_⟩
 ·rcases hk with rfl | hk
  ·exact hwb
  ·exact hvn k hk
 ·rcases hv2 g hg with h | h
  ·exact hvn g h
  ·exact Nat.le_trans hbd.size h
 ·rw [List.length_append,List.length_singleton]
  omega
 ·have hm:=h3.mem_iff.1 (List.mem_map_of_mem (f:=Bx.br) hb)
  rw [List.length_append,List.length_singleton]
  rcases List.mem_append.1 hm with hm | hm
  ·obtain ⟨k1,k2⟩:=pb2 _ hm
   obtain ⟨g1,g2⟩:=h.bans _ hgd
   have hok:=(h.seek.ok (gt d 0).br (List.mem_map_of_mem hgd)).mem.1
   refine ⟨by have e1:b.br.bans.length = b.bans.length:=rfl; have e2:(gt d 0).br.bans.length = (gt d 0).bans.length:=rfl; omega,fun m hm => ?_⟩
   rcases k2 m hm with h7 | h7 | rfl
   ·exact g2 m h7
   ·exact rtok_wf hok m h7
   ·decide
  ·obtain ⟨y,hy,e⟩:=List.mem_map.1 hm
   obtain ⟨g1,g2⟩:=h.bans y (hp.mem_iff.1 (List.mem_cons_of_mem _ hy))
   have e1:y.bans = b.bans:=congrArg Br.bans e
   rw [← e1]
   exact ⟨by omega,g2⟩
 ·rcases hg with rfl | hg
  ·exact how x hx
  ·exact hov x hx g hg
 ·rcases hc with rfl | hc
  ·exact hrw hg
  ·exact hrv g hg hc
 ·rcases hv2 g hg with h8 | h8
  ·exact hov x hx g h8
  ·exact (hLok x hx).offP_new h8
 ·rcases h4 x hx with h8 | h8
  ·exact hor x h8 g hg
  ·exact h8.off (hrd.row.lt g hg).2
end
end Go.Proofs.YtodcoockhkghdaaGreat
namespace Go.Proofs.YtodcoockhkghdaaGreat
open Go.ChangeShapes Go.WideShapes Go.ChangeAt Go.RowKit Go.Sort Go.Maps Bp
set_option linter.unusedSimpArgs false
set_option linter.unusedVariables false
def RoutesP (w:World) (R:List Rtp) (e:Ending) (w':World):Prop:=∃ v,e = .returned v ∧ RO w' w.heap.size v R ∧ Below w.heap.size w w'
theorem own_apart {w:World} {b b':Nat} {e e':TypeId} {s s' n n':Nat} {v v':Value} {xs xs':List Value} (h:w.ownsRow b e s v n xs) (h':w.ownsRow b' e' s' v' n' xs') (hne:e ≠ e'):∀ g,v.ownBlock = some g → v'.ownBlock ≠ some g:=fun g hg hc => by
 rcases h.2 with ⟨rfl,_⟩ | ⟨g1,_,_,rfl,_,h1,_⟩
 ·cases hg
 ·rcases h'.2 with ⟨rfl,_⟩ | ⟨g2,_,_,rfl,_,h2,_⟩
  ·cases hc
  ·simp only [Value.ownBlock,Option.some.injEq] at hg hc
   subst hg hc
   rw [h1] at h2
   injection h2 with h2
   injection h2 with _ h3
   exact hne h3
theorem HB.keptR {S:Nat → Prop} {w w':World} {wb:Nat} {v:Value} {d:List Bx} (h:HB w wb v d) (hk:Kept S w w') (h1:¬ S wb) (h2:∀ g,v.ownBlock = some g → ¬ S g) (h3:∀ x ∈ d,∀ g,S g → x.off g):HB w' wb v d:=
 ⟨h.head.kept hk h1,h.row.kept hk h3 h2,h.off⟩
set_option maxHeartbeats 8000000 in
set_option maxRecDepth 100000 in
theorem broutes_any (A:Option Addr) (n c:Nat) (l:List Ed) (f q now size by_ k:Int) (w:World) (hd:l.length = n) (hn:n ≤ 500) (hk:k ≤ 800) (hle:Sl w w.heap.size 8 A n c (flatEd l)) :
  Calls Tryz.prog 39 #[.slice A n c,.int .i64 f,.int .i64 q,.int .i64 now,.int .i64 size,.int .i64 by_,.int .i64 k] w (RoutesP w ((allR l f q now size by_).take k.toNat)):=by
 by_cases hk1:k < 1
 ·have hk0:k.toNat = 0:=by omega
  rw [hk0,List.take_zero]
  clear hk0 hd hle
  go_enter Tryz.func39,Tryz.ntmps39
  go_wp2
  go_ret
  exact ⟨_,rfl,RO.nil _ _,by (repeat (first | exact Below.refl _ _ | refine Below.alloc ?_ (by first | omega | (simp; done) | (simp; omega)) _ | refine Below.setCell ?_ (by first | omega | (simp; done) | (simp; omega)) _ | refine Below.drew ?_))⟩
 obtain ⟨km,rfl⟩:∃ km:Nat,k = (km:Int):=⟨k.toNat,by omega⟩
 have hkm1:1 ≤ km:=by omega
 have hkm2:km ≤ 800:=by omega
 rw [Int.toNat_natCast]
 have hk2:decide ((km:Int) < 1) = false:=decide_eq_false hk1
 have hk3:¬ km < 1:=by omega
 clear hk hk1
 have HD:=Lib.hid hd
 have HLE:=Lib.hid (fun w' (hb:Below w.heap.size w w') => hle.up hb)
 have HLB:=Lib.hid (show 0 < n → ∀ ad,A = some ad → ad.block < w.heap.size from fun h0 ad e => hle.off_new h0 e)
 clear hd hle
 obtain ⟨B,hB⟩:∃ z,w.heap.size = z:=⟨_,rfl⟩

 obtain ⟨w1,hw1⟩:∃ z,w.alloc (.cells #[.slice A n c] 47) = z:=⟨_,rfl⟩
 have n0:Blok w1 B 47 #[.slice A n c]:=by have h:=Blok.new w 47 #[.slice A n c]; rw [hw1,hB] at h; exact h
 have s1:w1.heap.size = B + 1:=by rw [← hw1]; simp [hB]
 have hb:Below w.heap.size w w1:=hw1 ▸ (Below.refl _ _).alloc (Nat.le_refl _) _
 obtain ⟨w2,hw2⟩:∃ z,w1.alloc (.cells #[.int .i64 f] 3) = z:=⟨_,rfl⟩
 have n1:Blok w2 (B + 1) 3 #[.int .i64 f]:=by have h:=Blok.new w1 3 #[.int .i64 f]; rw [hw2,s1] at h; exact h
 have s2:w2.heap.size = B + 2:=by rw [← hw2]; simp [s1]
 replace hb:Below w.heap.size w w2:=hw2 ▸ hb.alloc hb.size _
 replace n0:=hw2 ▸ n0.alloc (.cells #[.int .i64 f] 3)
 obtain ⟨w3,hw3⟩:∃ z,w2.alloc (.cells #[.int .i64 q] 3) = z:=⟨_,rfl⟩
 have n2:Blok w3 (B + 2) 3 #[.int .i64 q]:=by have h:=Blok.new w2 3 #[.int .i64 q]; rw [hw3,s2] at h; exact h
 have s3:w3.heap.size = B + 3:=by rw [← hw3]; simp [s2]
 replace hb:Below w.heap.size w w3:=hw3 ▸ hb.alloc hb.size _
 replace n0:=hw3 ▸ n0.alloc (.cells #[.int .i64 q] 3)
 replace n1:=hw3 ▸ n1.alloc (.cells #[.int .i64 q] 3)
 obtain ⟨w4,hw4⟩:∃ z,w3.alloc (.cells #[.int .i64 now] 3) = z:=⟨_,rfl⟩
 have n3:Blok w4 (B + 3) 3 #[.int .i64 now]:=by have h:=Blok.new w3 3 #[.int .i64 now]; rw [hw4,s3] at h; exact h
 have s4:w4.heap.size = B + 4:=by rw [← hw4]; simp [s3]
 replace hb:Below w.heap.size w w4:=hw4 ▸ hb.alloc hb.size _
 replace n0:=hw4 ▸ n0.alloc (.cells #[.int .i64 now] 3)
 replace n1:=hw4 ▸ n1.alloc (.cells #[.int .i64 now] 3)
 replace n2:=hw4 ▸ n2.alloc (.cells #[.int .i64 now] 3)
 obtain ⟨w5,hw5⟩:∃ z,w4.alloc (.cells #[.int .i64 size] 3) = z:=⟨_,rfl⟩
 have n4:Blok w5 (B + 4) 3 #[.int .i64 size]:=by have h:=Blok.new w4 3 #[.int .i64 size]; rw [hw5,s4] at h; exact h
 have s5:w5.heap.size = B + 5:=by rw [← hw5]; simp [s4]
 replace hb:Below w.heap.size w w5:=hw5 ▸ hb.alloc hb.size _
 replace n0:=hw5 ▸ n0.alloc (.cells #[.int .i64 size] 3)
 replace n1:=hw5 ▸ n1.alloc (.cells #[.int .i64 size] 3)
 replace n2:=hw5 ▸ n2.alloc (.cells #[.int .i64 size] 3)
 replace n3:=hw5 ▸ n3.alloc (.cells #[.int .i64 size] 3)
 obtain ⟨w6,hw6⟩:∃ z,w5.alloc (.cells #[.int .i64 by_] 3) = z:=⟨_,rfl⟩
 have n5:Blok w6 (B + 5) 3 #[.int .i64 by_]:=by have h:=Blok.new w5 3 #[.int .i64 by_]; rw [hw6,s5] at h; exact h
 have s6:w6.heap.size = B + 6:=by rw [← hw6]; simp [s5]
 replace hb:Below w.heap.size w w6:=hw6 ▸ hb.alloc hb.size _
 replace n0:=hw6 ▸ n0.alloc (.cells #[.int .i64 by_] 3)
 replace n1:=hw6 ▸ n1.alloc (.cells #[.int .i64 by_] 3)
 replace n2:=hw6 ▸ n2.alloc (.cells #[.int .i64 by_] 3)
 replace n3:=hw6 ▸ n3.alloc (.cells #[.int .i64 by_] 3)
 replace n4:=hw6 ▸ n4.alloc (.cells #[.int .i64 by_] 3)
 obtain ⟨w7,hw7⟩:∃ z,w6.alloc (.cells #[.slice none 0 0] 117) = z:=⟨_,rfl⟩
 have n6:Blok w7 (B + 6) 117 #[.slice none 0 0]:=by have h:=Blok.new w6 117 #[.slice none 0 0]; rw [hw7,s6] at h; exact h
 have s7:w7.heap.size = B + 7:=by rw [← hw7]; simp [s6]
 replace hb:Below w.heap.size w w7:=hw7 ▸ hb.alloc hb.size _
 replace n0:=hw7 ▸ n0.alloc (.cells #[.slice none 0 0] 117)
 replace n1:=hw7 ▸ n1.alloc (.cells #[.slice none 0 0] 117)
 replace n2:=hw7 ▸ n2.alloc (.cells #[.slice none 0 0] 117)
 replace n3:=hw7 ▸ n3.alloc (.cells #[.slice none 0 0] 117)
 replace n4:=hw7 ▸ n4.alloc (.cells #[.slice none 0 0] 117)
 replace n5:=hw7 ▸ n5.alloc (.cells #[.slice none 0 0] 117)
 have HX7:Hid (Boxes w7 B (B + 1) (B + 2) (B + 3) (B + 4) (B + 5) A n c f q now size by_):=⟨n0,n1,n2,n3,n4,n5⟩
 have H07:Hid (HB w7 (B + 6) (.slice none 0 0) []):=⟨n6,⟨World.ownsRow_nil _ _ _ _,fun x hx => (by cases hx),fun x hx => (by cases hx)⟩,fun x hx => (by cases hx)⟩
 have HB7:=Lib.hid hb
 have HBE:=Lib.hid hB
 clear n0 n1 n2 n3 n4 n5 n6 hb
 go_enter Tryz.func39,Tryz.ntmps39
 go_upto_region 5 with fail
 clear hw1 s1 hw2 s2 hw3 s3 hw4 s4 hw5 s5 hw6 s6 hw7 s7 hB
 go_wp2_with fail
 refine (look_any B (B + 1) (B + 2) (B + 3) (B + 4) (B + 5) (B + 6) w.heap.size A n c l f q now size by_ (.slice none 0 0) [] none 0 0 [] none 0 0 [] w7 HD.out (by omega) rfl (by omega) (fun k hk => by omega) rfl (by omega) (fun k hk => by omega) HX7.out (HLE.out _ HB7.out) (Sl.nil0 _ _ _) (Sl.nil0 _ _ _) H07.out (fun j hj h => by simp at h) (by simp) HB7.out.size (fun h => by omega) _ rfl).mono ?_
 rintro e w8 ⟨rfl,hG⟩
 have hwb:w.heap.size ≤ B + 6:=by have:=HBE.out; omega
 have HWB:=Lib.hid hwb
 obtain ⟨v8,d8,hS8⟩:=RoutesS.start hwb HB7.out HX7.out H07.out hkm1 hG
 obtain ⟨wb,hwbe⟩:∃ z,B + 6 = z:=⟨_,rfl⟩
 have HS8:=Lib.hid hS8
 rw [hwbe] at HS8 HWB
 try rw [hwbe]
 clear hG hwb hS8 HX7 H07 HB7 hwbe
 go_wp2_with fail
 go_loopw [17] (fun rv wr => ∃ v L d,RoutesS l f q now size by_ w B (B + 1) (B + 2) (B + 3) (B + 4) (B + 5) wb A n c km wr rv v L d) (fun rv _ => km - lenV rv)
 case atStart => exact ⟨v8,[],d8,HS8.out⟩
 case round =>
  clear HS8 v8 d8 w8
  obtain ⟨v,L,d,hS⟩:=hrel
  rename_i rv
  obtain ⟨Ar,cr,rfl⟩:=slice_of_own hS.row.row
  have hLk:L.length < km:=hS.lt
  by_cases hdd:d = []
  ·subst hdd
   obtain ⟨A',c',rfl⟩:=slice_of_own hS.hb.row.row
   have cb:=hS.hb.head.cell0
   have lb:=hS.hb.head.lt
   have HF:RoutesP w ((allR l f q now size by_).take km) (.returned (.slice Ar L.length cr)) wr:=⟨_,rfl,hS.done,hS.below⟩
   have HFF:=Lib.hid HF
   simp only [List.length_nil] at cb
   clear HF hS
   go_wp2
   go_ret
   exact HFF.out
  ·obtain ⟨m,hm⟩:∃ m,d.length = m + 1:=⟨d.length - 1,by cases d with | nil => exact absurd rfl hdd | cons a b => simp⟩
   obtain ⟨g,cg,rfl,hcap⟩:=own_posB hS.hb.row.row (by omega)
   rw [hm] at hS
   have hd0:0 < d.length:=by omega
   obtain ⟨x,hx⟩:∃ x,gt d 0 = x:=⟨_,rfl⟩
   have hxd:x ∈ d:=hx ▸ gt_mem hd0
   have hrow:BrRow wr 0 (.slice (some ⟨g,0,none⟩) d.length cg) d:=hm ▸ hS.hb.row
   have c0:wr.cell? ⟨g,0,none⟩ = some (.slice x.A x.n x.c):=by have h:=hrow.cell (k:=0) (j:=0) hd0 (by omega); rw [hx] at h; simpa [Bx.cs] using h
   have c1:wr.cell? ⟨g,1,none⟩ = some (.int .i64 x.t):=by have h:=hrow.cell (k:=0) (j:=1) hd0 (by omega); rw [hx] at h; simpa [Bx.cs] using h
   have c2:wr.cell? ⟨g,2,none⟩ = some (.int .i64 (x.r:Int)):=by have h:=hrow.cell (k:=0) (j:=2) hd0 (by omega); rw [hx] at h; simpa [Bx.cs] using h
   have c3:wr.cell? ⟨g,3,none⟩ = some (.slice x.Ab x.nb x.cb):=by have h:=hrow.cell (k:=0) (j:=3) hd0 (by omega); rw [hx] at h; simpa [Bx.cs] using h
   have cb:=hS.hb.head.cell0
   have lb:=hS.hb.head.lt
   have lg:g < wr.heap.size:=(hS.hb.row.row.lt g rfl).2
   have hmb:m < 900000:=by have:=hS.few; omega
   have HM:=Lib.hid hm
   have HXE:=Lib.hid hx
   have HXD:=Lib.hid hxd
   have HS:=Lib.hid hS
   obtain ⟨wA,hwA⟩:∃ z,wr.alloc (.cells #[.slice x.A x.n x.c,.int .i64 x.t,.int .i64 (x.r:Int),.slice x.Ab x.nb x.cb] 122) = z:=⟨_,rfl⟩
   have hbA:Below wr.heap.size wr wA:=hwA ▸ (Below.refl _ _).alloc (Nat.le_refl _) _
   have hXA:Blok wA wr.heap.size 122 #[.slice x.A x.n x.c,.int .i64 x.t,.int .i64 (x.r:Int),.slice x.Ab x.nb x.cb]:=hwA ▸ Blok.new wr _ _
   have HPOP:=Lib.hid (hpop_any wb g cg m d wA hm hmb (hS.hb.below hbA) hS.heap)
   obtain ⟨nb,hnb⟩:∃ z,wr.heap.size = z:=⟨_,rfl⟩
   rw [hnb] at hXA
   have HXA:=Lib.hid hXA
   have HBA:=Lib.hid hbA
   have HNB:=Lib.hid hnb
   clear hrow hm hx hxd hS hbA hXA hdd hd0 hcap
   go_upto_region 9 with fail
   clear c0 c1 c2 c3 cb lb hwA hnb
   go_wp2_with fail
   refine HPOP.out.mono ?_
   rintro e wB ⟨rfl,d',hHB,hl',hp',hh',hK'⟩
   rw [HXE.out] at hp'
   have hlw:=HS.out.hb.head.lt
   have hXB:=HXA.out.kept hK' (fun hc => by have:=HNB.out; rcases hc with h | h <;> omega)
   have hne1:=own_apart HS.out.row.row HS.out.hb.row.row (by decide)
   have hne2:=Blok.ne_own HS.out.row.row HS.out.hb.head (by decide)
   have hrB:RtRow wB w.heap.size (.slice Ar L.length cr) L:=(HS.out.row.below HBA.out).kept hK' (fun y hy g' hg => by
    rcases hg with rfl | rfl
    ·exact HS.out.offw y hy
    ·exact HS.out.offv y hy _ rfl) (fun g' hg hc => by
    rcases hc with rfl | rfl
    ·exact hne2 hg
    ·exact hne1 _ hg rfl)
   have hbB:Below w.heap.size w wB:=below_kept (HS.out.below.trans (HBA.out.mono HS.out.below.size)) (Nat.le_refl _) hK' (fun k hk => by
    rcases hk with rfl | rfl
    ·exact HWB.out
    ·exact HS.out.vnew _ rfl)
   have hxB:=(HS.out.box.below HBA.out).apart (HS.out.hb.below HBA.out) (hK'.trans (S':=fun _ => False) (Kept.refl _ _) (fun _ _ h => h.elim) |> fun (h:Kept (fun k => k = wb ∨ k = g) wA wB) => ⟨h.os,h.tape,h.output,h.size,fun k hk hn => h.block k hk (fun e => hn (by rcases e with e | e; exact .inl e; exact .inr (by rw [e]; rfl)))⟩)
   obtain ⟨i0,hi0,hz0,hz1,hz2⟩:=info_parts infoRh
   have z0:wB.cell? ⟨nb,0,none⟩ = some (.slice x.A x.n x.c):=hXB.cell 0
   have z1:wB.cell? ⟨nb,1,none⟩ = some (.int .i64 x.t):=hXB.cell 1
   have zl:=hXB.lt
   have HRB:=Lib.hid hrB
   have HBB:=Lib.hid hbB
   have HHB:=Lib.hid hHB
   have HXB:=Lib.hid hXB
   have HBXB:=Lib.hid hxB
   have HP:=Lib.hid hp'
   have HHH:=Lib.hid hh'
   have HL':=Lib.hid hl'
   have hlL:L.length ≤ 1000:=by omega
   have hwsB:w.heap.size ≤ wB.heap.size:=hbB.size
   have hxoB:x.ok wB:=((HS.out.hb.row.ok x HXD.out).below HBA.out).kept hK' (fun g' hg => by
    rcases hg with rfl | rfl
    ·exact HS.out.hb.off x HXD.out
    ·exact HS.out.hb.row.off x HXD.out _ rfl)
   have HXO:=Lib.hid hxoB
   clear HPOP hHB hl' hp' hh' hK' hXB hrB hbB hxB hne1 hne2 hlw hxoB
   go_upto_region 11 with (first | (at_builtin; refine wpList_append_own_at _ rfl (.tmp 32) (.tmp 35) 37 rfl w.heap.size 31 i0 _ 2 32 Tryz.underlying37 hi0 hz0 hz1 hz2 rfl (by decide) (.slice Ar L.length cr) L.length (flatRh (hdRx L)) rfl (HRB.out.row.alloc _) ⟨wB.heap.size,0,none⟩ 1 1 [.slice x.A x.n x.c,.int .i64 x.t] rfl rfl (by exact lit_cells _ #[.slice x.A x.n x.c,.int .i64 x.t] _ _ rfl) (by simp [Value.oneCell']) (by unfold maxLen; omega) (by omega) (by simp; omega) ?_; intro v1 wC hown1 hg1 hx1 hat1))
   clear z0 z1 zl hi0 hz0 hz1 hz2 hx1
   have hg1':Kept (fun k => (Value.slice Ar L.length cr).ownBlock = some k) wB wC:=((Kept.refl _ wB).alloc _).grow_ hg1 (fun i _ h => h)
   have hwsC:=hg1'.size
   have hrw:∀ g',(Value.slice Ar L.length cr).ownBlock = some g' → w.heap.size ≤ g':=fun g' hg => (HRB.out.row.lt g' hg).1
   have hnB1:=own_apart HHB.out.row.row HRB.out.row (by decide)
   have hnB2:=Blok.ne_own HRB.out.row HHB.out.head (by decide)
   have hHC:HB wC wb (.slice (some ⟨g,0,none⟩) m cg) d':=HHB.out.keptR hg1' hnB2 (fun g' hg hc => hnB1 g' hg hc) (fun y hy g' hg => HS.out.offr y (HP.out.mem_iff.1 (List.mem_cons_of_mem _ hy)) g' hg)
   have hbox:∀ (b':Nat) (T:TypeId) (cs:Array Value),Blok wB b' T cs → 31 ≠ T → ¬ (Value.slice Ar L.length cr).ownBlock = some b':=fun b' T cs hb hT => Blok.ne_own HRB.out.row hb hT
   have hxC:Boxes wC B (B + 1) (B + 2) (B + 3) (B + 4) (B + 5) A n c f q now size by_:=HBXB.out.kept hg1' (hbox _ _ _ HBXB.out.l (by decide)) (hbox _ _ _ HBXB.out.f (by decide)) (hbox _ _ _ HBXB.out.q (by decide)) (hbox _ _ _ HBXB.out.n (by decide)) (hbox _ _ _ HBXB.out.s (by decide)) (hbox _ _ _ HBXB.out.b (by decide))
   have hXC:=HXB.out.kept hg1' (hbox _ _ _ HXB.out (by decide))
   have hbC:Below w.heap.size w wC:=below_kept HBB.out (Nat.le_refl _) hg1' hrw
   have hxC':x.ok wC:=HXO.out.kept hg1' (fun g' hg => HS.out.offr x HXD.out g' hg)
   have hfl:flatRh (hdRx (L ++ [x.rx])) = flatRh (hdRx L) ++ [.slice x.A x.n x.c,.int .i64 x.t]:=by
    unfold hdRx
    rw [List.map_append,flatRh_append]
    rfl
   have hLl:(L ++ [x.rx]).length = L.length + 1:=by rw [List.length_append]; rfl
   have hal:∀ g',v1.ownBlock = some g' → (Value.slice Ar L.length cr).ownBlock = some g' ∨ wB.heap.size ≤ g':=fun g' hg => by
    rcases hat1 with h | h
    ·exact .inl (h.symm.trans hg)
    ·rw [h] at hg
     simp only [Option.some.injEq] at hg
     right
     rw [← hg]
     simp
   have hrC:RtRow wC w.heap.size v1 (L ++ [x.rx]):=by
    refine ⟨by rw [hLl,hfl]; exact hown1,fun y hy => ?_,fun y hy g' hg => ?_⟩
    ·rcases List.mem_append.1 hy with hy | hy
     ·exact (HRB.out.ok y hy).keptP hg1' (fun g' hg => HRB.out.off y hy g' hg)
     ·rw [List.mem_singleton.1 hy]; exact hxC'.rx
    ·rcases List.mem_append.1 hy with hy | hy
     ·rcases hal g' hg with h | h
      ·exact HRB.out.off y hy g' h
      ·exact (HRB.out.ok y hy).offP_new h
     ·rw [List.mem_singleton.1 hy]
      rcases hal g' hg with h | h
      ·exact (HS.out.offr x HXD.out g' h).rx
      ·exact HXO.out.rx.offP_new h
   have how:∀ y ∈ L ++ [x.rx],y.offP wb:=fun y hy => by
    rcases List.mem_append.1 hy with hy | hy
    ·exact HS.out.offw y hy
    ·rw [List.mem_singleton.1 hy]; exact (HS.out.hb.off x HXD.out).rx
   have hov:∀ y ∈ L ++ [x.rx],∀ g',(Value.slice (some ⟨g,0,none⟩) m cg).ownBlock = some g' → y.offP g':=fun y hy g' hg => by
    rcases List.mem_append.1 hy with hy | hy
    ·exact HS.out.offv y hy g' hg
    ·rw [List.mem_singleton.1 hy]; exact (HS.out.hb.row.off x HXD.out g' hg).rx
   have hor:∀ y ∈ d',∀ g',v1.ownBlock = some g' → y.off g':=fun y hy g' hg => by
    rcases hal g' hg with h | h
    ·exact HS.out.offr y (HP.out.mem_iff.1 (List.mem_cons_of_mem _ hy)) g' h
    ·exact (HHB.out.row.ok y hy).off_new h
   have hrw1:=Blok.ne_own hrC.row hHC.head (by decide)
   have hrv1:=own_apart hrC.row hHC.row.row (by decide)
   have hdp:0 < d.length:=by have:=HM.out; omega
   have hPX:(gt d 0 :: d').Perm d:=by rw [HXE.out]; exact HP.out
   obtain ⟨g1,c1,rfl,hc1⟩:=own_posB hown1 (by omega)
   have hlI:((L.length:Nat):Int) + 1 = ((L.length + 1:Nat):Int):=by omega
   by_cases hkk:L.length + 1 = km
   ·have HF:RoutesP w ((allR l f q now size by_).take km) (.returned (.slice (some ⟨g1,0,none⟩) (L.length + 1) c1)) wC:=⟨_,rfl,HS.out.full hdp hPX (by rw [HXE.out]; exact hrC) hkk,hbC⟩
    have HFF:=Lib.hid HF
    have e1:(((L.length + 1:Nat):Int) == (km:Int)) = true:=by simp; omega
    have e2:(((L.length:Nat):Int) + 1 == (km:Int)) = true:=by simp; omega
    clear HF hkk hPX hrv1 hrw1 hor hov how hrC hal hLl hfl hxC' hbC hXC hxC hbox hHC hnB1 hnB2 hrw hwsC hg1' hg1 hown1 hat1 hdp hlI hc1
    go_wp2
    go_ret
    exact HFF.out
   ·have hlk2:L.length + 1 < km:=by omega
    have e1:(((L.length + 1:Nat):Int) == (km:Int)) = false:=by simp; omega
    have e2:(((L.length:Nat):Int) + 1 == (km:Int)) = false:=by simp; omega
    have hok:=HS.out.seek.ok x.br (List.mem_map_of_mem HXD.out)
    have hwH:=rtok_wf hok.mem.1
    have hbn:=HS.out.bans x HXD.out
    have hrn:x.r ≤ x.n:=by
     have h:=hok.le
     rw [← HXO.out.hl]
     have e:(idsT x.br.p).length = x.H.length:=by show (x.H.map Hp.id).length = _; rw [List.length_map]
     rw [e] at h
     exact h
    have hnb9:x.nb ≤ 90000:=by have h:=hbn.1; rw [HXO.out.bl] at h; omega
    have hsz9:d'.length + x.n < 900000:=by have h1:=HL'.out; have h2:=HXO.out.hn; have h3:=HS.out.few; have h4:=HM.out; omega
    have hlo9:0 < n → ∀ ad,A = some ad → ad.block ≠ wb ∧ (Value.slice (some ⟨g,0,none⟩) m cg).ownBlock ≠ some ad.block:=fun h0 ad e => by
     have h1:=HLB.out h0 ad e
     refine ⟨by have:=HWB.out; omega,fun hc => ?_⟩
     have:=HS.out.vnew _ hc
     omega
    have HPART:=Lib.hid (part_w B (B + 1) (B + 2) (B + 3) (B + 4) (B + 5) wb A n c l f q now size by_ (.slice (some ⟨g,0,none⟩) m cg) d' x.A x.n x.c x.t x.r x.Ab x.nb x.cb x.H x.bans wC HD.out (by omega) hxC (HLE.out _ hbC) hlo9 hHC HHH.out hsz9 hxC' hrn hwH hbn.2 hnb9)
    have HGO:=Lib.hid (fun wE (hG:PartG wC.heap.size wb (.slice (some ⟨g,0,none⟩) m cg) d' (partsTo l f q now size by_ x.br (x.n - x.r)) wC wE) => HS.out.go (wd:=wC) (we:=wE) (vd:=.slice (some ⟨g,0,none⟩) m cg) HWB.out hn hdp hPX hlk2 hbC hxC hHC (fun g' hg => HS.out.vnew g' hg) (by rw [HXE.out]; exact hrC) hrw1 hrv1 (by rw [HXE.out]; exact how) (by rw [HXE.out]; exact hov) hor (by rw [HXE.out]; exact hG))
    rw [HXE.out] at HGO
    have z0:wC.cell? ⟨nb,0,none⟩ = some (.slice x.A x.n x.c):=hXC.cell 0
    have z1:wC.cell? ⟨nb,1,none⟩ = some (.int .i64 x.t):=hXC.cell 1
    have z2:wC.cell? ⟨nb,2,none⟩ = some (.int .i64 (x.r:Int)):=hXC.cell 2
    have z3:wC.cell? ⟨nb,3,none⟩ = some (.slice x.Ab x.nb x.cb):=hXC.cell 3
    have zl:=hXC.lt
    clear hkk hPX hrv1 hrw1 hor hov how hrC hal hLl hfl hxC' hbC hXC hxC hbox hHC hnB1 hnB2 hrw hwsC hg1' hg1 hown1 hat1 hdp hok hwH hbn hrn hnb9 hsz9 hlo9 hlI hc1
    go_wp2_with fail
    clear z0 z1 z2 z3 zl
    refine HPART.out.mono ?_
    rintro e wE ⟨rfl,hG⟩
    obtain ⟨v2,d2,hS2⟩:=HGO.out wE hG
    have HS2:=Lib.hid hS2
    clear hS2 hG HPART HGO
    go_wp2_with fail
    go_roundw
    case rel => exact ⟨v2,L ++ [x.rx],d2,HS2.out⟩
    case measure => simp [lenV]; omega
theorem broutes_v (A:Option Addr) (n c:Nat) (l:List Ed) (f q now size by_ k:Int) (w:World) (hd:l.length = n) (hn:n ≤ 500) (hk:k ≤ 800) (hle:Sl w w.heap.size 8 A n c (flatEd l)) (R:List Rtp) (hR:(allR l f q now size by_).take k.toNat = R) (m:Nat) (hm:R.length = m) :
  Calls Tryz.prog 39 #[.slice A n c,.int .i64 f,.int .i64 q,.int .i64 now,.int .i64 size,.int .i64 by_,.int .i64 k] w fun e w' => ∃ Av cv,e = .returned (.slice Av m cv) ∧ RO w' w.heap.size (.slice Av m cv) R ∧ Below w.heap.size w w':=by
 refine (broutes_any A n c l f q now size by_ k w hd hn hk hle).mono ?_
 rintro e w' ⟨v,rfl,h,hb⟩
 rw [hR] at h
 obtain ⟨Av,cv,rfl⟩:=h.sl
 rw [hm] at h ⊢
 exact ⟨Av,cv,rfl,h,hb⟩
end Go.Proofs.YtodcoockhkghdaaGreat
