/- The best way on from a root: by all routes. Plain facts. -/
import Derived.Test.YtodcoockhkghdaaGreatGQ23
namespace Go.Proofs.YtodcoockhkghdaaGreat
open Go.ChangeShapes Go.WideShapes Go.ChangeAt Go.RowKit Go.Sort Go.Maps Hp
set_option linter.unusedSimpArgs false
set_option linter.unusedVariables false
/-- Do these IDs go on from root, not by one of bans next? -/
def goesB (root bans ids:List Int):Bool:=root.isPrefixOf ids && (match ids.drop root.length with | [] => true | i :: _ => !bans.contains i)
theorem goesB_spec {root bans ids:List Int}:goesB root bans ids = true ↔ ∃ r,ids = root ++ r ∧ ∀ i ∈ r.head?,i ∉ bans:=by
 unfold goesB
 rw [Bool.and_eq_true,List.isPrefixOf_iff_prefix]
 constructor
 ·rintro ⟨⟨r,rfl⟩,h⟩
  refine ⟨r,rfl,fun i hi => ?_⟩
  rw [List.drop_left] at h
  cases r with
  | nil => cases hi
  | cons j s =>
   have:j = i:=by simpa using hi
   subst this
   intro hc
   have h':(!bans.contains j) = true:=h
   rw [List.contains_iff_mem.2 hc] at h'
   cases h'
 ·rintro ⟨r,rfl,h⟩
  refine ⟨⟨r,rfl⟩,?_⟩
  rw [List.drop_left]
  cases r with
  | nil => rfl
  | cons j s =>
   have h1:=h j (by simp)
   show (!bans.contains j) = true
   cases hc:bans.contains j with
   | false => rfl
   | true => exact absurd (List.contains_iff_mem.1 hc) h1
/-- Without the edges of bans from that node. -/
def withoutE (l:List Ed) (node:Int) (bans:List Int):List Ed:=l.filter fun e => !(e.fr == node && bans.contains e.id)
theorem rightE_iff {l:List Ed}:rightE l = true ↔ (∀ e ∈ l,e.ok = true) ∧ l.Pairwise (fun a b => a.id < b.id):=by
 constructor
 ·intro h
  refine ⟨fun e he => rightE_ok h he,List.pairwise_iff_getElem.2 fun i j hi hj hij => ?_⟩
  have:=rightE_lt h j i hij hj
  rw [gEd_eq hi,gEd_eq hj] at this
  exact this
 ·rintro ⟨h1,h2⟩
  rw [rightE_true]
  intro i hi
  unfold stepE
  rw [Bool.and_eq_true]
  refine ⟨by rw [gEd_eq hi]; exact h1 _ (List.getElem_mem _),?_⟩
  rcases Nat.eq_zero_or_pos i with rfl | h0
  ·rfl
  ·rw [Bool.or_eq_true]
   refine .inr (decide_eq_true ?_)
   rw [gEd_eq hi,gEd_eq (show i - 1 < l.length by omega)]
   exact List.pairwise_iff_getElem.1 h2 (i - 1) i (by omega) hi (by omega)
theorem rightE_without {l:List Ed} {node:Int} {bans:List Int} (h:rightE l = true):rightE (withoutE l node bans) = true:=by
 obtain ⟨h1,h2⟩:=rightE_iff.1 h
 exact rightE_iff.2 ⟨fun e he => h1 e (List.mem_filter.1 he).1,h2.filter _⟩
theorem without_len (l:List Ed) (node:Int) (bans:List Int):(withoutE l node bans).length ≤ l.length:=List.length_filter_le _ _
theorem mem_without {l:List Ed} {node:Int} {bans:List Int} {e:Ed}:e ∈ withoutE l node bans ↔ e ∈ l ∧ (e.fr = node → e.id ∉ bans):=by
 unfold withoutE
 rw [List.mem_filter]
 constructor
 ·rintro ⟨h1,h2⟩
  refine ⟨h1,fun hf hc => ?_⟩
  rw [beq_iff_eq.2 hf,List.contains_iff_mem.2 hc] at h2
  cases h2
 ·rintro ⟨h1,h2⟩
  refine ⟨h1,?_⟩
  cases hf:(e.fr == node) with
  | false => rfl
  | true =>
   cases hc:bans.contains e.id with
   | false => rfl
   | true => exact absurd (List.contains_iff_mem.1 hc) (h2 (beq_iff_eq.1 hf))
/-- The best way on: of all routes that go on so. -/
def spurEs (l:List Ed) (root bans:List Int) (f q now size by_:Int):Option (List Ed × Int):=
 if askE l f now size = true then minE ((growE l size [] q l.length [f] f now).filter fun x => decide (x.2 ≤ by_) && goesB root bans (x.1.map Ed.id)) else none
def spurX (l:List Ed) (root bans:List Int) (f q now size by_:Int):Option (List Hp × Int):=(spurEs l root bans f q now size by_).map fun x => (hopsE size now x.1,x.2)
/-- The best one of all that go on so. -/
structure Spur1 (l:List Ed) (root bans:List Int) (f q now size by_:Int) (es:List Ed) (a:Int):Prop where
 rte:IsRte l f q now size [] es a
 le:a ≤ by_
 goes:goesB root bans (es.map Ed.id) = true
 min:∀ es' u',IsRte l f q now size [] es' u' → u' ≤ by_ → goesB root bans (es'.map Ed.id) = true → cmpL (keyE a es) (keyE u' es') ≤ 0
section
variable {l:List Ed} {root bans:List Int} {f q now size by_:Int}
theorem spurEs_some {x:List Ed × Int} (h:spurEs l root bans f q now size by_ = some x):askE l f now size = true ∧ Spur1 l root bans f q now size by_ x.1 x.2:=by
 unfold spurEs at h
 split at h
 ·rename_i ha
  obtain ⟨h1,h2⟩:=minE_some h
  obtain ⟨h3,h4⟩:=List.mem_filter.1 h1
  rw [Bool.and_eq_true] at h4
  refine ⟨ha,rte_iff.2 h3,of_decide_eq_true h4.1,h4.2,fun es' u' hr hu hg => h2 (es',u') (List.mem_filter.2 ⟨rte_iff.1 hr,?_⟩)⟩
  rw [Bool.and_eq_true]
  exact ⟨decide_eq_true hu,hg⟩
 ·cases h
theorem spurEs_none (h:spurEs l root bans f q now size by_ = none) (ha:askE l f now size = true) {es:List Ed} {u:Int} (hr:IsRte l f q now size [] es u) (hg:goesB root bans (es.map Ed.id) = true):by_ < u:=by
 unfold spurEs at h
 rw [if_pos ha] at h
 have h1:=minE_none h
 rcases Int.lt_or_le by_ u with h2 | h2
 ·exact h2
 ·have:(es,u) ∈ (growE l size [] q l.length [f] f now).filter fun x => decide (x.2 ≤ by_) && goesB root bans (x.1.map Ed.id):=List.mem_filter.2 ⟨rte_iff.1 hr,by rw [Bool.and_eq_true]; exact ⟨decide_eq_true h2,hg⟩⟩
  rw [h1] at this
  cases this
theorem Spur1.one (hre:rightE l = true) {es es':List Ed} {a a':Int} (h:Spur1 l root bans f q now size by_ es a) (h':Spur1 l root bans f q now size by_ es' a'):es = es' ∧ a = a':=by
 have h1:=h.min es' a' h'.rte h'.le h'.goes
 have h2:=h'.min es a h.rte h.le h.goes
 have h3:=cmpL_anti (keyE a es) (keyE a' es')
 have h4:(es,a) = (es',a'):=key_inj hre h.rte.mem h'.rte.mem (show cmpL (keyE a es) (keyE a' es') = 0 by omega)
 injection h4 with h5 h6
 exact ⟨h5,h6⟩
theorem spurX_of {es:List Ed} {a:Int} (ha:askE l f now size = true) (h:Spur1 l root bans f q now size by_ es a):spurX l root bans f q now size by_ = some (hopsE size now es,a):=by
 unfold spurX
 cases hb:spurEs l root bans f q now size by_ with
 | none =>
  have:=spurEs_none hb ha h.rte h.goes
  have:=h.le
  omega
 | some x =>
  obtain ⟨_,h3⟩:=spurEs_some hb
  obtain ⟨h4,h5⟩:=h3.one (askE_spec.1 ha).2.2.2 h
  rw [Option.map_some,h4,h5]
theorem spurX_no (h:askE l f now size = true → ∀ es u,IsRte l f q now size [] es u → goesB root bans (es.map Ed.id) = true → by_ < u):spurX l root bans f q now size by_ = none:=by
 unfold spurX
 cases hb:spurEs l root bans f q now size by_ with
 | none => rfl
 | some x =>
  obtain ⟨ha,h3⟩:=spurEs_some hb
  have:=h ha x.1 x.2 h3.rte h3.goes
  have:=h3.le
  omega
theorem spurX_some {p:List Hp × Int} (h:spurX l root bans f q now size by_ = some p):askE l f now size = true ∧ ∃ es,p.1 = hopsE size now es ∧ Spur1 l root bans f q now size by_ es p.2:=by
 unfold spurX at h
 cases hb:spurEs l root bans f q now size by_ with
 | none => rw [hb] at h; cases h
 | some x =>
  rw [hb] at h
  injection h with h
  subst h
  obtain ⟨ha,h1⟩:=spurEs_some hb
  exact ⟨ha,x.1,rfl,h1⟩
theorem spurX_none (h:spurX l root bans f q now size by_ = none) (ha:askE l f now size = true) {es:List Ed} {u:Int} (hr:IsRte l f q now size [] es u) (hg:goesB root bans (es.map Ed.id) = true):by_ < u:=by
 unfold spurX at h
 cases hb:spurEs l root bans f q now size by_ with
 | none => exact spurEs_none hb ha hr hg
 | some x => rw [hb] at h; cases h
theorem nodesE_app (n:Int) (a b:List Ed):nodesE n (a ++ b) = nodesE n a ++ b.map Ed.tn:=by
 unfold nodesE
 rw [List.map_append]; rfl
theorem hopsE_app {size:Int} {no:Int → Bool} {u m:Int} {b:List Ed}:∀ {a:List Ed} {n t:Int},runE size no n t a = some (m,u) → hopsE size t (a ++ b) = hopsE size t a ++ hopsE size u b
 | [],n,t,h => by
  injection h with h
  injection h with h1 h2
  subst h2
  rfl
 | e :: r,n,t,h => by
  obtain ⟨s,x,hf,hn,hp,hr⟩:=runE_cons h
  rw [List.cons_append,hopsE_cons hp,hopsE_cons hp,hopsE_app hr]; rfl
theorem cmpL_app:∀ (a b c:List Int),cmpL (a ++ b) (a ++ c) = cmpL b c
 | [],b,c => rfl
 | x :: a,b,c => by rw [List.cons_append,List.cons_append,cmp_same]; exact cmpL_app a b c
theorem key_app {u u':Int} {es rs rs':List Ed}:cmpL (keyE u (es ++ rs)) (keyE u' (es ++ rs')) = cmpL (keyE u rs) (keyE u' rs'):=by
 unfold keyE
 have e:cmpI ((es ++ rs).length:Int) ((es ++ rs').length:Int) = cmpI (rs.length:Int) (rs'.length:Int):=by
  unfold cmpI
  rw [List.length_append,List.length_append]
  repeat' split
  all_goals omega
 simp only [cmpL,e,List.map_append,cmpL_app]
theorem fr_at {no:Int → Bool}:∀ {es:List Ed} {n t:Int} {x:Int × Int},runE size no n t es = some x → ∀ e ∈ es,e.fr = n ∨ e.fr ∈ es.map Ed.tn
 | [],n,t,x,h,e,he => by cases he
 | d :: r,n,t,x,h,e,he => by
  obtain ⟨s,a,hf,hn,hp,hr⟩:=runE_cons h
  rcases List.mem_cons.1 he with rfl | he
  ·exact .inl hf
  ·rcases fr_at hr e he with h1 | h1
   ·exact .inr (by rw [h1]; simp)
   ·exact .inr (by rw [List.map_cons]; exact List.mem_cons_of_mem _ h1)
/-- Where only the first edge is from n. -/
theorem fr_tail {no:Int → Bool} {d:Ed} {r:List Ed} {n t:Int} {x:Int × Int} (h:runE size no n t (d :: r) = some x) (hnd:(nodesE n (d :: r)).Nodup):∀ e ∈ r,e.fr ≠ n:=fun e he hc => by
 obtain ⟨s,a,hf,hn,hp,hr⟩:=runE_cons h
 have h0:n ∉ (d :: r).map Ed.tn:=(List.nodup_cons.1 (show (n :: (d :: r).map Ed.tn).Nodup from hnd)).1
 rcases fr_at hr e he with h1 | h1
 ·exact h0 (by rw [← hc,h1]; simp)
 ·exact h0 (by rw [← hc,List.map_cons]; exact List.mem_cons_of_mem _ h1)
/-- A route that goes on from es0: what is behind it. -/
theorem split_rte {es0 rs:List Ed} {m a0 u:Int} (h0:runE size freeE f now es0 = some (m,a0)) (h:IsRte l f q now size [] (es0 ++ rs) u) :
  IsRte l m q a0 size ((nodesE f es0).take es0.length) rs u:=by
 have hm:(nodesE f es0).getD es0.length 0 = m:=by
  have:∀ {es:List Ed} {n t:Int} {x:Int × Int},runE size freeE n t es = some x → (nodesE n es).getD es.length 0 = x.1:=by
   intro es
   induction es with
   | nil => intro n t x h; injection h with h; subst h; rfl
   | cons e r ih =>
    intro n t x h
    obtain ⟨s,a,hf,hn,hp,hr⟩:=runE_cons h
    rw [nodesE_cons,List.length_cons,List.getD_cons_succ]
    exact ih hr
  exact this h0
 have hnd:=h.nd
 rw [nodesE_app] at hnd
 obtain ⟨n1,n2,n3⟩:=List.nodup_append.1 hnd
 have hmem:m ∈ nodesE f es0:=by
  rw [← hm,List.getD_eq_getElem?_getD,List.getElem?_eq_getElem (by rw [nodesE_len]; omega)]
  exact List.getElem_mem _
 refine ⟨fun e he => h.mem e (List.mem_append.2 (.inr he)),List.nodup_cons.2 ⟨fun hc => n3 m hmem m hc rfl,n2⟩,fun y hy hc => n3 y (List.mem_of_mem_take hc) y hy rfl,?_⟩
 have hr:=h.run
 rw [runE_join h0] at hr
 exact hr
theorem join_rte {es0 rs:List Ed} {m a0 u:Int} (hm0:∀ e ∈ es0,e ∈ l) (h0:runE size freeE f now es0 = some (m,a0)) (hnd0:(nodesE f es0).Nodup) (hlast:(nodesE f es0).getD es0.length 0 = m) (h:IsRte l m q a0 size ((nodesE f es0).take es0.length) rs u):IsRte l f q now size [] (es0 ++ rs) u:=by
 refine ⟨fun e he => ?_,?_,(fun _ _ hy => by cases hy),by rw [runE_join h0]; exact h.run⟩
 ·rcases List.mem_append.1 he with h1 | h1
  ·exact hm0 e h1
  ·exact h.mem e h1
 ·rw [nodesE_app]
  have h2:=List.nodup_cons.1 (show (m :: rs.map Ed.tn).Nodup from h.nd)
  refine List.nodup_append.2 ⟨hnd0,h2.2,fun x hx y hy hxy => ?_⟩
  subst hxy
  have h3:nodesE f es0 = (nodesE f es0).take es0.length ++ [m]:=by
   have h4:es0.length < (nodesE f es0).length:=by rw [nodesE_len]; omega
   have h5:=List.take_append_drop es0.length (nodesE f es0)
   rw [List.drop_eq_getElem_cons h4,List.drop_of_length_le (by rw [nodesE_len]; omega)] at h5
   have h6:(nodesE f es0)[es0.length]'h4 = m:=by
    rw [← hlast,List.getD_eq_getElem?_getD,List.getElem?_eq_getElem h4]; rfl
   rw [h6] at h5
   exact h5.symm
  rw [h3] at hx
  rcases List.mem_append.1 hx with h1 | h1
  ·exact h.no x hy h1
  ·have:x = m:=by simpa using h1
   subst this
   exact h2.1 hy
theorem IsRte.sub {l':List Ed} {sh:List Int} {es:List Ed} {u:Int} (h:IsRte l f q now size sh es u) (hs:∀ e ∈ es,e ∈ l'):IsRte l' f q now size sh es u:=⟨hs,h.nd,h.no,h.run⟩
theorem without_rte {sh:List Int} {es:List Ed} {u:Int}:IsRte (withoutE l f bans) f q now size sh es u ↔ IsRte l f q now size sh es u ∧ ∀ i ∈ (es.map Ed.id).head?,i ∉ bans:=by
 constructor
 ·intro h
  refine ⟨h.sub fun e he => (mem_without.1 (h.mem e he)).1,fun i hi => ?_⟩
  cases es with
  | nil => cases hi
  | cons e r =>
   have:e.id = i:=by simpa using hi
   subst this
   obtain ⟨s,a,hf,_⟩:=runE_cons h.run
   exact (mem_without.1 (h.mem e (List.mem_cons_self ..))).2 hf
 ·rintro ⟨h,hb⟩
  refine h.sub fun e he => mem_without.2 ⟨h.mem e he,fun hf => ?_⟩
  cases es with
  | nil => cases he
  | cons d r =>
   rcases List.mem_cons.1 he with rfl | he
   ·exact hb e.id (by simp)
   ·exact absurd hf (fr_tail h.run h.nd e he)
/-- What spur.Route reckons. -/
def spurF (l:List Ed) (root bans:List Int) (f q now size by_:Int):Option (List Hp × Int):=
 match endsE l root f with
 | none => none
 | some ns => match routeE l root f (ns.getD (ns.length - 1) 0) now size with
  | none => none
  | some b => if by_ < b.2 then none else if ns.getD (ns.length - 1) 0 = q then some b else
   match bestX (withoutE l (ns.getD (ns.length - 1) 0) bans) (ns.getD (ns.length - 1) 0) q b.2 size by_ (ns.take (ns.length - 1)) with
   | none => none
   | some r => some (b.1 ++ r.1,r.2)
theorem rte_prefix (hre:rightE l = true) {es:List Ed} {u:Int} (h:IsRte l f q now size [] es u) {root r:List Int} (hi:es.map Ed.id = root ++ r):∃ es0 rs m a0,es = es0 ++ rs ∧ es0.map Ed.id = root ∧ rs.map Ed.id = r ∧ (∀ e ∈ es0,e ∈ l) ∧ runE size freeE f now es0 = some (m,a0) ∧ (nodesE f es0).Nodup ∧ a0 ≤ u:=by
 have h1:es = es.take root.length ++ es.drop root.length:=(List.take_append_drop _ _).symm
 have h2:(es.take root.length).map Ed.id = root:=by rw [List.map_take,hi,List.take_left]
 have h3:(es.drop root.length).map Ed.id = r:=by rw [List.map_drop,hi,List.drop_left]
 have hr:=h.run
 rw [h1] at hr
 obtain ⟨m,a0,h4,h5⟩:=runE_app hr
 refine ⟨_,_,m,a0,h1,h2,h3,fun e he => h.mem e (List.mem_of_mem_take he),h4,?_,runE_ge h5⟩
 have hnd:=h.nd
 rw [h1,nodesE_app] at hnd
 exact (List.nodup_append.1 hnd).1
theorem last_node {es:List Ed}:(nodesE f es).getD ((nodesE f es).length - 1) 0 = (nodesE f es).getD es.length 0:=by rw [nodesE_len]; rfl
theorem spurF_is:spurF l root bans f q now size by_ = spurX l root bans f q now size by_:=by
 unfold spurF
 obtain ⟨oe,hoe⟩:∃ o,endsE l root f = o:=⟨_,rfl⟩
 rw [hoe]
 cases oe with
 | none =>
  symm
  refine spurX_no fun ha es u hr hg => ?_
  exfalso
  obtain ⟨r,hi,_⟩:=goesB_spec.1 hg
  have hre:=(askE_spec.1 ha).2.2.2
  obtain ⟨es0,rs,m,a0,h1,h2,h3,h4,h5,h6,h7⟩:=rte_prefix hre hr hi
  have:=endsE_of (askE_ends ha) (runE_follow hre h4 h5).1
  rw [h2,hoe] at this
  cases this
 | some ns =>
  simp only
  obtain ⟨node,hnode⟩:∃ z,ns.getD (ns.length - 1) 0 = z:=⟨_,rfl⟩
  rw [hnode]
  -- the edges of the root
  obtain ⟨es0,hf0,hns⟩:∃ es0,followE l root f = some es0 ∧ ns = nodesE f es0:=by
   unfold endsE at hoe
   split at hoe
   ·cases hf:followE l root f with
    | none => rw [hf] at hoe; cases hoe
    | some es => rw [hf] at hoe; injection hoe with hoe; exact ⟨es,rfl,hoe.symm⟩
   ·cases hoe
  have hids0:=followE_ids hf0
  have hlast:(nodesE f es0).getD es0.length 0 = node:=by rw [← hnode,hns,last_node]
  have huniq:rightE l = true → ∀ {es1:List Ed},(∀ e ∈ es1,e ∈ l) → es1.map Ed.id = root → es1 = es0:=fun hre es1 hm1 hi1 => ids_inj hre hm1 (followE_mem hf0) (by rw [hi1,hids0])
  obtain ⟨ob,hob⟩:∃ o,routeE l root f node now size = o:=⟨_,rfl⟩
  rw [hob]
  cases ob with
  | none =>
   symm
   refine spurX_no fun ha es u hr hg => ?_
   exfalso
   obtain ⟨r,hi,_⟩:=goesB_spec.1 hg
   have hre:=(askE_spec.1 ha).2.2.2
   obtain ⟨es1,rs,m,a0,h1,h2,h3,h4,h5,h6,h7⟩:=rte_prefix hre hr hi
   obtain rfl:=huniq hre h4 h2
   have hm:m = node:=by rw [← hlast]; exact (runE_follow hre h4 h5).2.2.2.symm
   subst hm
   have hR:IsRte l f m now size [] es1 a0:=⟨h4,h6,(fun _ _ hy => by cases hy),h5⟩
   have hnb:nodeB m = true:=by
    unfold nodeB inB
    exact decide_eq_true (runE_in255 (askE_spec.1 ha).1 h5)
   have:=hR.route ha hnb
   rw [h2,hob] at this
   cases this
  | some b =>
   simp only
   obtain ⟨es1,hR,hi1,hb1,ha,hnb⟩:=rte_of_route hob
   have hre:=(askE_spec.1 ha).2.2.2
   obtain rfl:=huniq hre hR.mem hi1
   by_cases hby:by_ < b.2
   ·rw [if_pos hby]
    symm
    refine spurX_no fun _ es u hr hg => ?_
    obtain ⟨r,hi,_⟩:=goesB_spec.1 hg
    obtain ⟨es2,rs,m,a0,h1,h2,h3,h4,h5,h6,h7⟩:=rte_prefix hre hr hi
    obtain rfl:=huniq hre h4 h2
    have:=hR.run
    rw [h5] at this
    injection this with this
    injection this with _ e2
    omega
   ·rw [if_neg hby]
    by_cases hq:node = q
    ·rw [if_pos hq]
     subst hq
     symm
     have hS:Spur1 l root bans f node now size by_ es1 b.2:=by
      refine ⟨hR,by omega,goesB_spec.2 ⟨[],by rw [hi1]; simp,fun i hi => by cases hi⟩,fun es' u' hr' hu' hg' => ?_⟩
      obtain ⟨r,hi,_⟩:=goesB_spec.1 hg'
      obtain ⟨es2,rs,m,a0,h1,h2,h3,h4,h5,h6,h7⟩:=rte_prefix hre hr' hi
      obtain rfl:=huniq hre h4 h2
      have h8:=hR.run
      rw [h5] at h8
      injection h8 with h8
      injection h8 with e1 e2
      subst e1 e2
      have h9:=split_rte h5 (by rw [← h1]; exact hr')
      have h10:rs = [] ∧ u' = b.2:=by
       rcases runE_mem h9.run with ⟨g1,_,g3⟩ | g1
       ·exact ⟨g1,g3⟩
       ·exact absurd g1 (List.nodup_cons.1 (show (m :: rs.map Ed.tn).Nodup from h9.nd)).1
      obtain ⟨rfl,rfl⟩:=h10
      rw [h1,List.append_nil,cmpL_self]
      exact Int.le_refl _
     rw [spurX_of ha hS,← hb1]
    ·rw [if_neg hq]
     have htake:ns.take (ns.length - 1) = (nodesE f es1).take es1.length:=by rw [hns,nodesE_len]; rfl
     rw [htake]
     have hnn:node = node:=rfl
     obtain ⟨obx,hobx⟩:∃ o,bestX (withoutE l node bans) node q b.2 size by_ ((nodesE f es1).take es1.length) = o:=⟨_,rfl⟩
     rw [hobx]
     have ha2:askE (withoutE l node bans) node b.2 size = true:=by
      obtain ⟨q1,q2,q3,q4⟩:=askE_spec.1 ha
      refine askE_spec.2 ⟨runE_in255 q1 hR.run,⟨?_,?_⟩,q3,rightE_without q4⟩
      ·have:=runE_ge hR.run; omega
      ·exact runE_time q2.2 hR.run
     -- routes that go on, and what is behind the root
     have hto:∀ es u,IsRte l f q now size [] es u → goesB root bans (es.map Ed.id) = true → ∃ rs,es = es1 ++ rs ∧ IsRte (withoutE l node bans) node q b.2 size ((nodesE f es1).take es1.length) rs u:=fun es u hr hg => by
      obtain ⟨r,hi,hb⟩:=goesB_spec.1 hg
      obtain ⟨es2,rs,m,a0,h1,h2,h3,h4,h5,h6,h7⟩:=rte_prefix hre hr hi
      obtain rfl:=huniq hre h4 h2
      have h8:=hR.run
      rw [h5] at h8
      injection h8 with h8
      injection h8 with e1 e2
      subst e1 e2
      refine ⟨rs,h1,without_rte.2 ⟨split_rte h5 (by rw [← h1]; exact hr),?_⟩⟩
      rw [h3]; exact hb
     have hfro:∀ rs u,IsRte (withoutE l node bans) node q b.2 size ((nodesE f es1).take es1.length) rs u → IsRte l f q now size [] (es1 ++ rs) u ∧ goesB root bans ((es1 ++ rs).map Ed.id) = true:=fun rs u hr => by
      obtain ⟨h1,h2⟩:=without_rte.1 hr
      refine ⟨join_rte hR.mem hR.run hR.nd hlast h1,goesB_spec.2 ⟨rs.map Ed.id,by rw [List.map_append,hi1],h2⟩⟩
     cases obx with
     | none =>
      symm
      refine spurX_no fun _ es u hr hg => ?_
      obtain ⟨rs,_,h2⟩:=hto es u hr hg
      exact bestX_none hobx ha2 h2
     | some p =>
      obtain ⟨_,rs,h1,h2⟩:=bestX_some hobx
      obtain ⟨h3,h4⟩:=hfro rs p.2 h2.rte
      symm
      have hS:Spur1 l root bans f q now size by_ (es1 ++ rs) p.2:=by
       refine ⟨h3,h2.le,h4,fun es' u' hr' hu' hg' => ?_⟩
       obtain ⟨rs',rfl,h5⟩:=hto es' u' hr' hg'
       rw [key_app]
       exact h2.min rs' u' h5 hu'
      show spurX l root bans f q now size by_ = some (b.1 ++ p.1,p.2)
      rw [spurX_of ha hS,hopsE_app hR.run,← hb1,← h1]
theorem spurX_len {p:List Hp × Int} (h:spurX l root bans f q now size by_ = some p):p.1.length ≤ l.length:=by
 obtain ⟨ha,es,h1,h2⟩:=spurX_some h
 rw [h1,hopsE_length]
 exact h2.rte.len
end
end Go.Proofs.YtodcoockhkghdaaGreat
