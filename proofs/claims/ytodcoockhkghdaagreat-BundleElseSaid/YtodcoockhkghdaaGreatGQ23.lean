/- Several texts of mine in one: BestMath, Grow, RteV. No condition. -/
import Derived.Test.YtodcoockhkghdaaGreatGQ19
import Derived.Test.YtodcoockhkghdaaGreatGQ30
import Derived.Test.YtodcoockhkghdaaGreatGQ22
import Derived.Test.YtodcoockhkghdaaGreatPath5
namespace Go.Proofs.YtodcoockhkghdaaGreat
open Go.ChangeShapes Go.WideShapes Go.ChangeAt Go.RowKit Go.Sort Go.Maps Hp
set_option linter.unusedSimpArgs false
set_option linter.unusedVariables false
theorem runE_open {size:Int} {no:Int → Bool}:∀ {es:List Ed} {n t:Int} {x:Int × Int},runE size freeE n t es = some x → (∀ y ∈ es.map Ed.tn,no y = false) → runE size no n t es = some x
 | [],n,t,x,h,_ => h
 | e :: r,n,t,x,h,hn => by
  obtain ⟨s,a,hf,_,hp,hr⟩:=runE_cons h
  rw [runE_step hf (hn _ (by simp)) hp]
  exact runE_open hr (fun y hy => hn y (by rw [List.map_cons]; exact List.mem_cons_of_mem _ hy))
theorem runE_entered {size:Int} {no:Int → Bool}:∀ {es:List Ed} {n t:Int} {x:Int × Int},runE size no n t es = some x → ∀ y ∈ es.map Ed.tn,no y = false
 | [],n,t,x,h,y,hy => by cases hy
 | e :: r,n,t,x,h,y,hy => by
  obtain ⟨s,a,hf,hn,hp,hr⟩:=runE_cons h
  rw [List.map_cons] at hy
  rcases List.mem_cons.1 hy with rfl | hy
  ·exact hn
  ·exact runE_entered hr y hy
theorem runE_mem {size:Int} {no:Int → Bool}:∀ {es:List Ed} {n t m u:Int},runE size no n t es = some (m,u) → (es = [] ∧ m = n ∧ u = t) ∨ m ∈ es.map Ed.tn
 | [],n,t,m,u,h => by
  injection h with h
  injection h with h1 h2
  exact .inl ⟨rfl,h1.symm,h2.symm⟩
 | e :: r,n,t,m,u,h => by
  obtain ⟨s,a,hf,hn,hp,hr⟩:=runE_cons h
  rcases runE_mem hr with ⟨rfl,rfl,_⟩ | h1
  ·exact .inr (by simp)
  ·exact .inr (by rw [List.map_cons]; exact List.mem_cons_of_mem _ h1)
structure IsRte (l:List Ed) (f q now size:Int) (sh:List Int) (es:List Ed) (u:Int):Prop where
 mem:∀ e ∈ es,e ∈ l
 nd:(nodesE f es).Nodup
 no:∀ y ∈ es.map Ed.tn,y ∉ sh
 run:runE size freeE f now es = some (q,u)
def keyE (a:Int) (es:List Ed):List Int:=a :: (es.length:Int) :: es.map Ed.id
theorem hopsE_ids (size:Int):∀ (t:Int) (es:List Ed),(hopsE size t es).map Hp.id = es.map Ed.id
 | _,[] => rfl
 | t,e :: r => by rw [hopsE,List.map_cons,List.map_cons,hopsE_ids]
theorem keyR_hops (a size t:Int) (es:List Ed):keyR a (hopsE size t es) = keyE a es:=by
 unfold keyR keyE
 rw [hopsE_length,hopsE_ids]
theorem lexI_cmp:∀ {a b:List Int},lexI a b → cmpL a b ≤ 0
 | [],[],_ => by simp [cmpL]
 | [],_ :: _,_ => by simp [cmpL]
 | _ :: _,[],h => absurd h (by simp [lexI])
 | x :: r,y :: s,h => by
  rw [cmpL]
  rcases h with h | ⟨rfl,h⟩
  ·rw [if_neg (by have:=cmpI_neg.2 h; omega)]
   have:=cmpI_neg.2 h; omega
  ·rw [if_pos (cmpI_eq x)]
   exact lexI_cmp h
theorem cmp_first {a b:Int} {x y:List Int} (h:a < b):cmpL (a :: x) (b :: y) < 0:=by
 rw [cmpL,if_neg (by have:=cmpI_neg.2 h; omega)]
 exact cmpI_neg.2 h
theorem cmp_same {a:Int} {x y:List Int}:cmpL (a :: x) (a :: y) = cmpL x y:=by
 rw [cmpL,if_pos (cmpI_eq a)]
structure Best1 (l:List Ed) (f q now size by_:Int) (sh:List Int) (es:List Ed) (a:Int):Prop where
 rte:IsRte l f q now size sh es a
 le:a ≤ by_
 min:∀ es' u',IsRte l f q now size sh es' u' → u' ≤ by_ → cmpL (keyE a es) (keyE u' es') ≤ 0
section
variable {l:List Ed} {f q now size by_:Int} {sh:List Int}
theorem IsRte.early {es:List Ed} {u:Int} {r:List (Int × Int)} (hT:IsTimes l f now size sh r) (ha:askE l f now size = true) (h:IsRte l f q now size sh es u):∃ a,atR r q = some a ∧ a ≤ u:=by
 have hrun:runE size (shutE sh f) f now es = some (q,u):=runE_open h.run (fun y hy => by
  cases hc:shutE sh f y with
  | false => rfl
  | true =>
   exfalso
   have h1:(sh ++ [f]).contains y = true:=hc
   rw [List.contains_iff_mem] at h1
   rcases List.mem_append.1 h1 with h2 | h2
   ·exact h.no y hy h2
   ·have h3:y = f:=by simpa using h2
    subst h3
    exact (List.nodup_cons.1 h.nd).1 hy)
 exact (hT.yes ha).least _ _ ⟨es,h.mem,hrun⟩
theorem IsRte.late {es:List Ed} {u a:Int} (h:IsRte l f q now size sh es u) (hu:u ≤ a) (h0:0 ≤ a) (hb:a ≤ 1099511627776) {k:Nat} (hk:es.length ≤ k):∃ v,lateL l size (opn sh q) q a k f = some v ∧ now ≤ v:=
 lateL_complete hb h0 k h.mem hk (runE_open h.run (fun y hy => by
  have h1:sh.contains y = false:=by
   cases hc:sh.contains y with
   | false => rfl
   | true => exact absurd (List.contains_iff_mem.1 hc) (h.no y hy)
  show (!(y == q || !sh.contains y)) = false
  rw [h1]; simp)) hu
theorem best_spec {o:Option (List Hp × Int)} (h:IsBestR l f q now size by_ sh o):match o with
  | none => askE l f now size = true → ∀ es u,IsRte l f q now size sh es u → by_ < u
  | some p => askE l f now size = true ∧ ∃ es,p.1 = hopsE size now es ∧ Best1 l f q now size by_ sh es p.2:=by
 obtain ⟨r,hT,h⟩:=h
 obtain ⟨v0,hq⟩:∃ v0,atR r q = v0:=⟨_,rfl⟩
 rw [hq] at h
 cases v0 with
 | none =>
  simp only at h
  subst h
  intro ha es u hr
  obtain ⟨a,h1,_⟩:=hr.early hT ha
  rw [hq] at h1
  cases h1
 | some a =>
  simp only at h
  obtain ⟨hask,hqn,hge,ha40⟩:=hT.lim hq
  obtain ⟨hf,⟨hn0,hn1⟩,hsz,hre⟩:=askE_spec.1 hask
  by_cases hby:by_ < a
  ·rw [if_pos hby] at h
   subst h
   intro _ es u hr
   obtain ⟨a',h1,h2⟩:=hr.early hT hask
   rw [hq] at h1
   injection h1 with h1
   omega
  ·rw [if_neg hby] at h
   obtain ⟨g,hF,h⟩:=h
   obtain ⟨e0,hm0,hr0⟩:=(hT.yes hask).rch q a hq
   have hop0:∀ y ∈ e0.map Ed.tn,(!(opn sh q y)) = false:=fun y hy => by
    have h1:=runE_entered hr0 y hy
    have h2:sh.contains y = false:=by
     cases hc:sh.contains y with
     | false => rfl
     | true => rw [shutE_mem (List.contains_iff_mem.1 hc)] at h1; cases h1
    show (!(y == q || !sh.contains y)) = false
    rw [h2]; simp
   have hl0:∃ v,lateL l size (opn sh q) q a e0.length f = some v ∧ now ≤ v:=lateL_complete ha40 (by omega) e0.length hm0 (Nat.le_refl _) (runE_open (runE_free hr0) hop0) (Int.le_refl _)
   cases g with
   | none =>
    obtain ⟨v,hv,hle⟩:=hl0
    have:=hF e0.length v hv
    omega
   | some k =>
    simp only at h
    obtain ⟨es,hes,ho⟩:=h
    subst ho
    have hFA:=IsFew.few hn0 hF
    obtain ⟨es',uu,h1,hm,hlen,hrun,huu⟩:=bestE_is (by omega) ha40 k hFA
    rw [hes] at h1
    injection h1 with h1
    subst h1
    obtain ⟨hnd,_⟩:=bestE_apart (by omega) ha40 k hFA hes
    have hqs:q = f ∨ q ∉ sh:=by
     rcases runE_shut hr0 with h1 | h1
     ·exact .inl h1
     ·exact .inr (fun hc => by rw [shutE_mem hc] at h1; cases h1)
    have hno:∀ y ∈ es.map Ed.tn,y ∉ sh:=fun y hy hc => by
     have h1:=runE_entered hrun y hy
     have h2:opn sh q y = true:=by simpa using h1
     have h3:(y == q || !sh.contains y) = true:=h2
     rw [List.contains_iff_mem.2 hc] at h3
     have h4:y = q:=by simpa using h3
     subst h4
     rcases hqs with h5 | h5
     ·subst h5
      exact (List.nodup_cons.1 hnd).1 hy
     ·exact h5 hc
    have hR:IsRte l f q now size sh es uu:=⟨hm,hnd,hno,runE_free hrun⟩
    obtain ⟨a',h2,h3⟩:=hR.early hT hask
    rw [hq] at h2
    injection h2 with h2
    obtain rfl:uu = a:=by omega
    refine ⟨hask,es,rfl,hR,by omega,fun es' u' hR' hu' => ?_⟩
    obtain ⟨a'',h4,h5⟩:=hR'.early hT hask
    rw [hq] at h4
    injection h4 with h4
    subst h4
    show cmpL (uu :: _) (u' :: _) ≤ 0
    rcases Int.lt_or_le uu u' with h6 | h6
    ·have:=cmp_first (x:=(es.length:Int) :: es.map Ed.id) (y:=(es'.length:Int) :: es'.map Ed.id) h6; omega
    obtain rfl:uu = u':=by omega
    rw [cmp_same]
    have hk:k ≤ es'.length:=by
     obtain ⟨v,hv,hle⟩:=hR'.late (Int.le_refl _) (by omega) ha40 (Nat.le_refl _)
     rcases Nat.lt_or_ge es'.length k with h7 | h7
     ·have:=hF.2 es'.length h7 v hv; omega
     ·exact h7
    rcases Nat.lt_or_ge k es'.length with h7 | h7
    ·have:=cmp_first (a:=(es.length:Int)) (b:=(es'.length:Int)) (x:=es.map Ed.id) (y:=es'.map Ed.id) (by omega); omega
    have h8:es'.length = es.length:=by omega
    rw [h8,cmp_same]
    have hrun':runE size (fun y => !opn sh q y) f now es' = some (q,uu):=runE_open hR'.run (fun y hy => by
     have h1:sh.contains y = false:=by
      cases hc:sh.contains y with
      | false => rfl
      | true => exact absurd (List.contains_iff_mem.1 hc) (hR'.no y hy)
     show (!(y == q || !sh.contains y)) = false
     rw [h1]; simp)
    exact lexI_cmp (bestE_first hre (by omega) ha40 k hFA hes hR'.mem (by omega) hrun' (Int.le_refl _))
theorem runE_follow {no:Int → Bool} (hre:rightE l = true):∀ {es:List Ed} {n t:Int} {x:Int × Int},(∀ e ∈ es,e ∈ l) → runE size no n t es = some x → followE l (es.map Ed.id) n = some es ∧ passE size es t = some (hopsE size t es) ∧ arrE t (hopsE size t es) = x.2 ∧ (nodesE n es).getD es.length 0 = x.1
 | [],n,t,x,_,h => by
  injection h with h
  subst h
  exact ⟨rfl,rfl,rfl,rfl⟩
 | e :: r,n,t,x,hm,h => by
  obtain ⟨s,a,hf,hn,hp,hr⟩:=runE_cons h
  obtain ⟨h1,h2,h3,h4⟩:=runE_follow hre (fun y hy => hm y (List.mem_cons_of_mem _ hy)) hr
  have hfe:findE l e.id = some e:=by
   obtain ⟨i,hi,hie⟩:=mem_gEd (hm e (List.mem_cons_self ..))
   rw [← hie]
   exact findE_right hre hi
  refine ⟨?_,?_,?_,?_⟩
  ·rw [List.map_cons,followE_on hfe hf,h1]; rfl
  ·rw [passE_yes hp,h2,hopsE_cons hp]; rfl
  ·rw [hopsE_cons hp,arrE_cons]; exact h3
  ·rw [nodesE_cons,List.length_cons,List.getD_cons_succ]; exact h4
theorem IsRte.route {es:List Ed} {u:Int} (ha:askE l f now size = true) (hq:nodeB q = true) (h:IsRte l f q now size sh es u):routeE l (es.map Ed.id) f q now size = some (hopsE size now es,u):=by
 have hre:=(askE_spec.1 ha).2.2.2
 obtain ⟨h1,h2,h3,h4⟩:=runE_follow hre h.mem h.run
 have:=routeE_of ha hq h1 (leadE_spec.2 ⟨h.nd,by rw [nodesE_len]; exact h4⟩) h2
 rw [this,h3]
theorem run_follow {no:Int → Bool}:∀ {ids:List Int} {es:List Ed} {n t:Int} {hs:List Hp},followE l ids n = some es → passE size es t = some hs → (∀ y ∈ es.map Ed.tn,no y = false) → runE size no n t es = some ((nodesE n es).getD es.length 0,arrE t hs) ∧ hs = hopsE size t es
 | [],es,n,t,hs,h,hp,_ => by
  injection h with h
  subst h
  injection hp with hp
  subst hp
  exact ⟨rfl,rfl⟩
 | i0 :: r,es,n,t,hs,h,hp,hn => by
  obtain ⟨e,es',h1,h2,h3,rfl⟩:=followE_cons h
  obtain ⟨a,b,hs',g1,g2,rfl⟩:=passE_cons hp
  obtain ⟨i1,i2⟩:=run_follow (no:=no) h3 g2 (fun y hy => hn y (by rw [List.map_cons]; exact List.mem_cons_of_mem _ hy))
  refine ⟨?_,by rw [hopsE_cons g1,i2]⟩
  rw [runE_step h2 (hn _ (by simp)) g1,i1,nodesE_cons,List.length_cons,List.getD_cons_succ,arrE_cons]
theorem rte_of_route {ids:List Int} {p:List Hp × Int} (h:routeE l ids f q now size = some p):∃ es,IsRte l f q now size [] es p.2 ∧ es.map Ed.id = ids ∧ p.1 = hopsE size now es ∧ askE l f now size = true ∧ nodeB q = true:=by
 obtain ⟨es,hs,ha,hq,hf,hl,hp,rfl⟩:=routeE_some h
 obtain ⟨hnd,hlast⟩:=leadE_spec.1 hl
 obtain ⟨h1,h2⟩:=run_follow (no:=freeE) hf hp (fun _ _ => rfl)
 rw [nodesE_len] at hlast
 have hlast':(nodesE f es).getD es.length 0 = q:=hlast
 rw [hlast'] at h1
 exact ⟨es,⟨followE_mem hf,hnd,fun y _ hy => by (cases hy),h1⟩,followE_ids hf,h2,ha,hq⟩
end
end Go.Proofs.YtodcoockhkghdaaGreat
namespace Go.Proofs.YtodcoockhkghdaaGreat
open Go.ChangeShapes Go.WideShapes Go.ChangeAt Go.RowKit Go.Sort Go.Maps Hp
set_option linter.unusedSimpArgs false
set_option linter.unusedVariables false
def growE (l:List Ed) (size:Int) (sh:List Int) (q:Int):Nat → List Int → Int → Int → List (List Ed × Int)
 | 0,_,n,t => if n = q then [([],t)] else []
 | k + 1,vis,n,t => if n = q then [([],t)] else l.flatMap fun e => if e.fr = n ∧ e.tn ∉ vis ∧ e.tn ∉ sh then (match e.pass t size with | none => [] | some p => (growE l size sh q k (e.tn :: vis) e.tn p.2).map fun x => (e :: x.1,x.2)) else []
theorem growE_end {l:List Ed} {size:Int} {sh:List Int} {q t:Int} {vis:List Int}:∀ k,growE l size sh q k vis q t = [([],t)]
 | 0 => by rw [growE,if_pos rfl]
 | k + 1 => by rw [growE,if_pos rfl]
theorem growE_all {l:List Ed} {size:Int} {sh:List Int} {q:Int}:∀ (k:Nat) {es:List Ed} {vis:List Int} {n t u:Int},es.length ≤ k → (∀ e ∈ es,e ∈ l) → runE size freeE n t es = some (q,u) → (∀ y ∈ es.map Ed.tn,y ∉ vis ∧ y ∉ sh) → (nodesE n es).Nodup → (es,u) ∈ growE l size sh q k vis n t
 | k,[],vis,n,t,u,_,_,hr,_,_ => by
  injection hr with hr
  injection hr with h1 h2
  subst h1 h2
  rw [growE_end]; simp
 | 0,e :: r,vis,n,t,u,hk,_,_,_,_ => by simp at hk
 | k + 1,e :: r,vis,n,t,u,hk,hm,hr,hv,hnd => by
  have hq:n ≠ q:=fun h => by
   rcases runE_mem hr with ⟨h1,_⟩ | h1
   ·cases h1
   ·subst h
    exact (List.nodup_cons.1 hnd).1 h1
  obtain ⟨s,a,hf,_,hp,hr'⟩:=runE_cons hr
  have h0:=hv e.tn (by simp)
  rw [growE,if_neg hq]
  refine List.mem_flatMap.2 ⟨e,hm e (List.mem_cons_self ..),?_⟩
  rw [if_pos ⟨hf,h0⟩,hp]
  have hnd':(nodesE e.tn r).Nodup:=by rw [nodesE_cons] at hnd; exact (List.nodup_cons.1 hnd).2
  refine List.mem_map.2 ⟨(r,u),growE_all k (by simp at hk; omega) (fun x hx => hm x (List.mem_cons_of_mem _ hx)) hr' (fun y hy => ?_) hnd',rfl⟩
  have h1:=hv y (by rw [List.map_cons]; exact List.mem_cons_of_mem _ hy)
  refine ⟨fun hc => ?_,h1.2⟩
  rcases List.mem_cons.1 hc with rfl | hc
  ·exact (List.nodup_cons.1 hnd').1 hy
  ·exact h1.1 hc
theorem growE_is {l:List Ed} {size:Int} {sh:List Int} {q:Int}:∀ (k:Nat) {es:List Ed} {vis:List Int} {n t u:Int},(es,u) ∈ growE l size sh q k vis n t → (∀ e ∈ es,e ∈ l) ∧ runE size freeE n t es = some (q,u) ∧ (∀ y ∈ es.map Ed.tn,y ∉ vis ∧ y ∉ sh) ∧ (es.map Ed.tn).Nodup
 | 0,es,vis,n,t,u,h => by
  rw [growE] at h
  split at h
  ·rename_i hq
   rw [List.mem_singleton] at h
   injection h with h1 h2
   subst h1 h2 hq
   exact ⟨by simp,rfl,by simp,by simp⟩
  ·cases h
 | k + 1,es,vis,n,t,u,h => by
  rw [growE] at h
  split at h
  ·rename_i hq
   rw [List.mem_singleton] at h
   injection h with h1 h2
   subst h1 h2 hq
   exact ⟨by simp,rfl,by simp,by simp⟩
  ·obtain ⟨e,he,h⟩:=List.mem_flatMap.1 h
   split at h
   ·rename_i hc
    obtain ⟨hf,hv,hs⟩:=hc
    obtain ⟨op,hop⟩:∃ op,e.pass t size = op:=⟨_,rfl⟩
    rw [hop] at h
    cases op with
    | none => cases h
    | some p =>
     obtain ⟨⟨r,u'⟩,hx,hx2⟩:=List.mem_map.1 h
     injection hx2 with h1 h2
     subst h1
     have h2':u' = u:=h2
     subst h2'
     obtain ⟨i1,i2,i3,i4⟩:=growE_is k hx
     refine ⟨fun y hy => ?_,?_,fun y hy => ?_,?_⟩
     ·rcases List.mem_cons.1 hy with rfl | hy
      ·exact he
      ·exact i1 y hy
     ·have hop':e.pass t size = some (p.1,p.2):=hop
      rw [runE_step hf rfl hop']; exact i2
     ·rw [List.map_cons] at hy
      rcases List.mem_cons.1 hy with rfl | hy
      ·exact ⟨hv,hs⟩
      ·have:=i3 y hy
       exact ⟨fun hc => this.1 (List.mem_cons_of_mem _ hc),this.2⟩
     ·rw [List.map_cons]
      exact List.nodup_cons.2 ⟨fun hc => (i3 e.tn hc).1 (List.mem_cons_self ..),i4⟩
   ·cases h
theorem nodup_of_map {es:List Ed} (h:(es.map Ed.tn).Nodup):es.Nodup:=(List.Pairwise.of_map Ed.tn (fun _ _ hne e => hne (by rw [e])) h)
section
variable {l:List Ed} {f q now size by_:Int} {sh:List Int}
theorem IsRte.len {es:List Ed} {u:Int} (h:IsRte l f q now size sh es u):es.length ≤ l.length:=
 nodup_len (nodup_of_map (List.nodup_cons.1 (show (f :: es.map Ed.tn).Nodup from h.nd)).2) h.mem
theorem rte_iff {es:List Ed} {u:Int}:IsRte l f q now size sh es u ↔ (es,u) ∈ growE l size sh q l.length [f] f now:=by
 constructor
 ·intro h
  refine growE_all l.length h.len h.mem h.run (fun y hy => ⟨fun hc => ?_,h.no y hy⟩) h.nd
  have:y = f:=by simpa using hc
  subst this
  exact (List.nodup_cons.1 (show (y :: es.map Ed.tn).Nodup from h.nd)).1 hy
 ·intro h
  obtain ⟨h1,h2,h3,h4⟩:=growE_is l.length h
  exact ⟨h1,List.nodup_cons.2 ⟨fun hc => (h3 f hc).1 (by simp),h4⟩,fun y hy => (h3 y hy).2,h2⟩
end
def keyX (x:List Ed × Int):List Int:=keyE x.2 x.1
def minE:List (List Ed × Int) → Option (List Ed × Int)
 | [] => none
 | x :: r => match minE r with
  | none => some x
  | some y => if cmpL (keyX x) (keyX y) ≤ 0 then some x else some y
theorem minE_none:∀ {r:List (List Ed × Int)},minE r = none → r = []
 | [],_ => rfl
 | x :: r,h => by
  exfalso
  rw [minE] at h
  split at h
  ·cases h
  ·split at h <;> cases h
theorem minE_some:∀ {r:List (List Ed × Int)} {x:List Ed × Int},minE r = some x → x ∈ r ∧ ∀ y ∈ r,cmpL (keyX x) (keyX y) ≤ 0
 | [],x,h => by cases h
 | z :: r,x,h => by
  rw [minE] at h
  split at h
  ·rename_i hn
   injection h with h
   subst h
   rw [minE_none hn]
   refine ⟨by simp,fun y hy => ?_⟩
   rw [List.mem_singleton] at hy
   subst hy
   rw [cmpL_self]; exact Int.le_refl _
  ·rename_i y0 hy0
   obtain ⟨i1,i2⟩:=minE_some hy0
   split at h
   ·rename_i hc
    injection h with h
    subst h
    refine ⟨by simp,fun y hy => ?_⟩
    rcases List.mem_cons.1 hy with rfl | hy
    ·rw [cmpL_self]; exact Int.le_refl _
    ·exact cmpL_trans hc (i2 y hy)
   ·rename_i hc
    injection h with h
    subst h
    refine ⟨List.mem_cons_of_mem _ i1,fun y hy => ?_⟩
    rcases List.mem_cons.1 hy with rfl | hy
    ·have:=cmpL_anti (keyX y0) (keyX y); omega
    ·exact i2 y hy
def bestEs (l:List Ed) (f q now size by_:Int) (sh:List Int):Option (List Ed × Int):=
 if askE l f now size = true then minE ((growE l size sh q l.length [f] f now).filter fun x => decide (x.2 ≤ by_)) else none
def bestX (l:List Ed) (f q now size by_:Int) (sh:List Int):Option (List Hp × Int):=(bestEs l f q now size by_ sh).map fun x => (hopsE size now x.1,x.2)
section
variable {l:List Ed} {f q now size by_:Int} {sh:List Int}
theorem bestEs_some {x:List Ed × Int} (h:bestEs l f q now size by_ sh = some x):askE l f now size = true ∧ Best1 l f q now size by_ sh x.1 x.2:=by
 unfold bestEs at h
 split at h
 ·rename_i ha
  obtain ⟨h1,h2⟩:=minE_some h
  obtain ⟨h3,h4⟩:=List.mem_filter.1 h1
  refine ⟨ha,rte_iff.2 h3,of_decide_eq_true h4,fun es' u' hr hu => h2 (es',u') (List.mem_filter.2 ⟨rte_iff.1 hr,decide_eq_true hu⟩)⟩
 ·cases h
theorem bestEs_none (h:bestEs l f q now size by_ sh = none) (ha:askE l f now size = true) {es:List Ed} {u:Int} (hr:IsRte l f q now size sh es u):by_ < u:=by
 unfold bestEs at h
 rw [if_pos ha] at h
 have h1:=minE_none h
 rcases Int.lt_or_le by_ u with h2 | h2
 ·exact h2
 ·have:(es,u) ∈ (growE l size sh q l.length [f] f now).filter fun x => decide (x.2 ≤ by_):=List.mem_filter.2 ⟨rte_iff.1 hr,decide_eq_true h2⟩
  rw [h1] at this
  cases this
theorem ids_inj (hre:rightE l = true):∀ {es es':List Ed},(∀ e ∈ es,e ∈ l) → (∀ e ∈ es',e ∈ l) → es.map Ed.id = es'.map Ed.id → es = es'
 | [],[],_,_,_ => rfl
 | [],e :: r,_,_,h => by simp at h
 | e :: r,[],_,_,h => by simp at h
 | e :: r,e' :: r',h1,h2,h => by
  rw [List.map_cons,List.map_cons] at h
  injection h with h3 h4
  have hf:∀ x ∈ l,findE l x.id = some x:=fun x hx => by
   obtain ⟨i,hi,hie⟩:=mem_gEd hx
   rw [← hie]; exact findE_right hre hi
  have he:e = e':=by
   have g1:=hf e (h1 e (List.mem_cons_self ..))
   rw [h3,hf e' (h2 e' (List.mem_cons_self ..))] at g1
   injection g1 with g1
   exact g1.symm
  rw [he,ids_inj hre (fun x hx => h1 x (List.mem_cons_of_mem _ hx)) (fun x hx => h2 x (List.mem_cons_of_mem _ hx)) h4]
theorem key_inj (hre:rightE l = true) {x y:List Ed × Int} (h1:∀ e ∈ x.1,e ∈ l) (h2:∀ e ∈ y.1,e ∈ l) (h:cmpL (keyX x) (keyX y) = 0):x = y:=by
 have h3:=cmpL_zero h
 unfold keyX keyE at h3
 injection h3 with h4 h5
 injection h5 with _ h6
 exact Prod.ext (ids_inj hre h1 h2 h6) h4
theorem Best1.one (hre:rightE l = true) {es es':List Ed} {a a':Int} (h:Best1 l f q now size by_ sh es a) (h':Best1 l f q now size by_ sh es' a'):es = es' ∧ a = a':=by
 have h1:=h.min es' a' h'.rte h'.le
 have h2:=h'.min es a h.rte h.le
 have h3:=cmpL_anti (keyE a es) (keyE a' es')
 have h4:(es,a) = (es',a'):=key_inj hre h.rte.mem h'.rte.mem (show cmpL (keyE a es) (keyE a' es') = 0 by omega)
 injection h4 with h5 h6
 exact ⟨h5,h6⟩
theorem bestX_is {o:Option (List Hp × Int)} (h:IsBestR l f q now size by_ sh o):o = bestX l f q now size by_ sh:=by
 have hs:=best_spec h
 unfold bestX
 obtain ⟨b,hb⟩:∃ b,bestEs l f q now size by_ sh = b:=⟨_,rfl⟩
 rw [hb]
 cases o with
 | none =>
  cases b with
  | none => rfl
  | some x =>
   obtain ⟨ha,h1⟩:=bestEs_some hb
   have:=hs ha x.1 x.2 h1.rte
   have:=h1.le
   omega
 | some p =>
  obtain ⟨ha,es,h1,h2⟩:=hs
  cases b with
  | none =>
   have:=bestEs_none hb ha h2.rte
   have:=h2.le
   omega
  | some x =>
   obtain ⟨_,h3⟩:=bestEs_some hb
   obtain ⟨rfl,h5⟩:=h2.one (askE_spec.1 ha).2.2.2 h3
   rw [Option.map_some,← h1,← h5]
theorem bestX_some {p:List Hp × Int} (h:bestX l f q now size by_ sh = some p):askE l f now size = true ∧ ∃ es,p.1 = hopsE size now es ∧ Best1 l f q now size by_ sh es p.2:=by
 unfold bestX at h
 cases hb:bestEs l f q now size by_ sh with
 | none => rw [hb] at h; cases h
 | some x =>
  rw [hb] at h
  injection h with h
  subst h
  obtain ⟨ha,h1⟩:=bestEs_some hb
  exact ⟨ha,x.1,rfl,h1⟩
theorem bestX_none (h:bestX l f q now size by_ sh = none) (ha:askE l f now size = true) {es:List Ed} {u:Int} (hr:IsRte l f q now size sh es u):by_ < u:=by
 unfold bestX at h
 cases hb:bestEs l f q now size by_ sh with
 | none => exact bestEs_none hb ha hr
 | some x => rw [hb] at h; cases h
theorem bestX_len {p:List Hp × Int} (h:bestX l f q now size by_ sh = some p):p.1.length ≤ l.length:=by
 obtain ⟨ha,es,h1,h2⟩:=bestX_some h
 rw [h1,hopsE_length]
 exact h2.rte.len
end
end Go.Proofs.YtodcoockhkghdaaGreat
namespace Go.Proofs.YtodcoockhkghdaaGreat
open Go.ChangeShapes Go.WideShapes Go.ChangeAt Go.RowKit Go.Sort Go.Maps Hp
set_option linter.unusedSimpArgs false
set_option linter.unusedVariables false
theorem lroute_o (A:Option Addr) (n c:Nat) (l:List Ed) (f q now size by_:Int) (As:Option Addr) (ns cs:Nat) (sh:List Int) (w:World) (hd:l.length = n) (hn:n ≤ 1000) (hds:sh.length = ns) (hns:ns ≤ 100000) (hwf:∀ k,k < ns → (Lit.int .i64 (sh.getD k 0)).wf = true) (hle:Sl w w.heap.size 8 A n c (flatEd l)) (hls:Sl w w.heap.size 1 As ns cs (sh.map (Value.int .i64)))
  (o:Option (List Hp × Int)) (ho:bestX l f q now size by_ sh = o) (t:Int) (ht:bestV o = t) (H:List Hp) (hH:bestH o = H) (b:Bool) (hb:o.isSome = b) :
  Calls Tryz.prog 33 #[.slice A n c,.int .i64 f,.int .i64 q,.int .i64 now,.int .i64 size,.int .i64 by_,.slice As ns cs] w fun e w' => ∃ Av nv cv,e = .returned (.tuple #[.agg #[.slice Av nv cv,.int .i64 t],.bool b]) ∧ H.length = nv ∧ nv ≤ n ∧ w'.ownsRow w.heap.size 67 3 (.slice Av nv cv) nv (flatHp H) ∧ Below w.heap.size w w':=by
 subst ht hH hb
 refine (lroute_any A n c l f q now size by_ As ns cs sh w hd hn hds hns hwf hle hls).mono ?_
 rintro e w' ⟨v,o',hI,rfl,hv,hbw⟩
 obtain rfl:o' = o:=(bestX_is hI).trans ho
 obtain ⟨Av,cv,rfl⟩:=slice_of_own hv
 refine ⟨Av,_,cv,rfl,rfl,?_,hv,hbw⟩
 cases o' with
 | none => exact Nat.zero_le _
 | some p => rw [← hd]; exact bestX_len ho
theorem proute_o (A:Option Addr) (n c:Nat) (d:List Ed) (A':Option Addr) (m c':Nat) (ids:List Int) (q tt now size:Int) (w:World) (hd:d.length = n) (hn:n ≤ 1000000) (hi:ids.length = m) (hm:m ≤ 1000000 - 1) (hwf:∀ q,q < m → (Lit.int .i64 (ids.getD q 0)).wf = true) (h:Sl w w.heap.size 8 A n c (flatEd d)) (h':Sl w w.heap.size 1 A' m c' (ids.map (Value.int .i64))) (o:Option (List Hp × Int)) (ho:routeE d ids q tt now size = o) (hs:List Hp) (hhs:hopsO o = hs) (ar:Int) (har:arrO o = ar) (b:Bool) (hb:o.isSome = b) :
  Calls Tryz.prog 19 #[.slice A n c,.slice A' m c',.int .i64 q,.int .i64 tt,.int .i64 now,.int .i64 size] w fun e w' => ∃ Av nv cv,e = .returned (.tuple #[.agg #[.slice Av nv cv,.int .i64 ar],.bool b]) ∧ hs.length = nv ∧ nv ≤ m ∧ w'.ownsRow w.heap.size 67 3 (.slice Av nv cv) nv (flatHp hs) ∧ Below w.heap.size w w':=by
 subst hb
 refine (proute_any A n c d A' m c' ids q tt now size w hd hn hi hm hwf h h' o ho hs hhs ar har).mono ?_
 rintro e w' ⟨v,rfl,hv,hbw⟩
 obtain ⟨Av,cv,rfl⟩:=slice_of_own hv
 refine ⟨Av,_,cv,rfl,rfl,?_,hv,hbw⟩
 subst hhs
 cases o with
 | none => exact Nat.zero_le _
 | some p =>
  obtain ⟨es,hs,_,_,hf,_,hp,rfl⟩:=routeE_some ho
  show hs.length ≤ m
  rw [passE_len hp,followE_len hf,hi]
  exact Nat.le_refl _
theorem pids_v (A:Option Addr) (n c:Nat) (d:List Hp) (t:Int) (w:World) (hd:d.length = n) (hn:n ≤ 1000000) (h:Sl w w.heap.size 3 A n c (flatHp d)) (ids:List Int) (hi:d.map Hp.id = ids) :
  Calls Tryz.prog 27 #[.agg #[.slice A n c,.int .i64 t]] w fun e w' => ∃ Av cv,e = .returned (.slice Av n cv) ∧ ids.length = n ∧ Sl w' w'.heap.size 1 Av n cv (ids.map (Value.int .i64)) ∧ Below w.heap.size w w':=by
 subst hi
 refine (pids_any A n c d t w hd hn h).mono ?_
 rintro e w' ⟨v,rfl,hv,hbw⟩
 obtain ⟨Av,cv,rfl⟩:=slice_of_own hv
 exact ⟨Av,cv,rfl,by rw [List.length_map]; exact hd,Sl.of_own hv,hbw⟩
theorem pEnds_v (A:Option Addr) (n c:Nat) (d:List Ed) (A':Option Addr) (m c':Nat) (ids:List Int) (q:Int) (w:World) (hd:d.length = n) (hn:n ≤ 1000000) (hi:ids.length = m) (hm:m ≤ 1000000) (hwf:∀ q,q < m → (Lit.int .i64 (ids.getD q 0)).wf = true) (h:Sl w w.heap.size 8 A n c (flatEd d)) (h':Sl w w.heap.size 1 A' m c' (ids.map (Value.int .i64))) (o:Option (List Int)) (ho:endsE d ids q = o) (b:Bool) (hb:o.isSome = b) (r:List Int) (hr:o.getD [] = r) :
  Calls Tryz.prog 119 #[.slice A n c,.slice A' m c',.int .i64 q] w fun e w' => ∃ Av nv cv,e = .returned (.tuple #[.slice Av nv cv,.bool b]) ∧ r.length = nv ∧ nv ≤ m + 1 ∧ Sl w' w'.heap.size 1 Av nv cv (r.map (Value.int .i64)) ∧ Below w.heap.size w w':=by
 subst hb hr
 refine (pEnds_any A n c d A' m c' ids q w hd hn hi hm hwf h h' o ho).mono ?_
 rintro e w' ⟨v,rfl,hv,hbw⟩
 obtain ⟨Av,cv,rfl⟩:=slice_of_own hv
 refine ⟨Av,_,cv,rfl,rfl,?_,Sl.of_own hv,hbw⟩
 cases o with
 | none => exact Nat.zero_le _
 | some p =>
  unfold endsE at ho
  split at ho
  ·cases hf:followE d ids q with
   | none => rw [hf] at ho; cases ho
   | some es =>
    rw [hf] at ho
    injection ho with ho
    subst ho
    show (nodesE q es).length ≤ m + 1
    rw [nodesE_len,followE_len hf,hi]
    exact Nat.le_refl _
  ·cases ho
end Go.Proofs.YtodcoockhkghdaaGreat
