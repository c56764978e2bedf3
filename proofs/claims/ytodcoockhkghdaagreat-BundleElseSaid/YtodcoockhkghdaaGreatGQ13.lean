/- Several texts of mine in one: EarlyMath3, LateMath. No condition. -/
import Derived.Test.YtodcoockhkghdaaGreatGQ12
import Derived.Test.YtodcoockhkghdaaGreatGQ14
namespace Go.Proofs.YtodcoockhkghdaaGreat
open Go.ChangeShapes Go.WideShapes Go.ChangeAt Go.RowKit Go.Sort Hp
set_option linter.unusedSimpArgs false
set_option linter.unusedVariables false
def freeE:Int → Bool:=fun _ => false
theorem shutE_nil {q y:Int} (h:shutE [] q y = true):y = q:=by
 have h1:([q]:List Int).contains y = true:=h
 rw [List.contains_iff_mem] at h1
 simpa using h1
theorem shutE_mem {sh:List Int} {q y:Int} (h:y ∈ sh):shutE sh q y = true:=by
 show (sh ++ [q]).contains y = true
 rw [List.contains_iff_mem]; exact List.mem_append.2 (.inl h)
theorem Early.ge0 {l:List Ed} {size:Int} {no:Int → Bool} {q now:Int} {T:Int → Option Int} (h0:0 ≤ now) (h:Early l size no q now T):∀ n t,T n = some t → 0 ≤ t:=fun n t ht => by
 have:=(h.rch n t ht).ge
 omega
theorem Early.free {l:List Ed} {size:Int} {q now:Int} {T:Int → Option Int} (h0:0 ≤ now) (h:Early l size (shutE [] q) q now T):NoEdge l size freeE T:=by
 intro e he t s a ht _ hp
 by_cases hn:shutE [] q e.tn = true
 ·have e1:=shutE_nil hn
  have h1:=(h.rch _ _ ht).ge
  have h2:=pass_facts hp
  exact ⟨now,by rw [e1]; exact h.start,by omega⟩
 ·exact h.noEdge e he t s a ht (by simpa using hn) hp
theorem runE_free {size:Int} {no:Int → Bool}:∀ {es:List Ed} {n t:Int} {x:Int × Int},runE size no n t es = some x → runE size freeE n t es = some x
 | [],n,t,x,h => h
 | e :: r,n,t,x,h => by
  obtain ⟨s,a,hf,_,hp,hr⟩:=runE_cons h
  rw [runE_step hf rfl hp]
  exact runE_free hr
theorem Early.walk {l:List Ed} {size:Int} {no:Int → Bool} {q now n v t m u:Int} {T:Int → Option Int} {es:List Ed} (h0:0 ≤ now) (h:Early l size (shutE [] q) q now T) (hl:∀ e ∈ es,e ∈ l) (hv:T n = some v) (hle:v ≤ t) (hr:runE size no n t es = some (m,u)):∃ u',T m = some u' ∧ u' ≤ u:=
 noEdge_run (h.free h0) (h.ge0 h0) hl hv hle (runE_free hr)
theorem runE_less {size more:Int} {no:Int → Bool} (hs:0 ≤ size) (hm:size ≤ more):∀ {es:List Ed} {n t t' m u:Int},0 ≤ t' → t' ≤ t → runE more no n t es = some (m,u) → ∃ u',runE size no n t' es = some (m,u') ∧ u' ≤ u
 | [],n,t,t',m,u,h0,h1,h => by
  injection h with h; injection h with e1 e2
  subst e1 e2
  exact ⟨t',rfl,h1⟩
 | e :: r,n,t,t',m,u,h0,h1,h => by
  obtain ⟨s,a,hf,hn,hp,hr⟩:=runE_cons h
  obtain ⟨b,hp2,hle2,_,_,_,_,_,hb0,_⟩:=pass_less hs hm hp
  obtain ⟨s',a',hp',_,hle,h2,h3,_⟩:=pass_earlier h0 h1 hp2
  obtain ⟨u',hr',hu⟩:=runE_less hs hm (t':=a') (by omega) (by omega) hr
  exact ⟨u',by rw [runE_step hf hn hp']; exact hr',hu⟩
theorem runE_shut {size:Int} {no:Int → Bool}:∀ {es:List Ed} {n t m u:Int},runE size no n t es = some (m,u) → m = n ∨ no m = false
 | [],n,t,m,u,h => by injection h with h; injection h with e1 _; exact .inl e1.symm
 | e :: r,n,t,m,u,h => by
  obtain ⟨s,a,hf,hn,hp,hr⟩:=runE_cons h
  rcases runE_shut hr with h1 | h1
  ·exact .inr (by rw [h1]; exact hn)
  ·exact .inr h1
theorem runE_time {size:Int} {no:Int → Bool}:∀ {es:List Ed} {n t m u:Int},t ≤ 1099511627776 → runE size no n t es = some (m,u) → u ≤ 1099511627776
 | [],n,t,m,u,h0,h => by injection h with h; injection h with _ e2; omega
 | e :: r,n,t,m,u,h0,h => by
  obtain ⟨s,a,hf,hn,hp,hr⟩:=runE_cons h
  have h1:=pass_facts hp
  have h2:=(Ed.ok_spec.1 h1.1).2.2.2.2.2.1
  exact runE_time (by omega) hr
theorem nodup_len_int:∀ {es l:List Int},es.Nodup → (∀ e ∈ es,e ∈ l) → es.length ≤ l.length
 | [],l,_,_ => Nat.zero_le _
 | e :: r,l,hn,hl => by
  obtain ⟨hm,hr⟩:=List.nodup_cons.1 hn
  obtain ⟨pa,bs,hl2⟩:=List.append_of_mem (hl e (List.mem_cons_self ..))
  have h1:=nodup_len_int (l:=pa ++ bs) hr (fun x hx => by
   have h2:=hl x (List.mem_cons_of_mem _ hx)
   rw [hl2] at h2
   rcases List.mem_append.1 h2 with h3 | h3
   ·exact List.mem_append.2 (.inl h3)
   ·rcases List.mem_cons.1 h3 with h4 | h4
    ·exact absurd (h4 ▸ hx) hm
    ·exact List.mem_append.2 (.inr h4))
  rw [hl2]
  simp only [List.length_append,List.length_cons] at h1 ⊢
  omega
theorem IsTimes.ask {l:List Ed} {q now size:Int} {sh:List Int} {r:List (Int × Int)} (h:IsTimes l q now size sh r) {n t:Int} (ht:atR r n = some t):askE l q now size = true:=by
 cases ha:askE l q now size with
 | true => rfl
 | false => rw [h.no ha] at ht; cases ht
theorem IsTimes.start {l:List Ed} {q now size:Int} {sh:List Int} {r:List (Int × Int)} (h:IsTimes l q now size sh r) (ha:askE l q now size = true):atR r q = some now:=(h.yes ha).start
theorem IsTimes.pos {l:List Ed} {q now size:Int} {sh:List Int} {r:List (Int × Int)} (h:IsTimes l q now size sh r):0 < r.length ↔ askE l q now size = true:=by
 constructor
 ·intro h1
  cases ha:askE l q now size with
  | true => rfl
  | false => rw [h.no ha] at h1; simp at h1
 ·intro ha
  exact List.length_pos_of_mem (atR_mem (h.start ha))
end Go.Proofs.YtodcoockhkghdaaGreat
namespace Go.Proofs.YtodcoockhkghdaaGreat
open Go.ChangeShapes Go.WideShapes Go.ChangeAt Go.RowKit Go.Sort Hp
set_option linter.unusedSimpArgs false
set_option linter.unusedVariables false
theorem lat_sound {e:Ed} {b size x t:Int} (h:e.latest b size = some x) (h0:0 ≤ t) (h1:t ≤ x):∃ s a,e.pass t size = some (s,a) ∧ a ≤ b:=by
 obtain ⟨g1,g2,⟨s,a,hp,ha⟩,_⟩:=latest_facts h
 obtain ⟨s',a',hp',_,hle,_,_,_⟩:=pass_earlier h0 h1 hp
 exact ⟨s',a',hp',by omega⟩
theorem lat_complete {e:Ed} {b size s a t:Int} (hp:e.pass t size = some (s,a)) (ha:a ≤ b) (hb:b ≤ 1099511627776):∃ x,e.latest b size = some x ∧ t ≤ x:=by
 obtain ⟨p1,p2,p3,p4,rfl,rfl⟩:=pass_iff.1 hp
 have g:=Ed.asks_spec.1 p1
 have k:=Ed.ok_spec.1 g.1
 have hr:=k.2.2.2.2.2.2.1.1
 obtain ⟨c1,c2,c3,c4,c5⟩:=cdiv_bounds g.2.2.1 hr
 refine ⟨_,latest_iff.2 ⟨by rw [Ed.asks_spec]; exact ⟨g.1,by omega,by omega⟩,p2,?_,rfl⟩,?_⟩ <;> omega
theorem lat_ge {e:Ed} {b size x:Int} (h:e.latest b size = some x):0 ≤ x ∧ x ≤ b ∧ e.ok = true ∧ 0 ≤ b ∧ b ≤ 1099511627776:=by
 obtain ⟨g1,g2,g3,g4⟩:=latest_iff.1 h
 have g:=Ed.asks_spec.1 g1
 have k:=Ed.ok_spec.1 g.1
 have hr:=k.2.2.2.2.2.2.1.1
 obtain ⟨c1,c2,c3,c4,c5⟩:=cdiv_bounds g.2.2.1 hr
 exact ⟨by omega,by omega,g.1,by omega,by omega⟩
def leT (T T':Int → Option Int):Prop:=∀ n t,T n = some t → ∃ u,T' n = some u ∧ t ≤ u
theorem leT.refl (T:Int → Option Int):leT T T:=fun n t h => ⟨t,h,Int.le_refl _⟩
theorem leT.trans {T T' T'':Int → Option Int} (h:leT T T') (h':leT T' T''):leT T T'':=fun n t ht => by
 obtain ⟨u,hu,h1⟩:=h n t ht
 obtain ⟨v,hv,h2⟩:=h' n u hu
 exact ⟨v,hv,by omega⟩
theorem leT.antisymm {T T':Int → Option Int} (h:leT T T') (h':leT T' T):T = T':=by
 funext n
 cases hT:T n with
 | none =>
  cases hT':T' n with
  | none => rfl
  | some t => obtain ⟨u,hu,_⟩:=h' n t hT'; rw [hT] at hu; cases hu
 | some t =>
  obtain ⟨u,hu,h1⟩:=h n t hT
  obtain ⟨v,hv,h2⟩:=h' n u hu
  rw [hT] at hv
  injection hv with hv
  rw [hu]; congr 1; omega
def maxF (c:Ed → Option Int) (l:List Ed) (a:Option Int):Option Int:=
 l.foldl (fun acc e => match c e with | none => acc | some x => some (match acc with | none => x | some y => max y x)) a
theorem maxF_cons (c:Ed → Option Int) (e:Ed) (l:List Ed) (a:Option Int):maxF c (e :: l) a = maxF c l (match c e with | none => a | some x => some (match a with | none => x | some y => max y x)):=rfl
theorem maxF_low {c:Ed → Option Int}:∀ {l:List Ed} {a:Option Int} {v:Int},a = some v → ∃ u,maxF c l a = some u ∧ v ≤ u
 | [],a,v,h => ⟨v,h,Int.le_refl _⟩
 | e :: r,a,v,h => by
  rw [maxF_cons]
  cases hc:c e with
  | none => exact maxF_low h
  | some x =>
   subst h
   obtain ⟨u,h1,h2⟩:=maxF_low (c:=c) (l:=r) (a:=some (max v x)) rfl
   exact ⟨u,h1,by omega⟩
theorem maxF_edge {c:Ed → Option Int}:∀ {l:List Ed} {a:Option Int} {e:Ed} {x:Int},e ∈ l → c e = some x → ∃ u,maxF c l a = some u ∧ x ≤ u
 | f :: r,a,e,x,he,hc => by
  rw [maxF_cons]
  rcases List.mem_cons.1 he with rfl | h
  ·rw [hc]
   obtain ⟨u,h1,h2⟩:=maxF_low (c:=c) (l:=r) (a:=some (match a with | none => x | some y => max y x)) rfl
   refine ⟨u,h1,?_⟩
   cases a with
   | none => exact h2
   | some y => simp only at h2; omega
  ·exact maxF_edge h hc
theorem maxF_why {c:Ed → Option Int}:∀ {l:List Ed} {a:Option Int} {u:Int},maxF c l a = some u → a = some u ∨ ∃ e ∈ l,c e = some u
 | [],a,u,h => .inl h
 | f :: r,a,u,h => by
  rw [maxF_cons] at h
  cases hc:c f with
  | none =>
   rw [hc] at h
   rcases maxF_why h with h1 | ⟨e,he,h1⟩
   ·exact .inl h1
   ·exact .inr ⟨e,List.mem_cons_of_mem _ he,h1⟩
  | some x =>
   rw [hc] at h
   rcases maxF_why h with h1 | ⟨e,he,h1⟩
   ·injection h1 with h1
    cases a with
    | none => exact .inr ⟨f,List.mem_cons_self ..,by rw [hc]; simp only at h1; rw [h1]⟩
    | some y =>
     simp only at h1
     rcases Int.le_total y x with h2 | h2
     ·exact .inr ⟨f,List.mem_cons_self ..,by rw [hc]; congr 1; omega⟩
     ·exact .inl (by congr 1; omega)
   ·exact .inr ⟨e,List.mem_cons_of_mem _ he,h1⟩
structure IsStep (l:List Ed) (size:Int) (op:Int → Bool) (q:Int) (T T':Int → Option Int):Prop where
 keep:T' q = T q
 low:leT T T'
 edge:∀ e ∈ l,e.fr ≠ q → op e.tn = true → ∀ t x,T e.tn = some t → e.latest t size = some x → ∃ u,T' e.fr = some u ∧ x ≤ u
 why:∀ n u,T' n = some u → T n = some u ∨ (n ≠ q ∧ ∃ e ∈ l,e.fr = n ∧ op e.tn = true ∧ ∃ t,T e.tn = some t ∧ e.latest t size = some u)
theorem IsStep.le {l:List Ed} {size:Int} {op:Int → Bool} {q:Int} {T T' T'':Int → Option Int} (h:IsStep l size op q T T') (h':IsStep l size op q T T''):leT T' T'':=fun n u hu => by
 rcases h.why n u hu with h1 | ⟨hn,e,he,hf,ho,t,ht,hx⟩
 ·exact h'.low n u h1
 ·obtain ⟨v,hv,hle⟩:=h'.edge e he (by rw [hf]; exact hn) ho t u ht hx
  exact ⟨v,by rw [← hf]; exact hv,hle⟩
theorem IsStep.one {l:List Ed} {size:Int} {op:Int → Bool} {q:Int} {T T' T'':Int → Option Int} (h:IsStep l size op q T T') (h':IsStep l size op q T T''):T' = T'':=(h.le h').antisymm (h'.le h)
def giveL (size:Int) (op:Int → Bool) (q:Int) (T:Int → Option Int) (n:Int) (e:Ed):Option Int:=
 if e.fr = n ∧ n ≠ q ∧ op e.tn = true then (T e.tn).bind fun t => e.latest t size else none
def stepL (l:List Ed) (size:Int) (op:Int → Bool) (q:Int) (T:Int → Option Int):Int → Option Int:=fun n => maxF (giveL size op q T n) l (T n)
theorem giveL_some {size:Int} {op:Int → Bool} {q:Int} {T:Int → Option Int} {n x:Int} {e:Ed} (h:giveL size op q T n e = some x):e.fr = n ∧ n ≠ q ∧ op e.tn = true ∧ ∃ t,T e.tn = some t ∧ e.latest t size = some x:=by
 unfold giveL at h
 split at h
 ·rename_i hc
  cases ht:T e.tn with
  | none => rw [ht] at h; cases h
  | some t => rw [ht] at h; exact ⟨hc.1,hc.2.1,hc.2.2,t,rfl,h⟩
 ·cases h
theorem stepL_is (l:List Ed) (size:Int) (op:Int → Bool) (q:Int) (T:Int → Option Int):IsStep l size op q T (stepL l size op q T):=by
 refine ⟨?_,fun n t h => maxF_low h,fun e he hq ho t x ht hx => maxF_edge he ?_,fun n u h => ?_⟩
 ·have key:∀ (l:List Ed) (a:Option Int),maxF (giveL size op q T q) l a = a:=by
   intro l
   induction l with
   | nil => intro a; rfl
   | cons e r ih =>
    intro a
    rw [maxF_cons,show giveL size op q T q e = none by unfold giveL; rw [if_neg (fun h => h.2.1 rfl)]]
    exact ih a
  exact key l _
 ·unfold giveL
  rw [if_pos ⟨rfl,hq,ho⟩,ht]
  exact hx
 ·rcases maxF_why h with h1 | ⟨e,he,h1⟩
  ·exact .inl h1
  ·obtain ⟨h2,h3,h4,t,h5,h6⟩:=giveL_some h1
   exact .inr ⟨h3,e,he,h2,h4,t,h5,h6⟩
def lateL (l:List Ed) (size:Int) (op:Int → Bool) (q by_:Int):Nat → Int → Option Int
 | 0 => oneT q by_
 | h + 1 => stepL l size op q (lateL l size op q by_ h)
section
variable {l:List Ed} {size:Int} {op:Int → Bool} {q by_:Int}
theorem lateL_step (h:Nat):IsStep l size op q (lateL l size op q by_ h) (lateL l size op q by_ (h + 1)):=stepL_is _ _ _ _ _
theorem lateL_end:∀ h,lateL l size op q by_ h q = some by_
 | 0 => by simp [lateL,oneT]
 | h + 1 => by rw [(lateL_step h).keep]; exact lateL_end h
theorem lateL_up:∀ {h k:Nat},h ≤ k → leT (lateL l size op q by_ h) (lateL l size op q by_ k)
 | h,0,hk => by
  obtain rfl:h = 0:=by omega
  exact leT.refl _
 | h,k + 1,hk => by
  by_cases e:h = k + 1
  ·subst e; exact leT.refl _
  ·exact (lateL_up (by omega)).trans (lateL_step k).low
theorem lateL_bounds (h0:0 ≤ by_):∀ h n t,lateL l size op q by_ h n = some t → 0 ≤ t ∧ t ≤ by_
 | 0,n,t,h => by
  unfold lateL oneT at h
  split at h
  ·injection h with h; omega
  ·cases h
 | h + 1,n,t,ht => by
  rcases (lateL_step h).why n t ht with h1 | ⟨_,e,_,_,_,u,hu,hx⟩
  ·exact lateL_bounds h0 h n t h1
  ·have:=lat_ge hx
   have:=lateL_bounds h0 h _ _ hu
   omega
theorem lateL_node (hr:rightE l = true) (hq:1 ≤ q ∧ q ≤ 255):∀ h n t,lateL l size op q by_ h n = some t → 1 ≤ n ∧ n ≤ 255
 | 0,n,t,h => by
  unfold lateL oneT at h
  split at h
  ·rename_i e; rw [e]; exact hq
  ·cases h
 | h + 1,n,t,ht => by
  rcases (lateL_step h).why n t ht with h1 | ⟨_,e,he,hf,_,u,hu,hx⟩
  ·exact lateL_node hr hq h n t h1
  ·rw [← hf]; exact (Ed.ok_spec.1 (rightE_ok hr he)).2.1
theorem lateL_sound:∀ h {n t t':Int},lateL l size op q by_ h n = some t → 0 ≤ t' → t' ≤ t → ∃ es u,(∀ e ∈ es,e ∈ l) ∧ es.length ≤ h ∧ runE size (fun y => !op y) n t' es = some (q,u) ∧ u ≤ by_
 | 0,n,t,t',h,h0,h1 => by
  unfold lateL oneT at h
  split at h
  ·rename_i e
   injection h with h
   subst e h
   exact ⟨[],t',by simp,by simp,rfl,h1⟩
  ·cases h
 | h + 1,n,t,t',ht,h0,h1 => by
  rcases (lateL_step h).why n t ht with h2 | ⟨_,e,he,hf,ho,u,hu,hx⟩
  ·obtain ⟨es,v,h3,h4,h5,h6⟩:=lateL_sound h h2 h0 h1
   exact ⟨es,v,h3,by omega,h5,h6⟩
  ·obtain ⟨s,a,hp,ha⟩:=lat_sound hx h0 h1
   have hpf:=pass_facts hp
   obtain ⟨es,v,h3,h4,h5,h6⟩:=lateL_sound h hu (t':=a) (by omega) ha
   refine ⟨e :: es,v,fun x hx => ?_,by simp; omega,?_,h6⟩
   ·rcases List.mem_cons.1 hx with rfl | h7
    ·exact he
    ·exact h3 x h7
   ·rw [runE_step hf (by simp [ho]) hp]; exact h5
theorem lateL_complete (hb:by_ ≤ 1099511627776) (h0:0 ≤ by_):∀ h {es:List Ed} {n t u:Int},(∀ e ∈ es,e ∈ l) → es.length ≤ h → runE size (fun y => !op y) n t es = some (q,u) → u ≤ by_ → ∃ v,lateL l size op q by_ h n = some v ∧ t ≤ v
 | h,[],n,t,u,_,_,hr,hu => by
  injection hr with hr; injection hr with e1 e2
  subst e1 e2
  exact ⟨by_,lateL_end h,hu⟩
 | 0,e :: r,n,t,u,_,hl,_,_ => by simp at hl
 | h + 1,e :: r,n,t,u,hm,hl,hr,hu => by
  by_cases hn:n = q
  ·subst hn
   exact ⟨by_,lateL_end _,by have:=runE_ge hr; omega⟩
  ·obtain ⟨s,a,hf,ho,hp,hr2⟩:=runE_cons hr
   obtain ⟨v,hv,hle⟩:=lateL_complete hb h0 h (fun x hx => hm x (List.mem_cons_of_mem _ hx)) (by simp at hl; omega) hr2 hu
   have hvb:=lateL_bounds h0 h _ _ hv
   obtain ⟨x,hx,htx⟩:=lat_complete hp hle (by omega)
   obtain ⟨w,hw,hxw⟩:=(lateL_step (by_:=by_) h).edge e (hm e (List.mem_cons_self ..)) (by rw [hf]; exact hn) (by simpa using ho) v x hv hx
   exact ⟨w,by rw [← hf]; exact hw,by omega⟩
theorem lateL_all (hb:by_ ≤ 1099511627776) (h0:0 ≤ by_) {k:Nat} (hk:l.length ≤ k):lateL l size op q by_ k = lateL l size op q by_ l.length:=by
 refine leT.antisymm (fun n t ht => ?_) (lateL_up hk)
 have hb2:=lateL_bounds h0 k n t ht
 obtain ⟨es,u,h1,h2,h3,h4⟩:=lateL_sound k ht hb2.1 (Int.le_refl _)
 obtain ⟨es',u',h5,h6,h7,h8⟩:=runE_few hb2.1 es.length (Nat.le_refl _) h1 h3
 exact lateL_complete hb h0 l.length h5 h6 h7 (by omega)
theorem lateL_same (hb:by_ ≤ 1099511627776) (h0:0 ≤ by_) {h k:Nat} (hh:l.length ≤ h) (hk:l.length ≤ k):lateL l size op q by_ h = lateL l size op q by_ k:=(lateL_all hb h0 hh).trans (lateL_all hb h0 hk).symm
theorem lateL_stop {h:Nat} (hs:lateL l size op q by_ (h + 1) = lateL l size op q by_ h):∀ {k:Nat},h ≤ k → lateL l size op q by_ k = lateL l size op q by_ h
 | 0,hk => by
  obtain rfl:h = 0:=by omega
  rfl
 | k + 1,hk => by
  by_cases e:h = k + 1
  ·subst e; rfl
  ·have ih:=lateL_stop hs (k:=k) (by omega)
   show stepL l size op q (lateL l size op q by_ k) = _
   rw [ih]
   exact hs
end
structure Cov (l:List Ed) (size:Int) (op:Int → Bool) (q:Int) (T:Int → Option Int) (F:List Int):Prop where
 old:∀ e ∈ l,e.fr ≠ q → op e.tn = true → e.tn ∉ F → ∀ t x,T e.tn = some t → e.latest t size = some x → ∃ u,T e.fr = some u ∧ x ≤ u
structure Later (l:List Ed) (size:Int) (op:Int → Bool) (q:Int) (T:Int → Option Int) (D:List Int) (L:Int → Option Int):Prop where
 why:∀ n a,L n = some a → n ≠ q ∧ (∀ u,T n = some u → u < a) ∧ ∃ e ∈ l,e.fr = n ∧ op e.tn = true ∧ ∃ t,T e.tn = some t ∧ e.latest t size = some a
 edge:∀ e ∈ l,e.fr ≠ q → op e.tn = true → e.tn ∈ D → ∀ t x,T e.tn = some t → e.latest t size = some x → (∃ u,T e.fr = some u ∧ x ≤ u) ∨ ∃ a,L e.fr = some a ∧ x ≤ a
def overT (T L:Int → Option Int):Int → Option Int:=fun n => match L n with | some a => some a | none => T n
theorem overT_some {T L:Int → Option Int} {n a:Int} (h:L n = some a):overT T L n = some a:=by unfold overT; rw [h]
theorem overT_none {T L:Int → Option Int} {n:Int} (h:L n = none):overT T L n = T n:=by unfold overT; rw [h]
theorem Later.step {l:List Ed} {size:Int} {op:Int → Bool} {q:Int} {T:Int → Option Int} {F:List Int} {L:Int → Option Int} (hc:Cov l size op q T F) (h:Later l size op q T F L):IsStep l size op q T (overT T L):=by
 have low:leT T (overT T L):=fun n t ht => by
  cases hL:L n with
  | none => exact ⟨t,by rw [overT_none hL]; exact ht,Int.le_refl _⟩
  | some a => exact ⟨a,overT_some hL,by have:=(h.why n a hL).2.1 t ht; omega⟩
 refine ⟨?_,low,fun e he hq ho t x ht hx => ?_,fun n u hu => ?_⟩
 ·cases hL:L q with
  | none => exact overT_none hL
  | some a => exact absurd rfl (h.why q a hL).1
 ·have key:(∃ u,T e.fr = some u ∧ x ≤ u) ∨ ∃ a,L e.fr = some a ∧ x ≤ a:=by
   by_cases hF:e.tn ∈ F
   ·exact h.edge e he hq ho hF t x ht hx
   ·exact .inl (hc.old e he hq ho hF t x ht hx)
  rcases key with ⟨u,hu,hle⟩ | ⟨a,ha,hle⟩
  ·obtain ⟨v,hv,h2⟩:=low _ _ hu
   exact ⟨v,hv,by omega⟩
  ·exact ⟨a,overT_some ha,hle⟩
 ·cases hL:L n with
  | none => rw [overT_none hL] at hu; exact .inl hu
  | some a =>
   rw [overT_some hL] at hu
   injection hu with hu
   subst hu
   obtain ⟨h1,_,h2⟩:=h.why n a hL
   exact .inr ⟨h1,h2⟩
theorem Later.cov {l:List Ed} {size:Int} {op:Int → Bool} {q:Int} {T:Int → Option Int} {F F':List Int} {L:Int → Option Int} (hc:Cov l size op q T F) (h:Later l size op q T F L) (hF:∀ n,(L n).isSome = true → n ∈ F'):Cov l size op q (overT T L) F':=by
 refine ⟨fun e he hq ho hn t x ht hx => ?_⟩
 have hL:L e.tn = none:=by
  cases hL:L e.tn with
  | none => rfl
  | some a => exact absurd (hF _ (by rw [hL]; rfl)) hn
 rw [overT_none hL] at ht
 exact (h.step hc).edge e he hq ho t x ht hx
theorem overT_empty {T L:Int → Option Int} (h:∀ n,L n = none):overT T L = T:=by
 funext n
 exact overT_none (h n)
theorem Later.empty {l:List Ed} {size:Int} {op:Int → Bool} {q:Int} {T L:Int → Option Int} {F:List Int} (h:Later l size op q T F L) (he:overT T L = T):∀ n,L n = none:=fun n => by
 cases hL:L n with
 | none => rfl
 | some a =>
  have h1:=congrFun he n
  rw [overT_some hL] at h1
  have:=(h.why n a hL).2.1 a h1.symm
  omega
theorem Later.start {l:List Ed} {size:Int} {op:Int → Bool} {q:Int} {T:Int → Option Int}:Later l size op q T [] (fun _ => none):=⟨fun n a h => (by cases h),fun e he hq ho hD => by simp at hD⟩
theorem Later.shut {l:List Ed} {size:Int} {op:Int → Bool} {q:Int} {T L:Int → Option Int} {D:List Int} {m:Int} (h:Later l size op q T D L) (hm:op m = false):Later l size op q T (D ++ [m]) L:=by
 refine ⟨h.why,fun e he hq ho hD t x ht hx => ?_⟩
 rcases List.mem_append.1 hD with h1 | h1
 ·exact h.edge e he hq ho h1 t x ht hx
 ·rw [List.mem_singleton.1 h1,hm] at ho; cases ho
structure LaterAt (l:List Ed) (size:Int) (op:Int → Bool) (q:Int) (T:Int → Option Int) (D:List Int) (m:Int) (ps:List Ed) (L:Int → Option Int):Prop where
 why:∀ n a,L n = some a → n ≠ q ∧ (∀ u,T n = some u → u < a) ∧ ∃ e ∈ l,e.fr = n ∧ op e.tn = true ∧ ∃ t,T e.tn = some t ∧ e.latest t size = some a
 edge:∀ e ∈ l,e.fr ≠ q → op e.tn = true → e.tn ∈ D → ∀ t x,T e.tn = some t → e.latest t size = some x → (∃ u,T e.fr = some u ∧ x ≤ u) ∨ ∃ a,L e.fr = some a ∧ x ≤ a
 past:∀ e ∈ ps,e.fr ≠ q → ∀ t x,T m = some t → e.latest t size = some x → (∃ u,T e.fr = some u ∧ x ≤ u) ∨ ∃ a,L e.fr = some a ∧ x ≤ a
section
variable {l:List Ed} {size:Int} {op:Int → Bool} {q:Int} {T L:Int → Option Int} {D:List Int}
theorem Later.at_ (h:Later l size op q T D L) (m:Int):LaterAt l size op q T D m [] L:=⟨h.why,h.edge,fun e he => by simp at he⟩
theorem LaterAt.end_ {m:Int} {ps:List Ed} (h:LaterAt l size op q T D m ps L) (hp:∀ e ∈ l,e.tn = m → e ∈ ps):Later l size op q T (D ++ [m]) L:=by
 refine ⟨h.why,fun e he hq ho hD t x ht hx => ?_⟩
 rcases List.mem_append.1 hD with h1 | h1
 ·exact h.edge e he hq ho h1 t x ht hx
 ·have hm:=List.mem_singleton.1 h1
  exact h.past e (hp e he hm) hq t x (by rw [← hm]; exact ht) hx
theorem LaterAt.skip {m:Int} {ps:List Ed} {e:Ed} (h:LaterAt l size op q T D m ps L) (hs:e.fr ≠ q → ∀ t x,T m = some t → e.latest t size = some x → (∃ u,T e.fr = some u ∧ x ≤ u) ∨ ∃ a,L e.fr = some a ∧ x ≤ a):LaterAt l size op q T D m (ps ++ [e]) L:=by
 refine ⟨h.why,h.edge,fun y hy hq t x ht hx => ?_⟩
 rcases List.mem_append.1 hy with h1 | h1
 ·exact h.past y h1 hq t x ht hx
 ·rw [List.mem_singleton.1 h1] at hq hx ⊢
  exact hs hq t x ht hx
theorem LaterAt.put {m t x:Int} {ps:List Ed} {e:Ed} (h:LaterAt l size op q T D m ps L) (he:e ∈ l) (hm:e.tn = m) (ho:op m = true) (hq:e.fr ≠ q) (ht:T m = some t) (hx:e.latest t size = some x) (hu:∀ u,T e.fr = some u → u < x) (ha:∀ a,L e.fr = some a → a < x):LaterAt l size op q T D m (ps ++ [e]) (setT L e.fr x):=by
 have up:∀ {n b:Int},L n = some b → ∃ a,setT L e.fr x n = some a ∧ b ≤ a:=fun {n b} hb => by
  by_cases e2:n = e.fr
  ·subst e2
   exact ⟨x,setT_same _ _ _,by have:=ha b hb; omega⟩
  ·exact ⟨b,by rw [setT_ne _ _ e2]; exact hb,Int.le_refl _⟩
 have lift:∀ {n y:Int},((∃ u,T n = some u ∧ y ≤ u) ∨ ∃ a,L n = some a ∧ y ≤ a) → (∃ u,T n = some u ∧ y ≤ u) ∨ ∃ a,setT L e.fr x n = some a ∧ y ≤ a:=fun {n y} hh => by
  rcases hh with h1 | ⟨b,hb,hle⟩
  ·exact .inl h1
  ·obtain ⟨c,hc,h2⟩:=up hb
   exact .inr ⟨c,hc,by omega⟩
 refine ⟨fun n a hn => ?_,fun y hy hyq hyo hyD t' x' ht' hx' => lift (h.edge y hy hyq hyo hyD t' x' ht' hx'),fun y hy hyq t' x' ht' hx' => ?_⟩
 ·by_cases e2:n = e.fr
  ·subst e2
   rw [setT_same] at hn
   injection hn with hn
   subst hn
   exact ⟨hq,hu,e,he,rfl,by rw [hm]; exact ho,t,by rw [hm]; exact ht,hx⟩
  ·rw [setT_ne _ _ e2] at hn
   exact h.why n a hn
 ·rcases List.mem_append.1 hy with h1 | h1
  ·exact lift (h.past y h1 hyq t' x' ht' hx')
  ·rw [List.mem_singleton.1 h1] at hx' ⊢
   rw [ht] at ht'
   injection ht' with ht'
   subst ht'
   rw [hx] at hx'
   injection hx' with hx'
   exact .inr ⟨x,setT_same _ _ _,by omega⟩
end
theorem Cov.start {l:List Ed} {size:Int} {op:Int → Bool} {q by_:Int}:Cov l size op q (oneT q by_) [q]:=by
 refine ⟨fun e he hq ho hn t x ht hx => ?_⟩
 unfold oneT at ht
 rw [if_neg (fun h => hn (by rw [h]; simp))] at ht
 cases ht
def atS (r:List (Int × Int)) (h:Int):Option Int:=(r.reverse.find? (fun s => decide (s.1 ≤ h))).map (·.2)
theorem atS_snoc (r:List (Int × Int)) (s:Int × Int) (h:Int):atS (r ++ [s]) h = if s.1 ≤ h then some s.2 else atS r h:=by
 unfold atS
 rw [List.reverse_append]
 by_cases e:s.1 ≤ h
 ·simp [e]
 ·rw [if_neg e,List.reverse_singleton,List.singleton_append,List.find?_cons_of_neg (by simpa using e)]
def Steps (P:Int → List (Int × Int)) (F:Nat → Int → Option Int) (h:Nat):Prop:=
 (∀ n s,s ∈ P n → 0 ≤ s.1 ∧ s.1 ≤ (h:Int)) ∧ (∀ n (k:Nat),k ≤ h → atS (P n) (k:Int) = F k n) ∧ ∀ n,P n = [] ↔ F h n = none
end Go.Proofs.YtodcoockhkghdaaGreat
