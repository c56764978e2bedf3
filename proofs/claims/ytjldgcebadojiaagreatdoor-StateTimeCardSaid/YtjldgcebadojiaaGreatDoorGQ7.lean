/- Several texts of mine in one: RangesOw, RangesRt, ContactsAct, PlanR. No condition. -/
import Derived.Test.YtjldgcebadojiaaGreatDoorGQ2
import Derived.Test.YtjldgcebadojiaaGreatDoorGQ5
namespace Go.Proofs.YtjldgcebadojiaaGreatDoor.Kr
open Go.ChangeShapes Go.WideShapes Go.ChangeAt Go.RowKit Go.Sort
set_option linter.unusedSimpArgs false
set_option linter.unusedVariables false
def befR (a b:Rg):Prop:=ltR a b ∧ (a.fr = b.fr → a.tn = b.tn → a.en ≤ b.st)
structure SortR (d:List Rg):Prop where
 ord:d.Pairwise befR
 span:∀ x ∈ d,x.st < x.en ∧ 0 ≤ x.ow
theorem SortR.filter {d:List Rg} (h:SortR d) (p:Rg → Bool):SortR (d.filter p):=
 ⟨h.ord.filter p,fun x hx => h.span x (List.mem_filter.1 hx).1⟩
theorem rightB_okR {d:List Rg} (h:rightB d = true) {i:Nat} (hi:i < d.length):okR (gRg d i) = true:=by
 have:=(rightB_true.1 h).2 i hi
 unfold stepB at this
 simp at this
 exact this.1
theorem rightB_next {d:List Rg} (h:rightB d = true) {i:Nat} (hi:i + 1 < d.length):befR (gRg d i) (gRg d (i + 1)):=by
 have h0:=(rightB_true.1 h).2 (i + 1) hi
 have h1:=okR_span (rightB_okR h hi)
 have h2:=okR_span (rightB_okR h (i:=i) (by omega))
 unfold stepB at h0
 simp [overR] at h0
 obtain ⟨_,h3,h4⟩:=h0
 rcases cmpR_spec (gRg d i) (gRg d (i + 1)) with ⟨hl,e⟩ | ⟨_,_,_,e⟩ | ⟨_,e⟩
 ·refine ⟨hl,fun e1 e2 => ?_⟩
  unfold ltR at hl
  omega
 ·omega
 ·omega
theorem befR_trans {a b c:Rg} (h1:befR a b) (h2:befR b c) (hb:b.st < b.en):befR a c:=by
 obtain ⟨l1,r1⟩:=h1
 obtain ⟨l2,r2⟩:=h2
 unfold ltR at l1 l2
 refine ⟨by unfold ltR; omega,fun e1 e2 => ?_⟩
 have:=r1 (by omega) (by omega)
 have:=r2 (by omega) (by omega)
 omega
theorem rightB_far {d:List Rg} (h:rightB d = true) {i:Nat}:∀ k,i + 1 + k < d.length → befR (gRg d i) (gRg d (i + 1 + k))
 | 0,hk => rightB_next h hk
 | k + 1,hk => befR_trans (rightB_far h k (by omega)) (rightB_next h (i:=i + 1 + k) (by omega)) (okR_span (rightB_okR h (by omega))).1
theorem gRg_elem {d:List Rg} {j:Nat} (h:j < d.length):gRg d j = d[j]:=by
 unfold gRg
 rw [List.getD_eq_getElem?_getD,List.getElem?_eq_getElem h]
 rfl
theorem sort_of_right {d:List Rg} (h:rightB d = true):SortR d:=by
 refine ⟨?_,fun x hx => ?_⟩
 ·rw [List.pairwise_iff_getElem]
  intro i j hi hj hij
  have:=rightB_far h (i:=i) (j - i - 1) (by omega)
  rw [show i + 1 + (j - i - 1) = j from by omega] at this
  rw [gRg_elem hi,gRg_elem hj] at this
  exact this
 ·obtain ⟨j,hj,rfl⟩:=mem_gRg hx
  exact ⟨(okR_span (rightB_okR h hj)).1,(okR_span (rightB_okR h hj)).2.1⟩
theorem SortR.at_ {d:List Rg} (h:SortR d) {i j:Nat} (hij:i < j) (hj:j < d.length):befR (gRg d i) (gRg d j):=by
 rw [gRg_elem hj,gRg_elem (by omega)]
 exact List.pairwise_iff_getElem.1 h.ord i j (by omega) hj hij
theorem SortR.sp {d:List Rg} (h:SortR d) {j:Nat} (hj:j < d.length):(gRg d j).st < (gRg d j).en ∧ 0 ≤ (gRg d j).ow:=h.span _ (gRg_mem hj)
theorem right_of {d:List Rg} (hn:d.length ≤ 4096) (hok:∀ x ∈ d,okR x = true) (hs:d.Pairwise befR):rightB d = true:=by
 rw [rightB_true]
 refine ⟨hn,fun i hi => ?_⟩
 unfold stepB
 rw [hok _ (gRg_mem hi),Bool.true_and]
 by_cases h0:i = 0
 ·simp [h0]
 ·have hb:befR (gRg d (i - 1)) (gRg d i):=by
   rw [gRg_elem hi,gRg_elem (by omega)]
   exact List.pairwise_iff_getElem.1 hs (i - 1) i (by omega) hi (by omega)
  obtain ⟨b1,b2⟩:=hb
  have hc:cmpR (gRg d (i - 1)) (gRg d i) < 0:=by
   rcases cmpR_spec (gRg d (i - 1)) (gRg d i) with ⟨_,e⟩ | ⟨e1,e2,e3,e⟩ | ⟨hl,e⟩
   ·omega
   ·unfold ltR at b1; omega
   ·unfold ltR at b1 hl; omega
  have ho:overR (gRg d (i - 1)) (gRg d i) = false:=by
   unfold overR
   rw [decide_eq_false_iff_not]
   rintro ⟨e1,e2,e3,e4⟩
   have:=b2 e1 e2
   omega
  rw [ho]
  simp [hc]
theorem right_ok {d:List Rg} (h:rightB d = true):∀ x ∈ d,okR x = true:=fun x hx => by
 obtain ⟨j,hj,rfl⟩:=mem_gRg hx
 exact rightB_okR h hj
theorem right_filter {d:List Rg} (h:rightB d = true) (p:Rg → Bool):rightB (d.filter p) = true:=
 right_of (Nat.le_trans (List.length_filter_le _ _) (rightB_true.1 h).1) (fun x hx => right_ok h x (List.mem_filter.1 hx).1) ((sort_of_right h).ord.filter p)
theorem fresh_over {d:List Rg} {r:Rg} (hm:mayF d r = 0):d.length < 4096 ∧ ∀ y ∈ d,overR y r = false:=by
 unfold mayF at hm
 split at hm
 ·cases hm
 ·split at hm
  ·cases hm
  ·split at hm
   ·cases hm
   ·rename_i h1 h2 h3
    refine ⟨by omega,fun y hy => ?_⟩
    cases e:overR y r
    ·rfl
    ·exact absurd (List.any_eq_true.2 ⟨y,hy,e⟩) h3
theorem ltR_trans {a b c:Rg} (h1:ltR a b) (h2:ltR b c):ltR a c:=by unfold ltR at *; omega
theorem right_ins {d:List Rg} {r:Rg} {i:Nat} (h:rightB d = true) (hm:mayF d r = 0) (hi:i ≤ d.length) (h1:i = 0 ∨ cmpR (gRg d (i - 1)) r < 0) (h2:i = d.length ∨ 0 ≤ cmpR (gRg d i) r):rightB (insR d i r) = true:=by
 obtain ⟨hok,hfr⟩:=fresh_of h hm
 obtain ⟨hlen,hov⟩:=fresh_over hm
 have hs:=sort_of_right h
 have hrs:=okR_span hok
 have hbef:∀ a ∈ d.take i,befR a r:=fun a ha => by
  obtain ⟨j,hj,rfl⟩:=List.mem_take_iff_getElem.1 ha
  have hjd:j < d.length:=by omega
  have hji:j < i:=by omega
  have hl:ltR (gRg d (i - 1)) r:=by
   rcases h1 with h1 | h1
   ·omega
   ·rcases cmpR_spec (gRg d (i - 1)) r with ⟨hl,_⟩ | ⟨_,_,_,e⟩ | ⟨_,e⟩
    ·exact hl
    ·omega
    ·omega
  have hl2:ltR (gRg d j) r:=by
   by_cases e:j = i - 1
   ·rw [e]; exact hl
   ·exact ltR_trans (hs.at_ (by omega:j < i - 1) (by omega)).1 hl
  rw [← gRg_elem hjd]
  refine ⟨hl2,fun e1 e2 => ?_⟩
  have ho:=hov _ (gRg_mem hjd)
  unfold overR at ho
  rw [decide_eq_false_iff_not] at ho
  unfold ltR at hl2
  by_cases hx:(gRg d j).en ≤ r.st
  ·exact hx
  ·exact absurd ⟨e1,e2,by omega,by omega⟩ ho
 have haft:∀ b ∈ d.drop i,befR r b:=fun b hb => by
  obtain ⟨j,hj,rfl⟩:=List.mem_drop_iff_getElem.1 hb
  have hjd:i + j < d.length:=by omega
  have hl:ltR r (gRg d i):=by
   rcases h2 with h2 | h2
   ·omega
   ·rcases cmpR_spec (gRg d i) r with ⟨_,e⟩ | ⟨e1,e2,e3,e⟩ | ⟨hl,_⟩
    ·omega
    ·have:=hfr _ (gRg_mem (by omega:i < d.length))
     unfold sameR at this
     rw [decide_eq_false_iff_not] at this
     exact absurd ⟨e1,e2,e3⟩ this
    ·exact hl
  have hl2:ltR r (gRg d (i + j)):=by
   by_cases e:j = 0
   ·subst e; exact hl
   ·exact ltR_trans hl (hs.at_ (by omega:i < i + j) hjd).1
  rw [← gRg_elem hjd]
  refine ⟨hl2,fun e1 e2 => ?_⟩
  have ho:=hov _ (gRg_mem hjd)
  have hsp:=hs.sp hjd
  unfold overR at ho
  rw [decide_eq_false_iff_not] at ho
  unfold ltR at hl2
  by_cases hx:r.en ≤ (gRg d (i + j)).st
  ·exact hx
  ·exact absurd ⟨e1.symm,e2.symm,by omega,by omega⟩ ho
 refine right_of (by rw [insR_length r hi]; omega) (fun x hx => ?_) ?_
 ·unfold insR at hx
  simp only [List.mem_append,List.mem_singleton] at hx
  rcases hx with (hx | rfl) | hx
  ·exact right_ok h x (List.mem_of_mem_take hx)
  ·exact hok
  ·exact right_ok h x (List.mem_of_mem_drop hx)
 ·unfold insR
  have hp:=hs.ord
  rw [← List.take_append_drop i d,List.pairwise_append] at hp
  rw [List.append_assoc,List.pairwise_append]
  refine ⟨hp.1,?_,fun a ha b hb => ?_⟩
  ·rw [List.singleton_append,List.pairwise_cons]
   exact ⟨haft,hp.2.1⟩
  ·rw [List.singleton_append,List.mem_cons] at hb
   rcases hb with rfl | hb
   ·exact hbef a ha
   ·exact hp.2.2 a ha b hb
theorem gRg_set {d:List Rg} {q j:Nat} (x:Rg) (hj:j < d.length):gRg (d.set q x) j = if q = j then x else gRg d j:=by
 rw [gRg_elem (by rw [List.length_set]; exact hj),List.getElem_set,gRg_elem hj]
theorem okR_ow {x:Rg} {o:Int} (h:okR x = true) (h0:0 ≤ o) (h1:o ≤ 2147483647):okR (withOw x o) = true:=by
 unfold okR rangeB at h ⊢
 simp only [withOw]
 simp only [Bool.and_eq_true] at h ⊢
 refine ⟨⟨h.1.1,h.1.2⟩,?_⟩
 unfold inB
 simp
 omega
theorem right_set {d:List Rg} {q:Nat} {o:Int} (h:rightB d = true) (hq:q < d.length) (h0:0 ≤ o) (h1:o ≤ 2147483647):rightB (d.set q (withOw (gRg d q) o)) = true:=by
 have hs:=sort_of_right h
 refine right_of (by rw [List.length_set]; exact (rightB_true.1 h).1) (fun x hx => ?_) ?_
 ·obtain ⟨j,hj,rfl⟩:=mem_gRg hx
  rw [List.length_set] at hj
  rw [gRg_set _ hj]
  split
  ·exact okR_ow (rightB_okR h hq) h0 h1
  ·exact rightB_okR h hj
 ·rw [List.pairwise_iff_getElem]
  intro i j hi hj hij
  rw [List.length_set] at hi hj
  have hb:=hs.at_ hij hj
  have hi2:=gRg_set (d:=d) (q:=q) (withOw (gRg d q) o) hi
  have hj2:=gRg_set (d:=d) (q:=q) (withOw (gRg d q) o) hj
  rw [gRg_elem (by rw [List.length_set]; exact hi)] at hi2
  rw [gRg_elem (by rw [List.length_set]; exact hj)] at hj2
  rw [hi2,hj2]
  by_cases e1:q = i
  ·subst e1
   rw [if_pos rfl,if_neg (by omega)]
   exact hb
  ·rw [if_neg e1]
   by_cases e2:q = j
   ·subst e2
    rw [if_pos rfl]
    exact hb
   ·rw [if_neg e2]
    exact hb
end Go.Proofs.YtjldgcebadojiaaGreatDoor.Kr
namespace Go.Proofs.YtjldgcebadojiaaGreatDoor.Kc
open Go.ChangeShapes Go.WideShapes Go.ChangeAt Go.RowKit Go.Sort
set_option linter.unusedSimpArgs false
set_option linter.unusedVariables false
theorem okC_span {x:Co} (h:okC x = true):x.st < x.en:=by
 unfold okC contactB spanB at h
 simp only [Bool.and_eq_true,decide_eq_true_eq] at h
 omega
def befC (a b:Co):Prop:=ltC a b ∧ a.id ≠ b.id ∧ (a.fr = b.fr → a.tn = b.tn → a.en ≤ b.st)
theorem over_bef {a b:Co} (ha:okC a = true) (hb:okC b = true) (hl:ltC a b) (ho:overC a b = false):a.fr = b.fr → a.tn = b.tn → a.en ≤ b.st:=by
 have h1:=okC_span ha
 have h2:=okC_span hb
 unfold overC at ho
 rw [decide_eq_false_iff_not] at ho
 unfold ltC at hl
 intro e1 e2
 by_cases hx:a.en ≤ b.st
 ·exact hx
 ·exact absurd ⟨e1,e2,by omega,by omega⟩ ho
theorem right_bef {d:List Co} (h:rightC d = true):∀ (j i:Nat),i < j → j < d.length → befC (gCo d i) (gCo d j)
 | 0,i,h1,_ => by omega
 | j + 1,i,h1,h2 => by
  have hs:=(right_step h h2).2.2 (by omega)
  rw [Nat.add_sub_cancel] at hs
  have hok1:=(right_step h h2).1
  have hok2:=(right_step h (by omega:j < d.length)).1
  have hn:=over_bef hok2 hok1 hs.1 hs.2
  have hid:=right_ids h h1 h2
  refine ⟨right_lt h _ _ h1 h2,hid,?_⟩
  by_cases e:i = j
  ·rw [e]; exact hn
  ·have hp:=right_bef h j i (by omega) (by omega)
   intro e1 e2
   have hl1:=hp.1
   have hl2:=hs.1
   have s1:=okC_span hok2
   have f1:(gCo d i).fr = (gCo d j).fr:=by unfold ltC at hl1 hl2; omega
   have f2:(gCo d i).tn = (gCo d j).tn:=by unfold ltC at hl1 hl2; omega
   have g1:=hp.2.2 f1 f2
   have g2:=hn (by omega) (by omega)
   omega
theorem bef_pairwise {d:List Co} (h:rightC d = true):d.Pairwise befC:=by
 rw [List.pairwise_iff_getElem]
 intro i j hi hj hij
 have:=right_bef h j i hij hj
 rw [gCo_eq hi,gCo_eq hj] at this
 exact this
theorem right_of {d:List Co} (hn:d.length ≤ 4096) (hok:∀ x ∈ d,okC x = true) (hs:d.Pairwise befC):rightC d = true:=by
 rw [rightC_true]
 refine ⟨hn,fun i hi => ?_⟩
 have hpw:=List.pairwise_iff_getElem.1 hs
 unfold stepC
 rw [hok _ (gCo_mem hi),Bool.true_and]
 have h1:idIn (d.take i) (gCo d i).id = false:=by
  unfold idIn
  rw [List.any_eq_false]
  intro x hx
  obtain ⟨j,hj,rfl⟩:=List.mem_take_iff_getElem.1 hx
  have:=(hpw j i (by omega) hi (by omega)).2.1
  rw [gCo_eq hi]
  simpa using this
 rw [h1]
 by_cases h0:i = 0
 ·simp [h0]
 ·have hb:=hpw (i - 1) i (by omega) hi (by omega)
  rw [← gCo_eq hi,← gCo_eq (by omega:i - 1 < d.length)] at hb
  have hc:=cmpC_lt.2 hb.1
  have ho:overC (gCo d (i - 1)) (gCo d i) = false:=by
   unfold overC
   rw [decide_eq_false_iff_not]
   rintro ⟨e1,e2,e3,e4⟩
   have:=hb.2.2 e1 e2
   omega
  rw [ho]
  simp [hc]
theorem right_filter {d:List Co} (h:rightC d = true) (p:Co → Bool):rightC (d.filter p) = true:=
 right_of (Nat.le_trans (List.length_filter_le _ _) (rightC_true.1 h).1) (fun x hx => right_ok h x (List.mem_filter.1 hx).1) ((bef_pairwise h).filter p)
theorem right_ins {d:List Co} {r:Co} {i:Nat} (h:rightC d = true) (hm:mayC d r = 0) (hi:i ≤ d.length) (h1:i = 0 ∨ cmpC (gCo d (i - 1)) r < 0) (h2:i = d.length ∨ 0 ≤ cmpC (gCo d i) r):rightC (insC d i r) = true:=by
 obtain ⟨hok,hlen,hfr,hov⟩:=may_ok hm
 have hbef:∀ a ∈ d.take i,befC a r:=fun a ha => by
  obtain ⟨j,hj,rfl⟩:=List.mem_take_iff_getElem.1 ha
  have hjd:j < d.length:=by omega
  have hl:ltC (gCo d (i - 1)) r:=by
   rcases h1 with h1 | h1
   ·omega
   ·exact cmpC_lt.1 h1
  have hl2:ltC (gCo d j) r:=by
   by_cases e:j = i - 1
   ·rw [e]; exact hl
   ·exact ltC_trans (right_lt h (i - 1) j (by omega) (by omega)) hl
  rw [← gCo_eq hjd]
  exact ⟨hl2,by simpa using hfr _ (gCo_mem hjd),over_bef (right_ok h _ (gCo_mem hjd)) hok hl2 (hov _ (gCo_mem hjd))⟩
 have haft:∀ b ∈ d.drop i,befC r b:=fun b hb => by
  obtain ⟨j,hj,rfl⟩:=List.mem_drop_iff_getElem.1 hb
  have hjd:i + j < d.length:=by omega
  have hl:ltC r (gCo d i):=by
   rcases h2 with h2 | h2
   ·omega
   ·rcases cmpC_spec (gCo d i) r with ⟨_,e⟩ | ⟨_,_,_,e4,_⟩ | ⟨hl,_⟩
    ·omega
    ·have:=hfr _ (gCo_mem (by omega:i < d.length))
     rw [e4] at this
     simp at this
    ·exact hl
  have hl2:ltC r (gCo d (i + j)):=by
   by_cases e:j = 0
   ·subst e; exact hl
   ·exact ltC_trans hl (right_lt h (i + j) i (by omega) hjd)
  rw [← gCo_eq hjd]
  have hb2:=okC_span (right_ok h _ (gCo_mem hjd))
  have hr2:=okC_span hok
  refine ⟨hl2,fun e => by have:=hfr _ (gCo_mem hjd); rw [← e] at this; simp at this,fun e1 e2 => ?_⟩
  have ho:=hov _ (gCo_mem hjd)
  unfold overC at ho
  rw [decide_eq_false_iff_not] at ho
  unfold ltC at hl2
  by_cases hx:r.en ≤ (gCo d (i + j)).st
  ·exact hx
  ·exact absurd ⟨e1.symm,e2.symm,by omega,by omega⟩ ho
 refine right_of (by rw [insC_length r hi]; omega) (fun x hx => ?_) ?_
 ·unfold insC at hx
  simp only [List.mem_append,List.mem_singleton] at hx
  rcases hx with (hx | rfl) | hx
  ·exact right_ok h x (List.mem_of_mem_take hx)
  ·exact hok
  ·exact right_ok h x (List.mem_of_mem_drop hx)
 ·unfold insC
  have hp:=bef_pairwise h
  rw [← List.take_append_drop i d,List.pairwise_append] at hp
  rw [List.append_assoc,List.pairwise_append]
  refine ⟨hp.1,?_,fun a ha b hb => ?_⟩
  ·rw [List.singleton_append,List.pairwise_cons]
   exact ⟨haft,hp.2.1⟩
  ·rw [List.singleton_append,List.mem_cons] at hb
   rcases hb with rfl | hb
   ·exact hbef a ha
   ·exact hp.2.2 a ha b hb
theorem gCo_set {d:List Co} {q j:Nat} (x:Co) (hj:j < d.length):gCo (d.set q x) j = if q = j then x else gCo d j:=by
 rw [gCo_eq (by rw [List.length_set]; exact hj),List.getElem_set,gCo_eq hj]
theorem okC_rt {x:Co} {o:Int} (h:okC x = true) (h0:inB o 1 2147483647 = true):okC (withRt x o) = true:=by
 unfold okC contactB at h ⊢
 simp only [withRt,Bool.and_eq_true] at h ⊢
 exact ⟨h.1,h0⟩
theorem right_set {d:List Co} {q:Nat} {o:Int} (h:rightC d = true) (hq:q < d.length) (h0:inB o 1 2147483647 = true):rightC (d.set q (withRt (gCo d q) o)) = true:=by
 refine right_of (by rw [List.length_set]; exact (rightC_true.1 h).1) (fun x hx => ?_) ?_
 ·obtain ⟨j,hj,rfl⟩:=mem_gCo hx
  rw [List.length_set] at hj
  rw [gCo_set _ hj]
  split
  ·exact okC_rt (right_ok h _ (gCo_mem hq)) h0
  ·exact right_ok h _ (gCo_mem hj)
 ·rw [List.pairwise_iff_getElem]
  intro i j hi hj hij
  rw [List.length_set] at hi hj
  have hb:=right_bef h j i hij hj
  have hi2:=gCo_set (d:=d) (q:=q) (withRt (gCo d q) o) hi
  have hj2:=gCo_set (d:=d) (q:=q) (withRt (gCo d q) o) hj
  rw [gCo_eq (by rw [List.length_set]; exact hi)] at hi2
  rw [gCo_eq (by rw [List.length_set]; exact hj)] at hj2
  rw [hi2,hj2]
  by_cases e1:q = i
  ·subst e1
   rw [if_pos rfl,if_neg (by omega)]
   exact hb
  ·rw [if_neg e1]
   by_cases e2:q = j
   ·subst e2
    rw [if_pos rfl]
    exact hb
   ·rw [if_neg e2]
    exact hb
def foundC (d:List Co) (id:Int):Co:=(d.find? (fun x => x.id == id)).getD ⟨0,0,0,0,0,0⟩
theorem found_mem {d:List Co} {id:Int} (h:idIn d id = true):foundC d id ∈ d ∧ (foundC d id).id = id:=by
 unfold foundC
 cases e:d.find? (fun x => x.id == id) with
 | none =>
  rw [List.find?_eq_none] at e
  unfold idIn at h
  obtain ⟨x,hx,hx2⟩:=List.any_eq_true.1 h
  exact absurd hx2 (e x hx)
 | some y =>
  exact ⟨List.mem_of_find?_eq_some e,by simpa using List.find?_some e⟩
theorem idIn_mem {d:List Co} {x:Co} (h:x ∈ d):idIn d x.id = true:=List.any_eq_true.2 ⟨x,h,by simp⟩
theorem found_of {d:List Co} {x:Co} (h:rightC d = true) (hx:x ∈ d):foundC d x.id = x:=by
 obtain ⟨h1,h2⟩:=found_mem (idIn_mem hx)
 obtain ⟨i,hi,e1⟩:=mem_gCo h1
 obtain ⟨j,hj,e2⟩:=mem_gCo hx
 rw [← e1,← e2] at h2
 by_cases e:i = j
 ·rw [← e1,← e2,e]
 ·rcases Nat.lt_or_gt_of_ne e with hlt | hlt
  ·exact absurd h2 (right_ids h hlt hj)
  ·exact absurd h2.symm (right_ids h hlt hi)
theorem found_none {d:List Co} {id:Int} (h:idIn d id = false):foundC d id = ⟨0,0,0,0,0,0⟩:=by
 unfold foundC
 have:d.find? (fun x => x.id == id) = none:=List.find?_eq_none.2 (fun x hx => by
  unfold idIn at h
  rw [List.any_eq_false] at h
  exact h x hx)
 rw [this]
 rfl
theorem find_any (A:Option Addr) (n c:Nat) (d:List Co) (id:Int) (w:World) (hd:d.length = n) (hn:n ≤ 1000000) (h:Sl w w.heap.size 6 A n c (flatCo d)) (hr:rightC d = true) (x:Co) (b:Bool) (hx:foundC d id = x) (hb:idIn d id = b) :
  Calls Tryz.prog 20 #[.slice A n c,.int .i64 id] w fun e w' => e = .returned (.tuple #[.agg #[.int .i64 x.id,.int .i64 x.fr,.int .i64 x.tn,.int .i64 x.st,.int .i64 x.en,.int .i64 x.rt],.bool b]) ∧ Below w.heap.size w w':=by
 cases b with
 | false =>
  rw [found_none hb] at hx
  subst hx
  exact find_no A n c d id w hd hn h (fun j hj => noHitCo hb (by omega))
 | true =>
  obtain ⟨q,hq,h1,h2⟩:=firstHitCo hb
  have e:gCo d q = x:=by
   have h3:=found_of hr (gCo_mem hq)
   rw [← hx,← h3]
   congr 1
   simpa using h2.symm
  rw [← e]
  exact find_yes A n c d id w q hd hn h (by omega) h1 h2
end Go.Proofs.YtjldgcebadojiaaGreatDoor.Kc
namespace Go.Proofs.YtjldgcebadojiaaGreatDoor
open Go.ChangeShapes Go.WideShapes Go.ChangeAt Go.RowKit Go.Sort
set_option linter.unusedSimpArgs false
set_option linter.unusedVariables false
def aheadC (cs:List Co) (clk:Int):Bool:=!cs.any fun x => decide (x.en ≤ clk)
def aheadR (rs:List Rg) (clk:Int):Bool:=!rs.any fun x => decide (x.en ≤ clk)
def rightP (cs:List Co) (rs:List Rg) (clk ver:Int):Bool:=
 Kc.rightC cs && (Kr.rightB rs && (inB clk 0 2147483647 && (inB ver 0 1099511627776 && (aheadC cs clk && aheadR rs clk))))
structure RightP (cs:List Co) (rs:List Rg) (clk ver:Int):Prop where
 co:Kc.rightC cs = true
 rg:Kr.rightB rs = true
 c0:0 ≤ clk
 c1:clk ≤ 2147483647
 v0:0 ≤ ver
 v1:ver ≤ 1099511627776
 ec:∀ x ∈ cs,clk < x.en
 er:∀ x ∈ rs,clk < x.en
theorem rightP_spec {cs:List Co} {rs:List Rg} {clk ver:Int}:rightP cs rs clk ver = true ↔ RightP cs rs clk ver:=by
 unfold rightP aheadC aheadR inB
 constructor
 ·intro h
  simp only [Bool.and_eq_true,decide_eq_true_eq,Bool.not_eq_true',List.any_eq_false,Int.not_le] at h
  obtain ⟨h1,h2,h3,h4,h5,h6⟩:=h
  exact ⟨h1,h2,h3.1,h3.2,h4.1,h4.2,h5,h6⟩
 ·intro h
  simp only [Bool.and_eq_true,decide_eq_true_eq,Bool.not_eq_true',List.any_eq_false,Int.not_le]
  exact ⟨h.co,h.rg,⟨h.c0,h.c1⟩,⟨h.v0,h.v1⟩,h.ec,h.er⟩
set_option maxRecDepth 100000 in
theorem pright1_any (x:Co) (clk:Int) (g:Nat) (t:TypeId) (v0 v1 v3:Value) (w:World) (hR:Blok w g t #[v0,v1,.int .i64 clk,v3]):Calls Tryz.prog 78 #[.agg #[.int .i64 x.id,.int .i64 x.fr,.int .i64 x.tn,.int .i64 x.st,.int .i64 x.en,.int .i64 x.rt],.pointer (some ⟨g,0,none⟩)] w fun e w' => e = .returned (.bool (decide (x.en ≤ clk))) ∧ Below w.heap.size w w':=by
 have r2:w.cell? ⟨g,2,none⟩ = some (.int .i64 clk):=hR.cell 2
 have hl:=hR.lt
 clear hR
 go_enter Tryz.func78,Tryz.ntmps78
 go_wp2
 all_goals go_ret
 all_goals exact ⟨rfl,by (repeat (first | exact Below.refl _ _ | refine Below.alloc ?_ (by first | omega | (simp; done) | (simp; omega)) _ | refine Below.setCell ?_ (by first | omega | (simp; done) | (simp; omega)) _ | refine Below.drew ?_))⟩
set_option maxRecDepth 100000 in
theorem pright2_any (x:Rg) (clk:Int) (g:Nat) (t:TypeId) (v0 v1 v3:Value) (w:World) (hR:Blok w g t #[v0,v1,.int .i64 clk,v3]):Calls Tryz.prog 80 #[.agg #[.int .i64 x.fr,.int .i64 x.tn,.int .i64 x.st,.int .i64 x.en,.int .i64 x.ow],.pointer (some ⟨g,0,none⟩)] w fun e w' => e = .returned (.bool (decide (x.en ≤ clk))) ∧ Below w.heap.size w w':=by
 have r2:w.cell? ⟨g,2,none⟩ = some (.int .i64 clk):=hR.cell 2
 have hl:=hR.lt
 clear hR
 go_enter Tryz.func80,Tryz.ntmps80
 go_wp2
 all_goals go_ret
 all_goals exact ⟨rfl,by (repeat (first | exact Below.refl _ _ | refine Below.alloc ?_ (by first | omega | (simp; done) | (simp; omega)) _ | refine Below.setCell ?_ (by first | omega | (simp; done) | (simp; omega)) _ | refine Below.drew ?_))⟩
theorem pred_pr1 (clk:Int) (g:Nat) (t:TypeId) (v0 v1 v3:Value) (w:World) (hR:Blok w g t #[v0,v1,.int .i64 clk,v3]):PredCo 78 #[.pointer (some ⟨g,0,none⟩)] none w (fun x => decide (x.en ≤ clk)):=
 ⟨enter_run Tryz.func78 rfl rfl,fun w' hg x => pright1_any x clk g t v0 v1 v3 w' (hR.grown hg (fun e => by cases e))⟩
theorem pred_pr2 (clk:Int) (g:Nat) (t:TypeId) (v0 v1 v3:Value) (w:World) (hR:Blok w g t #[v0,v1,.int .i64 clk,v3]):PredRg 80 #[.pointer (some ⟨g,0,none⟩)] none w (fun x => decide (x.en ≤ clk)):=
 ⟨enter_run Tryz.func80 rfl rfl,fun w' hg x => pright2_any x clk g t v0 v1 v3 w' (hR.grown hg (fun e => by cases e))⟩
set_option maxHeartbeats 4000000 in
set_option maxRecDepth 100000 in
theorem pright_any (A1:Option Addr) (n1 c1:Nat) (cs:List Co) (A:Option Addr) (n c:Nat) (rs:List Rg) (clk ver:Int) (w:World) (hd1:cs.length = n1) (hn1:n1 ≤ 1000000) (hd:rs.length = n) (hn:n ≤ 1000000) (h1:Sl w w.heap.size 6 A1 n1 c1 (flatCo cs)) (h:Sl w w.heap.size 5 A n c (flatRg rs)) (b:Bool) (hb:rightP cs rs clk ver = b) :
  Calls Tryz.prog 36 #[.agg #[.slice A1 n1 c1,.slice A n c,.int .i64 clk,.int .i64 ver]] w fun e w' => e = .returned (.bool b) ∧ Below w.heap.size w w':=by
 have hB:Below w.heap.size w (w.alloc (.cells #[.slice A1 n1 c1,.slice A n c,.int .i64 clk,.int .i64 ver] 25)):=by (repeat (first | exact Below.refl _ _ | refine Below.alloc ?_ (by first | omega | (simp; done) | (simp; omega)) _ | refine Below.setCell ?_ (by first | omega | (simp; done) | (simp; omega)) _ | refine Below.drew ?_))
 have hP:=Blok.new w 25 #[.slice A1 n1 c1,.slice A n c,.int .i64 clk,.int .i64 ver]
 replace h1:=h1.up hB
 replace h:=h.up hB
 have hs:=hB.size
 have HB:=Lib.hid hb
 have HD1:=Lib.hid hd1
 have HD:=Lib.hid hd
 clear hb hd hd1
 obtain ⟨b1,q1⟩:∃ q,Kc.rightC cs = q:=⟨_,rfl⟩
 obtain ⟨b2,q2⟩:∃ q,Kr.rightB rs = q:=⟨_,rfl⟩
 obtain ⟨b3,q3⟩:∃ q,inB clk 0 2147483647 = q:=⟨_,rfl⟩
 obtain ⟨b4,q4⟩:∃ q,inB ver 0 1099511627776 = q:=⟨_,rfl⟩
 obtain ⟨b5,q5⟩:∃ q,(cs.any fun x => decide (x.en ≤ clk)) = q:=⟨_,rfl⟩
 obtain ⟨b6,q6⟩:∃ q,(rs.any fun x => decide (x.en ≤ clk)) = q:=⟨_,rfl⟩
 have hbb:b = (b1 && (b2 && (b3 && (b4 && (!b5 && !b6))))):=by rw [← HB.out]; unfold rightP aheadC aheadR; rw [q1,q2,q3,q4,q5,q6]
 have Q1:=Lib.hid q1
 have Q2:=Lib.hid q2
 have Q3:=Lib.hid q3
 have Q4:=Lib.hid q4
 have Q5:=Lib.hid q5
 have Q6:=Lib.hid q6
 have HBB:=Lib.hid hbb
 clear q1 q2 q3 q4 q5 q6 hbb HB
 go_enter Tryz.func36,Tryz.ntmps36
 go_wp2_with fail
 generalize w.alloc (.cells #[.slice A1 n1 c1,.slice A n c,.int .i64 clk,.int .i64 ver] 25) = w0 at *
 refine (Kc.right_any A1 n1 c1 cs w0 HD1.out hn1 h1).mono ?_
 rintro e w1 ⟨rfl,hb⟩
 rw [Q1.out]
 replace h1:=h1.up hb
 replace h:=h.up hb
 replace hP:=hP.below hb hP.lt
 replace hB:=hB.trans (hb.mono hs)
 replace hs:=hB.size
 clear hb
 cases b1
 ·go_wp2_with fail
  go_ret
  exact ⟨by rw [HBB.out]; rfl,hB⟩
 have r1:w1.cell? ⟨w.heap.size,1,none⟩ = some (.slice A n c):=hP.cell 1
 have lt_p:=hP.lt
 go_wp2_with fail
 clear r1 lt_p
 refine (Kr.right_any A n c rs w1 HD.out hn h).mono ?_
 rintro e w2 ⟨rfl,hb⟩
 rw [Q2.out]
 replace h1:=h1.up hb
 replace h:=h.up hb
 replace hP:=hP.below hb hP.lt
 replace hB:=hB.trans (hb.mono hs)
 replace hs:=hB.size
 clear hb
 cases b2
 ·go_wp2_with fail
  go_ret
  exact ⟨by rw [HBB.out]; rfl,hB⟩
 have r2:w2.cell? ⟨w.heap.size,2,none⟩ = some (.int .i64 clk):=hP.cell 2
 have r3:w2.cell? ⟨w.heap.size,3,none⟩ = some (.int .i64 ver):=hP.cell 3
 have lt_p:=hP.lt
 go_wp2_with fail
 refine (in_any clk 0 2147483647 w2).mono ?_
 rintro e w3 ⟨rfl,rfl⟩
 rw [Q3.out]
 cases b3
 ·go_wp2_with fail
  go_ret
  exact ⟨by rw [HBB.out]; rfl,hB⟩
 go_wp2_with fail
 refine (in_any ver 0 1099511627776 w2).mono ?_
 rintro e w3 ⟨rfl,rfl⟩
 rw [Q4.out]
 cases b4
 ·go_wp2_with fail
  go_ret
  exact ⟨by rw [HBB.out]; rfl,hB⟩
 have r0:w2.cell? ⟨w.heap.size,0,none⟩ = some (.slice A1 n1 c1):=hP.cell 0
 go_wp2_with fail
 clear r0 r2 r3 lt_p
 refine (containsCo A1 n1 c1 cs _ _ none _ w2 HD1.out hn1 h1 (pred_pr1 clk _ _ _ _ _ w2 hP)).mono ?_
 rintro e w3 ⟨rfl,hb⟩
 rw [Q5.out]
 replace h1:=h1.up hb
 replace h:=h.up hb
 replace hP:=hP.below hb hP.lt
 replace hB:=hB.trans (hb.mono hs)
 replace hs:=hB.size
 clear hb
 cases b5
 case true =>
  go_wp2_with fail
  go_ret
  exact ⟨by rw [HBB.out]; rfl,hB⟩
 have r1:w3.cell? ⟨w.heap.size,1,none⟩ = some (.slice A n c):=hP.cell 1
 have lt_p:=hP.lt
 go_wp2_with fail
 clear r1 lt_p
 refine (containsRg A n c rs _ _ none _ w3 HD.out hn h (pred_pr2 clk _ _ _ _ _ w3 hP)).mono ?_
 rintro e w4 ⟨rfl,hb⟩
 rw [Q6.out]
 replace hB:=hB.trans (hb.mono hs)
 clear hb
 cases b6
 all_goals
  go_wp2_with fail
  go_ret
  exact ⟨by rw [HBB.out]; rfl,hB⟩
set_option maxHeartbeats 1000000 in
set_option maxRecDepth 100000 in
theorem few_any (A1:Option Addr) (n1 c1:Nat) (A:Option Addr) (n c:Nat) (clk ver:Int) (w:World) (b:Bool) (hb:decide (n1 ≤ 50 ∧ n ≤ 50) = b) :
  Calls Tryz.prog 35 #[.agg #[.slice A1 n1 c1,.slice A n c,.int .i64 clk,.int .i64 ver]] w fun e w' => e = .returned (.bool b) ∧ Below w.heap.size w w':=by
 have hB:Below w.heap.size w (w.alloc (.cells #[.slice A1 n1 c1,.slice A n c,.int .i64 clk,.int .i64 ver] 25)):=by (repeat (first | exact Below.refl _ _ | refine Below.alloc ?_ (by first | omega | (simp; done) | (simp; omega)) _ | refine Below.setCell ?_ (by first | omega | (simp; done) | (simp; omega)) _ | refine Below.drew ?_))
 by_cases h1:n1 ≤ 50
 ·by_cases h2:n ≤ 50
  all_goals
   obtain rfl:b = decide (n ≤ 50):=by rw [← hb]; simp [h1]
   clear hb
   have g1:decide ((n1:Int) ≤ 50) = true:=decide_eq_true (by omega)
   first | have g2:decide ((n:Int) ≤ 50) = true:=decide_eq_true (by omega) | have g2:decide ((n:Int) ≤ 50) = false:=decide_eq_false (by omega)
   go_enter Tryz.func35,Tryz.ntmps35
   go_wp2_with fail
   go_ret
   exact ⟨by simp [h2],hB⟩
 ·obtain rfl:b = false:=by rw [← hb]; simp [h1]
  clear hb
  have g1:decide ((n1:Int) ≤ 50) = false:=decide_eq_false (by omega)
  go_enter Tryz.func35,Tryz.ntmps35
  go_wp2_with fail
  go_ret
  exact ⟨rfl,hB⟩
end Go.Proofs.YtjldgcebadojiaaGreatDoor
