/- What is right stays right; Add, Delete, Change and Find of a right table, in one form. No condition. -/
import Derived.Test.YtolaabllhibkdaaGreatGJ
namespace Go.Proofs.YtolaabllhibkdaaGreat.Kc
open Go.ChangeShapes Go.WideShapes Go.ChangeAt Go.RowKit Go.Sort
set_option linter.unusedSimpArgs false
set_option linter.unusedVariables false
theorem okC_span {x:Co} (h:okC x = true):x.st < x.en:=by
 unfold okC contactB spanB at h
 simp only [Bool.and_eq_true,decide_eq_true_eq] at h
 omega
def befC (a b:Co):Prop:=ltC a b ∧ a.id ≠ b.id ∧ (a.fr = b.fr → a.tn = b.tn → a.en ≤ b.st)
theorem over_bef {a b:Co} (ha:okC a = true) (hb:okC b = true) (hl:ltC a b) (ho:overC a b = false):a.fr = b.fr → a.tn = b.tn → a.en ≤ b.st:=by
 have h1:=okC_span ha
 have h2:=okC_span hb
 unfold overC at ho
 rw [decide_eq_false_iff_not] at ho
 unfold ltC at hl
 intro e1 e2
 by_cases hx:a.en ≤ b.st
 ·exact hx
 ·exact absurd ⟨e1,e2,by omega,by omega⟩ ho
theorem right_bef {d:List Co} (h:rightC d = true):∀ (j i:Nat),i < j → j < d.length → befC (gCo d i) (gCo d j)
 | 0,i,h1,_ => by omega
 | j + 1,i,h1,h2 => by
  have hs:=(right_step h h2).2.2 (by omega)
  rw [Nat.add_sub_cancel] at hs
  have hok1:=(right_step h h2).1
  have hok2:=(right_step h (by omega:j < d.length)).1
  have hn:=over_bef hok2 hok1 hs.1 hs.2
  have hid:=right_ids h h1 h2
  refine ⟨right_lt h _ _ h1 h2,hid,?_⟩
  by_cases e:i = j
  ·rw [e]; exact hn
  ·have hp:=right_bef h j i (by omega) (by omega)
   intro e1 e2
   have hl1:=hp.1
   have hl2:=hs.1
   have s1:=okC_span hok2
   have f1:(gCo d i).fr = (gCo d j).fr:=by unfold ltC at hl1 hl2; omega
   have f2:(gCo d i).tn = (gCo d j).tn:=by unfold ltC at hl1 hl2; omega
   have g1:=hp.2.2 f1 f2
   have g2:=hn (by omega) (by omega)
   omega
theorem bef_pairwise {d:List Co} (h:rightC d = true):d.Pairwise befC:=by
 rw [List.pairwise_iff_getElem]
 intro i j hi hj hij
 have:=right_bef h j i hij hj
 rw [gCo_eq hi,gCo_eq hj] at this
 exact this
theorem right_of {d:List Co} (hn:d.length ≤ 4096) (hok:∀ x ∈ d,okC x = true) (hs:d.Pairwise befC):rightC d = true:=by
 rw [rightC_true]
 refine ⟨hn,fun i hi => ?_⟩
 have hpw:=List.pairwise_iff_getElem.1 hs
 unfold stepC
 rw [hok _ (gCo_mem hi),Bool.true_and]
 have h1:idIn (d.take i) (gCo d i).id = false:=by
  unfold idIn
  rw [List.any_eq_false]
  intro x hx
  obtain ⟨j,hj,rfl⟩:=List.mem_take_iff_getElem.1 hx
  have:=(hpw j i (by omega) hi (by omega)).2.1
  rw [gCo_eq hi]
  simpa using this
 rw [h1]
 by_cases h0:i = 0
 ·simp [h0]
 ·have hb:=hpw (i - 1) i (by omega) hi (by omega)
  rw [← gCo_eq hi,← gCo_eq (by omega:i - 1 < d.length)] at hb
  have hc:=cmpC_lt.2 hb.1
  have ho:overC (gCo d (i - 1)) (gCo d i) = false:=by
   unfold overC
   rw [decide_eq_false_iff_not]
   rintro ⟨e1,e2,e3,e4⟩
   have:=hb.2.2 e1 e2
   omega
  rw [ho]
  simp [hc]
theorem right_filter {d:List Co} (h:rightC d = true) (p:Co → Bool):rightC (d.filter p) = true:=
 right_of (Nat.le_trans (List.length_filter_le _ _) (rightC_true.1 h).1) (fun x hx => right_ok h x (List.mem_filter.1 hx).1) ((bef_pairwise h).filter p)
theorem right_ins {d:List Co} {r:Co} {i:Nat} (h:rightC d = true) (hm:mayC d r = 0) (hi:i ≤ d.length) (h1:i = 0 ∨ cmpC (gCo d (i - 1)) r < 0) (h2:i = d.length ∨ 0 ≤ cmpC (gCo d i) r):rightC (insC d i r) = true:=by
 obtain ⟨hok,hlen,hfr,hov⟩:=may_ok hm
 have hbef:∀ a ∈ d.take i,befC a r:=fun a ha => by
  obtain ⟨j,hj,rfl⟩:=List.mem_take_iff_getElem.1 ha
  have hjd:j < d.length:=by omega
  have hl:ltC (gCo d (i - 1)) r:=by
   rcases h1 with h1 | h1
   ·omega
   ·exact cmpC_lt.1 h1
  have hl2:ltC (gCo d j) r:=by
   by_cases e:j = i - 1
   ·rw [e]; exact hl
   ·exact ltC_trans (right_lt h (i - 1) j (by omega) (by omega)) hl
  rw [← gCo_eq hjd]
  exact ⟨hl2,by simpa using hfr _ (gCo_mem hjd),over_bef (right_ok h _ (gCo_mem hjd)) hok hl2 (hov _ (gCo_mem hjd))⟩
 have haft:∀ b ∈ d.drop i,befC r b:=fun b hb => by
  obtain ⟨j,hj,rfl⟩:=List.mem_drop_iff_getElem.1 hb
  have hjd:i + j < d.length:=by omega
  have hl:ltC r (gCo d i):=by
   rcases h2 with h2 | h2
   ·omega
   ·rcases cmpC_spec (gCo d i) r with ⟨_,e⟩ | ⟨_,_,_,e4,_⟩ | ⟨hl,_⟩
    ·omega
    ·have:=hfr _ (gCo_mem (by omega:i < d.length))
     rw [e4] at this
     simp at this
    ·exact hl
  have hl2:ltC r (gCo d (i + j)):=by
   by_cases e:j = 0
   ·subst e; exact hl
   ·exact ltC_trans hl (right_lt h (i + j) i (by omega) hjd)
  rw [← gCo_eq hjd]
  have hb2:=okC_span (right_ok h _ (gCo_mem hjd))
  have hr2:=okC_span hok
  refine ⟨hl2,fun e => by have:=hfr _ (gCo_mem hjd); rw [← e] at this; simp at this,fun e1 e2 => ?_⟩
  have ho:=hov _ (gCo_mem hjd)
  unfold overC at ho
  rw [decide_eq_false_iff_not] at ho
  unfold ltC at hl2
  by_cases hx:r.en ≤ (gCo d (i + j)).st
  ·exact hx
  ·exact absurd ⟨e1.symm,e2.symm,by omega,by omega⟩ ho
 refine right_of (by rw [insC_length r hi]; omega) (fun x hx => ?_) ?_
 ·unfold insC at hx
  simp only [List.mem_append,List.mem_singleton] at hx
  rcases hx with (hx | rfl) | hx
  ·exact right_ok h x (List.mem_of_mem_take hx)
  ·exact hok
  ·exact right_ok h x (List.mem_of_mem_drop hx)
 ·unfold insC
  have hp:=bef_pairwise h
  rw [← List.take_append_drop i d,List.pairwise_append] at hp
  rw [List.append_assoc,List.pairwise_append]
  refine ⟨hp.1,?_,fun a ha b hb => ?_⟩
  ·rw [List.singleton_append,List.pairwise_cons]
   exact ⟨haft,hp.2.1⟩
  ·rw [List.singleton_append,List.mem_cons] at hb
   rcases hb with rfl | hb
   ·exact hbef a ha
   ·exact hp.2.2 a ha b hb
theorem gCo_set {d:List Co} {q j:Nat} (x:Co) (hj:j < d.length):gCo (d.set q x) j = if q = j then x else gCo d j:=by
 rw [gCo_eq (by rw [List.length_set]; exact hj),List.getElem_set,gCo_eq hj]
theorem okC_rt {x:Co} {o:Int} (h:okC x = true) (h0:inB o 1 2147483647 = true):okC (withRt x o) = true:=by
 unfold okC contactB at h ⊢
 simp only [withRt,Bool.and_eq_true] at h ⊢
 exact ⟨h.1,h0⟩
theorem right_set {d:List Co} {q:Nat} {o:Int} (h:rightC d = true) (hq:q < d.length) (h0:inB o 1 2147483647 = true):rightC (d.set q (withRt (gCo d q) o)) = true:=by
 refine right_of (by rw [List.length_set]; exact (rightC_true.1 h).1) (fun x hx => ?_) ?_
 ·obtain ⟨j,hj,rfl⟩:=mem_gCo hx
  rw [List.length_set] at hj
  rw [gCo_set _ hj]
  split
  ·exact okC_rt (right_ok h _ (gCo_mem hq)) h0
  ·exact right_ok h _ (gCo_mem hj)
 ·rw [List.pairwise_iff_getElem]
  intro i j hi hj hij
  rw [List.length_set] at hi hj
  have hb:=right_bef h j i hij hj
  have hi2:=gCo_set (d:=d) (q:=q) (withRt (gCo d q) o) hi
  have hj2:=gCo_set (d:=d) (q:=q) (withRt (gCo d q) o) hj
  rw [gCo_eq (by rw [List.length_set]; exact hi)] at hi2
  rw [gCo_eq (by rw [List.length_set]; exact hj)] at hj2
  rw [hi2,hj2]
  by_cases e1:q = i
  ·subst e1
   rw [if_pos rfl,if_neg (by omega)]
   exact hb
  ·rw [if_neg e1]
   by_cases e2:q = j
   ·subst e2
    rw [if_pos rfl]
    exact hb
   ·rw [if_neg e2]
    exact hb
/-- Who is found by an ID. -/
def foundC (d:List Co) (id:Int):Co:=(d.find? (fun x => x.id == id)).getD ⟨0,0,0,0,0,0⟩
end Go.Proofs.YtolaabllhibkdaaGreat.Kc
