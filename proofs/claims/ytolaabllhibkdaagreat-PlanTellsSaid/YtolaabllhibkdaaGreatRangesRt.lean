/- What is right stays right: a filter, a new owlt, one more. No condition. -/
import Derived.Test.YtolaabllhibkdaaGreatRangesOw
namespace Go.Proofs.YtolaabllhibkdaaGreat.Kr
open Go.ChangeShapes Go.WideShapes Go.ChangeAt Go.RowKit Go.Sort
set_option linter.unusedSimpArgs false
set_option linter.unusedVariables false
theorem right_of {d:List Rg} (hn:d.length ≤ 4096) (hok:∀ x ∈ d,okR x = true) (hs:d.Pairwise befR):rightB d = true:=by
 rw [rightB_true]
 refine ⟨hn,fun i hi => ?_⟩
 unfold stepB
 rw [hok _ (gRg_mem hi),Bool.true_and]
 by_cases h0:i = 0
 ·simp [h0]
 ·have hb:befR (gRg d (i - 1)) (gRg d i):=by
   rw [gRg_elem hi,gRg_elem (by omega)]
   exact List.pairwise_iff_getElem.1 hs (i - 1) i (by omega) hi (by omega)
  obtain ⟨b1,b2⟩:=hb
  have hc:cmpR (gRg d (i - 1)) (gRg d i) < 0:=by
   rcases cmpR_spec (gRg d (i - 1)) (gRg d i) with ⟨_,e⟩ | ⟨e1,e2,e3,e⟩ | ⟨hl,e⟩
   ·omega
   ·unfold ltR at b1; omega
   ·unfold ltR at b1 hl; omega
  have ho:overR (gRg d (i - 1)) (gRg d i) = false:=by
   unfold overR
   rw [decide_eq_false_iff_not]
   rintro ⟨e1,e2,e3,e4⟩
   have:=b2 e1 e2
   omega
  rw [ho]
  simp [hc]
theorem right_ok {d:List Rg} (h:rightB d = true):∀ x ∈ d,okR x = true:=fun x hx => by
 obtain ⟨j,hj,rfl⟩:=mem_gRg hx
 exact rightB_okR h hj
theorem right_filter {d:List Rg} (h:rightB d = true) (p:Rg → Bool):rightB (d.filter p) = true:=
 right_of (Nat.le_trans (List.length_filter_le _ _) (rightB_true.1 h).1) (fun x hx => right_ok h x (List.mem_filter.1 hx).1) ((sort_of_right h).ord.filter p)
theorem fresh_over {d:List Rg} {r:Rg} (hm:mayF d r = 0):d.length < 4096 ∧ ∀ y ∈ d,overR y r = false:=by
 unfold mayF at hm
 split at hm
 ·cases hm
 ·split at hm
  ·cases hm
  ·split at hm
   ·cases hm
   ·rename_i h1 h2 h3
    refine ⟨by omega,fun y hy => ?_⟩
    cases e:overR y r
    ·rfl
    ·exact absurd (List.any_eq_true.2 ⟨y,hy,e⟩) h3
theorem ltR_trans {a b c:Rg} (h1:ltR a b) (h2:ltR b c):ltR a c:=by unfold ltR at *; omega
theorem right_ins {d:List Rg} {r:Rg} {i:Nat} (h:rightB d = true) (hm:mayF d r = 0) (hi:i ≤ d.length) (h1:i = 0 ∨ cmpR (gRg d (i - 1)) r < 0) (h2:i = d.length ∨ 0 ≤ cmpR (gRg d i) r):rightB (insR d i r) = true:=by
 obtain ⟨hok,hfr⟩:=fresh_of h hm
 obtain ⟨hlen,hov⟩:=fresh_over hm
 have hs:=sort_of_right h
 have hrs:=okR_span hok
 have hbef:∀ a ∈ d.take i,befR a r:=fun a ha => by
  obtain ⟨j,hj,rfl⟩:=List.mem_take_iff_getElem.1 ha
  have hjd:j < d.length:=by omega
  have hji:j < i:=by omega
  have hl:ltR (gRg d (i - 1)) r:=by
   rcases h1 with h1 | h1
   ·omega
   ·rcases cmpR_spec (gRg d (i - 1)) r with ⟨hl,_⟩ | ⟨_,_,_,e⟩ | ⟨_,e⟩
    ·exact hl
    ·omega
    ·omega
  have hl2:ltR (gRg d j) r:=by
   by_cases e:j = i - 1
   ·rw [e]; exact hl
   ·exact ltR_trans (hs.at_ (by omega:j < i - 1) (by omega)).1 hl
  rw [← gRg_elem hjd]
  refine ⟨hl2,fun e1 e2 => ?_⟩
  have ho:=hov _ (gRg_mem hjd)
  unfold overR at ho
  rw [decide_eq_false_iff_not] at ho
  unfold ltR at hl2
  by_cases hx:(gRg d j).en ≤ r.st
  ·exact hx
  ·exact absurd ⟨e1,e2,by omega,by omega⟩ ho
 have haft:∀ b ∈ d.drop i,befR r b:=fun b hb => by
  obtain ⟨j,hj,rfl⟩:=List.mem_drop_iff_getElem.1 hb
  have hjd:i + j < d.length:=by omega
  have hl:ltR r (gRg d i):=by
   rcases h2 with h2 | h2
   ·omega
   ·rcases cmpR_spec (gRg d i) r with ⟨_,e⟩ | ⟨e1,e2,e3,e⟩ | ⟨hl,_⟩
    ·omega
    ·have:=hfr _ (gRg_mem (by omega:i < d.length))
     unfold sameR at this
     rw [decide_eq_false_iff_not] at this
     exact absurd ⟨e1,e2,e3⟩ this
    ·exact hl
  have hl2:ltR r (gRg d (i + j)):=by
   by_cases e:j = 0
   ·subst e; exact hl
   ·exact ltR_trans hl (hs.at_ (by omega:i < i + j) hjd).1
  rw [← gRg_elem hjd]
  refine ⟨hl2,fun e1 e2 => ?_⟩
  have ho:=hov _ (gRg_mem hjd)
  have hsp:=hs.sp hjd
  unfold overR at ho
  rw [decide_eq_false_iff_not] at ho
  unfold ltR at hl2
  by_cases hx:r.en ≤ (gRg d (i + j)).st
  ·exact hx
  ·exact absurd ⟨e1.symm,e2.symm,by omega,by omega⟩ ho
 refine right_of (by rw [insR_length r hi]; omega) (fun x hx => ?_) ?_
 ·unfold insR at hx
  simp only [List.mem_append,List.mem_singleton] at hx
  rcases hx with (hx | rfl) | hx
  ·exact right_ok h x (List.mem_of_mem_take hx)
  ·exact hok
  ·exact right_ok h x (List.mem_of_mem_drop hx)
 ·unfold insR
  have hp:=hs.ord
  rw [← List.take_append_drop i d,List.pairwise_append] at hp
  rw [List.append_assoc,List.pairwise_append]
  refine ⟨hp.1,?_,fun a ha b hb => ?_⟩
  ·rw [List.singleton_append,List.pairwise_cons]
   exact ⟨haft,hp.2.1⟩
  ·rw [List.singleton_append,List.mem_cons] at hb
   rcases hb with rfl | hb
   ·exact hbef a ha
   ·exact hp.2.2 a ha b hb
theorem gRg_set {d:List Rg} {q j:Nat} (x:Rg) (hj:j < d.length):gRg (d.set q x) j = if q = j then x else gRg d j:=by
 rw [gRg_elem (by rw [List.length_set]; exact hj),List.getElem_set,gRg_elem hj]
theorem okR_ow {x:Rg} {o:Int} (h:okR x = true) (h0:0 ≤ o) (h1:o ≤ 2147483647):okR (withOw x o) = true:=by
 unfold okR rangeB at h ⊢
 simp only [withOw]
 simp only [Bool.and_eq_true] at h ⊢
 refine ⟨⟨h.1.1,h.1.2⟩,?_⟩
 unfold inB
 simp
 omega
theorem right_set {d:List Rg} {q:Nat} {o:Int} (h:rightB d = true) (hq:q < d.length) (h0:0 ≤ o) (h1:o ≤ 2147483647):rightB (d.set q (withOw (gRg d q) o)) = true:=by
 have hs:=sort_of_right h
 refine right_of (by rw [List.length_set]; exact (rightB_true.1 h).1) (fun x hx => ?_) ?_
 ·obtain ⟨j,hj,rfl⟩:=mem_gRg hx
  rw [List.length_set] at hj
  rw [gRg_set _ hj]
  split
  ·exact okR_ow (rightB_okR h hq) h0 h1
  ·exact rightB_okR h hj
 ·rw [List.pairwise_iff_getElem]
  intro i j hi hj hij
  rw [List.length_set] at hi hj
  have hb:=hs.at_ hij hj
  have hi2:=gRg_set (d:=d) (q:=q) (withOw (gRg d q) o) hi
  have hj2:=gRg_set (d:=d) (q:=q) (withOw (gRg d q) o) hj
  rw [gRg_elem (by rw [List.length_set]; exact hi)] at hi2
  rw [gRg_elem (by rw [List.length_set]; exact hj)] at hj2
  rw [hi2,hj2]
  by_cases e1:q = i
  ·subst e1
   rw [if_pos rfl,if_neg (by omega)]
   exact hb
  ·rw [if_neg e1]
   by_cases e2:q = j
   ·subst e2
    rw [if_pos rfl]
    exact hb
   ·rw [if_neg e2]
    exact hb
end Go.Proofs.YtolaabllhibkdaaGreat.Kr
