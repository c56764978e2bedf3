/- Several texts of mine in one: StM, StTime. No condition. -/
import Derived.Test.YtjldgcebadojiaaGreatDoorSt5
import Derived.Test.YtjldgcebadojiaaGreatDoorSt6
import Derived.Test.YtjldgcebadojiaaGreatDoorGQ17
namespace Go.Proofs.YtjldgcebadojiaaGreatDoor
open Go.ChangeShapes Go.WideShapes Go.ChangeAt Go.RowKit Go.Sort
set_option linter.unusedSimpArgs false
set_option linter.unusedVariables false
theorem hasK_spec {cs:List Co} {x:Bk}:hasK cs x = true ↔ Kc.idIn cs x.id = true ∧ overB x (Kc.foundC cs x.id) = false:=by
 unfold hasK
 rw [Bool.and_eq_true,Bool.not_eq_true']
theorem hasK_mem {cs:List Co} (hr:Kc.rightC cs = true) {x:Bk} {y:Co} (hy:y ∈ cs) (e:y.id = x.id) (ho:overB x y = false):hasK cs x = true:=by
 rw [hasK_spec,← e]
 exact ⟨Kc.idIn_mem hy,by rw [Kc.found_of hr hy]; exact ho⟩
theorem hasK_get {cs:List Co} {x:Bk} (h:hasK cs x = true):∃ y ∈ cs,y.id = x.id ∧ overB x y = false:=by
 obtain ⟨h1,h2⟩:=hasK_spec.1 h
 obtain ⟨m,e⟩:=Kc.found_mem h1
 exact ⟨_,m,e,h2⟩
theorem addT_keep {d:List Co} {r x:Co} (hr:Kc.rightC d = true) (h:x ∈ d):x ∈ addT d r:=by
 by_cases hm:Kc.mayC d r = 0
 ·obtain ⟨i,hi,e,_,_⟩:=addT_at hr hm
  rw [e]
  unfold Kc.insC
  rw [← List.take_append_drop i d] at h
  simp only [List.mem_append,List.mem_singleton] at h ⊢
  rcases h with h | h
  ·exact .inl (.inl h)
  ·exact .inr h
 ·unfold addT; rw [if_neg hm]; exact h
theorem chgT_keep {d:List Co} {id rt:Int} {x:Co} (h:x ∈ d) (hne:x.id ≠ id):x ∈ chgT d id rt:=by
 unfold chgT
 split
 ·rename_i hc
  obtain ⟨q,hq,hbef,hat⟩:=firstHitCo hc.2
  have hf:d.findIdx (fun x => x.id == id) = q:=first_at _ hq (fun j hj hjq => by have:=hbef j hjq; rw [gCo_eq hj] at this; exact this) (by rw [gCo_eq hq] at hat; exact hat)
  rw [hf]
  obtain ⟨i,hi,e⟩:=List.getElem_of_mem h
  have hiq:i ≠ q:=fun e2 => by
   subst e2
   rw [gCo_eq hq] at hat
   have:(d[i]).id = id:=by simpa using hat
   rw [e] at this
   exact hne this
  rw [List.mem_iff_getElem]
  exact ⟨i,by simpa using hi,by rw [List.getElem_set_ne (fun e2 => hiq e2.symm)]; exact e⟩
 ·exact h
theorem known_op {d:Dr} (h:knownD d = true):d.op = 1 ∨ d.op = 2 ∨ d.op = 3:=by
 unfold knownD formV at h
 by_cases e1:d.op = 1
 ·exact .inl e1
 by_cases e2:d.op = 2
 ·exact .inr (.inl e2)
 by_cases e3:d.op = 3
 ·exact .inr (.inr e3)
 rw [if_neg (fun h => e1 h.1),if_neg (fun h => e2 h.1),if_neg (fun h => e3 h.1),if_neg (fun h => e1 h.1),if_neg (fun h => e2 h.1),if_neg (fun h => e3 h.1)] at h
 cases h
theorem editS_right {s:St} {d:Dr} (hr:rightS s = true):rightS (editS s d) = true:=by
 unfold editS
 by_cases hq:editQ s d ≠ 0
 ·rw [if_pos hq]; exact hr
 ·rw [if_neg hq]
  have hq0:editQ s d = 0:=by omega
  obtain ⟨h1,h2,h3⟩:=rightS_spec.1 hr
  have hsq:stepQ s.p d = 0:=by
   unfold editQ at hq0
   by_cases h:stepQ s.p d ≠ 0
   ·rw [if_pos h] at hq0; exact hq0
   ·omega
  have har:=stepP_right (d:=d) h1
  have hac:=(Pl.right_spec.1 har).co
  have hcc:=(Pl.right_spec.1 h1).co
  have hrd:rightD d = true:=by
   cases hd:rightD d with
   | true => rfl
   | false => unfold stepQ at hsq; rw [hd,if_pos rfl] at hsq; cases hsq
  have hsp:stepP s.p d = if d.kd = 1 then ⟨stepCl s.p.cs d,s.p.rs,s.p.clk,min (s.p.ver + 1) 1099511627776⟩ else ⟨s.p.cs,stepRl s.p.rs d,s.p.clk,min (s.p.ver + 1) 1099511627776⟩:=by unfold stepP; rw [if_pos hsq]
  have hb:Kb.rightB (if d.kd = 1 ∧ d.op = 2 then Kb.dropL s.b [d.id] else s.b) = true:=by
   split
   ·exact Kb.drop_right h2
   ·exact h2
  refine rightS_spec.2 ⟨har,hb,fun x hx => ?_⟩
  show hasK (stepP s.p d).cs x = true
  by_cases hk:d.kd = 1
  ·have hcs:(stepP s.p d).cs = stepCl s.p.cs d:=by rw [hsp,if_pos hk]
   rw [hcs] at hac ⊢
   by_cases o2:d.op = 2
   ·have hx':x ∈ Kb.dropL s.b [d.id]:=by
     have hx0:x ∈ (if d.kd = 1 ∧ d.op = 2 then Kb.dropL s.b [d.id] else s.b):=hx
     rwa [if_pos ⟨hk,o2⟩] at hx0
    obtain ⟨m,hne⟩:=List.mem_filter.1 hx'
    obtain ⟨y,hy,e,ho⟩:=hasK_get (h3 x m)
    refine hasK_mem hac (y:=y) ?_ e ho
    unfold stepCl
    rw [if_neg (by rw [o2]; decide),if_pos o2]
    unfold delT
    refine List.mem_filter.2 ⟨hy,?_⟩
    have:Kb.inL [d.id] x.id = false:=by simpa using hne
    unfold Kb.inL at this
    simp at this
    rw [e]
    simp
    exact fun h => this h.symm
   ·have hx':x ∈ s.b:=by
     have hx0:x ∈ (if d.kd = 1 ∧ d.op = 2 then Kb.dropL s.b [d.id] else s.b):=hx
     rwa [if_neg (fun h => o2 h.2)] at hx0
    obtain ⟨y,hy,e,ho⟩:=hasK_get (h3 x hx')
    by_cases o1:d.op = 1
    ·refine hasK_mem hac (y:=y) ?_ e ho
     unfold stepCl
     rw [if_pos o1]
     exact addT_keep hcc hy
    ·have o3:d.op = 3:=by
      unfold rightD at hrd
      rw [Bool.and_eq_true] at hrd
      rcases known_op hrd.1 with h | h | h
      ·exact absurd h o1
      ·exact absurd h o2
      ·exact h
     by_cases hyi:y.id = d.id
     ·have hov:overC21 s (stepP s.p d) d = false:=by
       unfold editQ at hq0
       rw [if_neg (by omega)] at hq0
       cases hc:overC21 s (stepP s.p d) d with
       | false => rfl
       | true => rw [if_pos ⟨⟨hk,o3⟩,hc⟩] at hq0; cases hq0
      have hin:Kc.idIn (stepCl s.p.cs d) d.id = true:=by
       unfold stepQ at hsq
       rw [if_neg (by rw [hrd]; simp),if_neg (fun h => o1 h.1),if_pos hk] at hsq
       unfold stepCq at hsq
       rw [if_neg o1,if_neg o2] at hsq
       unfold stepCl
       rw [if_neg o1,if_neg o2]
       unfold chgTq at hsq
       unfold chgT
       have hid:Kc.idIn s.p.cs d.id = true:=by rw [← hyi]; exact Kc.idIn_mem hy
       split
       ·rename_i hc
        obtain ⟨q,hq2,hbef,hat⟩:=firstHitCo hc.2
        have hf:s.p.cs.findIdx (fun x => x.id == d.id) = q:=first_at _ hq2 (fun j hj hjq => by have:=hbef j hjq; rw [gCo_eq hj] at this; exact this) (by rw [gCo_eq hq2] at hat; exact hat)
        rw [hf]
        unfold Kc.idIn
        refine List.any_eq_true.2 ⟨Kc.withRt (gCo s.p.cs q) d.rt,?_,?_⟩
        ·rw [List.mem_iff_getElem]
         exact ⟨q,by simpa using hq2,by simp⟩
        ·show ((gCo s.p.cs q).id == d.id) = true
         exact hat
       ·exact hid
      obtain ⟨hm,hmi⟩:=Kc.found_mem hin
      rw [hcs.symm] at hm hmi ⊢
      rw [← hcs] at hac
      refine hasK_mem hac hm (by rw [hmi,← hyi,e]) ?_
      unfold overC21 at hov
      rw [hmi] at hov
      rw [← hyi,e,Kb.rowB_mem (Kb.right_sort h2) hx'] at hov
      rw [← hyi,e]
      exact hov
     ·refine hasK_mem hac (y:=y) ?_ e ho
      unfold stepCl
      rw [if_neg o1,if_neg o2]
      exact chgT_keep hy hyi
  ·have hcs:(stepP s.p d).cs = s.p.cs:=by rw [hsp,if_neg hk]
   have hx':x ∈ s.b:=by
    have hx0:x ∈ (if d.kd = 1 ∧ d.op = 2 then Kb.dropL s.b [d.id] else s.b):=hx
    rwa [if_neg (fun h => hk h.1)] at hx0
   rw [hcs]
   exact h3 x hx'
theorem advS_right {s:St} {now:Int} (hr:rightS s = true):rightS (advS s now) = true:=by
 obtain ⟨h1,h2,h3⟩:=rightS_spec.1 hr
 have har:=adv_right (now:=now) h1
 have hcc:=(Pl.right_spec.1 h1).co
 refine rightS_spec.2 ⟨har,Kb.drop_right h2,fun x hx => ?_⟩
 obtain ⟨m,hne⟩:=List.mem_filter.1 (show x ∈ s.b.filter (fun x => !Kb.inL (advG s.p now) x.id) from hx)
 show hasK (advP s.p now).cs x = true
 have hac:=(Pl.right_spec.1 har).co
 have hno:Kb.inL (advG s.p now) x.id = false:=by simpa using hne
 obtain ⟨y,hy,e,ho⟩:=hasK_get (h3 x m)
 by_cases hin:inB now s.p.clk 2147483647 = true
 ·have e1:(advP s.p now).cs = Kc.leftC s.p.cs now:=by unfold advP; rw [if_pos hin]
  rw [e1] at hac ⊢
  refine hasK_mem hac (y:=y) ?_ e ho
  unfold Kc.leftC
  refine List.mem_filter.2 ⟨hy,?_⟩
  cases hov:Kc.overE now y with
  | false => rfl
  | true =>
   exfalso
   have hg:advG s.p now = sortI (Kc.goneL s.p.cs now):=by unfold advG; rw [if_pos hin]
   rw [hg] at hno
   have:y.id ∈ sortI (Kc.goneL s.p.cs now):=by
    unfold sortI
    rw [(List.mergeSort_perm _ _).mem_iff]
    unfold Kc.goneL
    exact List.mem_map.2 ⟨y,List.mem_filter.2 ⟨hy,hov⟩,rfl⟩
   unfold Kb.inL at hno
   rw [List.any_eq_false] at hno
   exact hno _ this (by rw [e]; simp)
 ·have e1:(advP s.p now).cs = s.p.cs:=by unfold advP; rw [if_neg hin]
  rw [e1]
  exact h3 x m
theorem adv_clk {p:Pl} {now:Int} (h:advQ p now = 0):(advP p now).clk = now ∧ p.clk ≤ now ∧ now ≤ 2147483647:=by
 unfold advQ at h
 by_cases hi:inB now p.clk 2147483647 = true
 ·unfold advP
  rw [if_pos hi]
  exact ⟨rfl,inB_spec.1 hi⟩
 ·rw [if_neg hi] at h; cases h
theorem advQ_iff {p:Pl} {now:Int}:advQ p now = 0 ↔ p.clk ≤ now ∧ now ≤ 2147483647:=by
 unfold advQ
 by_cases hi:inB now p.clk 2147483647 = true
 ·rw [if_pos hi]; exact ⟨fun _ => inB_spec.1 hi,fun _ => rfl⟩
 ·rw [if_neg hi]; exact ⟨fun h => (by cases h),fun h => absurd (inB_spec.2 h) hi⟩
theorem advQ_or (p:Pl) (now:Int):advQ p now = 0 ∨ advQ p now = 7:=by
 unfold advQ
 split
 ·exact .inl rfl
 ·exact .inr rfl
theorem later_q {p:Pl} {now later:Int} (h:advQ p now = 0) (hl:now ≤ later):advQ (advP p now) later = advQ p later:=by
 obtain ⟨h1,h2,h3⟩:=adv_clk h
 have e1:=advQ_iff (p:=advP p now) (now:=later)
 have e2:=advQ_iff (p:=p) (now:=later)
 rw [h1] at e1
 rcases advQ_or (advP p now) later with a | a <;> rcases advQ_or p later with b | b
 ·rw [a,b]
 ·have:=e1.1 a; have:advQ p later = 0:=e2.2 ⟨by omega,this.2⟩; omega
 ·have:=e2.1 b; have:advQ (advP p now) later = 0:=e1.2 ⟨hl,this.2⟩; omega
 ·rw [a,b]
theorem later_cs {p:Pl} {now later:Int} (h:advQ p now = 0) (h2:advQ p later = 0) (hl:now ≤ later):(advP (advP p now) later).cs = (advP p later).cs:=by
 have hi:inB now p.clk 2147483647 = true:=inB_spec.2 (advQ_iff.1 h)
 have hi2:inB later p.clk 2147483647 = true:=inB_spec.2 (advQ_iff.1 h2)
 have hi3:inB later (advP p now).clk 2147483647 = true:=inB_spec.2 (advQ_iff.1 ((later_q h hl).trans h2))
 have e1:(advP (advP p now) later).cs = Kc.leftC (advP p now).cs later:=by rw [advP,if_pos hi3]
 have e2:(advP p later).cs = Kc.leftC p.cs later:=by rw [advP,if_pos hi2]
 have e3:(advP p now).cs = Kc.leftC p.cs now:=by rw [advP,if_pos hi]
 rw [e1,e2,e3]
 unfold Kc.leftC
 rw [List.filter_filter]
 refine List.filter_congr fun x _ => ?_
 unfold Kc.overE
 by_cases a:x.en ≤ later <;> by_cases b:x.en ≤ now <;> simp [a,b] <;> omega
theorem inL_gone {p:Pl} {now i:Int} (h:advQ p now = 0):Kb.inL (advG p now) i = true ↔ ∃ y ∈ p.cs,y.en ≤ now ∧ y.id = i:=by
 have hi:inB now p.clk 2147483647 = true:=inB_spec.2 (advQ_iff.1 h)
 have e:advG p now = sortI (Kc.goneL p.cs now):=by unfold advG; rw [if_pos hi]
 rw [e]
 unfold Kb.inL
 rw [List.any_eq_true]
 constructor
 ·rintro ⟨j,hj,he⟩
  unfold sortI at hj
  have h2:=(List.mergeSort_perm _ _).mem_iff.1 hj
  unfold Kc.goneL at h2
  obtain ⟨y,hy,rfl⟩:=List.mem_map.1 h2
  obtain ⟨m,o⟩:=List.mem_filter.1 hy
  exact ⟨y,m,by simpa [Kc.overE] using o,by simpa using he⟩
 ·rintro ⟨y,hy,ho,rfl⟩
  refine ⟨y.id,?_,by simp⟩
  unfold sortI
  rw [(List.mergeSort_perm _ _).mem_iff]
  unfold Kc.goneL
  exact List.mem_map.2 ⟨y,List.mem_filter.2 ⟨hy,by simpa [Kc.overE] using ho⟩,rfl⟩
theorem later_b {s:St} {now later:Int} (h:advQ s.p now = 0) (h2:advQ s.p later = 0) (hl:now ≤ later):(advS (advS s now) later).b = (advS s later).b:=by
 show Kb.dropL (Kb.dropL s.b (advG s.p now)) (advG (advP s.p now) later) = Kb.dropL s.b (advG s.p later)
 have h3:advQ (advP s.p now) later = 0:=(later_q h hl).trans h2
 have hi:inB now s.p.clk 2147483647 = true:=inB_spec.2 (advQ_iff.1 h)
 have e3:(advP s.p now).cs = Kc.leftC s.p.cs now:=by rw [advP,if_pos hi]
 unfold Kb.dropL
 rw [List.filter_filter]
 refine List.filter_congr fun x _ => ?_
 have k1:=inL_gone (i:=x.id) h
 have k2:=inL_gone (i:=x.id) h2
 have k3:=inL_gone (i:=x.id) h3
 rw [e3] at k3
 rw [Bool.eq_iff_iff]
 simp only [Bool.and_eq_true,Bool.not_eq_true',← Bool.not_eq_true]
 rw [k1,k2,k3]
 constructor
 ·rintro ⟨a,b⟩ ⟨y,hy,ho,he⟩
  by_cases hn:y.en ≤ now
  ·exact b ⟨y,hy,hn,he⟩
  ·exact a ⟨y,by unfold Kc.leftC; exact List.mem_filter.2 ⟨hy,by simp [Kc.overE]; omega⟩,ho,he⟩
 ·intro a
  refine ⟨?_,?_⟩
  ·rintro ⟨y,hy,ho,he⟩
   unfold Kc.leftC at hy
   exact a ⟨y,(List.mem_filter.1 hy).1,ho,he⟩
  ·rintro ⟨y,hy,ho,he⟩
   exact a ⟨y,hy,by omega,he⟩
end Go.Proofs.YtjldgcebadojiaaGreatDoor
