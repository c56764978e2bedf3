/- Several texts of mine in one: Tabs, PlanR. No condition. -/
import Derived.Test.YtolaabllhibkdaaGreatRangesRt
import Derived.Test.YtolaabllhibkdaaGreatContactsAct
import Derived.Test.YtolaabllhibkdaaGreatGK
import Derived.Test.YtolaabllhibkdaaGreatRangesOw

/- What becomes of a table of contacts or of ranges, as plain functions, and the calls' contracts by them. They make new memory alone. -/
namespace Go.Proofs.YtolaabllhibkdaaGreat
open Go.ChangeShapes Go.WideShapes Go.ChangeAt Go.RowKit Go.Sort
set_option linter.unusedSimpArgs false
set_option linter.unusedVariables false
theorem while_at {α:Type} (p:α → Bool):∀ (d:List α) (i:Nat),i ≤ d.length → (∀ j (h:j < d.length),j < i → p d[j] = true) → (∀ h:i < d.length,p d[i] = false) → d.takeWhile p = d.take i ∧ d.dropWhile p = d.drop i
 | [],i,_,_,_ => by simp
 | x :: d,0,_,_,h2 => by
  have:=h2 (by simp)
  simp only [List.getElem_cons_zero] at this
  simp [this]
 | x :: d,i + 1,hi,h1,h2 => by
  have hx:p x = true:=h1 0 (by simp) (by omega)
  obtain ⟨e1,e2⟩:=while_at p d i (by simpa using hi) (fun j h hj => h1 (j + 1) (by simpa using h) (by omega)) (fun h => h2 (by simpa using h))
  simp [hx,e1,e2]
/-! Contacts. -/
def addT (d:List Co) (r:Co):List Co:=if Kc.mayC d r = 0 then d.takeWhile (fun x => decide (Kc.cmpC x r < 0)) ++ [r] ++ d.dropWhile (fun x => decide (Kc.cmpC x r < 0)) else d
def delT (d:List Co) (id:Int):List Co:=d.filter (fun x => !(x.id == id))
def delTq (d:List Co) (id:Int):Int:=if (delT d id).length = d.length then 6 else 0
def chgT (d:List Co) (id rt:Int):List Co:=if inB rt 1 2147483647 = true ∧ Kc.idIn d id = true then d.set (d.findIdx (fun x => x.id == id)) (Kc.withRt (gCo d (d.findIdx (fun x => x.id == id))) rt) else d
def chgTq (d:List Co) (id rt:Int):Int:=if inB rt 1 2147483647 = false then 1 else if Kc.idIn d id = true then 0 else 6
theorem addT_yes {d:List Co} {r:Co} {i:Nat} (hr:Kc.rightC d = true) (hm:Kc.mayC d r = 0) (hi:i ≤ d.length) (h1:i = 0 ∨ Kc.cmpC (gCo d (i - 1)) r < 0) (h2:i = d.length ∨ 0 ≤ Kc.cmpC (gCo d i) r):addT d r = Kc.insC d i r:=by
 unfold addT Kc.insC
 rw [if_pos hm]
 obtain ⟨e1,e2⟩:=while_at (fun x => decide (Kc.cmpC x r < 0)) d i hi (fun j hj hji => by
  rw [decide_eq_true_eq,← gCo_eq hj]
  rcases h1 with h1 | h1
  ·omega
  ·by_cases e:j = i - 1
   ·rw [e]; exact h1
   ·exact Kc.cmpC_lt.2 (Kc.ltC_trans (Kc.right_lt hr (i - 1) j (by omega) (by omega)) (Kc.cmpC_lt.1 h1))) (fun h => by
  rw [decide_eq_false_iff_not,← gCo_eq h]
  rcases h2 with h2 | h2 <;> omega)
 rw [e1,e2]
/-- Where it goes, if it may. -/
theorem addT_at {d:List Co} {r:Co} (hr:Kc.rightC d = true) (hm:Kc.mayC d r = 0):∃ i,i ≤ d.length ∧ addT d r = Kc.insC d i r ∧ (i = 0 ∨ Kc.cmpC (gCo d (i - 1)) r < 0) ∧ (i = d.length ∨ 0 ≤ Kc.cmpC (gCo d i) r):=by
 have key:∀ (k:Nat),k ≤ d.length → (∀ j,j < k → Kc.cmpC (gCo d j) r < 0) ∨ ∃ i,i < k ∧ (∀ j,j < i → Kc.cmpC (gCo d j) r < 0) ∧ 0 ≤ Kc.cmpC (gCo d i) r:=by
  intro k
  induction k with
  | zero => exact fun _ => .inl fun j hj => by omega
  | succ k ih =>
   intro hk
   rcases ih (by omega) with h | ⟨i,h1,h2,h3⟩
   ·by_cases hc:Kc.cmpC (gCo d k) r < 0
    ·exact .inl fun j hj => by
      by_cases e:j = k
      ·rw [e]; exact hc
      ·exact h j (by omega)
    ·exact .inr ⟨k,by omega,h,by omega⟩
   ·exact .inr ⟨i,by omega,h2,h3⟩
 rcases key d.length (Nat.le_refl _) with h | ⟨i,h1,h2,h3⟩
 ·have a1:d.length = 0 ∨ Kc.cmpC (gCo d (d.length - 1)) r < 0:=by
   by_cases e:d.length = 0
   ·exact .inl e
   ·exact .inr (h _ (by omega))
  exact ⟨d.length,Nat.le_refl _,addT_yes hr hm (Nat.le_refl _) a1 (.inl rfl),a1,.inl rfl⟩
 ·have a1:i = 0 ∨ Kc.cmpC (gCo d (i - 1)) r < 0:=by
   by_cases e:i = 0
   ·exact .inl e
   ·exact .inr (h2 _ (by omega))
  exact ⟨i,by omega,addT_yes hr hm (by omega) a1 (.inr h3),a1,.inr h3⟩
theorem addT_right {d:List Co} {r:Co} (hr:Kc.rightC d = true):Kc.rightC (addT d r) = true:=by
 by_cases hm:Kc.mayC d r = 0
 ·obtain ⟨i,hi,e,h1,h2⟩:=addT_at hr hm
  rw [e]
  exact Kc.right_ins hr hm hi h1 h2
 ·unfold addT; rw [if_neg hm]; exact hr
theorem addT_any (A:Option Addr) (n c:Nat) (d:List Co) (r:Co) (w:World) (hd:d.length = n) (hn:n ≤ 1000000 - 1) (h:Sl w w.heap.size 6 A n c (flatCo d)) (hr:Kc.rightC d = true) (q:Int) (hq:Kc.mayC d r = q) (l:List Co) (hl:addT d r = l) :
  Calls Tryz.prog 102 #[.slice A n c,.agg #[.int .i64 r.id,.int .i64 r.fr,.int .i64 r.tn,.int .i64 r.st,.int .i64 r.en,.int .i64 r.rt]] w fun e w' => ∃ v,e = .returned (.tuple #[v,.int .i64 q]) ∧ w'.ownsRow w.heap.size 33 6 v l.length (flatCo l) ∧ Below w.heap.size w w':=by
 subst hq
 subst hl
 by_cases hm:Kc.mayC d r = 0
 ·refine (Kc.add_yes A n c d r w hd hn h hm).mono ?_
  rintro e w' ⟨v,i,rfl,hi,h1,h2,hv,hb⟩
  have hi':i ≤ d.length:=by omega
  have he:=addT_yes hr hm hi' h1 (by rw [hd]; exact h2)
  rw [hm,he,Kc.insC_length r hi',hd]
  exact ⟨v,rfl,hv,hb⟩
 ·refine (Kc.add_no A n c d r w _ hd (by omega) h rfl hm).mono ?_
  rintro e w' ⟨v,rfl,hv,hb⟩
  have he:addT d r = d:=by unfold addT; rw [if_neg hm]
  rw [he,hd]
  exact ⟨v,rfl,hv,hb⟩
theorem delT_any (A:Option Addr) (n c:Nat) (d:List Co) (id:Int) (w:World) (hd:d.length = n) (hn:n ≤ 1000000) (h:Sl w w.heap.size 6 A n c (flatCo d)) (q:Int) (hq:delTq d id = q) (l:List Co) (hl:delT d id = l) :
  Calls Tryz.prog 103 #[.slice A n c,.int .i64 id] w fun e w' => ∃ v,e = .returned (.tuple #[v,.int .i64 q]) ∧ w'.ownsRow w.heap.size 33 6 v l.length (flatCo l) ∧ Below w.heap.size w w':=by
 subst hq
 subst hl
 subst hd
 exact Kc.del_any A _ c d id w rfl hn h
theorem first_at {α:Type} (p:α → Bool) {d:List α} {q:Nat} (hq:q < d.length) (h1:∀ j (h:j < d.length),j < q → p d[j] = false) (h2:p d[q] = true):d.findIdx p = q:=by
 rw [List.findIdx_eq hq]
 exact ⟨h2,fun j hj => by simpa using h1 j (by omega) hj⟩
theorem chgT_any (A:Option Addr) (n c:Nat) (d:List Co) (id rt:Int) (w:World) (hd:d.length = n) (hn:n ≤ 1000000) (h:Sl w w.heap.size 6 A n c (flatCo d)) (q:Int) (hq:chgTq d id rt = q) (l:List Co) (hl:chgT d id rt = l) :
  Calls Tryz.prog 104 #[.slice A n c,.int .i64 id,.int .i64 rt] w fun e w' => ∃ v,e = .returned (.tuple #[v,.int .i64 q]) ∧ w'.ownsRow w.heap.size 33 6 v l.length (flatCo l) ∧ Below w.heap.size w w':=by
 subst hq
 subst hl
 cases ho:inB rt 1 2147483647
 ·have e1:chgT d id rt = d:=by unfold chgT; rw [if_neg (by rw [ho]; simp)]
  have e2:chgTq d id rt = 1:=by unfold chgTq; rw [if_pos ho]
  rw [e1,e2,hd]
  exact Kc.change_arg A n c d id rt w hd hn h ho
 ·cases hid:Kc.idIn d id
  ·have e1:chgT d id rt = d:=by unfold chgT; rw [if_neg (by rw [hid]; simp)]
   have e2:chgTq d id rt = 6:=by unfold chgTq; rw [if_neg (by rw [ho]; simp),if_neg (by rw [hid]; simp)]
   rw [e1,e2,hd]
   exact Kc.change_none A n c d id rt w hd hn h ho (fun j hj => noHitCo hid (by omega))
  ·obtain ⟨q,hq,hbef,hat⟩:=firstHitCo hid
   have hf:d.findIdx (fun x => x.id == id) = q:=first_at _ hq (fun j hj hjq => by have:=hbef j hjq; rw [gCo_eq hj] at this; exact this) (by rw [gCo_eq hq] at hat; exact hat)
   have e1:chgT d id rt = d.set q (Kc.withRt (gCo d q) rt):=by unfold chgT; rw [if_pos ⟨ho,hid⟩,hf]
   have e2:chgTq d id rt = 0:=by unfold chgTq; rw [if_neg (by rw [ho]; simp),if_pos hid]
   rw [e1,e2,List.length_set,hd]
   exact Kc.change_yes A n c d id rt w q hd hn h ho (by omega) hbef hat
theorem chgT_right {d:List Co} {id rt:Int} (hr:Kc.rightC d = true):Kc.rightC (chgT d id rt) = true ∧ (chgT d id rt).length = d.length:=by
 unfold chgT
 split
 ·rename_i h
  obtain ⟨q,hq,hbef,hat⟩:=firstHitCo h.2
  have hf:d.findIdx (fun x => x.id == id) = q:=first_at _ hq (fun j hj hjq => by have:=hbef j hjq; rw [gCo_eq hj] at this; exact this) (by rw [gCo_eq hq] at hat; exact hat)
  rw [hf]
  exact ⟨Kc.right_set hr hq h.1,List.length_set⟩
 ·exact ⟨hr,rfl⟩
/-! Ranges. -/
theorem cmpR_lt {a b:Rg}:Kr.cmpR a b < 0 ↔ Kr.ltR a b:=by
 rcases Kr.cmpR_spec a b with ⟨h,e⟩ | ⟨e1,e2,e3,e⟩ | ⟨h,e⟩
 ·exact ⟨fun _ => h,fun _ => by omega⟩
 ·exact ⟨fun h => by omega,fun h => by unfold Kr.ltR at h; omega⟩
 ·exact ⟨fun h => by omega,fun h' => by unfold Kr.ltR at h h'; omega⟩
theorem rightR_lt {d:List Rg} (h:Kr.rightB d = true) {i j:Nat} (hij:i < j) (hj:j < d.length):Kr.ltR (gRg d i) (gRg d j):=by
 have:=(List.pairwise_iff_getElem.1 (Kr.sort_of_right h).ord) i j (by omega) hj hij
 rw [gRg_eq (by omega),gRg_eq hj]
 exact this.1
def addU (d:List Rg) (r:Rg):List Rg:=if Kr.mayF d r = 0 then d.takeWhile (fun x => decide (Kr.cmpR x r < 0)) ++ [r] ++ d.dropWhile (fun x => decide (Kr.cmpR x r < 0)) else d
def delU (d:List Rg) (r:Rg):List Rg:=d.filter (fun x => !Kr.sameR x r)
def delUq (d:List Rg) (r:Rg):Int:=if (delU d r).length = d.length then 6 else 0
def chgU (d:List Rg) (r:Rg):List Rg:=if inB r.ow 0 2147483647 = true ∧ d.any (fun x => Kr.sameR x r) = true then d.set (d.findIdx (fun x => Kr.sameR x r)) (Kr.withOw (gRg d (d.findIdx (fun x => Kr.sameR x r))) r.ow) else d
def chgUq (d:List Rg) (r:Rg):Int:=if inB r.ow 0 2147483647 = false then 1 else if d.any (fun x => Kr.sameR x r) = true then 0 else 6
theorem addU_yes {d:List Rg} {r:Rg} {i:Nat} (hr:Kr.rightB d = true) (hm:Kr.mayF d r = 0) (hi:i ≤ d.length) (h1:i = 0 ∨ Kr.cmpR (gRg d (i - 1)) r < 0) (h2:i = d.length ∨ 0 ≤ Kr.cmpR (gRg d i) r):addU d r = Kr.insR d i r:=by
 unfold addU Kr.insR
 rw [if_pos hm]
 obtain ⟨e1,e2⟩:=while_at (fun x => decide (Kr.cmpR x r < 0)) d i hi (fun j hj hji => by
  rw [decide_eq_true_eq,← gRg_eq hj]
  rcases h1 with h1 | h1
  ·omega
  ·by_cases e:j = i - 1
   ·rw [e]; exact h1
   ·exact cmpR_lt.2 (Kr.ltR_trans (rightR_lt hr (by omega) (by omega)) (cmpR_lt.1 h1))) (fun h => by
  rw [decide_eq_false_iff_not,← gRg_eq h]
  rcases h2 with h2 | h2 <;> omega)
 rw [e1,e2]
theorem addU_at {d:List Rg} {r:Rg} (hr:Kr.rightB d = true) (hm:Kr.mayF d r = 0):∃ i,i ≤ d.length ∧ addU d r = Kr.insR d i r ∧ (i = 0 ∨ Kr.cmpR (gRg d (i - 1)) r < 0) ∧ (i = d.length ∨ 0 ≤ Kr.cmpR (gRg d i) r):=by
 have key:∀ (k:Nat),k ≤ d.length → (∀ j,j < k → Kr.cmpR (gRg d j) r < 0) ∨ ∃ i,i < k ∧ (∀ j,j < i → Kr.cmpR (gRg d j) r < 0) ∧ 0 ≤ Kr.cmpR (gRg d i) r:=by
  intro k
  induction k with
  | zero => exact fun _ => .inl fun j hj => by omega
  | succ k ih =>
   intro hk
   rcases ih (by omega) with h | ⟨i,h1,h2,h3⟩
   ·by_cases hc:Kr.cmpR (gRg d k) r < 0
    ·exact .inl fun j hj => by
      by_cases e:j = k
      ·rw [e]; exact hc
      ·exact h j (by omega)
    ·exact .inr ⟨k,by omega,h,by omega⟩
   ·exact .inr ⟨i,by omega,h2,h3⟩
 rcases key d.length (Nat.le_refl _) with h | ⟨i,h1,h2,h3⟩
 ·have a1:d.length = 0 ∨ Kr.cmpR (gRg d (d.length - 1)) r < 0:=by
   by_cases e:d.length = 0
   ·exact .inl e
   ·exact .inr (h _ (by omega))
  exact ⟨d.length,Nat.le_refl _,addU_yes hr hm (Nat.le_refl _) a1 (.inl rfl),a1,.inl rfl⟩
 ·have a1:i = 0 ∨ Kr.cmpR (gRg d (i - 1)) r < 0:=by
   by_cases e:i = 0
   ·exact .inl e
   ·exact .inr (h2 _ (by omega))
  exact ⟨i,by omega,addU_yes hr hm (by omega) a1 (.inr h3),a1,.inr h3⟩
theorem addU_right {d:List Rg} {r:Rg} (hr:Kr.rightB d = true):Kr.rightB (addU d r) = true:=by
 by_cases hm:Kr.mayF d r = 0
 ·obtain ⟨i,hi,e,h1,h2⟩:=addU_at hr hm
  rw [e]
  exact Kr.right_ins hr hm hi h1 h2
 ·unfold addU; rw [if_neg hm]; exact hr
theorem addU_any (A:Option Addr) (n c:Nat) (d:List Rg) (r:Rg) (w:World) (hd:d.length = n) (hn:n ≤ 1000000 - 1) (h:Sl w w.heap.size 5 A n c (flatRg d)) (hr:Kr.rightB d = true) (q:Int) (hq:Kr.mayF d r = q) (l:List Rg) (hl:addU d r = l) :
  Calls Tryz.prog 105 #[.slice A n c,.agg #[.int .i64 r.fr,.int .i64 r.tn,.int .i64 r.st,.int .i64 r.en,.int .i64 r.ow]] w fun e w' => ∃ v,e = .returned (.tuple #[v,.int .i64 q]) ∧ w'.ownsRow w.heap.size 35 5 v l.length (flatRg l) ∧ Below w.heap.size w w':=by
 subst hq
 subst hl
 by_cases hm:Kr.mayF d r = 0
 ·refine (Kr.add_yes A n c d r w hd hn h hm).mono ?_
  rintro e w' ⟨v,i,rfl,hi,h1,h2,hv,hb⟩
  have hi':i ≤ d.length:=by omega
  have he:=addU_yes hr hm hi' h1 (by rw [hd]; exact h2)
  rw [hm,he,Kr.insR_length r hi',hd]
  exact ⟨v,rfl,hv,hb⟩
 ·refine (Kr.add_no A n c d r w _ hd (by omega) h rfl hm).mono ?_
  rintro e w' ⟨v,rfl,hv,hb⟩
  have he:addU d r = d:=by unfold addU; rw [if_neg hm]
  rw [he,hd]
  exact ⟨v,rfl,hv,hb⟩
theorem delU_any (A:Option Addr) (n c:Nat) (d:List Rg) (r:Rg) (w:World) (hd:d.length = n) (hn:n ≤ 1000000) (h:Sl w w.heap.size 5 A n c (flatRg d)) (q:Int) (hq:delUq d r = q) (l:List Rg) (hl:delU d r = l) :
  Calls Tryz.prog 106 #[.slice A n c,.agg #[.int .i64 r.fr,.int .i64 r.tn,.int .i64 r.st,.int .i64 r.en,.int .i64 r.ow]] w fun e w' => ∃ v,e = .returned (.tuple #[v,.int .i64 q]) ∧ w'.ownsRow w.heap.size 35 5 v l.length (flatRg l) ∧ Below w.heap.size w w':=by
 subst hq
 subst hl
 subst hd
 exact Kr.del_any A _ c d r w rfl hn h
theorem chgU_any (A:Option Addr) (n c:Nat) (d:List Rg) (r:Rg) (w:World) (hd:d.length = n) (hn:n ≤ 1000000) (h:Sl w w.heap.size 5 A n c (flatRg d)) (q:Int) (hq:chgUq d r = q) (l:List Rg) (hl:chgU d r = l) :
  Calls Tryz.prog 107 #[.slice A n c,.agg #[.int .i64 r.fr,.int .i64 r.tn,.int .i64 r.st,.int .i64 r.en,.int .i64 r.ow]] w fun e w' => ∃ v,e = .returned (.tuple #[v,.int .i64 q]) ∧ w'.ownsRow w.heap.size 35 5 v l.length (flatRg l) ∧ Below w.heap.size w w':=by
 subst hq
 subst hl
 cases ho:inB r.ow 0 2147483647
 ·have e1:chgU d r = d:=by unfold chgU; rw [if_neg (by rw [ho]; simp)]
  have e2:chgUq d r = 1:=by unfold chgUq; rw [if_pos ho]
  rw [e1,e2,hd]
  exact Kr.change_arg A n c d r w hd hn h ho
 ·cases hid:d.any (fun x => Kr.sameR x r)
  ·have e1:chgU d r = d:=by unfold chgU; rw [if_neg (by rw [hid]; simp)]
   have e2:chgUq d r = 6:=by unfold chgUq; rw [if_neg (by rw [ho]; simp),if_neg (by rw [hid]; simp)]
   rw [e1,e2,hd]
   exact Kr.change_none A n c d r w hd hn h ho (fun j hj => noHitRg hid (by omega))
  ·obtain ⟨q,hq,hbef,hat⟩:=firstHitRg hid
   have hf:d.findIdx (fun x => Kr.sameR x r) = q:=first_at _ hq (fun j hj hjq => by have:=hbef j hjq; rw [gRg_eq hj] at this; exact this) (by rw [gRg_eq hq] at hat; exact hat)
   have e1:chgU d r = d.set q (Kr.withOw (gRg d q) r.ow):=by unfold chgU; rw [if_pos ⟨ho,hid⟩,hf]
   have e2:chgUq d r = 0:=by unfold chgUq; rw [if_neg (by rw [ho]; simp),if_pos hid]
   rw [e1,e2,List.length_set,hd]
   exact Kr.change_yes A n c d r w q hd hn h ho (by omega) hbef hat
end Go.Proofs.YtolaabllhibkdaaGreat

/- Contracts of plan.Right and of Few. They make new memory alone. -/
namespace Go.Proofs.YtolaabllhibkdaaGreat
open Go.ChangeShapes Go.WideShapes Go.ChangeAt Go.RowKit Go.Sort
set_option linter.unusedSimpArgs false
set_option linter.unusedVariables false
def aheadC (cs:List Co) (clk:Int):Bool:=!cs.any fun x => decide (x.en ≤ clk)
def aheadR (rs:List Rg) (clk:Int):Bool:=!rs.any fun x => decide (x.en ≤ clk)
def rightP (cs:List Co) (rs:List Rg) (clk ver:Int):Bool:=
 Kc.rightC cs && (Kr.rightB rs && (inB clk 0 2147483647 && (inB ver 0 1099511627776 && (aheadC cs clk && aheadR rs clk))))
structure RightP (cs:List Co) (rs:List Rg) (clk ver:Int):Prop where
 co:Kc.rightC cs = true
 rg:Kr.rightB rs = true
 c0:0 ≤ clk
 c1:clk ≤ 2147483647
 v0:0 ≤ ver
 v1:ver ≤ 1099511627776
 ec:∀ x ∈ cs,clk < x.en
 er:∀ x ∈ rs,clk < x.en
theorem rightP_spec {cs:List Co} {rs:List Rg} {clk ver:Int}:rightP cs rs clk ver = true ↔ RightP cs rs clk ver:=by
 unfold rightP aheadC aheadR inB
 constructor
 ·intro h
  simp only [Bool.and_eq_true,decide_eq_true_eq,Bool.not_eq_true',List.any_eq_false,Int.not_le] at h
  obtain ⟨h1,h2,h3,h4,h5,h6⟩:=h
  exact ⟨h1,h2,h3.1,h3.2,h4.1,h4.2,h5,h6⟩
 ·intro h
  simp only [Bool.and_eq_true,decide_eq_true_eq,Bool.not_eq_true',List.any_eq_false,Int.not_le]
  exact ⟨h.co,h.rg,⟨h.c0,h.c1⟩,⟨h.v0,h.v1⟩,h.ec,h.er⟩
set_option maxRecDepth 100000 in
theorem pright1_any (x:Co) (clk:Int) (g:Nat) (t:TypeId) (v0 v1 v3:Value) (w:World) (hR:Blok w g t #[v0,v1,.int .i64 clk,v3]):Calls Tryz.prog 38 #[.agg #[.int .i64 x.id,.int .i64 x.fr,.int .i64 x.tn,.int .i64 x.st,.int .i64 x.en,.int .i64 x.rt],.pointer (some ⟨g,0,none⟩)] w fun e w' => e = .returned (.bool (decide (x.en ≤ clk))) ∧ Below w.heap.size w w':=by
 have r2:w.cell? ⟨g,2,none⟩ = some (.int .i64 clk):=hR.cell 2
 have hl:=hR.lt
 clear hR
 go_enter Tryz.func38,Tryz.ntmps38
 go_wp2
 all_goals go_ret
 all_goals exact ⟨rfl,by (repeat (first | exact Below.refl _ _ | refine Below.alloc ?_ (by first | omega | (simp; done) | (simp; omega)) _ | refine Below.setCell ?_ (by first | omega | (simp; done) | (simp; omega)) _ | refine Below.drew ?_))⟩
set_option maxRecDepth 100000 in
theorem pright2_any (x:Rg) (clk:Int) (g:Nat) (t:TypeId) (v0 v1 v3:Value) (w:World) (hR:Blok w g t #[v0,v1,.int .i64 clk,v3]):Calls Tryz.prog 40 #[.agg #[.int .i64 x.fr,.int .i64 x.tn,.int .i64 x.st,.int .i64 x.en,.int .i64 x.ow],.pointer (some ⟨g,0,none⟩)] w fun e w' => e = .returned (.bool (decide (x.en ≤ clk))) ∧ Below w.heap.size w w':=by
 have r2:w.cell? ⟨g,2,none⟩ = some (.int .i64 clk):=hR.cell 2
 have hl:=hR.lt
 clear hR
 go_enter Tryz.func40,Tryz.ntmps40
 go_wp2
 all_goals go_ret
 all_goals exact ⟨rfl,by (repeat (first | exact Below.refl _ _ | refine Below.alloc ?_ (by first | omega | (simp; done) | (simp; omega)) _ | refine Below.setCell ?_ (by first | omega | (simp; done) | (simp; omega)) _ | refine Below.drew ?_))⟩
theorem pred_pr1 (clk:Int) (g:Nat) (t:TypeId) (v0 v1 v3:Value) (w:World) (hR:Blok w g t #[v0,v1,.int .i64 clk,v3]):PredCo 38 #[.pointer (some ⟨g,0,none⟩)] none w (fun x => decide (x.en ≤ clk)):=
 ⟨enter_run Tryz.func38 rfl rfl,fun w' hg x => pright1_any x clk g t v0 v1 v3 w' (hR.grown hg (fun e => by cases e))⟩
theorem pred_pr2 (clk:Int) (g:Nat) (t:TypeId) (v0 v1 v3:Value) (w:World) (hR:Blok w g t #[v0,v1,.int .i64 clk,v3]):PredRg 40 #[.pointer (some ⟨g,0,none⟩)] none w (fun x => decide (x.en ≤ clk)):=
 ⟨enter_run Tryz.func40 rfl rfl,fun w' hg x => pright2_any x clk g t v0 v1 v3 w' (hR.grown hg (fun e => by cases e))⟩
set_option maxHeartbeats 4000000 in
set_option maxRecDepth 100000 in
theorem pright_any (A1:Option Addr) (n1 c1:Nat) (cs:List Co) (A:Option Addr) (n c:Nat) (rs:List Rg) (clk ver:Int) (w:World) (hd1:cs.length = n1) (hn1:n1 ≤ 1000000) (hd:rs.length = n) (hn:n ≤ 1000000) (h1:Sl w w.heap.size 6 A1 n1 c1 (flatCo cs)) (h:Sl w w.heap.size 5 A n c (flatRg rs)) (b:Bool) (hb:rightP cs rs clk ver = b) :
  Calls Tryz.prog 12 #[.agg #[.slice A1 n1 c1,.slice A n c,.int .i64 clk,.int .i64 ver]] w fun e w' => e = .returned (.bool b) ∧ Below w.heap.size w w':=by
 have hB:Below w.heap.size w (w.alloc (.cells #[.slice A1 n1 c1,.slice A n c,.int .i64 clk,.int .i64 ver] 25)):=by (repeat (first | exact Below.refl _ _ | refine Below.alloc ?_ (by first | omega | (simp; done) | (simp; omega)) _ | refine Below.setCell ?_ (by first | omega | (simp; done) | (simp; omega)) _ | refine Below.drew ?_))
 have hP:=Blok.new w 25 #[.slice A1 n1 c1,.slice A n c,.int .i64 clk,.int .i64 ver]
 replace h1:=h1.up hB
 replace h:=h.up hB
 have hs:=hB.size
 have HB:=Lib.hid hb
 have HD1:=Lib.hid hd1
 have HD:=Lib.hid hd
 clear hb hd hd1
 obtain ⟨b1,q1⟩:∃ q,Kc.rightC cs = q:=⟨_,rfl⟩
 obtain ⟨b2,q2⟩:∃ q,Kr.rightB rs = q:=⟨_,rfl⟩
 obtain ⟨b3,q3⟩:∃ q,inB clk 0 2147483647 = q:=⟨_,rfl⟩
 obtain ⟨b4,q4⟩:∃ q,inB ver 0 1099511627776 = q:=⟨_,rfl⟩
 obtain ⟨b5,q5⟩:∃ q,(cs.any fun x => decide (x.en ≤ clk)) = q:=⟨_,rfl⟩
 obtain ⟨b6,q6⟩:∃ q,(rs.any fun x => decide (x.en ≤ clk)) = q:=⟨_,rfl⟩
 have hbb:b = (b1 && (b2 && (b3 && (b4 && (!b5 && !b6))))):=by rw [← HB.out]; unfold rightP aheadC aheadR; rw [q1,q2,q3,q4,q5,q6]
 have Q1:=Lib.hid q1
 have Q2:=Lib.hid q2
 have Q3:=Lib.hid q3
 have Q4:=Lib.hid q4
 have Q5:=Lib.hid q5
 have Q6:=Lib.hid q6
 have HBB:=Lib.hid hbb
 clear q1 q2 q3 q4 q5 q6 hbb HB
 go_enter Tryz.func12,Tryz.ntmps12
 go_wp2_with fail
 generalize w.alloc (.cells #[.slice A1 n1 c1,.slice A n c,.int .i64 clk,.int .i64 ver] 25) = w0 at *
 refine (Kc.right_any A1 n1 c1 cs w0 HD1.out hn1 h1).mono ?_
 rintro e w1 ⟨rfl,hb⟩
 rw [Q1.out]
 replace h1:=h1.up hb
 replace h:=h.up hb
 replace hP:=hP.below hb hP.lt
 replace hB:=hB.trans (hb.mono hs)
 replace hs:=hB.size
 clear hb
 cases b1
 ·go_wp2_with fail
  go_ret
  exact ⟨by rw [HBB.out]; rfl,hB⟩
 have r1:w1.cell? ⟨w.heap.size,1,none⟩ = some (.slice A n c):=hP.cell 1
 have lt_p:=hP.lt
 go_wp2_with fail
 clear r1 lt_p
 refine (Kr.right_any A n c rs w1 HD.out hn h).mono ?_
 rintro e w2 ⟨rfl,hb⟩
 rw [Q2.out]
 replace h1:=h1.up hb
 replace h:=h.up hb
 replace hP:=hP.below hb hP.lt
 replace hB:=hB.trans (hb.mono hs)
 replace hs:=hB.size
 clear hb
 cases b2
 ·go_wp2_with fail
  go_ret
  exact ⟨by rw [HBB.out]; rfl,hB⟩
 have r2:w2.cell? ⟨w.heap.size,2,none⟩ = some (.int .i64 clk):=hP.cell 2
 have r3:w2.cell? ⟨w.heap.size,3,none⟩ = some (.int .i64 ver):=hP.cell 3
 have lt_p:=hP.lt
 go_wp2_with fail
 refine (in_any clk 0 2147483647 w2).mono ?_
 rintro e w3 ⟨rfl,rfl⟩
 rw [Q3.out]
 cases b3
 ·go_wp2_with fail
  go_ret
  exact ⟨by rw [HBB.out]; rfl,hB⟩
 go_wp2_with fail
 refine (in_any ver 0 1099511627776 w2).mono ?_
 rintro e w3 ⟨rfl,rfl⟩
 rw [Q4.out]
 cases b4
 ·go_wp2_with fail
  go_ret
  exact ⟨by rw [HBB.out]; rfl,hB⟩
 have r0:w2.cell? ⟨w.heap.size,0,none⟩ = some (.slice A1 n1 c1):=hP.cell 0
 go_wp2_with fail
 clear r0 r2 r3 lt_p
 refine (containsCo A1 n1 c1 cs _ _ none _ w2 HD1.out hn1 h1 (pred_pr1 clk _ _ _ _ _ w2 hP)).mono ?_
 rintro e w3 ⟨rfl,hb⟩
 rw [Q5.out]
 replace h1:=h1.up hb
 replace h:=h.up hb
 replace hP:=hP.below hb hP.lt
 replace hB:=hB.trans (hb.mono hs)
 replace hs:=hB.size
 clear hb
 cases b5
 case true =>
  go_wp2_with fail
  go_ret
  exact ⟨by rw [HBB.out]; rfl,hB⟩
 have r1:w3.cell? ⟨w.heap.size,1,none⟩ = some (.slice A n c):=hP.cell 1
 have lt_p:=hP.lt
 go_wp2_with fail
 clear r1 lt_p
 refine (containsRg A n c rs _ _ none _ w3 HD.out hn h (pred_pr2 clk _ _ _ _ _ w3 hP)).mono ?_
 rintro e w4 ⟨rfl,hb⟩
 rw [Q6.out]
 replace hB:=hB.trans (hb.mono hs)
 clear hb
 cases b6
 all_goals
  go_wp2_with fail
  go_ret
  exact ⟨by rw [HBB.out]; rfl,hB⟩
set_option maxHeartbeats 1000000 in
set_option maxRecDepth 100000 in
theorem few_any (A1:Option Addr) (n1 c1:Nat) (A:Option Addr) (n c:Nat) (clk ver:Int) (w:World) (b:Bool) (hb:decide (n1 ≤ 50 ∧ n ≤ 50) = b) :
  Calls Tryz.prog 11 #[.agg #[.slice A1 n1 c1,.slice A n c,.int .i64 clk,.int .i64 ver]] w fun e w' => e = .returned (.bool b) ∧ Below w.heap.size w w':=by
 have hB:Below w.heap.size w (w.alloc (.cells #[.slice A1 n1 c1,.slice A n c,.int .i64 clk,.int .i64 ver] 25)):=by (repeat (first | exact Below.refl _ _ | refine Below.alloc ?_ (by first | omega | (simp; done) | (simp; omega)) _ | refine Below.setCell ?_ (by first | omega | (simp; done) | (simp; omega)) _ | refine Below.drew ?_))
 by_cases h1:n1 ≤ 50
 ·by_cases h2:n ≤ 50
  all_goals
   obtain rfl:b = decide (n ≤ 50):=by rw [← hb]; simp [h1]
   clear hb
   have g1:decide ((n1:Int) ≤ 50) = true:=decide_eq_true (by omega)
   first | have g2:decide ((n:Int) ≤ 50) = true:=decide_eq_true (by omega) | have g2:decide ((n:Int) ≤ 50) = false:=decide_eq_false (by omega)
   go_enter Tryz.func11,Tryz.ntmps11
   go_wp2_with fail
   go_ret
   exact ⟨by simp [h2],hB⟩
 ·obtain rfl:b = false:=by rw [← hb]; simp [h1]
  clear hb
  have g1:decide ((n1:Int) ≤ 50) = false:=decide_eq_false (by omega)
  go_enter Tryz.func11,Tryz.ntmps11
  go_wp2_with fail
  go_ret
  exact ⟨rfl,hB⟩
end Go.Proofs.YtolaabllhibkdaaGreat
