/- Contracts and plain facts, several texts of mine in one: Tabs, Plan, Plan2, PlanMath, Plan3, Plan4. No condition. -/
import Derived.Test.YtolaabllhibkdaaGreatW5
import Derived.Deep.RegionLaw
import Derived.Deep.RegionHeld3

/- What becomes of a table of contacts or of ranges, as plain functions, and the calls' contracts by them. They make new memory alone. -/
namespace Go.Proofs.YtolaabllhibkdaaGreat
open Go.ChangeShapes Go.WideShapes Go.ChangeAt Go.RowKit Go.Sort
set_option linter.unusedSimpArgs false
set_option linter.unusedVariables false
theorem while_at {α : Type} (p : α → Bool) : ∀ (d : List α) (i : Nat), i ≤ d.length → (∀ j (h : j < d.length), j < i → p d[j] = true) → (∀ h : i < d.length, p d[i] = false) → d.takeWhile p = d.take i ∧ d.dropWhile p = d.drop i
  | [], i, _, _, _ => by simp
  | x :: d, 0, _, _, h2 => by
    have := h2 (by simp)
    simp only [List.getElem_cons_zero] at this
    simp [this]
  | x :: d, i + 1, hi, h1, h2 => by
    have hx : p x = true := h1 0 (by simp) (by omega)
    obtain ⟨e1, e2⟩ := while_at p d i (by simpa using hi) (fun j h hj => h1 (j + 1) (by simpa using h) (by omega)) (fun h => h2 (by simpa using h))
    simp [hx, e1, e2]
/-! Contacts. -/
def addT (d : List Co) (r : Co) : List Co := if Kc.mayC d r = 0 then d.takeWhile (fun x => decide (Kc.cmpC x r < 0)) ++ [r] ++ d.dropWhile (fun x => decide (Kc.cmpC x r < 0)) else d
def delT (d : List Co) (id : Int) : List Co := d.filter (fun x => !(x.id == id))
def delTq (d : List Co) (id : Int) : Int := if (delT d id).length = d.length then 6 else 0
def chgT (d : List Co) (id rt : Int) : List Co := if inB rt 1 2147483647 = true ∧ Kc.idIn d id = true then d.set (d.findIdx (fun x => x.id == id)) (Kc.withRt (gCo d (d.findIdx (fun x => x.id == id))) rt) else d
def chgTq (d : List Co) (id rt : Int) : Int := if inB rt 1 2147483647 = false then 1 else if Kc.idIn d id = true then 0 else 6
theorem addT_yes {d : List Co} {r : Co} {i : Nat} (hr : Kc.rightC d = true) (hm : Kc.mayC d r = 0) (hi : i ≤ d.length) (h1 : i = 0 ∨ Kc.cmpC (gCo d (i - 1)) r < 0) (h2 : i = d.length ∨ 0 ≤ Kc.cmpC (gCo d i) r) : addT d r = Kc.insC d i r := by
  unfold addT Kc.insC
  rw [if_pos hm]
  obtain ⟨e1, e2⟩ := while_at (fun x => decide (Kc.cmpC x r < 0)) d i hi (fun j hj hji => by
    rw [decide_eq_true_eq, ← gCo_eq hj]
    rcases h1 with h1 | h1
    · omega
    · by_cases e : j = i - 1
      · rw [e]; exact h1
      · exact Kc.cmpC_lt.2 (Kc.ltC_trans (Kc.right_lt hr (i - 1) j (by omega) (by omega)) (Kc.cmpC_lt.1 h1))) (fun h => by
    rw [decide_eq_false_iff_not, ← gCo_eq h]
    rcases h2 with h2 | h2 <;> omega)
  rw [e1, e2]
/-- Where it goes, if it may. -/
theorem addT_at {d : List Co} {r : Co} (hr : Kc.rightC d = true) (hm : Kc.mayC d r = 0) : ∃ i, i ≤ d.length ∧ addT d r = Kc.insC d i r ∧ (i = 0 ∨ Kc.cmpC (gCo d (i - 1)) r < 0) ∧ (i = d.length ∨ 0 ≤ Kc.cmpC (gCo d i) r) := by
  have key : ∀ (k : Nat), k ≤ d.length → (∀ j, j < k → Kc.cmpC (gCo d j) r < 0) ∨ ∃ i, i < k ∧ (∀ j, j < i → Kc.cmpC (gCo d j) r < 0) ∧ 0 ≤ Kc.cmpC (gCo d i) r := by
    intro k
    induction k with
    | zero => exact fun _ => .inl fun j hj => by omega
    | succ k ih =>
      intro hk
      rcases ih (by omega) with h | ⟨i, h1, h2, h3⟩
      · by_cases hc : Kc.cmpC (gCo d k) r < 0
        · exact .inl fun j hj => by
            by_cases e : j = k
            · rw [e]; exact hc
            · exact h j (by omega)
        · exact .inr ⟨k, by omega, h, by omega⟩
      · exact .inr ⟨i, by omega, h2, h3⟩
  rcases key d.length (Nat.le_refl _) with h | ⟨i, h1, h2, h3⟩
  · have a1 : d.length = 0 ∨ Kc.cmpC (gCo d (d.length - 1)) r < 0 := by
      by_cases e : d.length = 0
      · exact .inl e
      · exact .inr (h _ (by omega))
    exact ⟨d.length, Nat.le_refl _, addT_yes hr hm (Nat.le_refl _) a1 (.inl rfl), a1, .inl rfl⟩
  · have a1 : i = 0 ∨ Kc.cmpC (gCo d (i - 1)) r < 0 := by
      by_cases e : i = 0
      · exact .inl e
      · exact .inr (h2 _ (by omega))
    exact ⟨i, by omega, addT_yes hr hm (by omega) a1 (.inr h3), a1, .inr h3⟩
theorem addT_right {d : List Co} {r : Co} (hr : Kc.rightC d = true) : Kc.rightC (addT d r) = true := by
  by_cases hm : Kc.mayC d r = 0
  · obtain ⟨i, hi, e, h1, h2⟩ := addT_at hr hm
    rw [e]
    exact Kc.right_ins hr hm hi h1 h2
  · unfold addT; rw [if_neg hm]; exact hr
theorem addT_len {d : List Co} {r : Co} (hr : Kc.rightC d = true) : (addT d r).length ≤ d.length + 1 := by
  by_cases hm : Kc.mayC d r = 0
  · obtain ⟨i, hi, e, _, _⟩ := addT_at hr hm
    rw [e, Kc.insC_length r hi]
    omega
  · unfold addT; rw [if_neg hm]; omega
theorem addT_any (A : Option Addr) (n c : Nat) (d : List Co) (r : Co) (w : World) (hd : d.length = n) (hn : n ≤ 1000000 - 1) (h : Sl w w.heap.size 6 A n c (flatCo d)) (hr : Kc.rightC d = true) (q : Int) (hq : Kc.mayC d r = q) (l : List Co) (hl : addT d r = l) :
    Calls Tryz.prog 102 #[.slice A n c, .agg #[.int .i64 r.id, .int .i64 r.fr, .int .i64 r.tn, .int .i64 r.st, .int .i64 r.en, .int .i64 r.rt]] w fun e w' => ∃ v, e = .returned (.tuple #[v, .int .i64 q]) ∧ w'.ownsRow w.heap.size 33 6 v l.length (flatCo l) ∧ Below w.heap.size w w' := by
  subst hq
  subst hl
  by_cases hm : Kc.mayC d r = 0
  · refine (Kc.add_yes A n c d r w hd hn h hm).mono ?_
    rintro e w' ⟨v, i, rfl, hi, h1, h2, hv, hb⟩
    have hi' : i ≤ d.length := by omega
    have he := addT_yes hr hm hi' h1 (by rw [hd]; exact h2)
    rw [hm, he, Kc.insC_length r hi', hd]
    exact ⟨v, rfl, hv, hb⟩
  · refine (Kc.add_no A n c d r w _ hd (by omega) h rfl hm).mono ?_
    rintro e w' ⟨v, rfl, hv, hb⟩
    have he : addT d r = d := by unfold addT; rw [if_neg hm]
    rw [he, hd]
    exact ⟨v, rfl, hv, hb⟩
theorem delT_any (A : Option Addr) (n c : Nat) (d : List Co) (id : Int) (w : World) (hd : d.length = n) (hn : n ≤ 1000000) (h : Sl w w.heap.size 6 A n c (flatCo d)) (q : Int) (hq : delTq d id = q) (l : List Co) (hl : delT d id = l) :
    Calls Tryz.prog 103 #[.slice A n c, .int .i64 id] w fun e w' => ∃ v, e = .returned (.tuple #[v, .int .i64 q]) ∧ w'.ownsRow w.heap.size 33 6 v l.length (flatCo l) ∧ Below w.heap.size w w' := by
  subst hq
  subst hl
  subst hd
  exact Kc.del_any A _ c d id w rfl hn h
theorem first_at {α : Type} (p : α → Bool) {d : List α} {q : Nat} (hq : q < d.length) (h1 : ∀ j (h : j < d.length), j < q → p d[j] = false) (h2 : p d[q] = true) : d.findIdx p = q := by
  rw [List.findIdx_eq hq]
  exact ⟨h2, fun j hj => by simpa using h1 j (by omega) hj⟩
theorem chgT_any (A : Option Addr) (n c : Nat) (d : List Co) (id rt : Int) (w : World) (hd : d.length = n) (hn : n ≤ 1000000) (h : Sl w w.heap.size 6 A n c (flatCo d)) (q : Int) (hq : chgTq d id rt = q) (l : List Co) (hl : chgT d id rt = l) :
    Calls Tryz.prog 104 #[.slice A n c, .int .i64 id, .int .i64 rt] w fun e w' => ∃ v, e = .returned (.tuple #[v, .int .i64 q]) ∧ w'.ownsRow w.heap.size 33 6 v l.length (flatCo l) ∧ Below w.heap.size w w' := by
  subst hq
  subst hl
  cases ho : inB rt 1 2147483647
  · have e1 : chgT d id rt = d := by unfold chgT; rw [if_neg (by rw [ho]; simp)]
    have e2 : chgTq d id rt = 1 := by unfold chgTq; rw [if_pos ho]
    rw [e1, e2, hd]
    exact Kc.change_arg A n c d id rt w hd hn h ho
  · cases hid : Kc.idIn d id
    · have e1 : chgT d id rt = d := by unfold chgT; rw [if_neg (by rw [hid]; simp)]
      have e2 : chgTq d id rt = 6 := by unfold chgTq; rw [if_neg (by rw [ho]; simp), if_neg (by rw [hid]; simp)]
      rw [e1, e2, hd]
      exact Kc.change_none A n c d id rt w hd hn h ho (fun j hj => noHitCo hid (by omega))
    · obtain ⟨q, hq, hbef, hat⟩ := firstHitCo hid
      have hf : d.findIdx (fun x => x.id == id) = q := first_at _ hq (fun j hj hjq => by have := hbef j hjq; rw [gCo_eq hj] at this; exact this) (by rw [gCo_eq hq] at hat; exact hat)
      have e1 : chgT d id rt = d.set q (Kc.withRt (gCo d q) rt) := by unfold chgT; rw [if_pos ⟨ho, hid⟩, hf]
      have e2 : chgTq d id rt = 0 := by unfold chgTq; rw [if_neg (by rw [ho]; simp), if_pos hid]
      rw [e1, e2, List.length_set, hd]
      exact Kc.change_yes A n c d id rt w q hd hn h ho (by omega) hbef hat
theorem chgT_right {d : List Co} {id rt : Int} (hr : Kc.rightC d = true) : Kc.rightC (chgT d id rt) = true ∧ (chgT d id rt).length = d.length := by
  unfold chgT
  split
  · rename_i h
    obtain ⟨q, hq, hbef, hat⟩ := firstHitCo h.2
    have hf : d.findIdx (fun x => x.id == id) = q := first_at _ hq (fun j hj hjq => by have := hbef j hjq; rw [gCo_eq hj] at this; exact this) (by rw [gCo_eq hq] at hat; exact hat)
    rw [hf]
    exact ⟨Kc.right_set hr hq h.1, List.length_set⟩
  · exact ⟨hr, rfl⟩
/-! Ranges. -/
theorem cmpR_lt {a b : Rg} : Kr.cmpR a b < 0 ↔ Kr.ltR a b := by
  rcases Kr.cmpR_spec a b with ⟨h, e⟩ | ⟨e1, e2, e3, e⟩ | ⟨h, e⟩
  · exact ⟨fun _ => h, fun _ => by omega⟩
  · exact ⟨fun h => by omega, fun h => by unfold Kr.ltR at h; omega⟩
  · exact ⟨fun h => by omega, fun h' => by unfold Kr.ltR at h h'; omega⟩
theorem rightR_lt {d : List Rg} (h : Kr.rightB d = true) {i j : Nat} (hij : i < j) (hj : j < d.length) : Kr.ltR (gRg d i) (gRg d j) := by
  have := (List.pairwise_iff_getElem.1 (Kr.sort_of_right h).ord) i j (by omega) hj hij
  rw [gRg_eq (by omega), gRg_eq hj]
  exact this.1
def addU (d : List Rg) (r : Rg) : List Rg := if Kr.mayF d r = 0 then d.takeWhile (fun x => decide (Kr.cmpR x r < 0)) ++ [r] ++ d.dropWhile (fun x => decide (Kr.cmpR x r < 0)) else d
def delU (d : List Rg) (r : Rg) : List Rg := d.filter (fun x => !Kr.sameR x r)
def delUq (d : List Rg) (r : Rg) : Int := if (delU d r).length = d.length then 6 else 0
def chgU (d : List Rg) (r : Rg) : List Rg := if inB r.ow 0 2147483647 = true ∧ d.any (fun x => Kr.sameR x r) = true then d.set (d.findIdx (fun x => Kr.sameR x r)) (Kr.withOw (gRg d (d.findIdx (fun x => Kr.sameR x r))) r.ow) else d
def chgUq (d : List Rg) (r : Rg) : Int := if inB r.ow 0 2147483647 = false then 1 else if d.any (fun x => Kr.sameR x r) = true then 0 else 6
theorem addU_yes {d : List Rg} {r : Rg} {i : Nat} (hr : Kr.rightB d = true) (hm : Kr.mayF d r = 0) (hi : i ≤ d.length) (h1 : i = 0 ∨ Kr.cmpR (gRg d (i - 1)) r < 0) (h2 : i = d.length ∨ 0 ≤ Kr.cmpR (gRg d i) r) : addU d r = Kr.insR d i r := by
  unfold addU Kr.insR
  rw [if_pos hm]
  obtain ⟨e1, e2⟩ := while_at (fun x => decide (Kr.cmpR x r < 0)) d i hi (fun j hj hji => by
    rw [decide_eq_true_eq, ← gRg_eq hj]
    rcases h1 with h1 | h1
    · omega
    · by_cases e : j = i - 1
      · rw [e]; exact h1
      · exact cmpR_lt.2 (Kr.ltR_trans (rightR_lt hr (by omega) (by omega)) (cmpR_lt.1 h1))) (fun h => by
    rw [decide_eq_false_iff_not, ← gRg_eq h]
    rcases h2 with h2 | h2 <;> omega)
  rw [e1, e2]
theorem addU_at {d : List Rg} {r : Rg} (hr : Kr.rightB d = true) (hm : Kr.mayF d r = 0) : ∃ i, i ≤ d.length ∧ addU d r = Kr.insR d i r ∧ (i = 0 ∨ Kr.cmpR (gRg d (i - 1)) r < 0) ∧ (i = d.length ∨ 0 ≤ Kr.cmpR (gRg d i) r) := by
  have key : ∀ (k : Nat), k ≤ d.length → (∀ j, j < k → Kr.cmpR (gRg d j) r < 0) ∨ ∃ i, i < k ∧ (∀ j, j < i → Kr.cmpR (gRg d j) r < 0) ∧ 0 ≤ Kr.cmpR (gRg d i) r := by
    intro k
    induction k with
    | zero => exact fun _ => .inl fun j hj => by omega
    | succ k ih =>
      intro hk
      rcases ih (by omega) with h | ⟨i, h1, h2, h3⟩
      · by_cases hc : Kr.cmpR (gRg d k) r < 0
        · exact .inl fun j hj => by
            by_cases e : j = k
            · rw [e]; exact hc
            · exact h j (by omega)
        · exact .inr ⟨k, by omega, h, by omega⟩
      · exact .inr ⟨i, by omega, h2, h3⟩
  rcases key d.length (Nat.le_refl _) with h | ⟨i, h1, h2, h3⟩
  · have a1 : d.length = 0 ∨ Kr.cmpR (gRg d (d.length - 1)) r < 0 := by
      by_cases e : d.length = 0
      · exact .inl e
      · exact .inr (h _ (by omega))
    exact ⟨d.length, Nat.le_refl _, addU_yes hr hm (Nat.le_refl _) a1 (.inl rfl), a1, .inl rfl⟩
  · have a1 : i = 0 ∨ Kr.cmpR (gRg d (i - 1)) r < 0 := by
      by_cases e : i = 0
      · exact .inl e
      · exact .inr (h2 _ (by omega))
    exact ⟨i, by omega, addU_yes hr hm (by omega) a1 (.inr h3), a1, .inr h3⟩
theorem addU_right {d : List Rg} {r : Rg} (hr : Kr.rightB d = true) : Kr.rightB (addU d r) = true := by
  by_cases hm : Kr.mayF d r = 0
  · obtain ⟨i, hi, e, h1, h2⟩ := addU_at hr hm
    rw [e]
    exact Kr.right_ins hr hm hi h1 h2
  · unfold addU; rw [if_neg hm]; exact hr
theorem addU_len {d : List Rg} {r : Rg} (hr : Kr.rightB d = true) : (addU d r).length ≤ d.length + 1 := by
  by_cases hm : Kr.mayF d r = 0
  · obtain ⟨i, hi, e, _, _⟩ := addU_at hr hm
    rw [e, Kr.insR_length r hi]
    omega
  · unfold addU; rw [if_neg hm]; omega
theorem addU_any (A : Option Addr) (n c : Nat) (d : List Rg) (r : Rg) (w : World) (hd : d.length = n) (hn : n ≤ 1000000 - 1) (h : Sl w w.heap.size 5 A n c (flatRg d)) (hr : Kr.rightB d = true) (q : Int) (hq : Kr.mayF d r = q) (l : List Rg) (hl : addU d r = l) :
    Calls Tryz.prog 105 #[.slice A n c, .agg #[.int .i64 r.fr, .int .i64 r.tn, .int .i64 r.st, .int .i64 r.en, .int .i64 r.ow]] w fun e w' => ∃ v, e = .returned (.tuple #[v, .int .i64 q]) ∧ w'.ownsRow w.heap.size 35 5 v l.length (flatRg l) ∧ Below w.heap.size w w' := by
  subst hq
  subst hl
  by_cases hm : Kr.mayF d r = 0
  · refine (Kr.add_yes A n c d r w hd hn h hm).mono ?_
    rintro e w' ⟨v, i, rfl, hi, h1, h2, hv, hb⟩
    have hi' : i ≤ d.length := by omega
    have he := addU_yes hr hm hi' h1 (by rw [hd]; exact h2)
    rw [hm, he, Kr.insR_length r hi', hd]
    exact ⟨v, rfl, hv, hb⟩
  · refine (Kr.add_no A n c d r w _ hd (by omega) h rfl hm).mono ?_
    rintro e w' ⟨v, rfl, hv, hb⟩
    have he : addU d r = d := by unfold addU; rw [if_neg hm]
    rw [he, hd]
    exact ⟨v, rfl, hv, hb⟩
theorem delU_any (A : Option Addr) (n c : Nat) (d : List Rg) (r : Rg) (w : World) (hd : d.length = n) (hn : n ≤ 1000000) (h : Sl w w.heap.size 5 A n c (flatRg d)) (q : Int) (hq : delUq d r = q) (l : List Rg) (hl : delU d r = l) :
    Calls Tryz.prog 106 #[.slice A n c, .agg #[.int .i64 r.fr, .int .i64 r.tn, .int .i64 r.st, .int .i64 r.en, .int .i64 r.ow]] w fun e w' => ∃ v, e = .returned (.tuple #[v, .int .i64 q]) ∧ w'.ownsRow w.heap.size 35 5 v l.length (flatRg l) ∧ Below w.heap.size w w' := by
  subst hq
  subst hl
  subst hd
  exact Kr.del_any A _ c d r w rfl hn h
theorem chgU_any (A : Option Addr) (n c : Nat) (d : List Rg) (r : Rg) (w : World) (hd : d.length = n) (hn : n ≤ 1000000) (h : Sl w w.heap.size 5 A n c (flatRg d)) (q : Int) (hq : chgUq d r = q) (l : List Rg) (hl : chgU d r = l) :
    Calls Tryz.prog 107 #[.slice A n c, .agg #[.int .i64 r.fr, .int .i64 r.tn, .int .i64 r.st, .int .i64 r.en, .int .i64 r.ow]] w fun e w' => ∃ v, e = .returned (.tuple #[v, .int .i64 q]) ∧ w'.ownsRow w.heap.size 35 5 v l.length (flatRg l) ∧ Below w.heap.size w w' := by
  subst hq
  subst hl
  cases ho : inB r.ow 0 2147483647
  · have e1 : chgU d r = d := by unfold chgU; rw [if_neg (by rw [ho]; simp)]
    have e2 : chgUq d r = 1 := by unfold chgUq; rw [if_pos ho]
    rw [e1, e2, hd]
    exact Kr.change_arg A n c d r w hd hn h ho
  · cases hid : d.any (fun x => Kr.sameR x r)
    · have e1 : chgU d r = d := by unfold chgU; rw [if_neg (by rw [hid]; simp)]
      have e2 : chgUq d r = 6 := by unfold chgUq; rw [if_neg (by rw [ho]; simp), if_neg (by rw [hid]; simp)]
      rw [e1, e2, hd]
      exact Kr.change_none A n c d r w hd hn h ho (fun j hj => noHitRg hid (by omega))
    · obtain ⟨q, hq, hbef, hat⟩ := firstHitRg hid
      have hf : d.findIdx (fun x => Kr.sameR x r) = q := first_at _ hq (fun j hj hjq => by have := hbef j hjq; rw [gRg_eq hj] at this; exact this) (by rw [gRg_eq hq] at hat; exact hat)
      have e1 : chgU d r = d.set q (Kr.withOw (gRg d q) r.ow) := by unfold chgU; rw [if_pos ⟨ho, hid⟩, hf]
      have e2 : chgUq d r = 0 := by unfold chgUq; rw [if_neg (by rw [ho]; simp), if_pos hid]
      rw [e1, e2, List.length_set, hd]
      exact Kr.change_yes A n c d r w q hd hn h ho (by omega) hbef hat
end Go.Proofs.YtolaabllhibkdaaGreat

/- A plan, and what is done to it, as plain functions; contracts of plan.New, Copy, Same, changed, end. They make new memory alone. -/
namespace Go.Proofs.YtolaabllhibkdaaGreat
open Go.ChangeShapes Go.WideShapes Go.ChangeAt Go.RowKit Go.Sort
set_option linter.unusedSimpArgs false
set_option linter.unusedVariables false
theorem own_below {w w' : World} {base : Nat} {e : TypeId} {size n : Nat} {v : Value} {xs : List Value} (h : w.ownsRow base e size v n xs) (hb : Below w.heap.size w w') : w'.ownsRow base e size v n xs := Kc.own_below h hb
structure Pl where
  cs : List Co
  rs : List Rg
  clk : Int
  ver : Int
def Pl.right (p : Pl) : Bool := rightP p.cs p.rs p.clk p.ver
def coD (d : Dr) : Co := ⟨d.id, d.fr, d.tn, d.st, d.en, d.rt⟩
def rgD (d : Dr) : Rg := ⟨d.rf, d.rn, d.rs, d.re, d.ro⟩
def endD (d : Dr) : Int := if d.kd = 1 then d.en else d.re
def stepCq (cs : List Co) (d : Dr) : Int := if d.op = 1 then Kc.mayC cs (coD d) else if d.op = 2 then delTq cs d.id else chgTq cs d.id d.rt
def stepCl (cs : List Co) (d : Dr) : List Co := if d.op = 1 then addT cs (coD d) else if d.op = 2 then delT cs d.id else chgT cs d.id d.rt
def stepRq (rs : List Rg) (d : Dr) : Int := if d.op = 1 then Kr.mayF rs (rgD d) else if d.op = 2 then delUq rs (rgD d) else chgUq rs (rgD d)
def stepRl (rs : List Rg) (d : Dr) : List Rg := if d.op = 1 then addU rs (rgD d) else if d.op = 2 then delU rs (rgD d) else chgU rs (rgD d)
def stepQ (p : Pl) (d : Dr) : Int :=
  if rightD d = false then 1 else if d.op = 1 ∧ endD d ≤ p.clk then 7 else if d.kd = 1 then stepCq p.cs d else stepRq p.rs d
def stepP (p : Pl) (d : Dr) : Pl :=
  if stepQ p d = 0 then (if d.kd = 1 then ⟨stepCl p.cs d, p.rs, p.clk, min (p.ver + 1) 1099511627776⟩ else ⟨p.cs, stepRl p.rs d, p.clk, min (p.ver + 1) 1099511627776⟩) else p
/-- A plan's tables lie in memory. -/
structure PlAt (w : World) (A1 : Option Addr) (n1 c1 : Nat) (A : Option Addr) (n c : Nat) (p : Pl) : Prop where
  l1 : p.cs.length = n1
  l : p.rs.length = n
  b1 : n1 ≤ 100000
  b : n ≤ 100000
  s1 : Sl w w.heap.size 6 A1 n1 c1 (flatCo p.cs)
  s : Sl w w.heap.size 5 A n c (flatRg p.rs)
theorem PlAt.up {w w' : World} {A1 : Option Addr} {n1 c1 : Nat} {A : Option Addr} {n c : Nat} {p : Pl} (h : PlAt w A1 n1 c1 A n c p) (hb : Below w.heap.size w w') : PlAt w' A1 n1 c1 A n c p := ⟨h.l1, h.l, h.b1, h.b, h.s1.up hb, h.s.up hb⟩
/-- .. in memory of the call's own. -/
structure PlOwn (w : World) (base : Nat) (A1 : Option Addr) (n1 c1 : Nat) (A : Option Addr) (n c : Nat) (p : Pl) : Prop where
  l1 : p.cs.length = n1
  l : p.rs.length = n
  b1 : n1 ≤ 100000
  b : n ≤ 100000
  o1 : w.ownsRow base 33 6 (.slice A1 n1 c1) n1 (flatCo p.cs)
  o : w.ownsRow base 35 5 (.slice A n c) n (flatRg p.rs)
theorem PlOwn.at_ {w : World} {base : Nat} {A1 : Option Addr} {n1 c1 : Nat} {A : Option Addr} {n c : Nat} {p : Pl} (h : PlOwn w base A1 n1 c1 A n c p) : PlAt w A1 n1 c1 A n c p := ⟨h.l1, h.l, h.b1, h.b, Sl.of_own h.o1, Sl.of_own h.o⟩
theorem PlOwn.below {w w' : World} {base : Nat} {A1 : Option Addr} {n1 c1 : Nat} {A : Option Addr} {n c : Nat} {p : Pl} (h : PlOwn w base A1 n1 c1 A n c p) (hb : Below w.heap.size w w') : PlOwn w' base A1 n1 c1 A n c p := ⟨h.l1, h.l, h.b1, h.b, own_below h.o1 hb, own_below h.o hb⟩
theorem PlOwn.down {w : World} {base b' : Nat} {A1 : Option Addr} {n1 c1 : Nat} {A : Option Addr} {n c : Nat} {p : Pl} (h : PlOwn w base A1 n1 c1 A n c p) (hb : b' ≤ base) : PlOwn w b' A1 n1 c1 A n c p := ⟨h.l1, h.l, h.b1, h.b, own_down h.o1 hb, own_down h.o hb⟩
set_option maxRecDepth 100000 in
theorem pnew_any (w : World) : Calls Tryz.prog 28 #[] w fun e w' => e = .returned (.agg #[.slice none 0 0, .slice none 0 0, .int .i64 0, .int .i64 0]) ∧ Below w.heap.size w w' := by
  have hB : Below w.heap.size w (w.alloc (.cells #[.slice none 0 0, .slice none 0 0, .int .i64 0, .int .i64 0] 25)) := by (repeat (first | exact Below.refl _ _ | refine Below.alloc ?_ (by first | omega | (simp; done) | (simp; omega)) _ | refine Below.setCell ?_ (by first | omega | (simp; done) | (simp; omega)) _ | refine Below.drew ?_))
  have hX := Blok.new w 25 #[.slice none 0 0, .slice none 0 0, .int .i64 0, .int .i64 0]
  go_enter Tryz.func28, Tryz.ntmps28
  go_upto_region 1 with fail
  generalize w.alloc (.cells #[.slice none 0 0, .slice none 0 0, .int .i64 0, .int .i64 0] 25) = w1 at *
  have r0 : w1.cell? ⟨w.heap.size, 0, none⟩ = some (.slice none 0 0) := hX.cell 0
  have f0 := hX.free 0
  have r1 : w1.cell? ⟨w.heap.size, 1, none⟩ = some (.slice none 0 0) := hX.cell 1
  have f1 := hX.free 1
  have r2 : w1.cell? ⟨w.heap.size, 2, none⟩ = some (.int .i64 0) := hX.cell 2
  have f2 := hX.free 2
  have r3 : w1.cell? ⟨w.heap.size, 3, none⟩ = some (.int .i64 0) := hX.cell 3
  have f3 := hX.free 3
  have lt_x := hX.lt
  have HX := Lib.hid hX
  clear hX
  go_wp2_with fail
  have hX := HX.out
  clear r0 r1 r2 r3
  have hF : Blok ((((w1.setCell ⟨w.heap.size, 0, none⟩ (.slice none 0 0)).setCell ⟨w.heap.size, 1, none⟩ (.slice none 0 0)).setCell ⟨w.heap.size, 2, none⟩ (.int .i64 0)).setCell ⟨w.heap.size, 3, none⟩ (.int .i64 0)) w.heap.size 25 #[.slice none 0 0, .slice none 0 0, .int .i64 0, .int .i64 0] := by have h := ((((hX.set_ 0 (.slice none 0 0)).set_ 1 (.slice none 0 0)).set_ 2 (.int .i64 0)).set_ 3 (.int .i64 0)); simpa using h
  have hle0 : w.heap.size ≤ w.heap.size := by first | exact Nat.le_refl _ | omega
  have hWf : Below w.heap.size w ((((w1.setCell ⟨w.heap.size, 0, none⟩ (.slice none 0 0)).setCell ⟨w.heap.size, 1, none⟩ (.slice none 0 0)).setCell ⟨w.heap.size, 2, none⟩ (.int .i64 0)).setCell ⟨w.heap.size, 3, none⟩ (.int .i64 0)) := ((((hB.setCell (p := ⟨w.heap.size, 0, none⟩) hle0 (.slice none 0 0)).setCell (p := ⟨w.heap.size, 1, none⟩) hle0 (.slice none 0 0)).setCell (p := ⟨w.heap.size, 2, none⟩) hle0 (.int .i64 0)).setCell (p := ⟨w.heap.size, 3, none⟩) hle0 (.int .i64 0))
  have hlF := hF.lt
  have hgw : w1.grownBy ((((w1.setCell ⟨w.heap.size, 0, none⟩ (.slice none 0 0)).setCell ⟨w.heap.size, 1, none⟩ (.slice none 0 0)).setCell ⟨w.heap.size, 2, none⟩ (.int .i64 0)).setCell ⟨w.heap.size, 3, none⟩ (.int .i64 0)) (some w.heap.size) := grown_trans (grown_trans (grown_trans (grown_set _ _ _) (grown_set _ _ _)) (grown_set _ _ _)) (grown_set _ _ _)
  generalize ((((w1.setCell ⟨w.heap.size, 0, none⟩ (.slice none 0 0)).setCell ⟨w.heap.size, 1, none⟩ (.slice none 0 0)).setCell ⟨w.heap.size, 2, none⟩ (.int .i64 0)).setCell ⟨w.heap.size, 3, none⟩ (.int .i64 0)) = wf at *
  have r0 : wf.cell? ⟨w.heap.size, 0, none⟩ = some (.slice none 0 0) := hF.cell 0
  have r1 : wf.cell? ⟨w.heap.size, 1, none⟩ = some (.slice none 0 0) := hF.cell 1
  have r2 : wf.cell? ⟨w.heap.size, 2, none⟩ = some (.int .i64 0) := hF.cell 2
  have r3 : wf.cell? ⟨w.heap.size, 3, none⟩ = some (.int .i64 0) := hF.cell 3
  refine bodyPost_ret (v := .agg #[.slice none 0 0, .slice none 0 0, .int .i64 0, .int .i64 0]) (by simp [results, Tryz.results28, go_sem, r0, r1, r2, r3, hlF]) rfl ?_
  exact ⟨rfl, hWf⟩
set_option maxHeartbeats 1000000 in
set_option maxRecDepth 100000 in
theorem pend_any (d : Dr) (w : World) (v : Int) (hv : endD d = v) : Calls Tryz.prog 78 #[.agg #[.int .i64 d.op, .int .i64 d.kd, .int .i64 d.id, .int .i64 d.fr, .int .i64 d.tn, .int .i64 d.st, .int .i64 d.en, .int .i64 d.rt, .int .i64 d.rf, .int .i64 d.rn, .int .i64 d.rs, .int .i64 d.re, .int .i64 d.ro]] w fun e w' => e = .returned (.int .i64 v) ∧ Below w.heap.size w w' := by
  subst hv
  unfold endD
  by_cases h : d.kd = 1
  · rw [if_pos h]
    have g : (d.kd == 1) = true := by simp [h]
    clear h
    go_enter Tryz.func78, Tryz.ntmps78
    go_wp2_with fail
    go_ret
    exact ⟨rfl, by (repeat (first | exact Below.refl _ _ | refine Below.alloc ?_ (by first | omega | (simp; done) | (simp; omega)) _ | refine Below.setCell ?_ (by first | omega | (simp; done) | (simp; omega)) _ | refine Below.drew ?_))⟩
  · rw [if_neg h]
    have g : (d.kd == 1) = false := by simp [h]
    clear h
    go_enter Tryz.func78, Tryz.ntmps78
    go_wp2_with fail
    go_ret
    exact ⟨rfl, by (repeat (first | exact Below.refl _ _ | refine Below.alloc ?_ (by first | omega | (simp; done) | (simp; omega)) _ | refine Below.setCell ?_ (by first | omega | (simp; done) | (simp; omega)) _ | refine Below.drew ?_))⟩
set_option maxHeartbeats 2000000 in
set_option maxRecDepth 100000 in
theorem pchanged_any (A1 : Option Addr) (n1 c1 : Nat) (A : Option Addr) (n c : Nat) (clk ver : Int) (h0 : 0 ≤ ver) (h1 : ver ≤ 1099511627776) (nv : Int) (hnv : min (ver + 1) 1099511627776 = nv) (w : World) :
    Calls Tryz.prog 55 #[.agg #[.slice A1 n1 c1, .slice A n c, .int .i64 clk, .int .i64 ver]] w fun e w' => e = .returned (.agg #[.slice A1 n1 c1, .slice A n c, .int .i64 clk, .int .i64 nv]) ∧ Below w.heap.size w w' := by
  have hB : Below w.heap.size w ((w.alloc (.cells #[.slice A1 n1 c1, .slice A n c, .int .i64 clk, .int .i64 ver] 25)).alloc (.cells #[.slice none 0 0, .slice none 0 0, .int .i64 0, .int .i64 0] 25)) := by (repeat (first | exact Below.refl _ _ | refine Below.alloc ?_ (by first | omega | (simp; done) | (simp; omega)) _ | refine Below.setCell ?_ (by first | omega | (simp; done) | (simp; omega)) _ | refine Below.drew ?_))
  have hP := (Blok.new w 25 #[.slice A1 n1 c1, .slice A n c, .int .i64 clk, .int .i64 ver]).alloc (.cells #[.slice none 0 0, .slice none 0 0, .int .i64 0, .int .i64 0] 25)
  have hX := Blok.new (w.alloc (.cells #[.slice A1 n1 c1, .slice A n c, .int .i64 clk, .int .i64 ver] 25)) 25 #[.slice none 0 0, .slice none 0 0, .int .i64 0, .int .i64 0]
  simp only [World.size_alloc] at hX
  have t0 : IntKind.i64.wrap (ver + 1) = ver + 1 := by rw [IntWalk.i64_in _ (by omega)]
  subst hnv
  go_enter Tryz.func55, Tryz.ntmps55
  go_upto_region 1 with fail
  generalize (w.alloc (.cells #[.slice A1 n1 c1, .slice A n c, .int .i64 clk, .int .i64 ver] 25)).alloc (.cells #[.slice none 0 0, .slice none 0 0, .int .i64 0, .int .i64 0] 25) = w0 at *
  have p3 : w0.cell? ⟨w.heap.size, 3, none⟩ = some (.int .i64 ver) := hP.cell 3
  have f3 := hP.free 3
  have lt_p := hP.lt
  go_upto_region 2 with fail
  generalize hnv : min (ver + 1) 1099511627776 = nv at *
  have hP2 := hP.set_ 3 (.int .i64 nv)
  have hX2 := hX.far (p := ⟨w.heap.size, 3, none⟩) (by show w.heap.size + 1 ≠ w.heap.size; omega) (.int .i64 nv)
  have hB2 := hB.setCell (p := ⟨w.heap.size, 3, none⟩) (Nat.le_refl _) (.int .i64 nv)
  clear p3 f3 lt_p hP hX hB t0
  generalize w0.setCell ⟨w.heap.size, 3, none⟩ (.int .i64 nv) = w1 at *
  have p0 : w1.cell? ⟨w.heap.size, 0, none⟩ = some (.slice A1 n1 c1) := hP2.cell 0
  have p1 : w1.cell? ⟨w.heap.size, 1, none⟩ = some (.slice A n c) := hP2.cell 1
  have p2 : w1.cell? ⟨w.heap.size, 2, none⟩ = some (.int .i64 clk) := hP2.cell 2
  have p3 : w1.cell? ⟨w.heap.size, 3, none⟩ = some (.int .i64 nv) := hP2.cell 3
  have lt_p := hP2.lt
  have r0 : w1.cell? ⟨w.heap.size + 1, 0, none⟩ = some (.slice none 0 0) := hX2.cell 0
  have f_0 := hX2.free 0
  have r1 : w1.cell? ⟨w.heap.size + 1, 1, none⟩ = some (.slice none 0 0) := hX2.cell 1
  have f_1 := hX2.free 1
  have r2 : w1.cell? ⟨w.heap.size + 1, 2, none⟩ = some (.int .i64 0) := hX2.cell 2
  have f_2 := hX2.free 2
  have r3 : w1.cell? ⟨w.heap.size + 1, 3, none⟩ = some (.int .i64 0) := hX2.cell 3
  have f_3 := hX2.free 3
  have lt_x := hX2.lt
  have HX := Lib.hid hX2
  clear hX2
  go_wp2_with fail
  have hX := HX.out
  have hB := hB2
  clear r0 r1 r2 r3 p0 p1 p2 p3
  have hF : Blok ((((w1.setCell ⟨(w.heap.size + 1), 0, none⟩ (.slice A1 n1 c1)).setCell ⟨(w.heap.size + 1), 1, none⟩ (.slice A n c)).setCell ⟨(w.heap.size + 1), 2, none⟩ (.int .i64 clk)).setCell ⟨(w.heap.size + 1), 3, none⟩ (.int .i64 nv)) (w.heap.size + 1) 25 #[.slice A1 n1 c1, .slice A n c, .int .i64 clk, .int .i64 nv] := by have h := ((((hX.set_ 0 (.slice A1 n1 c1)).set_ 1 (.slice A n c)).set_ 2 (.int .i64 clk)).set_ 3 (.int .i64 nv)); simpa using h
  have hle0 : w.heap.size ≤ (w.heap.size + 1) := by first | exact Nat.le_refl _ | omega
  have hWf : Below w.heap.size w ((((w1.setCell ⟨(w.heap.size + 1), 0, none⟩ (.slice A1 n1 c1)).setCell ⟨(w.heap.size + 1), 1, none⟩ (.slice A n c)).setCell ⟨(w.heap.size + 1), 2, none⟩ (.int .i64 clk)).setCell ⟨(w.heap.size + 1), 3, none⟩ (.int .i64 nv)) := ((((hB.setCell (p := ⟨(w.heap.size + 1), 0, none⟩) hle0 (.slice A1 n1 c1)).setCell (p := ⟨(w.heap.size + 1), 1, none⟩) hle0 (.slice A n c)).setCell (p := ⟨(w.heap.size + 1), 2, none⟩) hle0 (.int .i64 clk)).setCell (p := ⟨(w.heap.size + 1), 3, none⟩) hle0 (.int .i64 nv))
  have hlF := hF.lt
  have hgw : w1.grownBy ((((w1.setCell ⟨(w.heap.size + 1), 0, none⟩ (.slice A1 n1 c1)).setCell ⟨(w.heap.size + 1), 1, none⟩ (.slice A n c)).setCell ⟨(w.heap.size + 1), 2, none⟩ (.int .i64 clk)).setCell ⟨(w.heap.size + 1), 3, none⟩ (.int .i64 nv)) (some (w.heap.size + 1)) := grown_trans (grown_trans (grown_trans (grown_set _ _ _) (grown_set _ _ _)) (grown_set _ _ _)) (grown_set _ _ _)
  generalize ((((w1.setCell ⟨(w.heap.size + 1), 0, none⟩ (.slice A1 n1 c1)).setCell ⟨(w.heap.size + 1), 1, none⟩ (.slice A n c)).setCell ⟨(w.heap.size + 1), 2, none⟩ (.int .i64 clk)).setCell ⟨(w.heap.size + 1), 3, none⟩ (.int .i64 nv)) = wf at *
  have r0 : wf.cell? ⟨(w.heap.size + 1), 0, none⟩ = some (.slice A1 n1 c1) := hF.cell 0
  have r1 : wf.cell? ⟨(w.heap.size + 1), 1, none⟩ = some (.slice A n c) := hF.cell 1
  have r2 : wf.cell? ⟨(w.heap.size + 1), 2, none⟩ = some (.int .i64 clk) := hF.cell 2
  have r3 : wf.cell? ⟨(w.heap.size + 1), 3, none⟩ = some (.int .i64 nv) := hF.cell 3
  refine bodyPost_ret (v := .agg #[.slice A1 n1 c1, .slice A n c, .int .i64 clk, .int .i64 nv]) (by simp [results, Tryz.results55, go_sem, r0, r1, r2, r3, hlF]) rfl ?_
  exact ⟨by rw [hnv], hWf⟩
end Go.Proofs.YtolaabllhibkdaaGreat

/- Contracts of plan.Copy and plan.Same. They make new memory alone. -/
namespace Go.Proofs.YtolaabllhibkdaaGreat
open Go.ChangeShapes Go.WideShapes Go.ChangeAt Go.RowKit Go.Sort
set_option linter.unusedSimpArgs false
set_option linter.unusedVariables false
theorem own_far {w w' : World} {base : Nat} {e : TypeId} {size n : Nat} {v : Value} {xs : List Value} {row : Option Nat} (h : w.ownsRow base e size v n xs) (hg : w.grownBy w' row) (hr : ∀ q, row = some q → q < base) : w'.ownsRow base e size v n xs :=
  h.kept hg (by
    cases hq : v.ownBlock with
    | none => exact .inl rfl
    | some q => exact .inr (fun e => by have := hr q e.symm; have := (h.lt q hq).1; omega))
set_option maxHeartbeats 8000000 in
set_option maxRecDepth 100000 in
theorem pcopy_any (A1 : Option Addr) (n1 c1 : Nat) (A : Option Addr) (n c : Nat) (p : Pl) (w : World) (h : PlAt w A1 n1 c1 A n c p) :
    Calls Tryz.prog 16 #[.agg #[.slice A1 n1 c1, .slice A n c, .int .i64 p.clk, .int .i64 p.ver]] w fun e w' => ∃ A2 c2 A3 c3, e = .returned (.agg #[.slice A2 n1 c2, .slice A3 n c3, .int .i64 p.clk, .int .i64 p.ver]) ∧ PlOwn w' w.heap.size A2 n1 c2 A3 n c3 p ∧ Below w.heap.size w w' := by
  have hB : Below w.heap.size w ((w.alloc (.cells #[.slice A1 n1 c1, .slice A n c, .int .i64 p.clk, .int .i64 p.ver] 25)).alloc (.cells #[.slice none 0 0, .slice none 0 0, .int .i64 0, .int .i64 0] 25)) := by (repeat (first | exact Below.refl _ _ | refine Below.alloc ?_ (by first | omega | (simp; done) | (simp; omega)) _ | refine Below.setCell ?_ (by first | omega | (simp; done) | (simp; omega)) _ | refine Below.drew ?_))
  have hP := (Blok.new w 25 #[.slice A1 n1 c1, .slice A n c, .int .i64 p.clk, .int .i64 p.ver]).alloc (.cells #[.slice none 0 0, .slice none 0 0, .int .i64 0, .int .i64 0] 25)
  have hX := Blok.new (w.alloc (.cells #[.slice A1 n1 c1, .slice A n c, .int .i64 p.clk, .int .i64 p.ver] 25)) 25 #[.slice none 0 0, .slice none 0 0, .int .i64 0, .int .i64 0]
  simp only [World.size_alloc] at hX
  have hs := hB.size
  obtain ⟨HD1, HD, hb1, hb2, h1, h2⟩ := h
  replace h1 := h1.up hB
  replace h2 := h2.up hB
  have D1 := Lib.hid HD1
  have D2 := Lib.hid HD
  clear HD1 HD
  go_enter Tryz.func16, Tryz.ntmps16
  go_upto_region 1 with fail
  generalize (w.alloc (.cells #[.slice A1 n1 c1, .slice A n c, .int .i64 p.clk, .int .i64 p.ver] 25)).alloc (.cells #[.slice none 0 0, .slice none 0 0, .int .i64 0, .int .i64 0] 25) = w0 at *
  have HC1 := Lib.hid (fun (w' : World) (hb : Below w0.heap.size w0 w') => cloneCo A1 n1 c1 p.cs w' D1.out (by omega) (h1.up hb))
  have HC2 := Lib.hid (fun (w' : World) (hb : Below w0.heap.size w0 w') => cloneRg A n c p.rs w' D2.out (by omega) (h2.up hb))
  have HPP := Lib.hid (fun (w' : World) (hb : Below w0.heap.size w0 w') => (hP.below hb hP.lt))
  have p0 : w0.cell? ⟨w.heap.size, 0, none⟩ = some (.slice A1 n1 c1) := hP.cell 0
  have p1 : w0.cell? ⟨w.heap.size, 1, none⟩ = some (.slice A n c) := hP.cell 1
  have lt_p := hP.lt
  have hC : Below w0.heap.size w0 w0 := Below.refl _ _
  have HX := Lib.hid hX
  have HB := Lib.hid hB
  clear hX hP h1 h2 hB
  try simp only [List.append]
  go_region_law (first
    | (refine step_call rfl 45 #[.tmp 4] _ rfl #[.slice A1 n1 c1] (by simp [Act.eval, Act.put]) Tryz.func45 rfl rfl ?_; refine Calls.mono (HC1.out _ (by first | exact hC | exact hC.drew)) ?_; rintro e x1 ⟨v1, rfl, hv1, hbx⟩; obtain ⟨A2, c2, rfl⟩ := slice_of_own hv1; refine ⟨_, rfl, ?_⟩; (try (have hn := own_below hv2 hbx; clear hv2; have hv2 := hn; clear hn)); have hC' : Below w0.heap.size w0 x1 := Below.trans (by first | exact hC | exact hC.drew) (hbx.mono (by first | exact hC.size | exact Nat.le_refl _)); clear hC; have hC := hC'; clear hC' hbx; have sz1 := hC.size; have q0 : x1.cell? ⟨w.heap.size, 0, none⟩ = some (.slice A1 n1 c1) := (HPP.out _ hC).cell 0; have q1 : x1.cell? ⟨w.heap.size, 1, none⟩ = some (.slice A n c) := (HPP.out _ hC).cell 1; have qf0 := (HPP.out _ hC).free 0; have qf1 := (HPP.out _ hC).free 1; have qlt := (HPP.out _ hC).lt)
    | (refine step_call rfl 46 #[.tmp 7] _ rfl #[.slice A n c] (by simp [Act.eval, Act.put]) Tryz.func46 rfl rfl ?_; refine Calls.mono (HC2.out _ (by first | exact hC | exact hC.drew)) ?_; rintro e x2 ⟨v2, rfl, hv2, hbx⟩; obtain ⟨A3, c3, rfl⟩ := slice_of_own hv2; refine ⟨_, rfl, ?_⟩; (try (have hn := own_below hv1 hbx; clear hv1; have hv1 := hn; clear hn)); have hC' : Below w0.heap.size w0 x2 := Below.trans (by first | exact hC | exact hC.drew) (hbx.mono (by first | exact hC.size | exact Nat.le_refl _)); clear hC; have hC := hC'; clear hC' hbx; have sz2 := hC.size; have u0 : x2.cell? ⟨w.heap.size, 0, none⟩ = some (.slice A1 n1 c1) := (HPP.out _ hC).cell 0; have u1 : x2.cell? ⟨w.heap.size, 1, none⟩ = some (.slice A n c) := (HPP.out _ hC).cell 1; have uf0 := (HPP.out _ hC).free 0; have uf1 := (HPP.out _ hC).free 1; have ult := (HPP.out _ hC).lt))
  all_goals
    have hPw := HPP.out _ hC
    have hXw := HX.out.below hC HX.out.lt
    have hBw := HB.out.trans (hC.mono hs)
    have hP2 := (hPw.set_ 0 (.slice A2 n1 c2)).set_ 1 (.slice A3 n c3)
    have hX2 := (hXw.far (p := ⟨w.heap.size, 0, none⟩) (by show w.heap.size + 1 ≠ w.heap.size; omega) (.slice A2 n1 c2)).far (p := ⟨w.heap.size, 1, none⟩) (by show w.heap.size + 1 ≠ w.heap.size; omega) (.slice A3 n c3)
    have hB2 := (hBw.setCell (p := ⟨w.heap.size, 0, none⟩) (Nat.le_refl _) (.slice A2 n1 c2)).setCell (p := ⟨w.heap.size, 1, none⟩) (Nat.le_refl _) (.slice A3 n c3)
    have hg0 : ∀ (y : World), y.grownBy ((y.setCell ⟨w.heap.size, 0, none⟩ (.slice A2 n1 c2)).setCell ⟨w.heap.size, 1, none⟩ (.slice A3 n c3)) (some w.heap.size) := fun y => grown_trans (grown_set _ _ _) (grown_set _ _ _)
    have hO1 := own_far (own_down hv1 (base' := w.heap.size + 2) (by have := HX.out.lt; have hd : w0.drew.heap.size = w0.heap.size := rfl; omega)) (hg0 _) (fun q hq => by injection hq with hq; omega)
    have hO2 := own_far (own_down hv2 (base' := w.heap.size + 2) (by have := HX.out.lt; have hd : w0.drew.heap.size = w0.heap.size := rfl; omega)) (hg0 _) (fun q hq => by injection hq with hq; omega)
    clear hPw hXw hBw hv1 hv2 hC hg0 p0 p1 lt_p HC1 HC2 HPP HX HB
    try clear q0 q1 qf0 qf1 qlt
    try clear u0 u1 uf0 uf1 ult
    first
      | generalize (x2.setCell ⟨w.heap.size, 0, none⟩ (.slice A2 n1 c2)).setCell ⟨w.heap.size, 1, none⟩ (.slice A3 n c3) = w9 at *
      | generalize (x1.setCell ⟨w.heap.size, 0, none⟩ (.slice A2 n1 c2)).setCell ⟨w.heap.size, 1, none⟩ (.slice A3 n c3) = w9 at *
    have y0 : w9.cell? ⟨w.heap.size, 0, none⟩ = some (.slice A2 n1 c2) := hP2.cell 0
    have y1 : w9.cell? ⟨w.heap.size, 1, none⟩ = some (.slice A3 n c3) := hP2.cell 1
    have y2 : w9.cell? ⟨w.heap.size, 2, none⟩ = some (.int .i64 p.clk) := hP2.cell 2
    have y3 : w9.cell? ⟨w.heap.size, 3, none⟩ = some (.int .i64 p.ver) := hP2.cell 3
    have lt_p := hP2.lt
    have r0 : w9.cell? ⟨w.heap.size + 1, 0, none⟩ = some (.slice none 0 0) := hX2.cell 0
    have f_0 := hX2.free 0
    have r1 : w9.cell? ⟨w.heap.size + 1, 1, none⟩ = some (.slice none 0 0) := hX2.cell 1
    have f_1 := hX2.free 1
    have r2 : w9.cell? ⟨w.heap.size + 1, 2, none⟩ = some (.int .i64 0) := hX2.cell 2
    have f_2 := hX2.free 2
    have r3 : w9.cell? ⟨w.heap.size + 1, 3, none⟩ = some (.int .i64 0) := hX2.cell 3
    have f_3 := hX2.free 3
    have lt_x := hX2.lt
    have HX := Lib.hid hX2
    clear hX2
    go_wp2_with fail
    have hX := HX.out
    have hB := hB2
    clear r0 r1 r2 r3 y0 y1 y2 y3
    have hF : Blok ((((w9.setCell ⟨(w.heap.size + 1), 0, none⟩ (.slice A2 n1 c2)).setCell ⟨(w.heap.size + 1), 1, none⟩ (.slice A3 n c3)).setCell ⟨(w.heap.size + 1), 2, none⟩ (.int .i64 p.clk)).setCell ⟨(w.heap.size + 1), 3, none⟩ (.int .i64 p.ver)) (w.heap.size + 1) 25 #[.slice A2 n1 c2, .slice A3 n c3, .int .i64 p.clk, .int .i64 p.ver] := by have h := ((((hX.set_ 0 (.slice A2 n1 c2)).set_ 1 (.slice A3 n c3)).set_ 2 (.int .i64 p.clk)).set_ 3 (.int .i64 p.ver)); simpa using h
    have hle0 : w.heap.size ≤ (w.heap.size + 1) := by first | exact Nat.le_refl _ | omega
    have hWf : Below w.heap.size w ((((w9.setCell ⟨(w.heap.size + 1), 0, none⟩ (.slice A2 n1 c2)).setCell ⟨(w.heap.size + 1), 1, none⟩ (.slice A3 n c3)).setCell ⟨(w.heap.size + 1), 2, none⟩ (.int .i64 p.clk)).setCell ⟨(w.heap.size + 1), 3, none⟩ (.int .i64 p.ver)) := ((((hB.setCell (p := ⟨(w.heap.size + 1), 0, none⟩) hle0 (.slice A2 n1 c2)).setCell (p := ⟨(w.heap.size + 1), 1, none⟩) hle0 (.slice A3 n c3)).setCell (p := ⟨(w.heap.size + 1), 2, none⟩) hle0 (.int .i64 p.clk)).setCell (p := ⟨(w.heap.size + 1), 3, none⟩) hle0 (.int .i64 p.ver))
    have hlF := hF.lt
    have hgw : w9.grownBy ((((w9.setCell ⟨(w.heap.size + 1), 0, none⟩ (.slice A2 n1 c2)).setCell ⟨(w.heap.size + 1), 1, none⟩ (.slice A3 n c3)).setCell ⟨(w.heap.size + 1), 2, none⟩ (.int .i64 p.clk)).setCell ⟨(w.heap.size + 1), 3, none⟩ (.int .i64 p.ver)) (some (w.heap.size + 1)) := grown_trans (grown_trans (grown_trans (grown_set _ _ _) (grown_set _ _ _)) (grown_set _ _ _)) (grown_set _ _ _)
    generalize ((((w9.setCell ⟨(w.heap.size + 1), 0, none⟩ (.slice A2 n1 c2)).setCell ⟨(w.heap.size + 1), 1, none⟩ (.slice A3 n c3)).setCell ⟨(w.heap.size + 1), 2, none⟩ (.int .i64 p.clk)).setCell ⟨(w.heap.size + 1), 3, none⟩ (.int .i64 p.ver)) = wf at *
    have r0 : wf.cell? ⟨(w.heap.size + 1), 0, none⟩ = some (.slice A2 n1 c2) := hF.cell 0
    have r1 : wf.cell? ⟨(w.heap.size + 1), 1, none⟩ = some (.slice A3 n c3) := hF.cell 1
    have r2 : wf.cell? ⟨(w.heap.size + 1), 2, none⟩ = some (.int .i64 p.clk) := hF.cell 2
    have r3 : wf.cell? ⟨(w.heap.size + 1), 3, none⟩ = some (.int .i64 p.ver) := hF.cell 3
    refine bodyPost_ret (v := .agg #[.slice A2 n1 c2, .slice A3 n c3, .int .i64 p.clk, .int .i64 p.ver]) (by simp [results, Tryz.results16, go_sem, r0, r1, r2, r3, hlF]) rfl ?_
    exact ⟨A2, c2, A3, c3, rfl, ⟨D1.out, D2.out, hb1, hb2, own_down (own_far hO1 hgw (fun q hq => by injection hq with hq; omega)) (by omega), own_down (own_far hO2 hgw (fun q hq => by injection hq with hq; omega)) (by omega)⟩, hWf⟩
end Go.Proofs.YtolaabllhibkdaaGreat

/- Plans as plain values: what is right stays right. No condition. -/
namespace Go.Proofs.YtolaabllhibkdaaGreat
open Go.ChangeShapes Go.WideShapes Go.ChangeAt Go.RowKit Go.Sort
set_option linter.unusedSimpArgs false
set_option linter.unusedVariables false
theorem Pl.right_spec {p : Pl} : p.right = true ↔ RightP p.cs p.rs p.clk p.ver := rightP_spec
theorem rightC_len {d : List Co} (h : Kc.rightC d = true) : d.length ≤ 4096 := (Kc.rightC_true.1 h).1
theorem rightR_len {d : List Rg} (h : Kr.rightB d = true) : d.length ≤ 4096 := (Kr.rightB_true.1 h).1
theorem mem_addT {d : List Co} {r x : Co} (hr : Kc.rightC d = true) (h : x ∈ addT d r) : x ∈ d ∨ (Kc.mayC d r = 0 ∧ x = r) := by
  by_cases hm : Kc.mayC d r = 0
  · obtain ⟨i, hi, e, _, _⟩ := addT_at hr hm
    rw [e] at h
    unfold Kc.insC at h
    simp only [List.mem_append, List.mem_singleton] at h
    rcases h with (h | h) | h
    · exact .inl (List.mem_of_mem_take h)
    · exact .inr ⟨hm, h⟩
    · exact .inl (List.mem_of_mem_drop h)
  · unfold addT at h; rw [if_neg hm] at h; exact .inl h
theorem mem_chgT {d : List Co} {id rt : Int} {x : Co} (h : x ∈ chgT d id rt) : ∃ y ∈ d, x.en = y.en := by
  unfold chgT at h
  split at h
  · rename_i hc
    rcases List.mem_or_eq_of_mem_set h with h | h
    · exact ⟨x, h, rfl⟩
    · obtain ⟨q, hq, hbef, hat⟩ := firstHitCo hc.2
      have hf : d.findIdx (fun x => x.id == id) = q := first_at _ hq (fun j hj hjq => by have := hbef j hjq; rw [gCo_eq hj] at this; exact this) (by rw [gCo_eq hq] at hat; exact hat)
      rw [hf] at h
      exact ⟨gCo d q, gCo_mem hq, by rw [h]; rfl⟩
  · exact ⟨x, h, rfl⟩
theorem mem_addU {d : List Rg} {r x : Rg} (hr : Kr.rightB d = true) (h : x ∈ addU d r) : x ∈ d ∨ (Kr.mayF d r = 0 ∧ x = r) := by
  by_cases hm : Kr.mayF d r = 0
  · obtain ⟨i, hi, e, _, _⟩ := addU_at hr hm
    rw [e] at h
    unfold Kr.insR at h
    simp only [List.mem_append, List.mem_singleton] at h
    rcases h with (h | h) | h
    · exact .inl (List.mem_of_mem_take h)
    · exact .inr ⟨hm, h⟩
    · exact .inl (List.mem_of_mem_drop h)
  · unfold addU at h; rw [if_neg hm] at h; exact .inl h
theorem mem_chgU {d : List Rg} {r x : Rg} (h : x ∈ chgU d r) : ∃ y ∈ d, x.en = y.en := by
  unfold chgU at h
  split at h
  · rename_i hc
    rcases List.mem_or_eq_of_mem_set h with h | h
    · exact ⟨x, h, rfl⟩
    · obtain ⟨q, hq, hbef, hat⟩ := firstHitRg hc.2
      have hf : d.findIdx (fun x => Kr.sameR x r) = q := first_at _ hq (fun j hj hjq => by have := hbef j hjq; rw [gRg_eq hj] at this; exact this) (by rw [gRg_eq hq] at hat; exact hat)
      rw [hf] at h
      exact ⟨gRg d q, gRg_mem hq, by rw [h]; rfl⟩
  · exact ⟨x, h, rfl⟩
theorem chgU_right {d : List Rg} {r : Rg} (hr : Kr.rightB d = true) : Kr.rightB (chgU d r) = true ∧ (chgU d r).length = d.length := by
  unfold chgU
  split
  · rename_i h
    obtain ⟨q, hq, hbef, hat⟩ := firstHitRg h.2
    have hf : d.findIdx (fun x => Kr.sameR x r) = q := first_at _ hq (fun j hj hjq => by have := hbef j hjq; rw [gRg_eq hj] at this; exact this) (by rw [gRg_eq hq] at hat; exact hat)
    rw [hf]
    have ho := h.1
    unfold inB at ho
    rw [decide_eq_true_eq] at ho
    exact ⟨Kr.right_set hr hq ho.1 ho.2, List.length_set⟩
  · exact ⟨hr, rfl⟩
theorem stepCl_right {cs : List Co} {d : Dr} (hr : Kc.rightC cs = true) : Kc.rightC (stepCl cs d) = true := by
  unfold stepCl
  split
  · exact addT_right hr
  · split
    · exact Kc.right_filter hr _
    · exact (chgT_right hr).1
theorem stepRl_right {rs : List Rg} {d : Dr} (hr : Kr.rightB rs = true) : Kr.rightB (stepRl rs d) = true := by
  unfold stepRl
  split
  · exact addU_right hr
  · split
    · exact Kr.right_filter hr _
    · exact (chgU_right hr).1
theorem stepP_right {p : Pl} {d : Dr} (hr : p.right = true) : (stepP p d).right = true := by
  have h := Pl.right_spec.1 hr
  unfold stepP
  split
  · rename_i hq
    unfold stepQ at hq
    have hrd : rightD d = true := by
      cases hd : rightD d with
      | true => rfl
      | false => rw [if_pos hd] at hq; omega
    rw [if_neg (by rw [hrd]; simp)] at hq
    have hpast : ¬ (d.op = 1 ∧ endD d ≤ p.clk) := fun hc => by rw [if_pos hc] at hq; omega
    rw [if_neg hpast] at hq
    have hv : 0 ≤ min (p.ver + 1) 1099511627776 ∧ min (p.ver + 1) 1099511627776 ≤ 1099511627776 := by have := h.v0; omega
    split
    · rename_i hk
      refine Pl.right_spec.2 ⟨stepCl_right h.co, h.rg, h.c0, h.c1, hv.1, hv.2, fun x hx => ?_, h.er⟩
      show p.clk < x.en
      unfold stepCl at hx
      split at hx
      · rename_i ho
        rcases mem_addT h.co hx with hx | ⟨_, rfl⟩
        · exact h.ec x hx
        · have he : ¬ endD d ≤ p.clk := fun hc => hpast ⟨ho, hc⟩
          unfold endD at he
          rw [if_pos hk] at he
          show p.clk < d.en
          omega
      · split at hx
        · exact h.ec x (List.mem_filter.1 hx).1
        · obtain ⟨y, hy, e⟩ := mem_chgT hx
          rw [e]
          exact h.ec y hy
    · rename_i hk
      refine Pl.right_spec.2 ⟨h.co, stepRl_right h.rg, h.c0, h.c1, hv.1, hv.2, h.ec, fun x hx => ?_⟩
      show p.clk < x.en
      unfold stepRl at hx
      split at hx
      · rename_i ho
        rcases mem_addU h.rg hx with hx | ⟨_, rfl⟩
        · exact h.er x hx
        · have he : ¬ endD d ≤ p.clk := fun hc => hpast ⟨ho, hc⟩
          unfold endD at he
          rw [if_neg hk] at he
          show p.clk < d.re
          omega
      · split at hx
        · exact h.er x (List.mem_filter.1 hx).1
        · obtain ⟨y, hy, e⟩ := mem_chgU hx
          rw [e]
          exact h.er y hy
  · exact hr
def samePB (p q : Pl) : Bool := decide (p.cs = q.cs) && (decide (p.rs = q.rs) && ((p.clk == q.clk) && (p.ver == q.ver)))
theorem samePB_refl (p : Pl) : samePB p p = true := by unfold samePB; simp
/-- Time goes on. -/
def advQ (p : Pl) (now : Int) : Int := if inB now p.clk 2147483647 = true then 0 else 7
def advP (p : Pl) (now : Int) : Pl :=
  if inB now p.clk 2147483647 = true then ⟨Kc.leftC p.cs now, p.rs.filter (fun x => !decide (x.en ≤ now)), now, if now = p.clk then p.ver else min (p.ver + 1) 1099511627776⟩ else p
def advG (p : Pl) (now : Int) : List Int := if inB now p.clk 2147483647 = true then sortI (Kc.goneL p.cs now) else []
end Go.Proofs.YtolaabllhibkdaaGreat

/- Contracts of plan.Same, stepContacts, stepRanges, step. They make new memory alone. -/
namespace Go.Proofs.YtolaabllhibkdaaGreat
open Go.ChangeShapes Go.WideShapes Go.ChangeAt Go.RowKit Go.Sort
set_option linter.unusedSimpArgs false
set_option linter.unusedVariables false
set_option maxHeartbeats 4000000 in
set_option maxRecDepth 100000 in
theorem psame_any (A1 : Option Addr) (n1 c1 : Nat) (A : Option Addr) (n c : Nat) (p : Pl) (B1 : Option Addr) (m1 k1 : Nat) (B : Option Addr) (m k : Nat) (q : Pl) (w : World) (h : PlAt w A1 n1 c1 A n c p) (h' : PlAt w B1 m1 k1 B m k q) (b : Bool) (hb : samePB p q = b) :
    Calls Tryz.prog 14 #[.agg #[.slice A1 n1 c1, .slice A n c, .int .i64 p.clk, .int .i64 p.ver], .agg #[.slice B1 m1 k1, .slice B m k, .int .i64 q.clk, .int .i64 q.ver]] w fun e w' => e = .returned (.bool b) ∧ Below w.heap.size w w' := by
  have hB : Below w.heap.size w ((w.alloc (.cells #[.slice A1 n1 c1, .slice A n c, .int .i64 p.clk, .int .i64 p.ver] 25)).alloc (.cells #[.slice B1 m1 k1, .slice B m k, .int .i64 q.clk, .int .i64 q.ver] 25)) := by (repeat (first | exact Below.refl _ _ | refine Below.alloc ?_ (by first | omega | (simp; done) | (simp; omega)) _ | refine Below.setCell ?_ (by first | omega | (simp; done) | (simp; omega)) _ | refine Below.drew ?_))
  have hP := (Blok.new w 25 #[.slice A1 n1 c1, .slice A n c, .int .i64 p.clk, .int .i64 p.ver]).alloc (.cells #[.slice B1 m1 k1, .slice B m k, .int .i64 q.clk, .int .i64 q.ver] 25)
  have hQ := Blok.new (w.alloc (.cells #[.slice A1 n1 c1, .slice A n c, .int .i64 p.clk, .int .i64 p.ver] 25)) 25 #[.slice B1 m1 k1, .slice B m k, .int .i64 q.clk, .int .i64 q.ver]
  simp only [World.size_alloc] at hQ
  replace h := h.up hB
  replace h' := h'.up hB
  have hs := hB.size
  obtain ⟨x1, q1⟩ : ∃ x, decide (p.cs = q.cs) = x := ⟨_, rfl⟩
  obtain ⟨x2, q2⟩ : ∃ x, decide (p.rs = q.rs) = x := ⟨_, rfl⟩
  obtain ⟨x3, g3⟩ : ∃ x, (p.clk == q.clk) = x := ⟨_, rfl⟩
  obtain ⟨x4, g4⟩ : ∃ x, (p.ver == q.ver) = x := ⟨_, rfl⟩
  have hbb : b = (x1 && (x2 && (x3 && x4))) := by rw [← hb]; unfold samePB; rw [q1, q2, g3, g4]
  have Q1 := Lib.hid q1
  have Q2 := Lib.hid q2
  have HBB := Lib.hid hbb
  clear q1 q2 hbb hb
  go_enter Tryz.func14, Tryz.ntmps14
  go_upto_region 1 with fail
  generalize (w.alloc (.cells #[.slice A1 n1 c1, .slice A n c, .int .i64 p.clk, .int .i64 p.ver] 25)).alloc (.cells #[.slice B1 m1 k1, .slice B m k, .int .i64 q.clk, .int .i64 q.ver] 25) = w0 at *
  have p0 : w0.cell? ⟨w.heap.size, 0, none⟩ = some (.slice A1 n1 c1) := hP.cell 0
  have u0 : w0.cell? ⟨w.heap.size + 1, 0, none⟩ = some (.slice B1 m1 k1) := hQ.cell 0
  have lt_p := hP.lt
  have lt_q := hQ.lt
  go_wp2_with fail
  clear p0 u0 lt_p lt_q
  refine (Kc.same_any A1 B1 n1 c1 m1 k1 p.cs q.cs w0 h.l1 h'.l1 (by have := h.b1; omega) (by have := h'.b1; omega) h.s1 h'.s1).mono ?_
  rintro e w1 ⟨rfl, hb⟩
  rw [Q1.out]
  replace h := h.up hb
  replace h' := h'.up hb
  replace hP := hP.below hb hP.lt
  replace hQ := hQ.below hb hQ.lt
  replace hB := hB.trans (hb.mono hs)
  replace hs := hB.size
  clear hb
  cases x1
  · go_wp2_with fail
    go_ret
    exact ⟨by rw [HBB.out]; rfl, hB⟩
  have p1 : w1.cell? ⟨w.heap.size, 1, none⟩ = some (.slice A n c) := hP.cell 1
  have u1 : w1.cell? ⟨w.heap.size + 1, 1, none⟩ = some (.slice B m k) := hQ.cell 1
  have lt_p := hP.lt
  have lt_q := hQ.lt
  go_wp2_with fail
  clear p1 u1 lt_p lt_q
  refine (Kr.same_any A B n c m k p.rs q.rs w1 h.l h'.l (by have := h.b; omega) (by have := h'.b; omega) h.s h'.s).mono ?_
  rintro e w2 ⟨rfl, hb⟩
  rw [Q2.out]
  replace h := h.up hb
  replace h' := h'.up hb
  replace hP := hP.below hb hP.lt
  replace hQ := hQ.below hb hQ.lt
  replace hB := hB.trans (hb.mono hs)
  replace hs := hB.size
  clear hb
  cases x2
  · go_wp2_with fail
    go_ret
    exact ⟨by rw [HBB.out]; rfl, hB⟩
  have p2 : w2.cell? ⟨w.heap.size, 2, none⟩ = some (.int .i64 p.clk) := hP.cell 2
  have u2 : w2.cell? ⟨w.heap.size + 1, 2, none⟩ = some (.int .i64 q.clk) := hQ.cell 2
  have p3 : w2.cell? ⟨w.heap.size, 3, none⟩ = some (.int .i64 p.ver) := hP.cell 3
  have u3 : w2.cell? ⟨w.heap.size + 1, 3, none⟩ = some (.int .i64 q.ver) := hQ.cell 3
  have lt_p := hP.lt
  have lt_q := hQ.lt
  cases x3 <;> cases x4
  all_goals
    go_wp2_with fail
    go_ret
    exact ⟨by rw [HBB.out]; rfl, hB⟩
set_option maxHeartbeats 2000000 in
set_option maxRecDepth 100000 in
theorem pstepC_any (A : Option Addr) (n c : Nat) (cs : List Co) (d : Dr) (w : World) (hd : cs.length = n) (hn : n ≤ 100000) (h : Sl w w.heap.size 6 A n c (flatCo cs)) (hr : Kc.rightC cs = true) (q : Int) (hq : stepCq cs d = q) (l : List Co) (hl : stepCl cs d = l) :
    Calls Tryz.prog 79 #[.slice A n c, .agg #[.int .i64 d.op, .int .i64 d.kd, .int .i64 d.id, .int .i64 d.fr, .int .i64 d.tn, .int .i64 d.st, .int .i64 d.en, .int .i64 d.rt, .int .i64 d.rf, .int .i64 d.rn, .int .i64 d.rs, .int .i64 d.re, .int .i64 d.ro]] w fun e w' => ∃ v, e = .returned (.tuple #[v, .int .i64 q]) ∧ w'.ownsRow w.heap.size 33 6 v l.length (flatCo l) ∧ Below w.heap.size w w' := by
  have hB : Below w.heap.size w (w.alloc (.cells #[.int .i64 d.op, .int .i64 d.kd, .int .i64 d.id, .int .i64 d.fr, .int .i64 d.tn, .int .i64 d.st, .int .i64 d.en, .int .i64 d.rt, .int .i64 d.rf, .int .i64 d.rn, .int .i64 d.rs, .int .i64 d.re, .int .i64 d.ro] 37)) := by (repeat (first | exact Below.refl _ _ | refine Below.alloc ?_ (by first | omega | (simp; done) | (simp; omega)) _ | refine Below.setCell ?_ (by first | omega | (simp; done) | (simp; omega)) _ | refine Below.drew ?_))
  have hX := Blok.new w 37 #[.int .i64 d.op, .int .i64 d.kd, .int .i64 d.id, .int .i64 d.fr, .int .i64 d.tn, .int .i64 d.st, .int .i64 d.en, .int .i64 d.rt, .int .i64 d.rf, .int .i64 d.rn, .int .i64 d.rs, .int .i64 d.re, .int .i64 d.ro]
  have hs := hB.size
  replace h := h.up hB
  unfold stepCq at hq
  unfold stepCl at hl
  go_enter Tryz.func79, Tryz.ntmps79
  go_upto_region 1 with fail
  generalize w.alloc (.cells #[.int .i64 d.op, .int .i64 d.kd, .int .i64 d.id, .int .i64 d.fr, .int .i64 d.tn, .int .i64 d.st, .int .i64 d.en, .int .i64 d.rt, .int .i64 d.rf, .int .i64 d.rn, .int .i64 d.rs, .int .i64 d.re, .int .i64 d.ro] 37) = w0 at *
  have y0 : w0.cell? ⟨w.heap.size, 0, none⟩ = some (.int .i64 d.op) := hX.cell 0
  have y1 : w0.cell? ⟨w.heap.size, 1, none⟩ = some (.int .i64 d.kd) := hX.cell 1
  have y2 : w0.cell? ⟨w.heap.size, 2, none⟩ = some (.int .i64 d.id) := hX.cell 2
  have y3 : w0.cell? ⟨w.heap.size, 3, none⟩ = some (.int .i64 d.fr) := hX.cell 3
  have y4 : w0.cell? ⟨w.heap.size, 4, none⟩ = some (.int .i64 d.tn) := hX.cell 4
  have y5 : w0.cell? ⟨w.heap.size, 5, none⟩ = some (.int .i64 d.st) := hX.cell 5
  have y6 : w0.cell? ⟨w.heap.size, 6, none⟩ = some (.int .i64 d.en) := hX.cell 6
  have y7 : w0.cell? ⟨w.heap.size, 7, none⟩ = some (.int .i64 d.rt) := hX.cell 7
  have y8 : w0.cell? ⟨w.heap.size, 8, none⟩ = some (.int .i64 d.rf) := hX.cell 8
  have y9 : w0.cell? ⟨w.heap.size, 9, none⟩ = some (.int .i64 d.rn) := hX.cell 9
  have y10 : w0.cell? ⟨w.heap.size, 10, none⟩ = some (.int .i64 d.rs) := hX.cell 10
  have y11 : w0.cell? ⟨w.heap.size, 11, none⟩ = some (.int .i64 d.re) := hX.cell 11
  have y12 : w0.cell? ⟨w.heap.size, 12, none⟩ = some (.int .i64 d.ro) := hX.cell 12
  have lt_y := hX.lt
  by_cases e1 : d.op = 1
  · rw [if_pos e1] at hq hl
    subst hq
    subst hl
    have g1 : (d.op == 1) = true := by simp [e1]
    clear e1
    go_wp2_with fail
    clear y0 y1 y2 y3 y4 y5 y6 y7 y8 y9 y10 y11 y12 lt_y
    refine (addT_any A n c cs (coD d) w0 hd (by omega) h hr _ rfl _ rfl).mono ?_
    rintro e w2 ⟨v, rfl, hv, hb⟩
    go_wp2_with fail
    go_ret2
    exact ⟨v, rfl, own_down hv hs, hB.trans (hb.mono hs)⟩
  rw [if_neg e1] at hq hl
  have g1 : (d.op == 1) = false := by simp [e1]
  clear e1
  by_cases e2 : d.op = 2
  · rw [if_pos e2] at hq hl
    subst hq
    subst hl
    have g2 : (d.op == 2) = true := by simp [e2]
    clear e2
    go_wp2_with fail
    clear y0 y1 y2 y3 y4 y5 y6 y7 y8 y9 y10 y11 y12 lt_y
    refine (delT_any A n c cs d.id w0 hd (by omega) h _ rfl _ rfl).mono ?_
    rintro e w2 ⟨v, rfl, hv, hb⟩
    go_wp2_with fail
    go_ret2
    exact ⟨v, rfl, own_down hv hs, hB.trans (hb.mono hs)⟩
  · rw [if_neg e2] at hq hl
    subst hq
    subst hl
    have g2 : (d.op == 2) = false := by simp [e2]
    clear e2
    go_wp2_with fail
    clear y0 y1 y2 y3 y4 y5 y6 y7 y8 y9 y10 y11 y12 lt_y
    refine (chgT_any A n c cs d.id d.rt w0 hd (by omega) h _ rfl _ rfl).mono ?_
    rintro e w2 ⟨v, rfl, hv, hb⟩
    go_wp2_with fail
    go_ret2
    exact ⟨v, rfl, own_down hv hs, hB.trans (hb.mono hs)⟩
set_option maxHeartbeats 2000000 in
set_option maxRecDepth 100000 in
theorem pstepR_any (A : Option Addr) (n c : Nat) (cs : List Rg) (d : Dr) (w : World) (hd : cs.length = n) (hn : n ≤ 100000) (h : Sl w w.heap.size 5 A n c (flatRg cs)) (hr : Kr.rightB cs = true) (q : Int) (hq : stepRq cs d = q) (l : List Rg) (hl : stepRl cs d = l) :
    Calls Tryz.prog 80 #[.slice A n c, .agg #[.int .i64 d.op, .int .i64 d.kd, .int .i64 d.id, .int .i64 d.fr, .int .i64 d.tn, .int .i64 d.st, .int .i64 d.en, .int .i64 d.rt, .int .i64 d.rf, .int .i64 d.rn, .int .i64 d.rs, .int .i64 d.re, .int .i64 d.ro]] w fun e w' => ∃ v, e = .returned (.tuple #[v, .int .i64 q]) ∧ w'.ownsRow w.heap.size 35 5 v l.length (flatRg l) ∧ Below w.heap.size w w' := by
  have hB : Below w.heap.size w (w.alloc (.cells #[.int .i64 d.op, .int .i64 d.kd, .int .i64 d.id, .int .i64 d.fr, .int .i64 d.tn, .int .i64 d.st, .int .i64 d.en, .int .i64 d.rt, .int .i64 d.rf, .int .i64 d.rn, .int .i64 d.rs, .int .i64 d.re, .int .i64 d.ro] 37)) := by (repeat (first | exact Below.refl _ _ | refine Below.alloc ?_ (by first | omega | (simp; done) | (simp; omega)) _ | refine Below.setCell ?_ (by first | omega | (simp; done) | (simp; omega)) _ | refine Below.drew ?_))
  have hX := Blok.new w 37 #[.int .i64 d.op, .int .i64 d.kd, .int .i64 d.id, .int .i64 d.fr, .int .i64 d.tn, .int .i64 d.st, .int .i64 d.en, .int .i64 d.rt, .int .i64 d.rf, .int .i64 d.rn, .int .i64 d.rs, .int .i64 d.re, .int .i64 d.ro]
  have hs := hB.size
  replace h := h.up hB
  unfold stepRq at hq
  unfold stepRl at hl
  go_enter Tryz.func80, Tryz.ntmps80
  go_upto_region 1 with fail
  generalize w.alloc (.cells #[.int .i64 d.op, .int .i64 d.kd, .int .i64 d.id, .int .i64 d.fr, .int .i64 d.tn, .int .i64 d.st, .int .i64 d.en, .int .i64 d.rt, .int .i64 d.rf, .int .i64 d.rn, .int .i64 d.rs, .int .i64 d.re, .int .i64 d.ro] 37) = w0 at *
  have y0 : w0.cell? ⟨w.heap.size, 0, none⟩ = some (.int .i64 d.op) := hX.cell 0
  have y1 : w0.cell? ⟨w.heap.size, 1, none⟩ = some (.int .i64 d.kd) := hX.cell 1
  have y2 : w0.cell? ⟨w.heap.size, 2, none⟩ = some (.int .i64 d.id) := hX.cell 2
  have y3 : w0.cell? ⟨w.heap.size, 3, none⟩ = some (.int .i64 d.fr) := hX.cell 3
  have y4 : w0.cell? ⟨w.heap.size, 4, none⟩ = some (.int .i64 d.tn) := hX.cell 4
  have y5 : w0.cell? ⟨w.heap.size, 5, none⟩ = some (.int .i64 d.st) := hX.cell 5
  have y6 : w0.cell? ⟨w.heap.size, 6, none⟩ = some (.int .i64 d.en) := hX.cell 6
  have y7 : w0.cell? ⟨w.heap.size, 7, none⟩ = some (.int .i64 d.rt) := hX.cell 7
  have y8 : w0.cell? ⟨w.heap.size, 8, none⟩ = some (.int .i64 d.rf) := hX.cell 8
  have y9 : w0.cell? ⟨w.heap.size, 9, none⟩ = some (.int .i64 d.rn) := hX.cell 9
  have y10 : w0.cell? ⟨w.heap.size, 10, none⟩ = some (.int .i64 d.rs) := hX.cell 10
  have y11 : w0.cell? ⟨w.heap.size, 11, none⟩ = some (.int .i64 d.re) := hX.cell 11
  have y12 : w0.cell? ⟨w.heap.size, 12, none⟩ = some (.int .i64 d.ro) := hX.cell 12
  have lt_y := hX.lt
  by_cases e1 : d.op = 1
  · rw [if_pos e1] at hq hl
    subst hq
    subst hl
    have g1 : (d.op == 1) = true := by simp [e1]
    clear e1
    go_wp2_with fail
    clear y0 y1 y2 y3 y4 y5 y6 y7 y8 y9 y10 y11 y12 lt_y
    refine (addU_any A n c cs (rgD d) w0 hd (by omega) h hr _ rfl _ rfl).mono ?_
    rintro e w2 ⟨v, rfl, hv, hb⟩
    go_wp2_with fail
    go_ret2
    exact ⟨v, rfl, own_down hv hs, hB.trans (hb.mono hs)⟩
  rw [if_neg e1] at hq hl
  have g1 : (d.op == 1) = false := by simp [e1]
  clear e1
  by_cases e2 : d.op = 2
  · rw [if_pos e2] at hq hl
    subst hq
    subst hl
    have g2 : (d.op == 2) = true := by simp [e2]
    clear e2
    go_wp2_with fail
    clear y0 y1 y2 y3 y4 y5 y6 y7 y8 y9 y10 y11 y12 lt_y
    refine (delU_any A n c cs (rgD d) w0 hd (by omega) h _ rfl _ rfl).mono ?_
    rintro e w2 ⟨v, rfl, hv, hb⟩
    go_wp2_with fail
    go_ret2
    exact ⟨v, rfl, own_down hv hs, hB.trans (hb.mono hs)⟩
  · rw [if_neg e2] at hq hl
    subst hq
    subst hl
    have g2 : (d.op == 2) = false := by simp [e2]
    clear e2
    go_wp2_with fail
    clear y0 y1 y2 y3 y4 y5 y6 y7 y8 y9 y10 y11 y12 lt_y
    refine (chgU_any A n c cs (rgD d) w0 hd (by omega) h _ rfl _ rfl).mono ?_
    rintro e w2 ⟨v, rfl, hv, hb⟩
    go_wp2_with fail
    go_ret2
    exact ⟨v, rfl, own_down hv hs, hB.trans (hb.mono hs)⟩
end Go.Proofs.YtolaabllhibkdaaGreat

/- Contract of plan.step. It makes new memory alone. -/
namespace Go.Proofs.YtolaabllhibkdaaGreat
open Go.ChangeShapes Go.WideShapes Go.ChangeAt Go.RowKit Go.Sort
set_option linter.unusedSimpArgs false
set_option linter.unusedVariables false
/-- The tables lie in other blocks. -/
def Apart (b : Nat) (A1 : Option Addr) (n1 : Nat) (A : Option Addr) (n : Nat) : Prop := (∀ ad, A1 = some ad → 0 < n1 → ad.block ≠ b) ∧ (∀ ad, A = some ad → 0 < n → ad.block ≠ b)
theorem apart_own {w : World} {base : Nat} {T : TypeId} {K : Nat} {A : Option Addr} {n c : Nat} {xs : List Value} {b : Nat} (h : w.ownsRow base T K (.slice A n c) n xs) (hb : b < base) : ∀ ad, A = some ad → 0 < n → ad.block ≠ b := by
  intro ad e _ e2
  subst e
  have := (h.lt ad.block rfl).1
  omega
/-- What step hands back: a plan, of which the table that changed is new. -/
def StepRet (A1 : Option Addr) (n1 : Nat) (A : Option Addr) (n : Nat) (p : Pl) (d : Dr) (w : World) (e : Ending) (w' : World) : Prop :=
  ∃ A2 n2 c2 A3 n3 c3, e = .returned (.tuple #[.agg #[.slice A2 n2 c2, .slice A3 n3 c3, .int .i64 (stepP p d).clk, .int .i64 (stepP p d).ver], .int .i64 (stepQ p d)]) ∧ PlAt w' A2 n2 c2 A3 n3 c3 (stepP p d) ∧ Below w.heap.size w w' ∧ (∀ b, b < w.heap.size → Apart b A1 n1 A n → Apart b A2 n2 A3 n3) ∧
    (stepQ p d = 0 → (d.kd = 1 → w'.ownsRow w.heap.size 33 6 (.slice A2 n2 c2) n2 (flatCo (stepP p d).cs)) ∧ (d.kd ≠ 1 → w'.ownsRow w.heap.size 35 5 (.slice A3 n3 c3) n3 (flatRg (stepP p d).rs)))
theorem stepP_no {p : Pl} {d : Dr} {q : Int} (h : stepQ p d = q) (hq : q ≠ 0) : stepP p d = p := by unfold stepP; rw [if_neg (by rw [h]; exact hq)]
theorem StepRet.no {p : Pl} {d : Dr} {w w' : World} {A1 : Option Addr} {n1 c1 : Nat} {A : Option Addr} {n c : Nat} {q : Int} {e : Ending} (h : PlAt w A1 n1 c1 A n c p) (hb : Below w.heap.size w w') (hs : stepQ p d = q) (hq : q ≠ 0) (he : e = .returned (.tuple #[.agg #[.slice A1 n1 c1, .slice A n c, .int .i64 p.clk, .int .i64 p.ver], .int .i64 q])) : StepRet A1 n1 A n p d w e w' := by
  have hp := stepP_no hs hq
  refine ⟨A1, n1, c1, A, n, c, ?_, ?_, hb, fun _ _ ha => ha, fun h0 => absurd (hs.symm.trans h0) hq⟩
  · rw [he, hp, hs]
  · rw [hp]; exact h.up hb
set_option maxHeartbeats 16000000 in
set_option maxRecDepth 100000 in
theorem pstep_any (A1 : Option Addr) (n1 c1 : Nat) (A : Option Addr) (n c : Nat) (p : Pl) (d : Dr) (w : World) (hw0 : (Lit.int .i64 d.op).wf = true) (hw1 : (Lit.int .i64 d.kd).wf = true) (h : PlAt w A1 n1 c1 A n c p) (hr : p.right = true) :
    Calls Tryz.prog 47 #[.agg #[.slice A1 n1 c1, .slice A n c, .int .i64 p.clk, .int .i64 p.ver], .agg #[.int .i64 d.op, .int .i64 d.kd, .int .i64 d.id, .int .i64 d.fr, .int .i64 d.tn, .int .i64 d.st, .int .i64 d.en, .int .i64 d.rt, .int .i64 d.rf, .int .i64 d.rn, .int .i64 d.rs, .int .i64 d.re, .int .i64 d.ro]] w (StepRet A1 n1 A n p d w) := by
  have hB : Below w.heap.size w (((w.alloc (.cells #[.slice A1 n1 c1, .slice A n c, .int .i64 p.clk, .int .i64 p.ver] 25)).alloc (.cells #[.int .i64 d.op, .int .i64 d.kd, .int .i64 d.id, .int .i64 d.fr, .int .i64 d.tn, .int .i64 d.st, .int .i64 d.en, .int .i64 d.rt, .int .i64 d.rf, .int .i64 d.rn, .int .i64 d.rs, .int .i64 d.re, .int .i64 d.ro] 37)).alloc (.cells #[.slice none 0 0, .slice none 0 0, .int .i64 0, .int .i64 0] 25)) := by (repeat (first | exact Below.refl _ _ | refine Below.alloc ?_ (by first | omega | (simp; done) | (simp; omega)) _ | refine Below.setCell ?_ (by first | omega | (simp; done) | (simp; omega)) _ | refine Below.drew ?_))
  have hP := ((Blok.new w 25 #[.slice A1 n1 c1, .slice A n c, .int .i64 p.clk, .int .i64 p.ver]).alloc (.cells #[.int .i64 d.op, .int .i64 d.kd, .int .i64 d.id, .int .i64 d.fr, .int .i64 d.tn, .int .i64 d.st, .int .i64 d.en, .int .i64 d.rt, .int .i64 d.rf, .int .i64 d.rn, .int .i64 d.rs, .int .i64 d.re, .int .i64 d.ro] 37)).alloc (.cells #[.slice none 0 0, .slice none 0 0, .int .i64 0, .int .i64 0] 25)
  have hD := (Blok.new (w.alloc (.cells #[.slice A1 n1 c1, .slice A n c, .int .i64 p.clk, .int .i64 p.ver] 25)) 37 #[.int .i64 d.op, .int .i64 d.kd, .int .i64 d.id, .int .i64 d.fr, .int .i64 d.tn, .int .i64 d.st, .int .i64 d.en, .int .i64 d.rt, .int .i64 d.rf, .int .i64 d.rn, .int .i64 d.rs, .int .i64 d.re, .int .i64 d.ro]).alloc (.cells #[.slice none 0 0, .slice none 0 0, .int .i64 0, .int .i64 0] 25)
  have hR := Blok.new ((w.alloc (.cells #[.slice A1 n1 c1, .slice A n c, .int .i64 p.clk, .int .i64 p.ver] 25)).alloc (.cells #[.int .i64 d.op, .int .i64 d.kd, .int .i64 d.id, .int .i64 d.fr, .int .i64 d.tn, .int .i64 d.st, .int .i64 d.en, .int .i64 d.rt, .int .i64 d.rf, .int .i64 d.rn, .int .i64 d.rs, .int .i64 d.re, .int .i64 d.ro] 37)) 25 #[.slice none 0 0, .slice none 0 0, .int .i64 0, .int .i64 0]
  simp only [World.size_alloc] at hD hR
  have H0 := Lib.hid h
  replace h := h.up hB
  have hs := hB.size
  have HRP := Lib.hid (Pl.right_spec.1 hr)
  obtain ⟨rd, hrd⟩ : ∃ x, rightD d = x := ⟨_, rfl⟩
  have HRD := Lib.hid hrd
  clear hr hrd
  go_enter Tryz.func47, Tryz.ntmps47
  go_upto_region 1 with fail
  generalize ((w.alloc (.cells #[.slice A1 n1 c1, .slice A n c, .int .i64 p.clk, .int .i64 p.ver] 25)).alloc (.cells #[.int .i64 d.op, .int .i64 d.kd, .int .i64 d.id, .int .i64 d.fr, .int .i64 d.tn, .int .i64 d.st, .int .i64 d.en, .int .i64 d.rt, .int .i64 d.rf, .int .i64 d.rn, .int .i64 d.rs, .int .i64 d.re, .int .i64 d.ro] 37)).alloc (.cells #[.slice none 0 0, .slice none 0 0, .int .i64 0, .int .i64 0] 25) = w0 at *
  have y0 : w0.cell? ⟨w.heap.size + 1, 0, none⟩ = some (.int .i64 d.op) := hD.cell 0
  have y1 : w0.cell? ⟨w.heap.size + 1, 1, none⟩ = some (.int .i64 d.kd) := hD.cell 1
  have y2 : w0.cell? ⟨w.heap.size + 1, 2, none⟩ = some (.int .i64 d.id) := hD.cell 2
  have y3 : w0.cell? ⟨w.heap.size + 1, 3, none⟩ = some (.int .i64 d.fr) := hD.cell 3
  have y4 : w0.cell? ⟨w.heap.size + 1, 4, none⟩ = some (.int .i64 d.tn) := hD.cell 4
  have y5 : w0.cell? ⟨w.heap.size + 1, 5, none⟩ = some (.int .i64 d.st) := hD.cell 5
  have y6 : w0.cell? ⟨w.heap.size + 1, 6, none⟩ = some (.int .i64 d.en) := hD.cell 6
  have y7 : w0.cell? ⟨w.heap.size + 1, 7, none⟩ = some (.int .i64 d.rt) := hD.cell 7
  have y8 : w0.cell? ⟨w.heap.size + 1, 8, none⟩ = some (.int .i64 d.rf) := hD.cell 8
  have y9 : w0.cell? ⟨w.heap.size + 1, 9, none⟩ = some (.int .i64 d.rn) := hD.cell 9
  have y10 : w0.cell? ⟨w.heap.size + 1, 10, none⟩ = some (.int .i64 d.rs) := hD.cell 10
  have y11 : w0.cell? ⟨w.heap.size + 1, 11, none⟩ = some (.int .i64 d.re) := hD.cell 11
  have y12 : w0.cell? ⟨w.heap.size + 1, 12, none⟩ = some (.int .i64 d.ro) := hD.cell 12
  have lt_y := hD.lt
  go_wp2_with fail
  clear y0 y1 y2 y3 y4 y5 y6 y7 y8 y9 y10 y11 y12 lt_y
  refine (dright_any d w0 hw0 hw1 rd HRD.out).mono ?_
  rintro e w1 ⟨rfl, hb⟩
  replace h := h.up hb
  replace hP := hP.below hb hP.lt
  replace hD := hD.below hb hD.lt
  replace hR := hR.below hb hR.lt
  replace hB := hB.trans (hb.mono hs)
  replace hs := hB.size
  clear hb
  cases rd
  · have HQ := Lib.hid (show stepQ p d = 1 by unfold stepQ; rw [if_pos HRD.out])
    have p0 : w1.cell? ⟨w.heap.size, 0, none⟩ = some (.slice A1 n1 c1) := hP.cell 0
    have p1 : w1.cell? ⟨w.heap.size, 1, none⟩ = some (.slice A n c) := hP.cell 1
    have p2 : w1.cell? ⟨w.heap.size, 2, none⟩ = some (.int .i64 p.clk) := hP.cell 2
    have p3 : w1.cell? ⟨w.heap.size, 3, none⟩ = some (.int .i64 p.ver) := hP.cell 3
    have lt_p := hP.lt
    have r0 : w1.cell? ⟨w.heap.size + 1 + 1, 0, none⟩ = some (.slice none 0 0) := hR.cell 0
    have f_0 := hR.free 0
    have r1 : w1.cell? ⟨w.heap.size + 1 + 1, 1, none⟩ = some (.slice none 0 0) := hR.cell 1
    have f_1 := hR.free 1
    have r2 : w1.cell? ⟨w.heap.size + 1 + 1, 2, none⟩ = some (.int .i64 0) := hR.cell 2
    have f_2 := hR.free 2
    have r3 : w1.cell? ⟨w.heap.size + 1 + 1, 3, none⟩ = some (.int .i64 0) := hR.cell 3
    have f_3 := hR.free 3
    have lt_x := hR.lt
    have HX := Lib.hid hR
    clear hR
    go_wp2_with fail
    have hX := HX.out
    clear r0 r1 r2 r3 p0 p1 p2 p3
    have hF : Blok ((((w1.setCell ⟨(w.heap.size + 1 + 1), 0, none⟩ (.slice A1 n1 c1)).setCell ⟨(w.heap.size + 1 + 1), 1, none⟩ (.slice A n c)).setCell ⟨(w.heap.size + 1 + 1), 2, none⟩ (.int .i64 p.clk)).setCell ⟨(w.heap.size + 1 + 1), 3, none⟩ (.int .i64 p.ver)) (w.heap.size + 1 + 1) 25 #[.slice A1 n1 c1, .slice A n c, .int .i64 p.clk, .int .i64 p.ver] := by have h := ((((hX.set_ 0 (.slice A1 n1 c1)).set_ 1 (.slice A n c)).set_ 2 (.int .i64 p.clk)).set_ 3 (.int .i64 p.ver)); simpa using h
    have hle0 : w.heap.size ≤ (w.heap.size + 1 + 1) := by first | exact Nat.le_refl _ | omega
    have hWf : Below w.heap.size w ((((w1.setCell ⟨(w.heap.size + 1 + 1), 0, none⟩ (.slice A1 n1 c1)).setCell ⟨(w.heap.size + 1 + 1), 1, none⟩ (.slice A n c)).setCell ⟨(w.heap.size + 1 + 1), 2, none⟩ (.int .i64 p.clk)).setCell ⟨(w.heap.size + 1 + 1), 3, none⟩ (.int .i64 p.ver)) := ((((hB.setCell (p := ⟨(w.heap.size + 1 + 1), 0, none⟩) hle0 (.slice A1 n1 c1)).setCell (p := ⟨(w.heap.size + 1 + 1), 1, none⟩) hle0 (.slice A n c)).setCell (p := ⟨(w.heap.size + 1 + 1), 2, none⟩) hle0 (.int .i64 p.clk)).setCell (p := ⟨(w.heap.size + 1 + 1), 3, none⟩) hle0 (.int .i64 p.ver))
    have hlF := hF.lt
    have hgw : w1.grownBy ((((w1.setCell ⟨(w.heap.size + 1 + 1), 0, none⟩ (.slice A1 n1 c1)).setCell ⟨(w.heap.size + 1 + 1), 1, none⟩ (.slice A n c)).setCell ⟨(w.heap.size + 1 + 1), 2, none⟩ (.int .i64 p.clk)).setCell ⟨(w.heap.size + 1 + 1), 3, none⟩ (.int .i64 p.ver)) (some (w.heap.size + 1 + 1)) := grown_trans (grown_trans (grown_trans (grown_set _ _ _) (grown_set _ _ _)) (grown_set _ _ _)) (grown_set _ _ _)
    generalize ((((w1.setCell ⟨(w.heap.size + 1 + 1), 0, none⟩ (.slice A1 n1 c1)).setCell ⟨(w.heap.size + 1 + 1), 1, none⟩ (.slice A n c)).setCell ⟨(w.heap.size + 1 + 1), 2, none⟩ (.int .i64 p.clk)).setCell ⟨(w.heap.size + 1 + 1), 3, none⟩ (.int .i64 p.ver)) = wf at *
    have r0 : wf.cell? ⟨(w.heap.size + 1 + 1), 0, none⟩ = some (.slice A1 n1 c1) := hF.cell 0
    have r1 : wf.cell? ⟨(w.heap.size + 1 + 1), 1, none⟩ = some (.slice A n c) := hF.cell 1
    have r2 : wf.cell? ⟨(w.heap.size + 1 + 1), 2, none⟩ = some (.int .i64 p.clk) := hF.cell 2
    have r3 : wf.cell? ⟨(w.heap.size + 1 + 1), 3, none⟩ = some (.int .i64 p.ver) := hF.cell 3
    refine bodyPost_ret (v := .tuple #[.agg #[.slice A1 n1 c1, .slice A n c, .int .i64 p.clk, .int .i64 p.ver], .int .i64 1]) (by simp [results, Tryz.results47, go_sem, r0, r1, r2, r3, hlF]) rfl ?_
    exact StepRet.no H0.out hWf HQ.out (by first | omega | assumption) rfl
  go_upto_region 3 with fail
  have y0 : w1.cell? ⟨w.heap.size + 1, 0, none⟩ = some (.int .i64 d.op) := hD.cell 0
  have y1 : w1.cell? ⟨w.heap.size + 1, 1, none⟩ = some (.int .i64 d.kd) := hD.cell 1
  have y2 : w1.cell? ⟨w.heap.size + 1, 2, none⟩ = some (.int .i64 d.id) := hD.cell 2
  have y3 : w1.cell? ⟨w.heap.size + 1, 3, none⟩ = some (.int .i64 d.fr) := hD.cell 3
  have y4 : w1.cell? ⟨w.heap.size + 1, 4, none⟩ = some (.int .i64 d.tn) := hD.cell 4
  have y5 : w1.cell? ⟨w.heap.size + 1, 5, none⟩ = some (.int .i64 d.st) := hD.cell 5
  have y6 : w1.cell? ⟨w.heap.size + 1, 6, none⟩ = some (.int .i64 d.en) := hD.cell 6
  have y7 : w1.cell? ⟨w.heap.size + 1, 7, none⟩ = some (.int .i64 d.rt) := hD.cell 7
  have y8 : w1.cell? ⟨w.heap.size + 1, 8, none⟩ = some (.int .i64 d.rf) := hD.cell 8
  have y9 : w1.cell? ⟨w.heap.size + 1, 9, none⟩ = some (.int .i64 d.rn) := hD.cell 9
  have y10 : w1.cell? ⟨w.heap.size + 1, 10, none⟩ = some (.int .i64 d.rs) := hD.cell 10
  have y11 : w1.cell? ⟨w.heap.size + 1, 11, none⟩ = some (.int .i64 d.re) := hD.cell 11
  have y12 : w1.cell? ⟨w.heap.size + 1, 12, none⟩ = some (.int .i64 d.ro) := hD.cell 12
  have lt_y := hD.lt
  have p2 : w1.cell? ⟨w.heap.size, 2, none⟩ = some (.int .i64 p.clk) := hP.cell 2
  have lt_p := hP.lt
  have HEN := Lib.hid (fun (w' : World) => pend_any d w' _ rfl)
  have HPAST : ∀ (w2 : World), Below w1.heap.size w1 w2 → True := fun _ _ => trivial
  clear HPAST
  by_cases hop : d.op = 1
  · have g1 : (d.op == 1) = true := by simp [hop]
    have HOP := Lib.hid hop
    clear hop
    by_cases hpast : endD d ≤ p.clk
    · have g2 : decide (endD d ≤ p.clk) = true := decide_eq_true hpast
      have HQ := Lib.hid (show stepQ p d = 7 by unfold stepQ; rw [if_neg (by rw [HRD.out]; simp), if_pos ⟨HOP.out, hpast⟩])
      have q_y0 := fun d os => cell_regrown y0 d os
      have q_y1 := fun d os => cell_regrown y1 d os
      have q_y2 := fun d os => cell_regrown y2 d os
      have q_y3 := fun d os => cell_regrown y3 d os
      have q_y4 := fun d os => cell_regrown y4 d os
      have q_y5 := fun d os => cell_regrown y5 d os
      have q_y6 := fun d os => cell_regrown y6 d os
      have q_y7 := fun d os => cell_regrown y7 d os
      have q_y8 := fun d os => cell_regrown y8 d os
      have q_y9 := fun d os => cell_regrown y9 d os
      have q_y10 := fun d os => cell_regrown y10 d os
      have q_y11 := fun d os => cell_regrown y11 d os
      have q_y12 := fun d os => cell_regrown y12 d os
      have q_p2 := fun d os => cell_regrown p2 d os
      try simp only [List.append]
      first | refine wp_region_text_below ?_ | refine wp_region_quiet_below (by kernel_rfl) (by kernel_rfl) ?_
      repeat (go_big_quiet_step ((go_at_call 78; with_reducible exact Calls.regrown_of (HEN.out _))))
      refine wpQuiet_nil ?_
      intro _ hqw
      obtain ⟨pq, hqw⟩ := hqw
      subst hqw
      clear q_y0 q_y1 q_y2 q_y3 q_y4 q_y5 q_y6 q_y7 q_y8 q_y9 q_y10 q_y11 q_y12 q_p2
      have hb := below_regrown w1 pq.d pq.os
      clear y0 y1 y2 y3 y4 y5 y6 y7 y8 y9 y10 y11 y12 lt_y
      clear p2 lt_p g1 g2
      replace h := h.up hb
      replace hP := hP.below hb hP.lt
      replace hD := hD.below hb hD.lt
      replace hR := hR.below hb hR.lt
      replace hB := hB.trans (hb.mono hs)
      replace hs := hB.size
      clear hb
      generalize grow (redrawn w1 pq.d) pq.os = w2 at *
      have p0 : w2.cell? ⟨w.heap.size, 0, none⟩ = some (.slice A1 n1 c1) := hP.cell 0
      have p1 : w2.cell? ⟨w.heap.size, 1, none⟩ = some (.slice A n c) := hP.cell 1
      have p2 : w2.cell? ⟨w.heap.size, 2, none⟩ = some (.int .i64 p.clk) := hP.cell 2
      have p3 : w2.cell? ⟨w.heap.size, 3, none⟩ = some (.int .i64 p.ver) := hP.cell 3
      have lt_p := hP.lt
      have r0 : w2.cell? ⟨w.heap.size + 1 + 1, 0, none⟩ = some (.slice none 0 0) := hR.cell 0
      have f_0 := hR.free 0
      have r1 : w2.cell? ⟨w.heap.size + 1 + 1, 1, none⟩ = some (.slice none 0 0) := hR.cell 1
      have f_1 := hR.free 1
      have r2 : w2.cell? ⟨w.heap.size + 1 + 1, 2, none⟩ = some (.int .i64 0) := hR.cell 2
      have f_2 := hR.free 2
      have r3 : w2.cell? ⟨w.heap.size + 1 + 1, 3, none⟩ = some (.int .i64 0) := hR.cell 3
      have f_3 := hR.free 3
      have lt_x := hR.lt
      have HX := Lib.hid hR
      clear hR
      go_wp2_with fail
      have hX := HX.out
      clear r0 r1 r2 r3 p0 p1 p2 p3
      have hF : Blok ((((w2.setCell ⟨(w.heap.size + 1 + 1), 0, none⟩ (.slice A1 n1 c1)).setCell ⟨(w.heap.size + 1 + 1), 1, none⟩ (.slice A n c)).setCell ⟨(w.heap.size + 1 + 1), 2, none⟩ (.int .i64 p.clk)).setCell ⟨(w.heap.size + 1 + 1), 3, none⟩ (.int .i64 p.ver)) (w.heap.size + 1 + 1) 25 #[.slice A1 n1 c1, .slice A n c, .int .i64 p.clk, .int .i64 p.ver] := by have h := ((((hX.set_ 0 (.slice A1 n1 c1)).set_ 1 (.slice A n c)).set_ 2 (.int .i64 p.clk)).set_ 3 (.int .i64 p.ver)); simpa using h
      have hle0 : w.heap.size ≤ (w.heap.size + 1 + 1) := by first | exact Nat.le_refl _ | omega
      have hWf : Below w.heap.size w ((((w2.setCell ⟨(w.heap.size + 1 + 1), 0, none⟩ (.slice A1 n1 c1)).setCell ⟨(w.heap.size + 1 + 1), 1, none⟩ (.slice A n c)).setCell ⟨(w.heap.size + 1 + 1), 2, none⟩ (.int .i64 p.clk)).setCell ⟨(w.heap.size + 1 + 1), 3, none⟩ (.int .i64 p.ver)) := ((((hB.setCell (p := ⟨(w.heap.size + 1 + 1), 0, none⟩) hle0 (.slice A1 n1 c1)).setCell (p := ⟨(w.heap.size + 1 + 1), 1, none⟩) hle0 (.slice A n c)).setCell (p := ⟨(w.heap.size + 1 + 1), 2, none⟩) hle0 (.int .i64 p.clk)).setCell (p := ⟨(w.heap.size + 1 + 1), 3, none⟩) hle0 (.int .i64 p.ver))
      have hlF := hF.lt
      have hgw : w2.grownBy ((((w2.setCell ⟨(w.heap.size + 1 + 1), 0, none⟩ (.slice A1 n1 c1)).setCell ⟨(w.heap.size + 1 + 1), 1, none⟩ (.slice A n c)).setCell ⟨(w.heap.size + 1 + 1), 2, none⟩ (.int .i64 p.clk)).setCell ⟨(w.heap.size + 1 + 1), 3, none⟩ (.int .i64 p.ver)) (some (w.heap.size + 1 + 1)) := grown_trans (grown_trans (grown_trans (grown_set _ _ _) (grown_set _ _ _)) (grown_set _ _ _)) (grown_set _ _ _)
      generalize ((((w2.setCell ⟨(w.heap.size + 1 + 1), 0, none⟩ (.slice A1 n1 c1)).setCell ⟨(w.heap.size + 1 + 1), 1, none⟩ (.slice A n c)).setCell ⟨(w.heap.size + 1 + 1), 2, none⟩ (.int .i64 p.clk)).setCell ⟨(w.heap.size + 1 + 1), 3, none⟩ (.int .i64 p.ver)) = wf at *
      have r0 : wf.cell? ⟨(w.heap.size + 1 + 1), 0, none⟩ = some (.slice A1 n1 c1) := hF.cell 0
      have r1 : wf.cell? ⟨(w.heap.size + 1 + 1), 1, none⟩ = some (.slice A n c) := hF.cell 1
      have r2 : wf.cell? ⟨(w.heap.size + 1 + 1), 2, none⟩ = some (.int .i64 p.clk) := hF.cell 2
      have r3 : wf.cell? ⟨(w.heap.size + 1 + 1), 3, none⟩ = some (.int .i64 p.ver) := hF.cell 3
      refine bodyPost_ret (v := .tuple #[.agg #[.slice A1 n1 c1, .slice A n c, .int .i64 p.clk, .int .i64 p.ver], .int .i64 7]) (by simp [results, Tryz.results47, go_sem, r0, r1, r2, r3, hlF]) rfl ?_
      exact StepRet.no H0.out hWf HQ.out (by first | omega | assumption) rfl
    · have g2 : decide (endD d ≤ p.clk) = false := decide_eq_false hpast
      have HNP := Lib.hid (show ¬ (d.op = 1 ∧ endD d ≤ p.clk) from fun hc => hpast hc.2)
      clear hpast
      have q_y0 := fun d os => cell_regrown y0 d os
      have q_y1 := fun d os => cell_regrown y1 d os
      have q_y2 := fun d os => cell_regrown y2 d os
      have q_y3 := fun d os => cell_regrown y3 d os
      have q_y4 := fun d os => cell_regrown y4 d os
      have q_y5 := fun d os => cell_regrown y5 d os
      have q_y6 := fun d os => cell_regrown y6 d os
      have q_y7 := fun d os => cell_regrown y7 d os
      have q_y8 := fun d os => cell_regrown y8 d os
      have q_y9 := fun d os => cell_regrown y9 d os
      have q_y10 := fun d os => cell_regrown y10 d os
      have q_y11 := fun d os => cell_regrown y11 d os
      have q_y12 := fun d os => cell_regrown y12 d os
      have q_p2 := fun d os => cell_regrown p2 d os
      try simp only [List.append]
      first | refine wp_region_text_below ?_ | refine wp_region_quiet_below (by kernel_rfl) (by kernel_rfl) ?_
      repeat (go_big_quiet_step ((go_at_call 78; with_reducible exact Calls.regrown_of (HEN.out _))))
      refine wpQuiet_nil ?_
      intro _ hqw
      obtain ⟨pq, hqw⟩ := hqw
      subst hqw
      clear q_y0 q_y1 q_y2 q_y3 q_y4 q_y5 q_y6 q_y7 q_y8 q_y9 q_y10 q_y11 q_y12 q_p2
      have hb := below_regrown w1 pq.d pq.os
      clear y0 y1 y2 y3 y4 y5 y6 y7 y8 y9 y10 y11 y12 lt_y
      clear p2 lt_p g1 g2
      replace h := h.up hb
      replace hP := hP.below hb hP.lt
      replace hD := hD.below hb hD.lt
      replace hR := hR.below hb hR.lt
      replace hB := hB.trans (hb.mono hs)
      replace hs := hB.size
      clear hb
      generalize grow (redrawn w1 pq.d) pq.os = w2 at *

      have p0 : w2.cell? ⟨w.heap.size, 0, none⟩ = some (.slice A1 n1 c1) := hP.cell 0
      have p1 : w2.cell? ⟨w.heap.size, 1, none⟩ = some (.slice A n c) := hP.cell 1
      have p2 : w2.cell? ⟨w.heap.size, 2, none⟩ = some (.int .i64 p.clk) := hP.cell 2
      have p3 : w2.cell? ⟨w.heap.size, 3, none⟩ = some (.int .i64 p.ver) := hP.cell 3
      have lt_p := hP.lt
      go_wp2_with fail
      clear p0 p1 p2 p3 lt_p
      refine (pchanged_any A1 n1 c1 A n c p.clk p.ver HRP.out.v0 HRP.out.v1 _ rfl w2).mono ?_
      rintro e w3 ⟨rfl, hb⟩
      replace h := h.up hb
      replace hP := hP.below hb hP.lt
      replace hD := hD.below hb hD.lt
      replace hR := hR.below hb hR.lt
      replace hB := hB.trans (hb.mono hs)
      replace hs := hB.size
      clear hb
      obtain ⟨nv, hnv⟩ : ∃ x, min (p.ver + 1) 1099511627776 = x := ⟨_, rfl⟩
      rw [hnv]
      have HNV := Lib.hid hnv
      clear hnv
      go_upto_region 7 with fail
      have hnlt : w.heap.size + 1 + 1 < w3.heap.size := hR.lt
      have hN := Blok.new w3 25 #[.slice A1 n1 c1, .slice A n c, .int .i64 p.clk, .int .i64 nv]
      have hb : Below w3.heap.size w3 (w3.alloc (.cells #[.slice A1 n1 c1, .slice A n c, .int .i64 p.clk, .int .i64 nv] 25)) := by (repeat (first | exact Below.refl _ _ | refine Below.alloc ?_ (by first | omega | (simp; done) | (simp; omega)) _ | refine Below.setCell ?_ (by first | omega | (simp; done) | (simp; omega)) _ | refine Below.drew ?_))
      replace h := h.up hb
      replace hP := hP.below hb hP.lt
      replace hD := hD.below hb hD.lt
      replace hR := hR.below hb hR.lt
      replace hB := hB.trans (hb.mono hs)
      replace hs := hB.size
      clear hb
      generalize w3.alloc (.cells #[.slice A1 n1 c1, .slice A n c, .int .i64 p.clk, .int .i64 nv] 25) = w4 at *
      generalize w3.heap.size = bN at *
      by_cases hk : d.kd = 1
      · have g3 : (d.kd == 1) = true := by simp [hk]
        have HK := Lib.hid hk
        clear hk
        obtain ⟨q, hq⟩ : ∃ x, stepCq p.cs d = x := ⟨_, rfl⟩
        obtain ⟨l, hl⟩ : ∃ x, stepCl p.cs d = x := ⟨_, rfl⟩
        have HQ := Lib.hid (show stepQ p d = q by unfold stepQ; rw [if_neg (by rw [HRD.out]; simp), if_neg HNP.out, if_pos HK.out]; exact hq)
        have hlr : Kc.rightC l = true := by rw [← hl]; exact stepCl_right HRP.out.co
        have HLL := Lib.hid (rightC_len hlr)
        have HL := Lib.hid hl
        have y0 : w4.cell? ⟨w.heap.size + 1, 0, none⟩ = some (.int .i64 d.op) := hD.cell 0
        have y1 : w4.cell? ⟨w.heap.size + 1, 1, none⟩ = some (.int .i64 d.kd) := hD.cell 1
        have y2 : w4.cell? ⟨w.heap.size + 1, 2, none⟩ = some (.int .i64 d.id) := hD.cell 2
        have y3 : w4.cell? ⟨w.heap.size + 1, 3, none⟩ = some (.int .i64 d.fr) := hD.cell 3
        have y4 : w4.cell? ⟨w.heap.size + 1, 4, none⟩ = some (.int .i64 d.tn) := hD.cell 4
        have y5 : w4.cell? ⟨w.heap.size + 1, 5, none⟩ = some (.int .i64 d.st) := hD.cell 5
        have y6 : w4.cell? ⟨w.heap.size + 1, 6, none⟩ = some (.int .i64 d.en) := hD.cell 6
        have y7 : w4.cell? ⟨w.heap.size + 1, 7, none⟩ = some (.int .i64 d.rt) := hD.cell 7
        have y8 : w4.cell? ⟨w.heap.size + 1, 8, none⟩ = some (.int .i64 d.rf) := hD.cell 8
        have y9 : w4.cell? ⟨w.heap.size + 1, 9, none⟩ = some (.int .i64 d.rn) := hD.cell 9
        have y10 : w4.cell? ⟨w.heap.size + 1, 10, none⟩ = some (.int .i64 d.rs) := hD.cell 10
        have y11 : w4.cell? ⟨w.heap.size + 1, 11, none⟩ = some (.int .i64 d.re) := hD.cell 11
        have y12 : w4.cell? ⟨w.heap.size + 1, 12, none⟩ = some (.int .i64 d.ro) := hD.cell 12
        have lt_y := hD.lt
        have p0 : w4.cell? ⟨w.heap.size, 0, none⟩ = some (.slice A1 n1 c1) := hP.cell 0
        have lt_p := hP.lt
        have n0 : w4.cell? ⟨bN, 0, none⟩ = some (.slice A1 n1 c1) := hN.cell 0
        have nf0 := hN.free 0
        have lt_n := hN.lt
        go_wp2_with fail
        clear y0 y1 y2 y3 y4 y5 y6 y7 y8 y9 y10 y11 y12 lt_y
        clear p0 lt_p n0 nf0
        refine (pstepC_any A1 n1 c1 p.cs d w4 h.l1 h.b1 h.s1 HRP.out.co q hq l hl).mono ?_
        rintro e w5 ⟨v, rfl, hv, hb⟩
        clear hq hl hlr
        replace h := h.up hb
        replace hP := hP.below hb hP.lt
        replace hD := hD.below hb hD.lt
        replace hR := hR.below hb hR.lt
        replace hN := hN.below hb hN.lt
        replace hB := hB.trans (hb.mono hs)
        replace hs := hB.size
        clear hb
        obtain ⟨nl, hnl⟩ : ∃ x, l.length = x := ⟨_, rfl⟩
        rw [hnl] at hv
        have HNL := Lib.hid hnl
        obtain ⟨A2, c2, rfl⟩ := slice_of_own hv
        have n0 : w5.cell? ⟨bN, 0, none⟩ = some (.slice A1 n1 c1) := hN.cell 0
        have nf0 := hN.free 0
        have lt_n2 := hN.lt
        clear hnl
        go_upto_region 10 with fail
        replace hN := hN.set_ 0 (.slice A2 nl c2)
        replace hP := hP.far (p := ⟨bN, 0, none⟩) (by show w.heap.size ≠ bN; omega) (.slice A2 nl c2)
        replace hR := hR.far (p := ⟨bN, 0, none⟩) (by show w.heap.size + 1 + 1 ≠ bN; omega) (.slice A2 nl c2)
        replace hv := own_far hv (grown_set (g := bN) w5 0 (.slice A2 nl c2)) (fun g hg => by injection hg with hg; omega)
        replace hB := hB.setCell (p := ⟨bN, 0, none⟩) (by show w.heap.size ≤ bN; omega) (.slice A2 nl c2)
        replace hs := hB.size
        clear n0 nf0 lt_n2 hD h
        generalize w5.setCell ⟨bN, 0, none⟩ (.slice A2 nl c2) = w6 at *
        by_cases hq0 : q = 0
        · subst hq0
          have g4 : ((0 : Int) != 0) = false := by simp
          have n0 : w6.cell? ⟨bN, 0, none⟩ = some (.slice A2 nl c2) := hN.cell 0
          have n1' : w6.cell? ⟨bN, 1, none⟩ = some (.slice A n c) := hN.cell 1
          have n2 : w6.cell? ⟨bN, 2, none⟩ = some (.int .i64 p.clk) := hN.cell 2
          have n3 : w6.cell? ⟨bN, 3, none⟩ = some (.int .i64 nv) := hN.cell 3
          have lt_n3 := hN.lt
          have r0 : w6.cell? ⟨w.heap.size + 1 + 1, 0, none⟩ = some (.slice none 0 0) := hR.cell 0
          have f_0 := hR.free 0
          have r1 : w6.cell? ⟨w.heap.size + 1 + 1, 1, none⟩ = some (.slice none 0 0) := hR.cell 1
          have f_1 := hR.free 1
          have r2 : w6.cell? ⟨w.heap.size + 1 + 1, 2, none⟩ = some (.int .i64 0) := hR.cell 2
          have f_2 := hR.free 2
          have r3 : w6.cell? ⟨w.heap.size + 1 + 1, 3, none⟩ = some (.int .i64 0) := hR.cell 3
          have f_3 := hR.free 3
          have lt_x := hR.lt
          have HX := Lib.hid hR
          clear hR
          go_wp2_with fail
          have hX := HX.out
          clear r0 r1 r2 r3 n0 n1' n2 n3
          have hF : Blok ((((w6.setCell ⟨(w.heap.size + 1 + 1), 0, none⟩ (.slice A2 nl c2)).setCell ⟨(w.heap.size + 1 + 1), 1, none⟩ (.slice A n c)).setCell ⟨(w.heap.size + 1 + 1), 2, none⟩ (.int .i64 p.clk)).setCell ⟨(w.heap.size + 1 + 1), 3, none⟩ (.int .i64 nv)) (w.heap.size + 1 + 1) 25 #[.slice A2 nl c2, .slice A n c, .int .i64 p.clk, .int .i64 nv] := by have h := ((((hX.set_ 0 (.slice A2 nl c2)).set_ 1 (.slice A n c)).set_ 2 (.int .i64 p.clk)).set_ 3 (.int .i64 nv)); simpa using h
          have hle0 : w.heap.size ≤ (w.heap.size + 1 + 1) := by first | exact Nat.le_refl _ | omega
          have hWf : Below w.heap.size w ((((w6.setCell ⟨(w.heap.size + 1 + 1), 0, none⟩ (.slice A2 nl c2)).setCell ⟨(w.heap.size + 1 + 1), 1, none⟩ (.slice A n c)).setCell ⟨(w.heap.size + 1 + 1), 2, none⟩ (.int .i64 p.clk)).setCell ⟨(w.heap.size + 1 + 1), 3, none⟩ (.int .i64 nv)) := ((((hB.setCell (p := ⟨(w.heap.size + 1 + 1), 0, none⟩) hle0 (.slice A2 nl c2)).setCell (p := ⟨(w.heap.size + 1 + 1), 1, none⟩) hle0 (.slice A n c)).setCell (p := ⟨(w.heap.size + 1 + 1), 2, none⟩) hle0 (.int .i64 p.clk)).setCell (p := ⟨(w.heap.size + 1 + 1), 3, none⟩) hle0 (.int .i64 nv))
          have hlF := hF.lt
          have hgw : w6.grownBy ((((w6.setCell ⟨(w.heap.size + 1 + 1), 0, none⟩ (.slice A2 nl c2)).setCell ⟨(w.heap.size + 1 + 1), 1, none⟩ (.slice A n c)).setCell ⟨(w.heap.size + 1 + 1), 2, none⟩ (.int .i64 p.clk)).setCell ⟨(w.heap.size + 1 + 1), 3, none⟩ (.int .i64 nv)) (some (w.heap.size + 1 + 1)) := grown_trans (grown_trans (grown_trans (grown_set _ _ _) (grown_set _ _ _)) (grown_set _ _ _)) (grown_set _ _ _)
          generalize ((((w6.setCell ⟨(w.heap.size + 1 + 1), 0, none⟩ (.slice A2 nl c2)).setCell ⟨(w.heap.size + 1 + 1), 1, none⟩ (.slice A n c)).setCell ⟨(w.heap.size + 1 + 1), 2, none⟩ (.int .i64 p.clk)).setCell ⟨(w.heap.size + 1 + 1), 3, none⟩ (.int .i64 nv)) = wf at *
          have r0 : wf.cell? ⟨(w.heap.size + 1 + 1), 0, none⟩ = some (.slice A2 nl c2) := hF.cell 0
          have r1 : wf.cell? ⟨(w.heap.size + 1 + 1), 1, none⟩ = some (.slice A n c) := hF.cell 1
          have r2 : wf.cell? ⟨(w.heap.size + 1 + 1), 2, none⟩ = some (.int .i64 p.clk) := hF.cell 2
          have r3 : wf.cell? ⟨(w.heap.size + 1 + 1), 3, none⟩ = some (.int .i64 nv) := hF.cell 3
          refine bodyPost_ret (v := .tuple #[.agg #[.slice A2 nl c2, .slice A n c, .int .i64 p.clk, .int .i64 nv], .int .i64 0]) (by simp [results, Tryz.results47, go_sem, r0, r1, r2, r3, hlF]) rfl ?_
          have hvf := own_far hv hgw (fun g hg => by injection hg with hg; omega)
          have hpp : stepP p d = ⟨l, p.rs, p.clk, nv⟩ := by unfold stepP; rw [if_pos HQ.out, if_pos HK.out, HL.out, HNV.out]
          have hlf := HNL.out
          have hle := HLL.out
          refine ⟨A2, nl, c2, A, n, c, by rw [hpp, HQ.out], by rw [hpp]; exact ⟨hlf, H0.out.l, by omega, H0.out.b, Sl.of_own hvf, H0.out.s.up hWf⟩, hWf, fun b hbl ha => ⟨apart_own hvf (by omega), ha.2⟩, fun _ => by rw [hpp]; exact ⟨fun _ => own_down hvf (by omega), fun hk2 => absurd HK.out hk2⟩⟩
        · have g4 : (q != 0) = true := by simp [hq0]
          have p0 : w6.cell? ⟨w.heap.size, 0, none⟩ = some (.slice A1 n1 c1) := hP.cell 0
          have p1 : w6.cell? ⟨w.heap.size, 1, none⟩ = some (.slice A n c) := hP.cell 1
          have p2 : w6.cell? ⟨w.heap.size, 2, none⟩ = some (.int .i64 p.clk) := hP.cell 2
          have p3 : w6.cell? ⟨w.heap.size, 3, none⟩ = some (.int .i64 p.ver) := hP.cell 3
          have lt_p := hP.lt
          have r0 : w6.cell? ⟨w.heap.size + 1 + 1, 0, none⟩ = some (.slice none 0 0) := hR.cell 0
          have f_0 := hR.free 0
          have r1 : w6.cell? ⟨w.heap.size + 1 + 1, 1, none⟩ = some (.slice none 0 0) := hR.cell 1
          have f_1 := hR.free 1
          have r2 : w6.cell? ⟨w.heap.size + 1 + 1, 2, none⟩ = some (.int .i64 0) := hR.cell 2
          have f_2 := hR.free 2
          have r3 : w6.cell? ⟨w.heap.size + 1 + 1, 3, none⟩ = some (.int .i64 0) := hR.cell 3
          have f_3 := hR.free 3
          have lt_x := hR.lt
          have HX := Lib.hid hR
          clear hR
          go_wp2_with fail
          have hX := HX.out
          clear r0 r1 r2 r3 p0 p1 p2 p3
          have hF : Blok ((((w6.setCell ⟨(w.heap.size + 1 + 1), 0, none⟩ (.slice A1 n1 c1)).setCell ⟨(w.heap.size + 1 + 1), 1, none⟩ (.slice A n c)).setCell ⟨(w.heap.size + 1 + 1), 2, none⟩ (.int .i64 p.clk)).setCell ⟨(w.heap.size + 1 + 1), 3, none⟩ (.int .i64 p.ver)) (w.heap.size + 1 + 1) 25 #[.slice A1 n1 c1, .slice A n c, .int .i64 p.clk, .int .i64 p.ver] := by have h := ((((hX.set_ 0 (.slice A1 n1 c1)).set_ 1 (.slice A n c)).set_ 2 (.int .i64 p.clk)).set_ 3 (.int .i64 p.ver)); simpa using h
          have hle0 : w.heap.size ≤ (w.heap.size + 1 + 1) := by first | exact Nat.le_refl _ | omega
          have hWf : Below w.heap.size w ((((w6.setCell ⟨(w.heap.size + 1 + 1), 0, none⟩ (.slice A1 n1 c1)).setCell ⟨(w.heap.size + 1 + 1), 1, none⟩ (.slice A n c)).setCell ⟨(w.heap.size + 1 + 1), 2, none⟩ (.int .i64 p.clk)).setCell ⟨(w.heap.size + 1 + 1), 3, none⟩ (.int .i64 p.ver)) := ((((hB.setCell (p := ⟨(w.heap.size + 1 + 1), 0, none⟩) hle0 (.slice A1 n1 c1)).setCell (p := ⟨(w.heap.size + 1 + 1), 1, none⟩) hle0 (.slice A n c)).setCell (p := ⟨(w.heap.size + 1 + 1), 2, none⟩) hle0 (.int .i64 p.clk)).setCell (p := ⟨(w.heap.size + 1 + 1), 3, none⟩) hle0 (.int .i64 p.ver))
          have hlF := hF.lt
          have hgw : w6.grownBy ((((w6.setCell ⟨(w.heap.size + 1 + 1), 0, none⟩ (.slice A1 n1 c1)).setCell ⟨(w.heap.size + 1 + 1), 1, none⟩ (.slice A n c)).setCell ⟨(w.heap.size + 1 + 1), 2, none⟩ (.int .i64 p.clk)).setCell ⟨(w.heap.size + 1 + 1), 3, none⟩ (.int .i64 p.ver)) (some (w.heap.size + 1 + 1)) := grown_trans (grown_trans (grown_trans (grown_set _ _ _) (grown_set _ _ _)) (grown_set _ _ _)) (grown_set _ _ _)
          generalize ((((w6.setCell ⟨(w.heap.size + 1 + 1), 0, none⟩ (.slice A1 n1 c1)).setCell ⟨(w.heap.size + 1 + 1), 1, none⟩ (.slice A n c)).setCell ⟨(w.heap.size + 1 + 1), 2, none⟩ (.int .i64 p.clk)).setCell ⟨(w.heap.size + 1 + 1), 3, none⟩ (.int .i64 p.ver)) = wf at *
          have r0 : wf.cell? ⟨(w.heap.size + 1 + 1), 0, none⟩ = some (.slice A1 n1 c1) := hF.cell 0
          have r1 : wf.cell? ⟨(w.heap.size + 1 + 1), 1, none⟩ = some (.slice A n c) := hF.cell 1
          have r2 : wf.cell? ⟨(w.heap.size + 1 + 1), 2, none⟩ = some (.int .i64 p.clk) := hF.cell 2
          have r3 : wf.cell? ⟨(w.heap.size + 1 + 1), 3, none⟩ = some (.int .i64 p.ver) := hF.cell 3
          refine bodyPost_ret (v := .tuple #[.agg #[.slice A1 n1 c1, .slice A n c, .int .i64 p.clk, .int .i64 p.ver], .int .i64 q]) (by simp [results, Tryz.results47, go_sem, r0, r1, r2, r3, hlF]) rfl ?_
          exact StepRet.no H0.out hWf HQ.out (by first | omega | assumption) rfl
      · have g3 : (d.kd == 1) = false := by simp [hk]
        have HK := Lib.hid hk
        clear hk
        obtain ⟨q, hq⟩ : ∃ x, stepRq p.rs d = x := ⟨_, rfl⟩
        obtain ⟨l, hl⟩ : ∃ x, stepRl p.rs d = x := ⟨_, rfl⟩
        have HQ := Lib.hid (show stepQ p d = q by unfold stepQ; rw [if_neg (by rw [HRD.out]; simp), if_neg HNP.out, if_neg HK.out]; exact hq)
        have hlr : Kr.rightB l = true := by rw [← hl]; exact stepRl_right HRP.out.rg
        have HLL := Lib.hid (rightR_len hlr)
        have HL := Lib.hid hl
        have y0 : w4.cell? ⟨w.heap.size + 1, 0, none⟩ = some (.int .i64 d.op) := hD.cell 0
        have y1 : w4.cell? ⟨w.heap.size + 1, 1, none⟩ = some (.int .i64 d.kd) := hD.cell 1
        have y2 : w4.cell? ⟨w.heap.size + 1, 2, none⟩ = some (.int .i64 d.id) := hD.cell 2
        have y3 : w4.cell? ⟨w.heap.size + 1, 3, none⟩ = some (.int .i64 d.fr) := hD.cell 3
        have y4 : w4.cell? ⟨w.heap.size + 1, 4, none⟩ = some (.int .i64 d.tn) := hD.cell 4
        have y5 : w4.cell? ⟨w.heap.size + 1, 5, none⟩ = some (.int .i64 d.st) := hD.cell 5
        have y6 : w4.cell? ⟨w.heap.size + 1, 6, none⟩ = some (.int .i64 d.en) := hD.cell 6
        have y7 : w4.cell? ⟨w.heap.size + 1, 7, none⟩ = some (.int .i64 d.rt) := hD.cell 7
        have y8 : w4.cell? ⟨w.heap.size + 1, 8, none⟩ = some (.int .i64 d.rf) := hD.cell 8
        have y9 : w4.cell? ⟨w.heap.size + 1, 9, none⟩ = some (.int .i64 d.rn) := hD.cell 9
        have y10 : w4.cell? ⟨w.heap.size + 1, 10, none⟩ = some (.int .i64 d.rs) := hD.cell 10
        have y11 : w4.cell? ⟨w.heap.size + 1, 11, none⟩ = some (.int .i64 d.re) := hD.cell 11
        have y12 : w4.cell? ⟨w.heap.size + 1, 12, none⟩ = some (.int .i64 d.ro) := hD.cell 12
        have lt_y := hD.lt
        have p0 : w4.cell? ⟨w.heap.size, 1, none⟩ = some (.slice A n c) := hP.cell 1
        have lt_p := hP.lt
        have n0 : w4.cell? ⟨bN, 1, none⟩ = some (.slice A n c) := hN.cell 1
        have nf0 := hN.free 1
        have lt_n := hN.lt
        go_wp2_with fail
        clear y0 y1 y2 y3 y4 y5 y6 y7 y8 y9 y10 y11 y12 lt_y
        clear p0 lt_p n0 nf0
        refine (pstepR_any A n c p.rs d w4 h.l h.b h.s HRP.out.rg q hq l hl).mono ?_
        rintro e w5 ⟨v, rfl, hv, hb⟩
        clear hq hl hlr
        replace h := h.up hb
        replace hP := hP.below hb hP.lt
        replace hD := hD.below hb hD.lt
        replace hR := hR.below hb hR.lt
        replace hN := hN.below hb hN.lt
        replace hB := hB.trans (hb.mono hs)
        replace hs := hB.size
        clear hb
        obtain ⟨nl, hnl⟩ : ∃ x, l.length = x := ⟨_, rfl⟩
        rw [hnl] at hv
        have HNL := Lib.hid hnl
        obtain ⟨A2, c2, rfl⟩ := slice_of_own hv
        have n0 : w5.cell? ⟨bN, 1, none⟩ = some (.slice A n c) := hN.cell 1
        have nf0 := hN.free 1
        have lt_n2 := hN.lt
        clear hnl
        go_upto_region 10 with fail
        replace hN := hN.set_ 1 (.slice A2 nl c2)
        replace hP := hP.far (p := ⟨bN, 1, none⟩) (by show w.heap.size ≠ bN; omega) (.slice A2 nl c2)
        replace hR := hR.far (p := ⟨bN, 1, none⟩) (by show w.heap.size + 1 + 1 ≠ bN; omega) (.slice A2 nl c2)
        replace hv := own_far hv (grown_set (g := bN) w5 1 (.slice A2 nl c2)) (fun g hg => by injection hg with hg; omega)
        replace hB := hB.setCell (p := ⟨bN, 1, none⟩) (by show w.heap.size ≤ bN; omega) (.slice A2 nl c2)
        replace hs := hB.size
        clear n0 nf0 lt_n2 hD h
        generalize w5.setCell ⟨bN, 1, none⟩ (.slice A2 nl c2) = w6 at *
        by_cases hq0 : q = 0
        · subst hq0
          have g4 : ((0 : Int) != 0) = false := by simp
          have n0 : w6.cell? ⟨bN, 0, none⟩ = some (.slice A1 n1 c1) := hN.cell 0
          have n1' : w6.cell? ⟨bN, 1, none⟩ = some (.slice A2 nl c2) := hN.cell 1
          have n2 : w6.cell? ⟨bN, 2, none⟩ = some (.int .i64 p.clk) := hN.cell 2
          have n3 : w6.cell? ⟨bN, 3, none⟩ = some (.int .i64 nv) := hN.cell 3
          have lt_n3 := hN.lt
          have r0 : w6.cell? ⟨w.heap.size + 1 + 1, 0, none⟩ = some (.slice none 0 0) := hR.cell 0
          have f_0 := hR.free 0
          have r1 : w6.cell? ⟨w.heap.size + 1 + 1, 1, none⟩ = some (.slice none 0 0) := hR.cell 1
          have f_1 := hR.free 1
          have r2 : w6.cell? ⟨w.heap.size + 1 + 1, 2, none⟩ = some (.int .i64 0) := hR.cell 2
          have f_2 := hR.free 2
          have r3 : w6.cell? ⟨w.heap.size + 1 + 1, 3, none⟩ = some (.int .i64 0) := hR.cell 3
          have f_3 := hR.free 3
          have lt_x := hR.lt
          have HX := Lib.hid hR
          clear hR
          go_wp2_with fail
          have hX := HX.out
          clear r0 r1 r2 r3 n0 n1' n2 n3
          have hF : Blok ((((w6.setCell ⟨(w.heap.size + 1 + 1), 0, none⟩ (.slice A1 n1 c1)).setCell ⟨(w.heap.size + 1 + 1), 1, none⟩ (.slice A2 nl c2)).setCell ⟨(w.heap.size + 1 + 1), 2, none⟩ (.int .i64 p.clk)).setCell ⟨(w.heap.size + 1 + 1), 3, none⟩ (.int .i64 nv)) (w.heap.size + 1 + 1) 25 #[.slice A1 n1 c1, .slice A2 nl c2, .int .i64 p.clk, .int .i64 nv] := by have h := ((((hX.set_ 0 (.slice A1 n1 c1)).set_ 1 (.slice A2 nl c2)).set_ 2 (.int .i64 p.clk)).set_ 3 (.int .i64 nv)); simpa using h
          have hle0 : w.heap.size ≤ (w.heap.size + 1 + 1) := by first | exact Nat.le_refl _ | omega
          have hWf : Below w.heap.size w ((((w6.setCell ⟨(w.heap.size + 1 + 1), 0, none⟩ (.slice A1 n1 c1)).setCell ⟨(w.heap.size + 1 + 1), 1, none⟩ (.slice A2 nl c2)).setCell ⟨(w.heap.size + 1 + 1), 2, none⟩ (.int .i64 p.clk)).setCell ⟨(w.heap.size + 1 + 1), 3, none⟩ (.int .i64 nv)) := ((((hB.setCell (p := ⟨(w.heap.size + 1 + 1), 0, none⟩) hle0 (.slice A1 n1 c1)).setCell (p := ⟨(w.heap.size + 1 + 1), 1, none⟩) hle0 (.slice A2 nl c2)).setCell (p := ⟨(w.heap.size + 1 + 1), 2, none⟩) hle0 (.int .i64 p.clk)).setCell (p := ⟨(w.heap.size + 1 + 1), 3, none⟩) hle0 (.int .i64 nv))
          have hlF := hF.lt
          have hgw : w6.grownBy ((((w6.setCell ⟨(w.heap.size + 1 + 1), 0, none⟩ (.slice A1 n1 c1)).setCell ⟨(w.heap.size + 1 + 1), 1, none⟩ (.slice A2 nl c2)).setCell ⟨(w.heap.size + 1 + 1), 2, none⟩ (.int .i64 p.clk)).setCell ⟨(w.heap.size + 1 + 1), 3, none⟩ (.int .i64 nv)) (some (w.heap.size + 1 + 1)) := grown_trans (grown_trans (grown_trans (grown_set _ _ _) (grown_set _ _ _)) (grown_set _ _ _)) (grown_set _ _ _)
          generalize ((((w6.setCell ⟨(w.heap.size + 1 + 1), 0, none⟩ (.slice A1 n1 c1)).setCell ⟨(w.heap.size + 1 + 1), 1, none⟩ (.slice A2 nl c2)).setCell ⟨(w.heap.size + 1 + 1), 2, none⟩ (.int .i64 p.clk)).setCell ⟨(w.heap.size + 1 + 1), 3, none⟩ (.int .i64 nv)) = wf at *
          have r0 : wf.cell? ⟨(w.heap.size + 1 + 1), 0, none⟩ = some (.slice A1 n1 c1) := hF.cell 0
          have r1 : wf.cell? ⟨(w.heap.size + 1 + 1), 1, none⟩ = some (.slice A2 nl c2) := hF.cell 1
          have r2 : wf.cell? ⟨(w.heap.size + 1 + 1), 2, none⟩ = some (.int .i64 p.clk) := hF.cell 2
          have r3 : wf.cell? ⟨(w.heap.size + 1 + 1), 3, none⟩ = some (.int .i64 nv) := hF.cell 3
          refine bodyPost_ret (v := .tuple #[.agg #[.slice A1 n1 c1, .slice A2 nl c2, .int .i64 p.clk, .int .i64 nv], .int .i64 0]) (by simp [results, Tryz.results47, go_sem, r0, r1, r2, r3, hlF]) rfl ?_
          have hvf := own_far hv hgw (fun g hg => by injection hg with hg; omega)
          have hpp : stepP p d = ⟨p.cs, l, p.clk, nv⟩ := by unfold stepP; rw [if_pos HQ.out, if_neg HK.out, HL.out, HNV.out]
          have hlf := HNL.out
          have hle := HLL.out
          refine ⟨A1, n1, c1, A2, nl, c2, by rw [hpp, HQ.out], by rw [hpp]; exact ⟨H0.out.l1, hlf, H0.out.b1, by omega, H0.out.s1.up hWf, Sl.of_own hvf⟩, hWf, fun b hbl ha => ⟨ha.1, apart_own hvf (by omega)⟩, fun _ => by rw [hpp]; exact ⟨fun hk2 => absurd hk2 HK.out, fun _ => own_down hvf (by omega)⟩⟩
        · have g4 : (q != 0) = true := by simp [hq0]
          have p0 : w6.cell? ⟨w.heap.size, 0, none⟩ = some (.slice A1 n1 c1) := hP.cell 0
          have p1 : w6.cell? ⟨w.heap.size, 1, none⟩ = some (.slice A n c) := hP.cell 1
          have p2 : w6.cell? ⟨w.heap.size, 2, none⟩ = some (.int .i64 p.clk) := hP.cell 2
          have p3 : w6.cell? ⟨w.heap.size, 3, none⟩ = some (.int .i64 p.ver) := hP.cell 3
          have lt_p := hP.lt
          have r0 : w6.cell? ⟨w.heap.size + 1 + 1, 0, none⟩ = some (.slice none 0 0) := hR.cell 0
          have f_0 := hR.free 0
          have r1 : w6.cell? ⟨w.heap.size + 1 + 1, 1, none⟩ = some (.slice none 0 0) := hR.cell 1
          have f_1 := hR.free 1
          have r2 : w6.cell? ⟨w.heap.size + 1 + 1, 2, none⟩ = some (.int .i64 0) := hR.cell 2
          have f_2 := hR.free 2
          have r3 : w6.cell? ⟨w.heap.size + 1 + 1, 3, none⟩ = some (.int .i64 0) := hR.cell 3
          have f_3 := hR.free 3
          have lt_x := hR.lt
          have HX := Lib.hid hR
          clear hR
          go_wp2_with fail
          have hX := HX.out
          clear r0 r1 r2 r3 p0 p1 p2 p3
          have hF : Blok ((((w6.setCell ⟨(w.heap.size + 1 + 1), 0, none⟩ (.slice A1 n1 c1)).setCell ⟨(w.heap.size + 1 + 1), 1, none⟩ (.slice A n c)).setCell ⟨(w.heap.size + 1 + 1), 2, none⟩ (.int .i64 p.clk)).setCell ⟨(w.heap.size + 1 + 1), 3, none⟩ (.int .i64 p.ver)) (w.heap.size + 1 + 1) 25 #[.slice A1 n1 c1, .slice A n c, .int .i64 p.clk, .int .i64 p.ver] := by have h := ((((hX.set_ 0 (.slice A1 n1 c1)).set_ 1 (.slice A n c)).set_ 2 (.int .i64 p.clk)).set_ 3 (.int .i64 p.ver)); simpa using h
          have hle0 : w.heap.size ≤ (w.heap.size + 1 + 1) := by first | exact Nat.le_refl _ | omega
          have hWf : Below w.heap.size w ((((w6.setCell ⟨(w.heap.size + 1 + 1), 0, none⟩ (.slice A1 n1 c1)).setCell ⟨(w.heap.size + 1 + 1), 1, none⟩ (.slice A n c)).setCell ⟨(w.heap.size + 1 + 1), 2, none⟩ (.int .i64 p.clk)).setCell ⟨(w.heap.size + 1 + 1), 3, none⟩ (.int .i64 p.ver)) := ((((hB.setCell (p := ⟨(w.heap.size + 1 + 1), 0, none⟩) hle0 (.slice A1 n1 c1)).setCell (p := ⟨(w.heap.size + 1 + 1), 1, none⟩) hle0 (.slice A n c)).setCell (p := ⟨(w.heap.size + 1 + 1), 2, none⟩) hle0 (.int .i64 p.clk)).setCell (p := ⟨(w.heap.size + 1 + 1), 3, none⟩) hle0 (.int .i64 p.ver))
          have hlF := hF.lt
          have hgw : w6.grownBy ((((w6.setCell ⟨(w.heap.size + 1 + 1), 0, none⟩ (.slice A1 n1 c1)).setCell ⟨(w.heap.size + 1 + 1), 1, none⟩ (.slice A n c)).setCell ⟨(w.heap.size + 1 + 1), 2, none⟩ (.int .i64 p.clk)).setCell ⟨(w.heap.size + 1 + 1), 3, none⟩ (.int .i64 p.ver)) (some (w.heap.size + 1 + 1)) := grown_trans (grown_trans (grown_trans (grown_set _ _ _) (grown_set _ _ _)) (grown_set _ _ _)) (grown_set _ _ _)
          generalize ((((w6.setCell ⟨(w.heap.size + 1 + 1), 0, none⟩ (.slice A1 n1 c1)).setCell ⟨(w.heap.size + 1 + 1), 1, none⟩ (.slice A n c)).setCell ⟨(w.heap.size + 1 + 1), 2, none⟩ (.int .i64 p.clk)).setCell ⟨(w.heap.size + 1 + 1), 3, none⟩ (.int .i64 p.ver)) = wf at *
          have r0 : wf.cell? ⟨(w.heap.size + 1 + 1), 0, none⟩ = some (.slice A1 n1 c1) := hF.cell 0
          have r1 : wf.cell? ⟨(w.heap.size + 1 + 1), 1, none⟩ = some (.slice A n c) := hF.cell 1
          have r2 : wf.cell? ⟨(w.heap.size + 1 + 1), 2, none⟩ = some (.int .i64 p.clk) := hF.cell 2
          have r3 : wf.cell? ⟨(w.heap.size + 1 + 1), 3, none⟩ = some (.int .i64 p.ver) := hF.cell 3
          refine bodyPost_ret (v := .tuple #[.agg #[.slice A1 n1 c1, .slice A n c, .int .i64 p.clk, .int .i64 p.ver], .int .i64 q]) (by simp [results, Tryz.results47, go_sem, r0, r1, r2, r3, hlF]) rfl ?_
          exact StepRet.no H0.out hWf HQ.out (by first | omega | assumption) rfl
  · have g1 : (d.op == 1) = false := by simp [hop]
    have HNP := Lib.hid (show ¬ (d.op = 1 ∧ endD d ≤ p.clk) from fun hc => hop hc.1)
    clear hop
    have q_y0 := fun d os => cell_regrown y0 d os
    have q_y1 := fun d os => cell_regrown y1 d os
    have q_y2 := fun d os => cell_regrown y2 d os
    have q_y3 := fun d os => cell_regrown y3 d os
    have q_y4 := fun d os => cell_regrown y4 d os
    have q_y5 := fun d os => cell_regrown y5 d os
    have q_y6 := fun d os => cell_regrown y6 d os
    have q_y7 := fun d os => cell_regrown y7 d os
    have q_y8 := fun d os => cell_regrown y8 d os
    have q_y9 := fun d os => cell_regrown y9 d os
    have q_y10 := fun d os => cell_regrown y10 d os
    have q_y11 := fun d os => cell_regrown y11 d os
    have q_y12 := fun d os => cell_regrown y12 d os
    have q_p2 := fun d os => cell_regrown p2 d os
    try simp only [List.append]
    first | refine wp_region_text_below ?_ | refine wp_region_quiet_below (by kernel_rfl) (by kernel_rfl) ?_
    repeat (go_big_quiet_step ((go_at_call 78; with_reducible exact Calls.regrown_of (HEN.out _))))
    refine wpQuiet_nil ?_
    intro _ hqw
    obtain ⟨pq, hqw⟩ := hqw
    subst hqw
    clear q_y0 q_y1 q_y2 q_y3 q_y4 q_y5 q_y6 q_y7 q_y8 q_y9 q_y10 q_y11 q_y12 q_p2
    have hb := below_regrown w1 pq.d pq.os
    clear y0 y1 y2 y3 y4 y5 y6 y7 y8 y9 y10 y11 y12 lt_y
    clear p2 lt_p g1
    replace h := h.up hb
    replace hP := hP.below hb hP.lt
    replace hD := hD.below hb hD.lt
    replace hR := hR.below hb hR.lt
    replace hB := hB.trans (hb.mono hs)
    replace hs := hB.size
    clear hb
    generalize grow (redrawn w1 pq.d) pq.os = w2 at *
    have p0 : w2.cell? ⟨w.heap.size, 0, none⟩ = some (.slice A1 n1 c1) := hP.cell 0
    have p1 : w2.cell? ⟨w.heap.size, 1, none⟩ = some (.slice A n c) := hP.cell 1
    have p2 : w2.cell? ⟨w.heap.size, 2, none⟩ = some (.int .i64 p.clk) := hP.cell 2
    have p3 : w2.cell? ⟨w.heap.size, 3, none⟩ = some (.int .i64 p.ver) := hP.cell 3
    have lt_p := hP.lt
    go_wp2_with fail
    clear p0 p1 p2 p3 lt_p
    refine (pchanged_any A1 n1 c1 A n c p.clk p.ver HRP.out.v0 HRP.out.v1 _ rfl w2).mono ?_
    rintro e w3 ⟨rfl, hb⟩
    replace h := h.up hb
    replace hP := hP.below hb hP.lt
    replace hD := hD.below hb hD.lt
    replace hR := hR.below hb hR.lt
    replace hB := hB.trans (hb.mono hs)
    replace hs := hB.size
    clear hb
    obtain ⟨nv, hnv⟩ : ∃ x, min (p.ver + 1) 1099511627776 = x := ⟨_, rfl⟩
    rw [hnv]
    have HNV := Lib.hid hnv
    clear hnv
    go_upto_region 7 with fail
    have hnlt : w.heap.size + 1 + 1 < w3.heap.size := hR.lt
    have hN := Blok.new w3 25 #[.slice A1 n1 c1, .slice A n c, .int .i64 p.clk, .int .i64 nv]
    have hb : Below w3.heap.size w3 (w3.alloc (.cells #[.slice A1 n1 c1, .slice A n c, .int .i64 p.clk, .int .i64 nv] 25)) := by (repeat (first | exact Below.refl _ _ | refine Below.alloc ?_ (by first | omega | (simp; done) | (simp; omega)) _ | refine Below.setCell ?_ (by first | omega | (simp; done) | (simp; omega)) _ | refine Below.drew ?_))
    replace h := h.up hb
    replace hP := hP.below hb hP.lt
    replace hD := hD.below hb hD.lt
    replace hR := hR.below hb hR.lt
    replace hB := hB.trans (hb.mono hs)
    replace hs := hB.size
    clear hb
    generalize w3.alloc (.cells #[.slice A1 n1 c1, .slice A n c, .int .i64 p.clk, .int .i64 nv] 25) = w4 at *
    generalize w3.heap.size = bN at *
    by_cases hk : d.kd = 1
    · have g3 : (d.kd == 1) = true := by simp [hk]
      have HK := Lib.hid hk
      clear hk
      obtain ⟨q, hq⟩ : ∃ x, stepCq p.cs d = x := ⟨_, rfl⟩
      obtain ⟨l, hl⟩ : ∃ x, stepCl p.cs d = x := ⟨_, rfl⟩
      have HQ := Lib.hid (show stepQ p d = q by unfold stepQ; rw [if_neg (by rw [HRD.out]; simp), if_neg HNP.out, if_pos HK.out]; exact hq)
      have hlr : Kc.rightC l = true := by rw [← hl]; exact stepCl_right HRP.out.co
      have HLL := Lib.hid (rightC_len hlr)
      have HL := Lib.hid hl
      have y0 : w4.cell? ⟨w.heap.size + 1, 0, none⟩ = some (.int .i64 d.op) := hD.cell 0
      have y1 : w4.cell? ⟨w.heap.size + 1, 1, none⟩ = some (.int .i64 d.kd) := hD.cell 1
      have y2 : w4.cell? ⟨w.heap.size + 1, 2, none⟩ = some (.int .i64 d.id) := hD.cell 2
      have y3 : w4.cell? ⟨w.heap.size + 1, 3, none⟩ = some (.int .i64 d.fr) := hD.cell 3
      have y4 : w4.cell? ⟨w.heap.size + 1, 4, none⟩ = some (.int .i64 d.tn) := hD.cell 4
      have y5 : w4.cell? ⟨w.heap.size + 1, 5, none⟩ = some (.int .i64 d.st) := hD.cell 5
      have y6 : w4.cell? ⟨w.heap.size + 1, 6, none⟩ = some (.int .i64 d.en) := hD.cell 6
      have y7 : w4.cell? ⟨w.heap.size + 1, 7, none⟩ = some (.int .i64 d.rt) := hD.cell 7
      have y8 : w4.cell? ⟨w.heap.size + 1, 8, none⟩ = some (.int .i64 d.rf) := hD.cell 8
      have y9 : w4.cell? ⟨w.heap.size + 1, 9, none⟩ = some (.int .i64 d.rn) := hD.cell 9
      have y10 : w4.cell? ⟨w.heap.size + 1, 10, none⟩ = some (.int .i64 d.rs) := hD.cell 10
      have y11 : w4.cell? ⟨w.heap.size + 1, 11, none⟩ = some (.int .i64 d.re) := hD.cell 11
      have y12 : w4.cell? ⟨w.heap.size + 1, 12, none⟩ = some (.int .i64 d.ro) := hD.cell 12
      have lt_y := hD.lt
      have p0 : w4.cell? ⟨w.heap.size, 0, none⟩ = some (.slice A1 n1 c1) := hP.cell 0
      have lt_p := hP.lt
      have n0 : w4.cell? ⟨bN, 0, none⟩ = some (.slice A1 n1 c1) := hN.cell 0
      have nf0 := hN.free 0
      have lt_n := hN.lt
      go_wp2_with fail
      clear y0 y1 y2 y3 y4 y5 y6 y7 y8 y9 y10 y11 y12 lt_y
      clear p0 lt_p n0 nf0
      refine (pstepC_any A1 n1 c1 p.cs d w4 h.l1 h.b1 h.s1 HRP.out.co q hq l hl).mono ?_
      rintro e w5 ⟨v, rfl, hv, hb⟩
      clear hq hl hlr
      replace h := h.up hb
      replace hP := hP.below hb hP.lt
      replace hD := hD.below hb hD.lt
      replace hR := hR.below hb hR.lt
      replace hN := hN.below hb hN.lt
      replace hB := hB.trans (hb.mono hs)
      replace hs := hB.size
      clear hb
      obtain ⟨nl, hnl⟩ : ∃ x, l.length = x := ⟨_, rfl⟩
      rw [hnl] at hv
      have HNL := Lib.hid hnl
      obtain ⟨A2, c2, rfl⟩ := slice_of_own hv
      have n0 : w5.cell? ⟨bN, 0, none⟩ = some (.slice A1 n1 c1) := hN.cell 0
      have nf0 := hN.free 0
      have lt_n2 := hN.lt
      clear hnl
      go_upto_region 10 with fail
      replace hN := hN.set_ 0 (.slice A2 nl c2)
      replace hP := hP.far (p := ⟨bN, 0, none⟩) (by show w.heap.size ≠ bN; omega) (.slice A2 nl c2)
      replace hR := hR.far (p := ⟨bN, 0, none⟩) (by show w.heap.size + 1 + 1 ≠ bN; omega) (.slice A2 nl c2)
      replace hv := own_far hv (grown_set (g := bN) w5 0 (.slice A2 nl c2)) (fun g hg => by injection hg with hg; omega)
      replace hB := hB.setCell (p := ⟨bN, 0, none⟩) (by show w.heap.size ≤ bN; omega) (.slice A2 nl c2)
      replace hs := hB.size
      clear n0 nf0 lt_n2 hD h
      generalize w5.setCell ⟨bN, 0, none⟩ (.slice A2 nl c2) = w6 at *
      by_cases hq0 : q = 0
      · subst hq0
        have g4 : ((0 : Int) != 0) = false := by simp
        have n0 : w6.cell? ⟨bN, 0, none⟩ = some (.slice A2 nl c2) := hN.cell 0
        have n1' : w6.cell? ⟨bN, 1, none⟩ = some (.slice A n c) := hN.cell 1
        have n2 : w6.cell? ⟨bN, 2, none⟩ = some (.int .i64 p.clk) := hN.cell 2
        have n3 : w6.cell? ⟨bN, 3, none⟩ = some (.int .i64 nv) := hN.cell 3
        have lt_n3 := hN.lt
        have r0 : w6.cell? ⟨w.heap.size + 1 + 1, 0, none⟩ = some (.slice none 0 0) := hR.cell 0
        have f_0 := hR.free 0
        have r1 : w6.cell? ⟨w.heap.size + 1 + 1, 1, none⟩ = some (.slice none 0 0) := hR.cell 1
        have f_1 := hR.free 1
        have r2 : w6.cell? ⟨w.heap.size + 1 + 1, 2, none⟩ = some (.int .i64 0) := hR.cell 2
        have f_2 := hR.free 2
        have r3 : w6.cell? ⟨w.heap.size + 1 + 1, 3, none⟩ = some (.int .i64 0) := hR.cell 3
        have f_3 := hR.free 3
        have lt_x := hR.lt
        have HX := Lib.hid hR
        clear hR
        go_wp2_with fail
        have hX := HX.out
        clear r0 r1 r2 r3 n0 n1' n2 n3
        have hF : Blok ((((w6.setCell ⟨(w.heap.size + 1 + 1), 0, none⟩ (.slice A2 nl c2)).setCell ⟨(w.heap.size + 1 + 1), 1, none⟩ (.slice A n c)).setCell ⟨(w.heap.size + 1 + 1), 2, none⟩ (.int .i64 p.clk)).setCell ⟨(w.heap.size + 1 + 1), 3, none⟩ (.int .i64 nv)) (w.heap.size + 1 + 1) 25 #[.slice A2 nl c2, .slice A n c, .int .i64 p.clk, .int .i64 nv] := by have h := ((((hX.set_ 0 (.slice A2 nl c2)).set_ 1 (.slice A n c)).set_ 2 (.int .i64 p.clk)).set_ 3 (.int .i64 nv)); simpa using h
        have hle0 : w.heap.size ≤ (w.heap.size + 1 + 1) := by first | exact Nat.le_refl _ | omega
        have hWf : Below w.heap.size w ((((w6.setCell ⟨(w.heap.size + 1 + 1), 0, none⟩ (.slice A2 nl c2)).setCell ⟨(w.heap.size + 1 + 1), 1, none⟩ (.slice A n c)).setCell ⟨(w.heap.size + 1 + 1), 2, none⟩ (.int .i64 p.clk)).setCell ⟨(w.heap.size + 1 + 1), 3, none⟩ (.int .i64 nv)) := ((((hB.setCell (p := ⟨(w.heap.size + 1 + 1), 0, none⟩) hle0 (.slice A2 nl c2)).setCell (p := ⟨(w.heap.size + 1 + 1), 1, none⟩) hle0 (.slice A n c)).setCell (p := ⟨(w.heap.size + 1 + 1), 2, none⟩) hle0 (.int .i64 p.clk)).setCell (p := ⟨(w.heap.size + 1 + 1), 3, none⟩) hle0 (.int .i64 nv))
        have hlF := hF.lt
        have hgw : w6.grownBy ((((w6.setCell ⟨(w.heap.size + 1 + 1), 0, none⟩ (.slice A2 nl c2)).setCell ⟨(w.heap.size + 1 + 1), 1, none⟩ (.slice A n c)).setCell ⟨(w.heap.size + 1 + 1), 2, none⟩ (.int .i64 p.clk)).setCell ⟨(w.heap.size + 1 + 1), 3, none⟩ (.int .i64 nv)) (some (w.heap.size + 1 + 1)) := grown_trans (grown_trans (grown_trans (grown_set _ _ _) (grown_set _ _ _)) (grown_set _ _ _)) (grown_set _ _ _)
        generalize ((((w6.setCell ⟨(w.heap.size + 1 + 1), 0, none⟩ (.slice A2 nl c2)).setCell ⟨(w.heap.size + 1 + 1), 1, none⟩ (.slice A n c)).setCell ⟨(w.heap.size + 1 + 1), 2, none⟩ (.int .i64 p.clk)).setCell ⟨(w.heap.size + 1 + 1), 3, none⟩ (.int .i64 nv)) = wf at *
        have r0 : wf.cell? ⟨(w.heap.size + 1 + 1), 0, none⟩ = some (.slice A2 nl c2) := hF.cell 0
        have r1 : wf.cell? ⟨(w.heap.size + 1 + 1), 1, none⟩ = some (.slice A n c) := hF.cell 1
        have r2 : wf.cell? ⟨(w.heap.size + 1 + 1), 2, none⟩ = some (.int .i64 p.clk) := hF.cell 2
        have r3 : wf.cell? ⟨(w.heap.size + 1 + 1), 3, none⟩ = some (.int .i64 nv) := hF.cell 3
        refine bodyPost_ret (v := .tuple #[.agg #[.slice A2 nl c2, .slice A n c, .int .i64 p.clk, .int .i64 nv], .int .i64 0]) (by simp [results, Tryz.results47, go_sem, r0, r1, r2, r3, hlF]) rfl ?_
        have hvf := own_far hv hgw (fun g hg => by injection hg with hg; omega)
        have hpp : stepP p d = ⟨l, p.rs, p.clk, nv⟩ := by unfold stepP; rw [if_pos HQ.out, if_pos HK.out, HL.out, HNV.out]
        have hlf := HNL.out
        have hle := HLL.out
        refine ⟨A2, nl, c2, A, n, c, by rw [hpp, HQ.out], by rw [hpp]; exact ⟨hlf, H0.out.l, by omega, H0.out.b, Sl.of_own hvf, H0.out.s.up hWf⟩, hWf, fun b hbl ha => ⟨apart_own hvf (by omega), ha.2⟩, fun _ => by rw [hpp]; exact ⟨fun _ => own_down hvf (by omega), fun hk2 => absurd HK.out hk2⟩⟩
      · have g4 : (q != 0) = true := by simp [hq0]
        have p0 : w6.cell? ⟨w.heap.size, 0, none⟩ = some (.slice A1 n1 c1) := hP.cell 0
        have p1 : w6.cell? ⟨w.heap.size, 1, none⟩ = some (.slice A n c) := hP.cell 1
        have p2 : w6.cell? ⟨w.heap.size, 2, none⟩ = some (.int .i64 p.clk) := hP.cell 2
        have p3 : w6.cell? ⟨w.heap.size, 3, none⟩ = some (.int .i64 p.ver) := hP.cell 3
        have lt_p := hP.lt
        have r0 : w6.cell? ⟨w.heap.size + 1 + 1, 0, none⟩ = some (.slice none 0 0) := hR.cell 0
        have f_0 := hR.free 0
        have r1 : w6.cell? ⟨w.heap.size + 1 + 1, 1, none⟩ = some (.slice none 0 0) := hR.cell 1
        have f_1 := hR.free 1
        have r2 : w6.cell? ⟨w.heap.size + 1 + 1, 2, none⟩ = some (.int .i64 0) := hR.cell 2
        have f_2 := hR.free 2
        have r3 : w6.cell? ⟨w.heap.size + 1 + 1, 3, none⟩ = some (.int .i64 0) := hR.cell 3
        have f_3 := hR.free 3
        have lt_x := hR.lt
        have HX := Lib.hid hR
        clear hR
        go_wp2_with fail
        have hX := HX.out
        clear r0 r1 r2 r3 p0 p1 p2 p3
        have hF : Blok ((((w6.setCell ⟨(w.heap.size + 1 + 1), 0, none⟩ (.slice A1 n1 c1)).setCell ⟨(w.heap.size + 1 + 1), 1, none⟩ (.slice A n c)).setCell ⟨(w.heap.size + 1 + 1), 2, none⟩ (.int .i64 p.clk)).setCell ⟨(w.heap.size + 1 + 1), 3, none⟩ (.int .i64 p.ver)) (w.heap.size + 1 + 1) 25 #[.slice A1 n1 c1, .slice A n c, .int .i64 p.clk, .int .i64 p.ver] := by have h := ((((hX.set_ 0 (.slice A1 n1 c1)).set_ 1 (.slice A n c)).set_ 2 (.int .i64 p.clk)).set_ 3 (.int .i64 p.ver)); simpa using h
        have hle0 : w.heap.size ≤ (w.heap.size + 1 + 1) := by first | exact Nat.le_refl _ | omega
        have hWf : Below w.heap.size w ((((w6.setCell ⟨(w.heap.size + 1 + 1), 0, none⟩ (.slice A1 n1 c1)).setCell ⟨(w.heap.size + 1 + 1), 1, none⟩ (.slice A n c)).setCell ⟨(w.heap.size + 1 + 1), 2, none⟩ (.int .i64 p.clk)).setCell ⟨(w.heap.size + 1 + 1), 3, none⟩ (.int .i64 p.ver)) := ((((hB.setCell (p := ⟨(w.heap.size + 1 + 1), 0, none⟩) hle0 (.slice A1 n1 c1)).setCell (p := ⟨(w.heap.size + 1 + 1), 1, none⟩) hle0 (.slice A n c)).setCell (p := ⟨(w.heap.size + 1 + 1), 2, none⟩) hle0 (.int .i64 p.clk)).setCell (p := ⟨(w.heap.size + 1 + 1), 3, none⟩) hle0 (.int .i64 p.ver))
        have hlF := hF.lt
        have hgw : w6.grownBy ((((w6.setCell ⟨(w.heap.size + 1 + 1), 0, none⟩ (.slice A1 n1 c1)).setCell ⟨(w.heap.size + 1 + 1), 1, none⟩ (.slice A n c)).setCell ⟨(w.heap.size + 1 + 1), 2, none⟩ (.int .i64 p.clk)).setCell ⟨(w.heap.size + 1 + 1), 3, none⟩ (.int .i64 p.ver)) (some (w.heap.size + 1 + 1)) := grown_trans (grown_trans (grown_trans (grown_set _ _ _) (grown_set _ _ _)) (grown_set _ _ _)) (grown_set _ _ _)
        generalize ((((w6.setCell ⟨(w.heap.size + 1 + 1), 0, none⟩ (.slice A1 n1 c1)).setCell ⟨(w.heap.size + 1 + 1), 1, none⟩ (.slice A n c)).setCell ⟨(w.heap.size + 1 + 1), 2, none⟩ (.int .i64 p.clk)).setCell ⟨(w.heap.size + 1 + 1), 3, none⟩ (.int .i64 p.ver)) = wf at *
        have r0 : wf.cell? ⟨(w.heap.size + 1 + 1), 0, none⟩ = some (.slice A1 n1 c1) := hF.cell 0
        have r1 : wf.cell? ⟨(w.heap.size + 1 + 1), 1, none⟩ = some (.slice A n c) := hF.cell 1
        have r2 : wf.cell? ⟨(w.heap.size + 1 + 1), 2, none⟩ = some (.int .i64 p.clk) := hF.cell 2
        have r3 : wf.cell? ⟨(w.heap.size + 1 + 1), 3, none⟩ = some (.int .i64 p.ver) := hF.cell 3
        refine bodyPost_ret (v := .tuple #[.agg #[.slice A1 n1 c1, .slice A n c, .int .i64 p.clk, .int .i64 p.ver], .int .i64 q]) (by simp [results, Tryz.results47, go_sem, r0, r1, r2, r3, hlF]) rfl ?_
        exact StepRet.no H0.out hWf HQ.out (by first | omega | assumption) rfl
    · have g3 : (d.kd == 1) = false := by simp [hk]
      have HK := Lib.hid hk
      clear hk
      obtain ⟨q, hq⟩ : ∃ x, stepRq p.rs d = x := ⟨_, rfl⟩
      obtain ⟨l, hl⟩ : ∃ x, stepRl p.rs d = x := ⟨_, rfl⟩
      have HQ := Lib.hid (show stepQ p d = q by unfold stepQ; rw [if_neg (by rw [HRD.out]; simp), if_neg HNP.out, if_neg HK.out]; exact hq)
      have hlr : Kr.rightB l = true := by rw [← hl]; exact stepRl_right HRP.out.rg
      have HLL := Lib.hid (rightR_len hlr)
      have HL := Lib.hid hl
      have y0 : w4.cell? ⟨w.heap.size + 1, 0, none⟩ = some (.int .i64 d.op) := hD.cell 0
      have y1 : w4.cell? ⟨w.heap.size + 1, 1, none⟩ = some (.int .i64 d.kd) := hD.cell 1
      have y2 : w4.cell? ⟨w.heap.size + 1, 2, none⟩ = some (.int .i64 d.id) := hD.cell 2
      have y3 : w4.cell? ⟨w.heap.size + 1, 3, none⟩ = some (.int .i64 d.fr) := hD.cell 3
      have y4 : w4.cell? ⟨w.heap.size + 1, 4, none⟩ = some (.int .i64 d.tn) := hD.cell 4
      have y5 : w4.cell? ⟨w.heap.size + 1, 5, none⟩ = some (.int .i64 d.st) := hD.cell 5
      have y6 : w4.cell? ⟨w.heap.size + 1, 6, none⟩ = some (.int .i64 d.en) := hD.cell 6
      have y7 : w4.cell? ⟨w.heap.size + 1, 7, none⟩ = some (.int .i64 d.rt) := hD.cell 7
      have y8 : w4.cell? ⟨w.heap.size + 1, 8, none⟩ = some (.int .i64 d.rf) := hD.cell 8
      have y9 : w4.cell? ⟨w.heap.size + 1, 9, none⟩ = some (.int .i64 d.rn) := hD.cell 9
      have y10 : w4.cell? ⟨w.heap.size + 1, 10, none⟩ = some (.int .i64 d.rs) := hD.cell 10
      have y11 : w4.cell? ⟨w.heap.size + 1, 11, none⟩ = some (.int .i64 d.re) := hD.cell 11
      have y12 : w4.cell? ⟨w.heap.size + 1, 12, none⟩ = some (.int .i64 d.ro) := hD.cell 12
      have lt_y := hD.lt
      have p0 : w4.cell? ⟨w.heap.size, 1, none⟩ = some (.slice A n c) := hP.cell 1
      have lt_p := hP.lt
      have n0 : w4.cell? ⟨bN, 1, none⟩ = some (.slice A n c) := hN.cell 1
      have nf0 := hN.free 1
      have lt_n := hN.lt
      go_wp2_with fail
      clear y0 y1 y2 y3 y4 y5 y6 y7 y8 y9 y10 y11 y12 lt_y
      clear p0 lt_p n0 nf0
      refine (pstepR_any A n c p.rs d w4 h.l h.b h.s HRP.out.rg q hq l hl).mono ?_
      rintro e w5 ⟨v, rfl, hv, hb⟩
      clear hq hl hlr
      replace h := h.up hb
      replace hP := hP.below hb hP.lt
      replace hD := hD.below hb hD.lt
      replace hR := hR.below hb hR.lt
      replace hN := hN.below hb hN.lt
      replace hB := hB.trans (hb.mono hs)
      replace hs := hB.size
      clear hb
      obtain ⟨nl, hnl⟩ : ∃ x, l.length = x := ⟨_, rfl⟩
      rw [hnl] at hv
      have HNL := Lib.hid hnl
      obtain ⟨A2, c2, rfl⟩ := slice_of_own hv
      have n0 : w5.cell? ⟨bN, 1, none⟩ = some (.slice A n c) := hN.cell 1
      have nf0 := hN.free 1
      have lt_n2 := hN.lt
      clear hnl
      go_upto_region 10 with fail
      replace hN := hN.set_ 1 (.slice A2 nl c2)
      replace hP := hP.far (p := ⟨bN, 1, none⟩) (by show w.heap.size ≠ bN; omega) (.slice A2 nl c2)
      replace hR := hR.far (p := ⟨bN, 1, none⟩) (by show w.heap.size + 1 + 1 ≠ bN; omega) (.slice A2 nl c2)
      replace hv := own_far hv (grown_set (g := bN) w5 1 (.slice A2 nl c2)) (fun g hg => by injection hg with hg; omega)
      replace hB := hB.setCell (p := ⟨bN, 1, none⟩) (by show w.heap.size ≤ bN; omega) (.slice A2 nl c2)
      replace hs := hB.size
      clear n0 nf0 lt_n2 hD h
      generalize w5.setCell ⟨bN, 1, none⟩ (.slice A2 nl c2) = w6 at *
      by_cases hq0 : q = 0
      · subst hq0
        have g4 : ((0 : Int) != 0) = false := by simp
        have n0 : w6.cell? ⟨bN, 0, none⟩ = some (.slice A1 n1 c1) := hN.cell 0
        have n1' : w6.cell? ⟨bN, 1, none⟩ = some (.slice A2 nl c2) := hN.cell 1
        have n2 : w6.cell? ⟨bN, 2, none⟩ = some (.int .i64 p.clk) := hN.cell 2
        have n3 : w6.cell? ⟨bN, 3, none⟩ = some (.int .i64 nv) := hN.cell 3
        have lt_n3 := hN.lt
        have r0 : w6.cell? ⟨w.heap.size + 1 + 1, 0, none⟩ = some (.slice none 0 0) := hR.cell 0
        have f_0 := hR.free 0
        have r1 : w6.cell? ⟨w.heap.size + 1 + 1, 1, none⟩ = some (.slice none 0 0) := hR.cell 1
        have f_1 := hR.free 1
        have r2 : w6.cell? ⟨w.heap.size + 1 + 1, 2, none⟩ = some (.int .i64 0) := hR.cell 2
        have f_2 := hR.free 2
        have r3 : w6.cell? ⟨w.heap.size + 1 + 1, 3, none⟩ = some (.int .i64 0) := hR.cell 3
        have f_3 := hR.free 3
        have lt_x := hR.lt
        have HX := Lib.hid hR
        clear hR
        go_wp2_with fail
        have hX := HX.out
        clear r0 r1 r2 r3 n0 n1' n2 n3
        have hF : Blok ((((w6.setCell ⟨(w.heap.size + 1 + 1), 0, none⟩ (.slice A1 n1 c1)).setCell ⟨(w.heap.size + 1 + 1), 1, none⟩ (.slice A2 nl c2)).setCell ⟨(w.heap.size + 1 + 1), 2, none⟩ (.int .i64 p.clk)).setCell ⟨(w.heap.size + 1 + 1), 3, none⟩ (.int .i64 nv)) (w.heap.size + 1 + 1) 25 #[.slice A1 n1 c1, .slice A2 nl c2, .int .i64 p.clk, .int .i64 nv] := by have h := ((((hX.set_ 0 (.slice A1 n1 c1)).set_ 1 (.slice A2 nl c2)).set_ 2 (.int .i64 p.clk)).set_ 3 (.int .i64 nv)); simpa using h
        have hle0 : w.heap.size ≤ (w.heap.size + 1 + 1) := by first | exact Nat.le_refl _ | omega
        have hWf : Below w.heap.size w ((((w6.setCell ⟨(w.heap.size + 1 + 1), 0, none⟩ (.slice A1 n1 c1)).setCell ⟨(w.heap.size + 1 + 1), 1, none⟩ (.slice A2 nl c2)).setCell ⟨(w.heap.size + 1 + 1), 2, none⟩ (.int .i64 p.clk)).setCell ⟨(w.heap.size + 1 + 1), 3, none⟩ (.int .i64 nv)) := ((((hB.setCell (p := ⟨(w.heap.size + 1 + 1), 0, none⟩) hle0 (.slice A1 n1 c1)).setCell (p := ⟨(w.heap.size + 1 + 1), 1, none⟩) hle0 (.slice A2 nl c2)).setCell (p := ⟨(w.heap.size + 1 + 1), 2, none⟩) hle0 (.int .i64 p.clk)).setCell (p := ⟨(w.heap.size + 1 + 1), 3, none⟩) hle0 (.int .i64 nv))
        have hlF := hF.lt
        have hgw : w6.grownBy ((((w6.setCell ⟨(w.heap.size + 1 + 1), 0, none⟩ (.slice A1 n1 c1)).setCell ⟨(w.heap.size + 1 + 1), 1, none⟩ (.slice A2 nl c2)).setCell ⟨(w.heap.size + 1 + 1), 2, none⟩ (.int .i64 p.clk)).setCell ⟨(w.heap.size + 1 + 1), 3, none⟩ (.int .i64 nv)) (some (w.heap.size + 1 + 1)) := grown_trans (grown_trans (grown_trans (grown_set _ _ _) (grown_set _ _ _)) (grown_set _ _ _)) (grown_set _ _ _)
        generalize ((((w6.setCell ⟨(w.heap.size + 1 + 1), 0, none⟩ (.slice A1 n1 c1)).setCell ⟨(w.heap.size + 1 + 1), 1, none⟩ (.slice A2 nl c2)).setCell ⟨(w.heap.size + 1 + 1), 2, none⟩ (.int .i64 p.clk)).setCell ⟨(w.heap.size + 1 + 1), 3, none⟩ (.int .i64 nv)) = wf at *
        have r0 : wf.cell? ⟨(w.heap.size + 1 + 1), 0, none⟩ = some (.slice A1 n1 c1) := hF.cell 0
        have r1 : wf.cell? ⟨(w.heap.size + 1 + 1), 1, none⟩ = some (.slice A2 nl c2) := hF.cell 1
        have r2 : wf.cell? ⟨(w.heap.size + 1 + 1), 2, none⟩ = some (.int .i64 p.clk) := hF.cell 2
        have r3 : wf.cell? ⟨(w.heap.size + 1 + 1), 3, none⟩ = some (.int .i64 nv) := hF.cell 3
        refine bodyPost_ret (v := .tuple #[.agg #[.slice A1 n1 c1, .slice A2 nl c2, .int .i64 p.clk, .int .i64 nv], .int .i64 0]) (by simp [results, Tryz.results47, go_sem, r0, r1, r2, r3, hlF]) rfl ?_
        have hvf := own_far hv hgw (fun g hg => by injection hg with hg; omega)
        have hpp : stepP p d = ⟨p.cs, l, p.clk, nv⟩ := by unfold stepP; rw [if_pos HQ.out, if_neg HK.out, HL.out, HNV.out]
        have hlf := HNL.out
        have hle := HLL.out
        refine ⟨A1, n1, c1, A2, nl, c2, by rw [hpp, HQ.out], by rw [hpp]; exact ⟨H0.out.l1, hlf, H0.out.b1, by omega, H0.out.s1.up hWf, Sl.of_own hvf⟩, hWf, fun b hbl ha => ⟨ha.1, apart_own hvf (by omega)⟩, fun _ => by rw [hpp]; exact ⟨fun hk2 => absurd hk2 HK.out, fun _ => own_down hvf (by omega)⟩⟩
      · have g4 : (q != 0) = true := by simp [hq0]
        have p0 : w6.cell? ⟨w.heap.size, 0, none⟩ = some (.slice A1 n1 c1) := hP.cell 0
        have p1 : w6.cell? ⟨w.heap.size, 1, none⟩ = some (.slice A n c) := hP.cell 1
        have p2 : w6.cell? ⟨w.heap.size, 2, none⟩ = some (.int .i64 p.clk) := hP.cell 2
        have p3 : w6.cell? ⟨w.heap.size, 3, none⟩ = some (.int .i64 p.ver) := hP.cell 3
        have lt_p := hP.lt
        have r0 : w6.cell? ⟨w.heap.size + 1 + 1, 0, none⟩ = some (.slice none 0 0) := hR.cell 0
        have f_0 := hR.free 0
        have r1 : w6.cell? ⟨w.heap.size + 1 + 1, 1, none⟩ = some (.slice none 0 0) := hR.cell 1
        have f_1 := hR.free 1
        have r2 : w6.cell? ⟨w.heap.size + 1 + 1, 2, none⟩ = some (.int .i64 0) := hR.cell 2
        have f_2 := hR.free 2
        have r3 : w6.cell? ⟨w.heap.size + 1 + 1, 3, none⟩ = some (.int .i64 0) := hR.cell 3
        have f_3 := hR.free 3
        have lt_x := hR.lt
        have HX := Lib.hid hR
        clear hR
        go_wp2_with fail
        have hX := HX.out
        clear r0 r1 r2 r3 p0 p1 p2 p3
        have hF : Blok ((((w6.setCell ⟨(w.heap.size + 1 + 1), 0, none⟩ (.slice A1 n1 c1)).setCell ⟨(w.heap.size + 1 + 1), 1, none⟩ (.slice A n c)).setCell ⟨(w.heap.size + 1 + 1), 2, none⟩ (.int .i64 p.clk)).setCell ⟨(w.heap.size + 1 + 1), 3, none⟩ (.int .i64 p.ver)) (w.heap.size + 1 + 1) 25 #[.slice A1 n1 c1, .slice A n c, .int .i64 p.clk, .int .i64 p.ver] := by have h := ((((hX.set_ 0 (.slice A1 n1 c1)).set_ 1 (.slice A n c)).set_ 2 (.int .i64 p.clk)).set_ 3 (.int .i64 p.ver)); simpa using h
        have hle0 : w.heap.size ≤ (w.heap.size + 1 + 1) := by first | exact Nat.le_refl _ | omega
        have hWf : Below w.heap.size w ((((w6.setCell ⟨(w.heap.size + 1 + 1), 0, none⟩ (.slice A1 n1 c1)).setCell ⟨(w.heap.size + 1 + 1), 1, none⟩ (.slice A n c)).setCell ⟨(w.heap.size + 1 + 1), 2, none⟩ (.int .i64 p.clk)).setCell ⟨(w.heap.size + 1 + 1), 3, none⟩ (.int .i64 p.ver)) := ((((hB.setCell (p := ⟨(w.heap.size + 1 + 1), 0, none⟩) hle0 (.slice A1 n1 c1)).setCell (p := ⟨(w.heap.size + 1 + 1), 1, none⟩) hle0 (.slice A n c)).setCell (p := ⟨(w.heap.size + 1 + 1), 2, none⟩) hle0 (.int .i64 p.clk)).setCell (p := ⟨(w.heap.size + 1 + 1), 3, none⟩) hle0 (.int .i64 p.ver))
        have hlF := hF.lt
        have hgw : w6.grownBy ((((w6.setCell ⟨(w.heap.size + 1 + 1), 0, none⟩ (.slice A1 n1 c1)).setCell ⟨(w.heap.size + 1 + 1), 1, none⟩ (.slice A n c)).setCell ⟨(w.heap.size + 1 + 1), 2, none⟩ (.int .i64 p.clk)).setCell ⟨(w.heap.size + 1 + 1), 3, none⟩ (.int .i64 p.ver)) (some (w.heap.size + 1 + 1)) := grown_trans (grown_trans (grown_trans (grown_set _ _ _) (grown_set _ _ _)) (grown_set _ _ _)) (grown_set _ _ _)
        generalize ((((w6.setCell ⟨(w.heap.size + 1 + 1), 0, none⟩ (.slice A1 n1 c1)).setCell ⟨(w.heap.size + 1 + 1), 1, none⟩ (.slice A n c)).setCell ⟨(w.heap.size + 1 + 1), 2, none⟩ (.int .i64 p.clk)).setCell ⟨(w.heap.size + 1 + 1), 3, none⟩ (.int .i64 p.ver)) = wf at *
        have r0 : wf.cell? ⟨(w.heap.size + 1 + 1), 0, none⟩ = some (.slice A1 n1 c1) := hF.cell 0
        have r1 : wf.cell? ⟨(w.heap.size + 1 + 1), 1, none⟩ = some (.slice A n c) := hF.cell 1
        have r2 : wf.cell? ⟨(w.heap.size + 1 + 1), 2, none⟩ = some (.int .i64 p.clk) := hF.cell 2
        have r3 : wf.cell? ⟨(w.heap.size + 1 + 1), 3, none⟩ = some (.int .i64 p.ver) := hF.cell 3
        refine bodyPost_ret (v := .tuple #[.agg #[.slice A1 n1 c1, .slice A n c, .int .i64 p.clk, .int .i64 p.ver], .int .i64 q]) (by simp [results, Tryz.results47, go_sem, r0, r1, r2, r3, hlF]) rfl ?_
        exact StepRet.no H0.out hWf HQ.out (by first | omega | assumption) rfl
end Go.Proofs.YtolaabllhibkdaaGreat
