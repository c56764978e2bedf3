/- Contracts and plain facts, several texts of mine in one: Ref03, Small07, RangesTwice, RangesOw, RangesRt, QTail, NewVar, PlanR, Forms, TyDr. No condition. -/
import Derived.Test.YtolaabllhibkdaaGreatW3
import Derived.Test.YtolaabllhibkdaaGreatRows
import Derived.StillTail
import Derived.Lib.QuietBelow
import Derived.Deep.MidRow
import Derived.DeepKeys4
import Derived.Test.YtolaabllhibkdaaGreatChecked

/- Contracts of the document's answer for layer 3: it answers what package check answers, at all arguments. -/
namespace Go.Proofs.YtolaabllhibkdaaGreat
open Go.ChangeShapes Go.WideShapes Go.ChangeAt Go.RowKit Go.Sort
set_option linter.unusedSimpArgs false
set_option linter.unusedVariables false

theorem ret_bool {a b : Bool} (h : a = b) : Ending.returned (.bool a) = .returned (.bool b) := by rw [h]

theorem rnode_any (n : Int) (w : World) :
    Calls Tryz.prog 112 #[.int .i64 n] w fun e w' => e = .returned (.bool (nodeB n)) ∧ w = w' := by
  by_cases h1 : 1 ≤ n <;> by_cases h2 : n ≤ 255 <;>
  · go_enter Tryz.func112, Tryz.ntmps112
    go_wp2
    go_ret
    exact ⟨by simp [nodeB, inB, h1, h2], rfl⟩

def pairB (fr tn st en : Int) : Bool := wayB fr tn && spanB st en
theorem pairB_spec {fr tn st en : Int} : pairB fr tn st en = true ↔ (1 ≤ fr ∧ fr ≤ 255) ∧ (1 ≤ tn ∧ tn ≤ 255) ∧ fr ≠ tn ∧ 0 ≤ st ∧ st < en ∧ en ≤ 2147483647 := by
  simp [pairB, wayB, nodeB, spanB, inB, and_assoc]

theorem pair_any (fr tn st en : Int) (w : World) :
    Calls Tryz.prog 99 #[.int .i64 fr, .int .i64 tn, .int .i64 st, .int .i64 en] w fun e w' => e = .returned (.bool (pairB fr tn st en)) ∧ w = w' := by
  go_enter Tryz.func99, Tryz.ntmps99
  go_wp2_with (go_at_call 112; refine (rnode_any _ _).mono ?_; rintro e w' ⟨rfl, rfl⟩)
  all_goals go_ret
  all_goals refine ⟨ret_bool ?_, rfl⟩
  all_goals first
    | (simp [pairB, wayB, spanB, *]; done)
    | (simp [pairB, wayB, spanB, *]; omega)
theorem pair_is {fr tn st en : Int} (b : Bool) (h : pairB fr tn st en = b) (w : World) :
    Calls Tryz.prog 99 #[.int .i64 fr, .int .i64 tn, .int .i64 st, .int .i64 en] w fun e w' => e = .returned (.bool b) ∧ w = w' := h ▸ pair_any fr tn st en w
theorem rcontact_any (id fr tn st en ra : Int) (w : World) :
    Calls Tryz.prog 71 #[.agg #[.int .i64 id, .int .i64 fr, .int .i64 tn, .int .i64 st, .int .i64 en, .int .i64 ra]] w fun e w' => e = .returned (.bool (contactB id fr tn st en ra)) ∧ Below w.heap.size w w' := by
  by_cases hp : pairB fr tn st en = true
  · have HP := Lib.hid hp
    have Hp := Lib.hid (pairB_spec.1 hp)
    clear hp
    go_enter Tryz.func71, Tryz.ntmps71
    go_wp2_with (go_at_call 99; refine (pair_is true HP.out _).mono ?_; rintro e w' ⟨rfl, rfl⟩)
    all_goals go_ret
    all_goals refine ⟨ret_bool ?_, (Below.refl _ _).alloc (Nat.le_refl _) _⟩
    all_goals
      have hp := Hp.out
      rw [Bool.eq_iff_iff, contactB_spec]
      simp only [decide_eq_true_eq, Bool.false_eq_true, iff_true, false_iff, true_iff]
      omega
  · have HP := Lib.hid (show pairB fr tn st en = false by simpa using hp)
    rw [pairB_spec] at hp
    have Hp := Lib.hid hp
    clear hp
    go_enter Tryz.func71, Tryz.ntmps71
    go_wp2_with (go_at_call 99; refine (pair_is false HP.out _).mono ?_; rintro e w' ⟨rfl, rfl⟩)
    go_ret
    have hp := Hp.out
    exact ⟨ret_bool (by symm; rw [Bool.eq_false_iff, ne_eq, contactB_spec]; omega), (Below.refl _ _).alloc (Nat.le_refl _) _⟩
theorem rcontact_is {id fr tn st en ra : Int} (b : Bool) (h : contactB id fr tn st en ra = b) (w : World) :
    Calls Tryz.prog 71 #[.agg #[.int .i64 id, .int .i64 fr, .int .i64 tn, .int .i64 st, .int .i64 en, .int .i64 ra]] w fun e w' => e = .returned (.bool b) ∧ Below w.heap.size w w' := h ▸ rcontact_any id fr tn st en ra w
theorem rrange_any (fr tn st en ow : Int) (w : World) :
    Calls Tryz.prog 74 #[.agg #[.int .i64 fr, .int .i64 tn, .int .i64 st, .int .i64 en, .int .i64 ow]] w fun e w' => e = .returned (.bool (rangeB fr tn st en ow)) ∧ Below w.heap.size w w' := by
  by_cases hp : pairB fr tn st en = true
  · have HP := Lib.hid hp
    have Hp := Lib.hid (pairB_spec.1 hp)
    clear hp
    go_enter Tryz.func74, Tryz.ntmps74
    go_wp2_with (go_at_call 99; refine (pair_is true HP.out _).mono ?_; rintro e w' ⟨rfl, rfl⟩)
    all_goals go_ret
    all_goals refine ⟨ret_bool ?_, (Below.refl _ _).alloc (Nat.le_refl _) _⟩
    all_goals
      have hp := Hp.out
      rw [Bool.eq_iff_iff, rangeB_spec]
      simp only [decide_eq_true_eq, Bool.false_eq_true, iff_true, false_iff, true_iff]
      omega
  · have HP := Lib.hid (show pairB fr tn st en = false by simpa using hp)
    rw [pairB_spec] at hp
    have Hp := Lib.hid hp
    clear hp
    go_enter Tryz.func74, Tryz.ntmps74
    go_wp2_with (go_at_call 99; refine (pair_is false HP.out _).mono ?_; rintro e w' ⟨rfl, rfl⟩)
    go_ret
    have hp := Hp.out
    exact ⟨ret_bool (by symm; rw [Bool.eq_false_iff, ne_eq, rangeB_spec]; omega), (Below.refl _ _).alloc (Nat.le_refl _) _⟩
end Go.Proofs.YtolaabllhibkdaaGreat

/- Layer 7's small case comes out right. No condition. -/
namespace Go.Proofs.YtolaabllhibkdaaGreat.Kr
open Go.ChangeShapes Go.WideShapes Go.ChangeAt Go.RowKit Go.Sort
set_option linter.unusedSimpArgs false
set_option linter.unusedVariables false
theorem own_below {w w' : World} {base : Nat} {e : TypeId} {size n : Nat} {v : Value} {xs : List Value} (h : w.ownsRow base e size v n xs) (hb : Below w.heap.size w w') : w'.ownsRow base e size v n xs :=
  h.kept (grown_of_below (row := some w.heap.size) hb) (.inr (fun e => by have := (h.lt _ e).2; omega))
instance (d : List Rg) (cf ct ce : Int) (n i : Nat) : Decidable (AskAt d cf ct ce n i) := by unfold AskAt; infer_instance
theorem add_first {d : List Rg} {r : Rg} {n i : Nat} (q : Nat) (hi : i ≤ n) (h1 : i = 0 ∨ cmpR (gRg d (i - 1)) r < 0) (h2 : i = n ∨ 0 ≤ cmpR (gRg d i) r) (hq : ∀ j, j ≤ n → (j = 0 ∨ cmpR (gRg d (j - 1)) r < 0) → (j = n ∨ 0 ≤ cmpR (gRg d j) r) → j = q) : i = q := hq i hi h1 h2
end Go.Proofs.YtolaabllhibkdaaGreat.Kr

/- What was added, changed and deleted leaves all as it was. No condition. -/
namespace Go.Proofs.YtolaabllhibkdaaGreat.Kr
open Go.ChangeShapes Go.WideShapes Go.ChangeAt Go.RowKit Go.Sort
set_option linter.unusedSimpArgs false
set_option linter.unusedVariables false
def insR (d : List Rg) (i : Nat) (r : Rg) : List Rg := d.take i ++ [r] ++ d.drop i
theorem insR_length {d : List Rg} {i : Nat} (r : Rg) (hi : i ≤ d.length) : (insR d i r).length = d.length + 1 := by
  unfold insR
  simp only [List.length_append, List.length_take, List.length_drop, List.length_cons, List.length_nil]
  omega
theorem insR_lt {d : List Rg} {i j : Nat} (r : Rg) (hi : i ≤ d.length) (hj : j < i) : gRg (insR d i r) j = gRg d j := by
  unfold gRg insR
  rw [List.append_assoc, List.getD_eq_getElem?_getD, List.getD_eq_getElem?_getD, List.getElem?_append_left (by simp; omega), List.getElem?_take_of_lt hj]
theorem insR_at {d : List Rg} {i : Nat} (r : Rg) (hi : i ≤ d.length) : gRg (insR d i r) i = r := by
  unfold gRg insR
  rw [List.append_assoc, List.getD_eq_getElem?_getD, List.getElem?_append_right (by simp; omega)]
  have : i - (d.take i).length = 0 := by simp; omega
  rw [this]
  rfl
theorem insR_set {d : List Rg} {i : Nat} (r x : Rg) (hi : i ≤ d.length) : (insR d i r).set i x = insR d i x := by
  unfold insR
  rw [List.append_assoc, List.append_assoc, List.set_append, if_neg (by simp; omega)]
  have : i - (d.take i).length = 0 := by simp; omega
  rw [this]
  rfl
theorem insR_filter {d : List Rg} {i : Nat} (x : Rg) (p : Rg → Bool) (hd : ∀ y ∈ d, p y = true) (hx : p x = false) : (insR d i x).filter p = d := by
  unfold insR
  rw [List.filter_append, List.filter_append, List.filter_eq_self.2 (fun y hy => hd y (List.mem_of_mem_take hy)), List.filter_eq_self.2 (fun y hy => hd y (List.mem_of_mem_drop hy)), List.filter_cons, if_neg (by simp [hx])]
  simp
theorem okR_span {r : Rg} (h : okR r = true) : r.st < r.en ∧ 0 ≤ r.ow ∧ r.ow ≤ 2147483647 := by
  unfold okR rangeB spanB inB at h
  simp at h
  omega
theorem mem_gRg {d : List Rg} {y : Rg} (h : y ∈ d) : ∃ j, j < d.length ∧ gRg d j = y := by
  obtain ⟨j, hj, e⟩ := List.mem_iff_getElem.1 h
  exact ⟨j, hj, by unfold gRg; rw [List.getD_eq_getElem?_getD, List.getElem?_eq_getElem hj, e]; rfl⟩
/-- Who may be added is like no range that is there. -/
theorem fresh_of {d : List Rg} {r : Rg} (hr : rightB d = true) (hm : mayF d r = 0) : okR r = true ∧ ∀ y ∈ d, sameR y r = false := by
  have hok : okR r = true := by
    unfold mayF at hm
    cases h : okR r
    · rw [h] at hm; simp at hm
    · rfl
  refine ⟨hok, fun y hy => ?_⟩
  have hy2 : overR y r = false := by
    unfold mayF at hm
    rw [if_neg (by rw [hok]; decide)] at hm
    split at hm
    · cases hm
    · by_cases h : d.any (fun o => overR o r) = true
      · rw [if_pos h] at hm; cases hm
      · rw [List.any_eq_true] at h
        cases e : overR y r
        · rfl
        · exact absurd ⟨y, hy, e⟩ h
  obtain ⟨j, hj, rfl⟩ := mem_gRg hy
  have hok2 : okR (gRg d j) = true := by
    have := (rightB_true.1 hr).2 j hj
    unfold stepB at this
    simp at this
    exact this.1
  have h1 := okR_span hok
  have h2 := okR_span hok2
  unfold overR at hy2
  unfold sameR
  simp at hy2 ⊢
  intro e1 e2 e3
  have := hy2 e1 e2
  omega
theorem sameR_ow (y r : Rg) (x : Int) : sameR y ⟨r.fr, r.tn, r.st, r.en, x⟩ = sameR y r := rfl
theorem rangesTwice_own : ownKnob Tryz.prog.godebug = none := by kernel_rfl
theorem rangesTwice_laidOut : laidOutB Tryz.prog = true := by kernel_rfl

end Go.Proofs.YtolaabllhibkdaaGreat.Kr

/- What Owlt answers of a right table: the one range that covers. No condition. -/
namespace Go.Proofs.YtolaabllhibkdaaGreat.Kr
open Go.ChangeShapes Go.WideShapes Go.ChangeAt Go.RowKit Go.Sort
set_option linter.unusedSimpArgs false
set_option linter.unusedVariables false
def befR (a b : Rg) : Prop := ltR a b ∧ (a.fr = b.fr → a.tn = b.tn → a.en ≤ b.st)
def covR (cf ct cs ce : Int) (x : Rg) : Bool := decide (x.fr = cf ∧ x.tn = ct ∧ x.st ≤ cs ∧ ce ≤ x.en)
/-- In order, none longer than nothing. -/
structure SortR (d : List Rg) : Prop where
  ord : d.Pairwise befR
  span : ∀ x ∈ d, x.st < x.en ∧ 0 ≤ x.ow
theorem SortR.filter {d : List Rg} (h : SortR d) (p : Rg → Bool) : SortR (d.filter p) :=
  ⟨h.ord.filter p, fun x hx => h.span x (List.mem_filter.1 hx).1⟩
theorem rightB_okR {d : List Rg} (h : rightB d = true) {i : Nat} (hi : i < d.length) : okR (gRg d i) = true := by
  have := (rightB_true.1 h).2 i hi
  unfold stepB at this
  simp at this
  exact this.1
theorem rightB_next {d : List Rg} (h : rightB d = true) {i : Nat} (hi : i + 1 < d.length) : befR (gRg d i) (gRg d (i + 1)) := by
  have h0 := (rightB_true.1 h).2 (i + 1) hi
  have h1 := okR_span (rightB_okR h hi)
  have h2 := okR_span (rightB_okR h (i := i) (by omega))
  unfold stepB at h0
  simp [overR] at h0
  obtain ⟨_, h3, h4⟩ := h0
  rcases cmpR_spec (gRg d i) (gRg d (i + 1)) with ⟨hl, e⟩ | ⟨_, _, _, e⟩ | ⟨_, e⟩
  · refine ⟨hl, fun e1 e2 => ?_⟩
    unfold ltR at hl
    omega
  · omega
  · omega
theorem befR_trans {a b c : Rg} (h1 : befR a b) (h2 : befR b c) (hb : b.st < b.en) : befR a c := by
  obtain ⟨l1, r1⟩ := h1
  obtain ⟨l2, r2⟩ := h2
  unfold ltR at l1 l2
  refine ⟨by unfold ltR; omega, fun e1 e2 => ?_⟩
  have := r1 (by omega) (by omega)
  have := r2 (by omega) (by omega)
  omega
theorem rightB_far {d : List Rg} (h : rightB d = true) {i : Nat} : ∀ k, i + 1 + k < d.length → befR (gRg d i) (gRg d (i + 1 + k))
  | 0, hk => rightB_next h hk
  | k + 1, hk => befR_trans (rightB_far h k (by omega)) (rightB_next h (i := i + 1 + k) (by omega)) (okR_span (rightB_okR h (by omega))).1
theorem gRg_elem {d : List Rg} {j : Nat} (h : j < d.length) : gRg d j = d[j] := by
  unfold gRg
  rw [List.getD_eq_getElem?_getD, List.getElem?_eq_getElem h]
  rfl
theorem sort_of_right {d : List Rg} (h : rightB d = true) : SortR d := by
  refine ⟨?_, fun x hx => ?_⟩
  · rw [List.pairwise_iff_getElem]
    intro i j hi hj hij
    have := rightB_far h (i := i) (j - i - 1) (by omega)
    rw [show i + 1 + (j - i - 1) = j from by omega] at this
    rw [gRg_elem hi, gRg_elem hj] at this
    exact this
  · obtain ⟨j, hj, rfl⟩ := mem_gRg hx
    exact ⟨(okR_span (rightB_okR h hj)).1, (okR_span (rightB_okR h hj)).2.1⟩
theorem SortR.at_ {d : List Rg} (h : SortR d) {i j : Nat} (hij : i < j) (hj : j < d.length) : befR (gRg d i) (gRg d j) := by
  rw [gRg_elem hj, gRg_elem (by omega)]
  exact List.pairwise_iff_getElem.1 h.ord i j (by omega) hj hij
theorem SortR.sp {d : List Rg} (h : SortR d) {j : Nat} (hj : j < d.length) : (gRg d j).st < (gRg d j).en ∧ 0 ≤ (gRg d j).ow := h.span _ (gRg_mem hj)
theorem waysI_spec (a : Rg) (cf ct : Int) : ((a.fr < cf ∨ a.fr = cf ∧ a.tn < ct) ∧ waysI a ⟨cf, ct, 0, 0, 0⟩ = -1) ∨ (a.fr = cf ∧ a.tn = ct ∧ waysI a ⟨cf, ct, 0, 0, 0⟩ = 0) ∨ ((cf < a.fr ∨ a.fr = cf ∧ ct < a.tn) ∧ waysI a ⟨cf, ct, 0, 0, 0⟩ = 1) := by
  unfold waysI
  rcases cmpI_spec a.fr cf with ⟨h1, e1⟩ | ⟨h1, e1⟩ | ⟨h1, e1⟩ <;> rcases cmpI_spec a.tn ct with ⟨h2, e2⟩ | ⟨h2, e2⟩ | ⟨h2, e2⟩ <;>
    simp only [e1, e2, orF] <;> simp <;> omega
theorem passP_iff {d : List Rg} {cf ct ce : Int} {i : Nat} : passP d cf ct ce i = true ↔ (cf < (gRg d i).fr ∨ (gRg d i).fr = cf ∧ ct < (gRg d i).tn) ∨ ((gRg d i).fr = cf ∧ (gRg d i).tn = ct ∧ ce ≤ (gRg d i).en) := by
  unfold passP
  rcases waysI_spec (gRg d i) cf ct with ⟨h1, e1⟩ | ⟨h1, h2, e1⟩ | ⟨h1, e1⟩ <;> rw [e1] <;> simp <;> omega
theorem passP_up {d : List Rg} (h : SortR d) {cf ct ce : Int} {i j : Nat} (hij : i ≤ j) (hj : j < d.length) (hp : passP d cf ct ce i = true) : passP d cf ct ce j = true := by
  rcases Nat.lt_or_eq_of_le hij with hij | rfl
  · rw [passP_iff] at hp ⊢
    obtain ⟨h1, h2⟩ := h.at_ hij hj
    have h3 := h.sp hj
    unfold ltR at h1
    by_cases e1 : (gRg d i).fr = (gRg d j).fr
    · by_cases e2 : (gRg d i).tn = (gRg d j).tn
      · have := h2 e1 e2
        omega
      · omega
    · omega
  · exact hp
/-- What a table of ranges tells of a contact: whom it covers, or none. -/
def Tells (d : List Rg) (cf ct cs ce o : Int) (b : Bool) : Prop :=
  (b = true ∧ ∃ x ∈ d, covR cf ct cs ce x = true ∧ o = x.ow) ∨ (b = false ∧ o = 0 ∧ ∀ x ∈ d, covR cf ct cs ce x = false)
theorem tells_of {d : List Rg} (h : SortR d) {cf ct cs ce : Int} {n i : Nat} {o : Int} {b : Bool} (hd : d.length = n) (hc : cs < ce) (ha : AskAt d cf ct ce n i) (ho : owR d cf ct cs n i = (o, b)) : Tells d cf ct cs ce o b := by
  obtain ⟨hi, h1, h2⟩ := ha
  unfold owR at ho
  by_cases hg : i = n ∨ waysI (gRg d i) ⟨cf, ct, 0, 0, 0⟩ ≠ 0 ∨ cs < (gRg d i).st
  · rw [if_pos hg] at ho
    injection ho with e1 e2
    refine .inr ⟨e2.symm, e1.symm, fun x hx => ?_⟩
    obtain ⟨j, hj, rfl⟩ := mem_gRg hx
    cases hcv : covR cf ct cs ce (gRg d j)
    · rfl
    · exfalso
      unfold covR at hcv
      rw [decide_eq_true_eq] at hcv
      obtain ⟨c1, c2, c3, c4⟩ := hcv
      have hpj : passP d cf ct ce j = true := passP_iff.2 (.inr ⟨c1, c2, c4⟩)
      have hij : i ≤ j := by
        rcases h1 with h1 | h1
        · omega
        · by_cases hlt : j < i
          · rw [passP_up h (by omega : j ≤ i - 1) (by omega) hpj] at h1
            cases h1
          · omega
      have hin : i < n := by omega
      have hpi : passP d cf ct ce i = true := by
        rcases h2 with h2 | h2
        · omega
        · exact h2
      rw [passP_iff] at hpi
      rcases Nat.lt_or_eq_of_le hij with hij | rfl
      · obtain ⟨b1, b2⟩ := h.at_ hij hj
        unfold ltR at b1
        by_cases e1 : (gRg d i).fr = (gRg d j).fr
        · by_cases e2 : (gRg d i).tn = (gRg d j).tn
          · have := b2 e1 e2
            omega
          · omega
        · omega
      · rcases waysI_spec (gRg d i) cf ct with ⟨g1, e1⟩ | ⟨g1, g2, e1⟩ | ⟨g1, e1⟩ <;> rw [e1] at hg <;> omega
  · rw [if_neg hg] at ho
    injection ho with e1 e2
    have hin : i < n := by omega
    have hw : waysI (gRg d i) ⟨cf, ct, 0, 0, 0⟩ = 0 := by
      by_cases e : waysI (gRg d i) ⟨cf, ct, 0, 0, 0⟩ = 0
      · exact e
      · exact absurd (.inr (.inl e)) hg
    have hpi : passP d cf ct ce i = true := by
      rcases h2 with h2 | h2
      · omega
      · exact h2
    rw [passP_iff] at hpi
    refine .inl ⟨e2.symm, gRg d i, gRg_mem (by omega), ?_, e1.symm⟩
    unfold covR
    rw [decide_eq_true_eq]
    rcases waysI_spec (gRg d i) cf ct with ⟨g1, e1⟩ | ⟨g1, g2, e1⟩ | ⟨g1, e1⟩ <;> omega
/-- One at most covers. -/
theorem cov_one {d : List Rg} (h : SortR d) {cf ct cs ce : Int} (hc : cs < ce) {i j : Nat} (hi : i < d.length) (hj : j < d.length) (h1 : covR cf ct cs ce (gRg d i) = true) (h2 : covR cf ct cs ce (gRg d j) = true) : i = j := by
  unfold covR at h1 h2
  rw [decide_eq_true_eq] at h1 h2
  rcases Nat.lt_trichotomy i j with hl | e | hl
  · have := (h.at_ hl hj).2 (by omega) (by omega)
    omega
  · exact e
  · have := (h.at_ hl hi).2 (by omega) (by omega)
    omega
theorem tells_same {d e : List Rg} (h : SortR d) {cf ct cs ce o o' : Int} {b b' : Bool} (hc : cs < ce) (hsub : ∀ x ∈ e, x ∈ d) (hcov : ∀ x ∈ d, covR cf ct cs ce x = true → x ∈ e) (h1 : Tells d cf ct cs ce o b) (h2 : Tells e cf ct cs ce o' b') : o = o' ∧ b = b' := by
  rcases h1 with ⟨rfl, x, hx, cx, rfl⟩ | ⟨rfl, rfl, hn⟩ <;> rcases h2 with ⟨rfl, y, hy, cy, rfl⟩ | ⟨rfl, rfl, hn'⟩
  · obtain ⟨i, hi, rfl⟩ := mem_gRg hx
    obtain ⟨j, hj, rfl⟩ := mem_gRg (hsub y hy)
    obtain rfl := cov_one h hc hi hj cx cy
    exact ⟨rfl, rfl⟩
  · rw [hn' x (hcov x hx cx)] at cx; cases cx
  · rw [hn y (hsub y hy)] at cy; cases cy
  · exact ⟨rfl, rfl⟩
end Go.Proofs.YtolaabllhibkdaaGreat.Kr

/- What is right stays right: a filter, a new owlt, one more. No condition. -/
namespace Go.Proofs.YtolaabllhibkdaaGreat.Kr
open Go.ChangeShapes Go.WideShapes Go.ChangeAt Go.RowKit Go.Sort
set_option linter.unusedSimpArgs false
set_option linter.unusedVariables false
theorem right_of {d : List Rg} (hn : d.length ≤ 4096) (hok : ∀ x ∈ d, okR x = true) (hs : d.Pairwise befR) : rightB d = true := by
  rw [rightB_true]
  refine ⟨hn, fun i hi => ?_⟩
  unfold stepB
  rw [hok _ (gRg_mem hi), Bool.true_and]
  by_cases h0 : i = 0
  · simp [h0]
  · have hb : befR (gRg d (i - 1)) (gRg d i) := by
      rw [gRg_elem hi, gRg_elem (by omega)]
      exact List.pairwise_iff_getElem.1 hs (i - 1) i (by omega) hi (by omega)
    obtain ⟨b1, b2⟩ := hb
    have hc : cmpR (gRg d (i - 1)) (gRg d i) < 0 := by
      rcases cmpR_spec (gRg d (i - 1)) (gRg d i) with ⟨_, e⟩ | ⟨e1, e2, e3, e⟩ | ⟨hl, e⟩
      · omega
      · unfold ltR at b1; omega
      · unfold ltR at b1 hl; omega
    have ho : overR (gRg d (i - 1)) (gRg d i) = false := by
      unfold overR
      rw [decide_eq_false_iff_not]
      rintro ⟨e1, e2, e3, e4⟩
      have := b2 e1 e2
      omega
    rw [ho]
    simp [hc]
theorem right_ok {d : List Rg} (h : rightB d = true) : ∀ x ∈ d, okR x = true := fun x hx => by
  obtain ⟨j, hj, rfl⟩ := mem_gRg hx
  exact rightB_okR h hj
theorem right_filter {d : List Rg} (h : rightB d = true) (p : Rg → Bool) : rightB (d.filter p) = true :=
  right_of (Nat.le_trans (List.length_filter_le _ _) (rightB_true.1 h).1) (fun x hx => right_ok h x (List.mem_filter.1 hx).1) ((sort_of_right h).ord.filter p)
theorem fresh_over {d : List Rg} {r : Rg} (hm : mayF d r = 0) : d.length < 4096 ∧ ∀ y ∈ d, overR y r = false := by
  unfold mayF at hm
  split at hm
  · cases hm
  · split at hm
    · cases hm
    · split at hm
      · cases hm
      · rename_i h1 h2 h3
        refine ⟨by omega, fun y hy => ?_⟩
        cases e : overR y r
        · rfl
        · exact absurd (List.any_eq_true.2 ⟨y, hy, e⟩) h3
theorem ltR_trans {a b c : Rg} (h1 : ltR a b) (h2 : ltR b c) : ltR a c := by unfold ltR at *; omega
theorem right_ins {d : List Rg} {r : Rg} {i : Nat} (h : rightB d = true) (hm : mayF d r = 0) (hi : i ≤ d.length) (h1 : i = 0 ∨ cmpR (gRg d (i - 1)) r < 0) (h2 : i = d.length ∨ 0 ≤ cmpR (gRg d i) r) : rightB (insR d i r) = true := by
  obtain ⟨hok, hfr⟩ := fresh_of h hm
  obtain ⟨hlen, hov⟩ := fresh_over hm
  have hs := sort_of_right h
  have hrs := okR_span hok
  have hbef : ∀ a ∈ d.take i, befR a r := fun a ha => by
    obtain ⟨j, hj, rfl⟩ := List.mem_take_iff_getElem.1 ha
    have hjd : j < d.length := by omega
    have hji : j < i := by omega
    have hl : ltR (gRg d (i - 1)) r := by
      rcases h1 with h1 | h1
      · omega
      · rcases cmpR_spec (gRg d (i - 1)) r with ⟨hl, _⟩ | ⟨_, _, _, e⟩ | ⟨_, e⟩
        · exact hl
        · omega
        · omega
    have hl2 : ltR (gRg d j) r := by
      by_cases e : j = i - 1
      · rw [e]; exact hl
      · exact ltR_trans (hs.at_ (by omega : j < i - 1) (by omega)).1 hl
    rw [← gRg_elem hjd]
    refine ⟨hl2, fun e1 e2 => ?_⟩
    have ho := hov _ (gRg_mem hjd)
    unfold overR at ho
    rw [decide_eq_false_iff_not] at ho
    unfold ltR at hl2
    by_cases hx : (gRg d j).en ≤ r.st
    · exact hx
    · exact absurd ⟨e1, e2, by omega, by omega⟩ ho
  have haft : ∀ b ∈ d.drop i, befR r b := fun b hb => by
    obtain ⟨j, hj, rfl⟩ := List.mem_drop_iff_getElem.1 hb
    have hjd : i + j < d.length := by omega
    have hl : ltR r (gRg d i) := by
      rcases h2 with h2 | h2
      · omega
      · rcases cmpR_spec (gRg d i) r with ⟨_, e⟩ | ⟨e1, e2, e3, e⟩ | ⟨hl, _⟩
        · omega
        · have := hfr _ (gRg_mem (by omega : i < d.length))
          unfold sameR at this
          rw [decide_eq_false_iff_not] at this
          exact absurd ⟨e1, e2, e3⟩ this
        · exact hl
    have hl2 : ltR r (gRg d (i + j)) := by
      by_cases e : j = 0
      · subst e; exact hl
      · exact ltR_trans hl (hs.at_ (by omega : i < i + j) hjd).1
    rw [← gRg_elem hjd]
    refine ⟨hl2, fun e1 e2 => ?_⟩
    have ho := hov _ (gRg_mem hjd)
    have hsp := hs.sp hjd
    unfold overR at ho
    rw [decide_eq_false_iff_not] at ho
    unfold ltR at hl2
    by_cases hx : r.en ≤ (gRg d (i + j)).st
    · exact hx
    · exact absurd ⟨e1.symm, e2.symm, by omega, by omega⟩ ho
  refine right_of (by rw [insR_length r hi]; omega) (fun x hx => ?_) ?_
  · unfold insR at hx
    simp only [List.mem_append, List.mem_singleton] at hx
    rcases hx with (hx | rfl) | hx
    · exact right_ok h x (List.mem_of_mem_take hx)
    · exact hok
    · exact right_ok h x (List.mem_of_mem_drop hx)
  · unfold insR
    have hp := hs.ord
    rw [← List.take_append_drop i d, List.pairwise_append] at hp
    rw [List.append_assoc, List.pairwise_append]
    refine ⟨hp.1, ?_, fun a ha b hb => ?_⟩
    · rw [List.singleton_append, List.pairwise_cons]
      exact ⟨haft, hp.2.1⟩
    · rw [List.singleton_append, List.mem_cons] at hb
      rcases hb with rfl | hb
      · exact hbef a ha
      · exact hp.2.2 a ha b hb
theorem gRg_set {d : List Rg} {q j : Nat} (x : Rg) (hj : j < d.length) : gRg (d.set q x) j = if q = j then x else gRg d j := by
  rw [gRg_elem (by rw [List.length_set]; exact hj), List.getElem_set, gRg_elem hj]
theorem okR_ow {x : Rg} {o : Int} (h : okR x = true) (h0 : 0 ≤ o) (h1 : o ≤ 2147483647) : okR (withOw x o) = true := by
  unfold okR rangeB at h ⊢
  simp only [withOw]
  simp only [Bool.and_eq_true] at h ⊢
  refine ⟨⟨h.1.1, h.1.2⟩, ?_⟩
  unfold inB
  simp
  omega
theorem right_set {d : List Rg} {q : Nat} {o : Int} (h : rightB d = true) (hq : q < d.length) (h0 : 0 ≤ o) (h1 : o ≤ 2147483647) : rightB (d.set q (withOw (gRg d q) o)) = true := by
  have hs := sort_of_right h
  refine right_of (by rw [List.length_set]; exact (rightB_true.1 h).1) (fun x hx => ?_) ?_
  · obtain ⟨j, hj, rfl⟩ := mem_gRg hx
    rw [List.length_set] at hj
    rw [gRg_set _ hj]
    split
    · exact okR_ow (rightB_okR h hq) h0 h1
    · exact rightB_okR h hj
  · rw [List.pairwise_iff_getElem]
    intro i j hi hj hij
    rw [List.length_set] at hi hj
    have hb := hs.at_ hij hj
    have hi2 := gRg_set (d := d) (q := q) (withOw (gRg d q) o) hi
    have hj2 := gRg_set (d := d) (q := q) (withOw (gRg d q) o) hj
    rw [gRg_elem (by rw [List.length_set]; exact hi)] at hi2
    rw [gRg_elem (by rw [List.length_set]; exact hj)] at hj2
    rw [hi2, hj2]
    by_cases e1 : q = i
    · subst e1
      rw [if_pos rfl, if_neg (by omega)]
      exact hb
    · rw [if_neg e1]
      by_cases e2 : q = j
      · subst e2
        rw [if_pos rfl]
        exact hb
      · rw [if_neg e2]
        exact hb
end Go.Proofs.YtolaabllhibkdaaGreat.Kr

/- A region that draws its order: its first n operations are quiet in a class of worlds (one walk serves every order), all that follows is forced in the order of the text. No condition. -/
namespace Go.Proofs.YtolaabllhibkdaaGreat
open Go.Sort Go.RowKit
set_option linter.unusedSimpArgs false
set_option linter.unusedVariables false
section
variable {P : Program} {ops : Array Oper} {md : Region.Mode} {C : World → Prop}

def wpAnyLQ (P : Program) (md : Region.Mode) (ops : Array Oper) (C : World → Prop) (n : Nat) (L : Array Bool → Act → Prop) : Nat → Array Bool → Act → Prop
  | 0, listed, a => L listed a
  | f + 1, listed, a =>
    Region.ready md ops listed ≠ [] ∧ ∀ i ∈ Region.ready md ops listed, i < n ∧ qOp P ops C i (wpAnyLQ P md ops C n L f (listed.setIfInBounds i true)) a

theorem wpAny_of_headQ {n g : Nat} {L : Array Bool → Act → Prop} {Q' : Exit → Act → World → Prop} (hL : ∀ listed a w, C w → L listed a → wpAny P md ops Q' g listed a w) :
    ∀ (f : Nat) (listed : Array Bool) (a : Act) (w : World), C w → wpAnyLQ P md ops C n L f listed a → wpAny P md ops Q' (f + g) listed a w
  | 0, listed, a, w, hw, h => by rw [Nat.zero_add]; exact hL _ _ _ hw h
  | f + 1, listed, a, w, hw, h => by
    rw [show f + 1 + g = (f + g) + 1 by omega]
    exact ⟨fun h0 => absurd h0 h.1, fun i hi => wpOp_of_qOp hw (fun a' w' hw' h' => wpAny_of_headQ hL f _ a' w' hw' h') (h.2 i hi).2⟩

theorem wpAnyLQ_first {n i : Nat} {oi : Oper} {v : Value} {L : Array Bool → Act → Prop} (hi : ops[i]? = some oi) (hsel : ∀ (j : Nat) (o : Oper) cs b, ops[j]? = some o → o.op ≠ .select cs b)
    (hs : Region.sinkB md ops n = true) (hc : Region.chainB md ops n = true) (hn : n < ops.size) (hin : i < n)
    (hdone : ∀ listed a, L listed a → ∀ j ∈ Region.ready md ops listed, n ≤ j) :
    ∀ (f : Nat) (listed : Array Bool) (a : Act), HeadInv md ops n listed →
      (∀ j oj, ops[j]? = some oj → j ≠ i → listed.getD j true = false → (∀ e ∈ oj.after, Region.binds md e = true → e.on ≠ i) → oi.apart ops oj = true) →
      i ∈ Region.ready md ops listed → YieldsIn P ops C oi v a →
      wpAnyLQ P md ops C n L f (listed.setIfInBounds i true) (a.put oi.dst v) → wpAnyLQ P md ops C n L (f + 1) listed a := by
  intro f
  induction f with
  | zero =>
    intro listed a inv _ hr hy H
    have hun := (mem_ready.1 hr).1
    refine ⟨fun h => (by rw [h] at hr; cases hr), fun j hj => ?_⟩
    have hjn : j < n := by
      rcases Nat.lt_or_ge j n with h | h
      · exact h
      · exact absurd hj (tail_waits hs hc hn inv _ i rfl hin hun j h)
    refine ⟨hjn, ?_⟩
    by_cases hji : j = i
    · subst hji; exact hy.qOp hi H
    · have := hdone _ _ H j (ready_mono hj hji)
      omega
  | succ f ih =>
    intro listed a inv hfree hr hy H
    have hun := (mem_ready.1 hr).1
    refine ⟨fun h => (by rw [h] at hr; cases hr), fun j hj => ?_⟩
    have hjn : j < n := by
      rcases Nat.lt_or_ge j n with h | h
      · exact h
      · exact absurd hj (tail_waits hs hc hn inv _ i rfl hin hun j h)
    refine ⟨hjn, ?_⟩
    by_cases hji : j = i
    · subst hji; exact hy.qOp hi H
    · have h1 := (H.2 j (ready_mono hj hji)).2
      obtain ⟨hjun, oj, hoj, hall⟩ := mem_ready.1 hj
      have hnot : ∀ e ∈ oj.after, Region.binds md e = true → e.on ≠ i := fun e he hb heq => by
        have h1 := hall e he hb
        rw [heq, getD_both hun] at h1
        cases h1
      have h2 := qOp_put hoj (hfree j oj hoj hji hjun hnot) (fun cs b => hsel i oi cs b hi) (fun cs b => hsel j oj cs b hoj) hy h1
      have hfree' : ∀ k ok, ops[k]? = some ok → k ≠ i → (listed.setIfInBounds j true).getD k true = false →
          (∀ e ∈ ok.after, Region.binds md e = true → e.on ≠ i) → oi.apart ops ok = true := fun k ok hk hki hun hno => by
        refine hfree k ok hk hki ?_ hno
        by_cases hjk : j = k
        · subst hjk; exact hjun
        · rw [getD_set_ne true hjk] at hun; exact hun
      refine qOp_mono (fun a' h3 => ih (listed.setIfInBounds j true) a' (inv.set hj hjn) hfree' (ready_mono hr (Ne.symm hji)) h3.1 ?_) h2
      rw [Array.setIfInBounds_comm _ _ hji]
      exact h3.2

theorem wpAnyLQ_lex {n g : Nat} {Lq : Act → Prop} (hsel : Region.noSelect ops = true) (hs : Region.sinkB md ops n = true) (hc : Region.chainB md ops n = true) (hn : n < ops.size) :
    ∀ (l : List Oper) (k : Nat) (listed : Array Bool) (a : Act), (∀ j, j < l.length → l[j]? = ops[k + j]?) → k + l.length = n → HeadInv md ops n listed →
    Region.lexHead md ops g l.length k listed = true → wpQuiet P ops C Lq l a →
    wpAnyLQ P md ops C n (fun listed' a' => Region.seqB md ops g n listed' = true ∧ Lq a') l.length listed a
  | [], k, listed, a, _, hk, _, hB, h => by
    have : k = n := by simpa using hk
    subst this
    exact ⟨by simpa [Region.lexHead] using hB, h⟩
  | o :: l, k, listed, a, hl, hk, inv, hB, h => by
    have h0 : ops[k]? = some o := by simpa using (hl 0 (by simp)).symm
    simp only [List.length_cons, Region.lexHead, Bool.and_eq_true] at hB
    obtain ⟨⟨hr, hf⟩, hB'⟩ := hB
    have hkn : k < n := by simp only [List.length_cons] at hk; omega
    have hr' : k ∈ Region.ready md ops listed := by simpa using hr
    have hst : qOp P ops C k (wpQuiet P ops C Lq l) a := by unfold qOp; simp only [h0]; exact h
    obtain ⟨v, hy, hK⟩ := yieldsIn_of_qOp h0 hst
    exact wpAnyLQ_first h0 (Region.noSelect_spec hsel) hs hc hn hkn (fun listed' a' hL => seqB_ready hL.1) l.length listed a inv (Region.free_spec h0 hf) hr' hy
      (wpAnyLQ_lex hsel hs hc hn l (k + 1) _ _ (fun j hj => by have := hl (j + 1) (by simp; omega); simpa [Nat.add_assoc, Nat.add_comm 1 j] using this) (by simp only [List.length_cons] at hk; omega) (inv.set hr' hkn) hB' hK)

/-! A gate: the first n operations are quiet, the last of them waits for all the others, and whatever follows waits for it. -/
def gateB (md : Region.Mode) (ops : Array Oper) (n : Nat) : Bool :=
  (List.range ops.size).all fun t => decide (t < n) || (List.range t).any fun j => decide (n ≤ j + 1) && Region.waitsFor md ops t j
def lexFin : Nat → Nat → Array Bool → Array Bool
  | 0, _, listed => listed
  | f + 1, k, listed => lexFin f (k + 1) (listed.setIfInBounds k true)
def lexTo (md : Region.Mode) (ops : Array Oper) : Nat → Nat → Array Bool → Bool
  | 0, _, _ => true
  | f + 1, k, listed => (Region.ready md ops listed).contains k && Region.free md ops listed k && lexTo md ops f (k + 1) (listed.setIfInBounds k true)
def gated (md : Region.Mode) (ops : Array Oper) (m : Nat) : Bool :=
  Region.noSelect ops && decide (m + 1 ≤ ops.size) && Region.sinkB md ops m && gateB md ops (m + 1) && lexTo md ops (m + 1) 0 (Array.replicate ops.size false) &&
    (Region.ready md ops (lexFin (m + 1) 0 (Array.replicate ops.size false))).all fun j => decide (m + 1 ≤ j)

theorem head_all {m n : Nat} {listed : Array Bool} (hs : Region.sinkB md ops m = true) (inv : HeadInv md ops n listed) (hm : listed.getD m false = true) :
    ∀ (d i : Nat), m - i = d → i ≤ m → listed.getD i false = true := by
  intro d
  induction d using Nat.strongRecOn with
  | _ d ih =>
    intro i hd hi
    by_cases e : i = m
    · subst e; exact hm
    · have h1 := List.all_eq_true.1 hs i (List.mem_range.2 (by omega))
      obtain ⟨j, hj, hj2⟩ := List.any_eq_true.1 h1
      simp only [Bool.and_eq_true, decide_eq_true_eq] at hj2
      obtain ⟨oj, hoj, e', he, hb, hon⟩ := Region.waitsFor_spec hj2.2
      have hjle : j ≤ m := by have := List.mem_range.1 hj; omega
      have hl := ih (m - j) (by omega) j rfl hjle
      have h2 := inv.closed j oj hoj hl e' he hb
      rwa [hon] at h2

theorem gate_waits {m : Nat} {listed : Array Bool} (hs : Region.sinkB md ops m = true) (hg : gateB md ops (m + 1) = true) (inv : HeadInv md ops (m + 1) listed) :
    ∀ (i : Nat), i < m + 1 → listed.getD i true = false → ∀ t, m + 1 ≤ t → t ∉ Region.ready md ops listed := by
  intro i hi hun t ht hr
  obtain ⟨_, ot, hot, hall⟩ := mem_ready.1 hr
  have htlt : t < ops.size := (Array.getElem?_eq_some_iff.1 hot).1
  have h1 := List.all_eq_true.1 hg t (List.mem_range.2 htlt)
  simp only [Bool.or_eq_true, decide_eq_true_eq] at h1
  rcases h1 with h1 | h1
  · omega
  · obtain ⟨j, hj, hj2⟩ := List.any_eq_true.1 h1
    simp only [Bool.and_eq_true, decide_eq_true_eq] at hj2
    obtain ⟨o', ho', e, he, hb, hon⟩ := Region.waitsFor_spec hj2.2
    have : o' = ot := Option.some.inj (ho'.symm.trans hot)
    subst this
    have h2 := hall e he hb
    rw [hon] at h2
    have hjt : j < t := List.mem_range.1 hj
    by_cases hjm : j = m
    · subst hjm
      have h3 := head_all hs inv h2 (j - i) i rfl (by omega)
      rw [getD_both hun] at h3
      cases h3
    · rw [getD_both (inv.tail j (by omega) (by omega))] at h2
      cases h2

theorem wpAnyLQ_gate {n i : Nat} {oi : Oper} {v : Value} {L : Array Bool → Act → Prop} (hi : ops[i]? = some oi) (hsel : ∀ (j : Nat) (o : Oper) cs b, ops[j]? = some o → o.op ≠ .select cs b)
    (hwait : ∀ listed, HeadInv md ops n listed → ∀ i, i < n → listed.getD i true = false → ∀ t, n ≤ t → t ∉ Region.ready md ops listed) (hin : i < n)
    (hdone : ∀ listed a, L listed a → ∀ j ∈ Region.ready md ops listed, n ≤ j) :
    ∀ (f : Nat) (listed : Array Bool) (a : Act), HeadInv md ops (n) listed →
      (∀ j oj, ops[j]? = some oj → j ≠ i → listed.getD j true = false → (∀ e ∈ oj.after, Region.binds md e = true → e.on ≠ i) → oi.apart ops oj = true) →
      i ∈ Region.ready md ops listed → YieldsIn P ops C oi v a →
      wpAnyLQ P md ops C (n) L f (listed.setIfInBounds i true) (a.put oi.dst v) → wpAnyLQ P md ops C (n) L (f + 1) listed a := by
  intro f
  induction f with
  | zero =>
    intro listed a inv _ hr hy H
    have hun := (mem_ready.1 hr).1
    refine ⟨fun h => (by rw [h] at hr; cases hr), fun j hj => ?_⟩
    have hjn : j < n := by
      rcases Nat.lt_or_ge j (n) with h | h
      · exact h
      · exact absurd hj (hwait _ inv i hin hun j h)
    refine ⟨hjn, ?_⟩
    by_cases hji : j = i
    · subst hji; exact hy.qOp hi H
    · have := hdone _ _ H j (ready_mono hj hji)
      omega
  | succ f ih =>
    intro listed a inv hfree hr hy H
    have hun := (mem_ready.1 hr).1
    refine ⟨fun h => (by rw [h] at hr; cases hr), fun j hj => ?_⟩
    have hjn : j < n := by
      rcases Nat.lt_or_ge j (n) with h | h
      · exact h
      · exact absurd hj (hwait _ inv i hin hun j h)
    refine ⟨hjn, ?_⟩
    by_cases hji : j = i
    · subst hji; exact hy.qOp hi H
    · have h1 := (H.2 j (ready_mono hj hji)).2
      obtain ⟨hjun, oj, hoj, hall⟩ := mem_ready.1 hj
      have hnot : ∀ e ∈ oj.after, Region.binds md e = true → e.on ≠ i := fun e he hb heq => by
        have h1 := hall e he hb
        rw [heq, getD_both hun] at h1
        cases h1
      have h2 := qOp_put hoj (hfree j oj hoj hji hjun hnot) (fun cs b => hsel i oi cs b hi) (fun cs b => hsel j oj cs b hoj) hy h1
      have hfree' : ∀ k ok, ops[k]? = some ok → k ≠ i → (listed.setIfInBounds j true).getD k true = false →
          (∀ e ∈ ok.after, Region.binds md e = true → e.on ≠ i) → oi.apart ops ok = true := fun k ok hk hki hun hno => by
        refine hfree k ok hk hki ?_ hno
        by_cases hjk : j = k
        · subst hjk; exact hjun
        · rw [getD_set_ne true hjk] at hun; exact hun
      refine qOp_mono (fun a' h3 => ih (listed.setIfInBounds j true) a' (inv.set hj hjn) hfree' (ready_mono hr (Ne.symm hji)) h3.1 ?_) h2
      rw [Array.setIfInBounds_comm _ _ hji]
      exact h3.2

theorem wpAnyLQ_lexg {n : Nat} {Lq : Act → Prop} {fin : Array Bool} (hsel : Region.noSelect ops = true) (hwait : ∀ listed, HeadInv md ops n listed → ∀ i, i < n → listed.getD i true = false → ∀ t, n ≤ t → t ∉ Region.ready md ops listed)
    (hfin : (Region.ready md ops fin).all (fun j => decide (n ≤ j)) = true) :
    ∀ (l : List Oper) (k : Nat) (listed : Array Bool) (a : Act), (∀ j, j < l.length → l[j]? = ops[k + j]?) → k + l.length = n → HeadInv md ops (n) listed →
    lexTo md ops l.length k listed = true → lexFin l.length k listed = fin → wpQuiet P ops C Lq l a →
    wpAnyLQ P md ops C (n) (fun listed' a' => listed' = fin ∧ Lq a') l.length listed a
  | [], k, listed, a, _, _, _, _, hf, h => ⟨hf, h⟩
  | o :: l, k, listed, a, hl, hk, inv, hB, hf, h => by
    have h0 : ops[k]? = some o := by simpa using (hl 0 (by simp)).symm
    simp only [List.length_cons, lexTo, Bool.and_eq_true] at hB
    obtain ⟨⟨hr, hfr⟩, hB'⟩ := hB
    have hkn : k < n := by simp only [List.length_cons] at hk; omega
    have hr' : k ∈ Region.ready md ops listed := by simpa using hr
    have hst : qOp P ops C k (wpQuiet P ops C Lq l) a := by unfold qOp; simp only [h0]; exact h
    obtain ⟨v, hy, hK⟩ := yieldsIn_of_qOp h0 hst
    exact wpAnyLQ_gate h0 (Region.noSelect_spec hsel) hwait hkn (fun listed' a' hL j hj => by
        rw [hL.1] at hj
        have := List.all_eq_true.1 hfin j hj
        simpa using this) l.length listed a inv (Region.free_spec h0 hfr) hr' hy
      (wpAnyLQ_lexg hsel hwait hfin l (k + 1) _ _ (fun j hj => by have := hl (j + 1) (by simp; omega); simpa [Nat.add_assoc, Nat.add_comm 1 j] using this) (by simp only [List.length_cons] at hk; omega) (inv.set hr' hkn) hB' hf hK)

/-- The first m + 1 operations in one quiet walk; what follows in whatever order, from there on. -/
theorem wp_region_gate {id : Nat} {Q : Exit → Act → World → Prop} {a : Act} {w : World} {l : List Oper} (m : Nat) (hm : P.follows .mixedOrders = true) (hB : gated .any l.toArray m = true)
    (h : wpQuiet P l.toArray (fun w' => ∃ p : Regrown, w' = grow (redrawn w p.d) p.os) (fun a' => ∀ w', (∃ p : Regrown, w' = grow (redrawn w p.d) p.os) → wpAny P .any l.toArray Q (l.length - (m + 1)) (lexFin (m + 1) 0 (Array.replicate l.length false)) a' w') (l.take (m + 1)) a) : (Code.region id l.toArray true).wp P Q a w := by
  simp only [gated, Bool.and_eq_true, decide_eq_true_eq] at hB
  obtain ⟨⟨⟨⟨⟨hsel, hn⟩, hs⟩, hg⟩, hlex⟩, hfin⟩ := hB
  have hn' : m + 1 ≤ l.length := by simpa using hn
  have htl : (l.take (m + 1)).length = m + 1 := by simp; omega
  have hsz : l.toArray.size = l.length := by simp
  rw [hsz] at hlex hfin
  have inv0 : HeadInv .any l.toArray (m + 1) (Array.replicate l.length false) :=
    ⟨by simp, fun j oj _ hl => (by rw [getD_replicate_false] at hl; cases hl), fun t _ ht => getD_in (by simpa using ht) (getD_replicate_false _ _)⟩
  have H := wpAnyLQ_lexg (C := fun w' => ∃ p : Regrown, w' = grow (redrawn w p.d) p.os) (md := .any) (fin := lexFin (m + 1) 0 (Array.replicate l.length false)) hsel (fun _ inv => gate_waits hs hg inv) hfin (l.take (m + 1)) 0 _ a (fun j hj => by
    have hj' : j < m + 1 := by rw [htl] at hj; exact hj
    simp [hj']) (by simpa using htl) inv0 (by rw [htl]; exact hlex) (by rw [htl]) h
  refine wp_region_any hm ?_
  have := wpAny_of_headQ (C := fun w' => ∃ p : Regrown, w' = grow (redrawn w p.d) p.os) (Q' := Q) (g := l.length - (m + 1)) (fun listed a' w' hw' hL => by
    rw [hL.1]
    exact hL.2 w' hw') _ _ _ w.drew ⟨⟨w.drawn + 1, #[]⟩, by rw [grow_empty]; rfl⟩ H
  rw [htl, show m + 1 + (l.length - (m + 1)) = l.length by omega] at this
  simpa using this

/-! A call in the middle: n quiet operations ahead of it, all that follows leaves the world alone. -/
def rootB (md : Region.Mode) (ops : Array Oper) (n : Nat) : Bool :=
  (List.range ops.size).all fun t => decide (t ≤ n) || (List.range t).any fun j => decide (n ≤ j) && Region.waitsFor md ops t j
def midB (md : Region.Mode) (ops : Array Oper) (n : Nat) : Bool :=
  Region.noSelect ops && decide (n < ops.size) && Region.sinkB md ops n && rootB md ops n && lexTo md ops n 0 (Array.replicate ops.size false) &&
    decide (Region.ready md ops (lexFin n 0 (Array.replicate ops.size false)) = [n]) && Region.lexFrom md ops (ops.size - (n + 1)) (n + 1) ((lexFin n 0 (Array.replicate ops.size false)).setIfInBounds n true)

theorem root_waits {n : Nat} {listed : Array Bool} (hs : Region.sinkB md ops n = true) (hg : rootB md ops n = true) (inv : HeadInv md ops n listed) :
    ∀ (i : Nat), i < n → listed.getD i true = false → ∀ t, n ≤ t → t ∉ Region.ready md ops listed := by
  intro i hi hun t ht hr
  obtain ⟨_, ot, hot, hall⟩ := mem_ready.1 hr
  have htlt : t < ops.size := (Array.getElem?_eq_some_iff.1 hot).1
  have h1 := List.all_eq_true.1 hg t (List.mem_range.2 htlt)
  simp only [Bool.or_eq_true, decide_eq_true_eq] at h1
  rcases h1 with h1 | h1
  · have htn : t = n := by omega
    subst htn
    have key : ∀ (d i : Nat), t - i = d → i < t → listed.getD i false = true := by
      intro d
      induction d using Nat.strongRecOn with
      | _ d ih =>
        intro i hd hi
        have h2 := List.all_eq_true.1 hs i (List.mem_range.2 hi)
        obtain ⟨j, hj, hj2⟩ := List.any_eq_true.1 h2
        simp only [Bool.and_eq_true, decide_eq_true_eq] at hj2
        obtain ⟨oj, hoj, e', he, hb, hon⟩ := Region.waitsFor_spec hj2.2
        have hjle : j ≤ t := by have := List.mem_range.1 hj; omega
        by_cases hjt : j = t
        · subst hjt
          have : oj = ot := Option.some.inj (hoj.symm.trans hot)
          subst this
          have h3 := hall e' he hb
          rwa [hon] at h3
        · have hl := ih (t - j) (by omega) j rfl (by omega)
          have h3 := inv.closed j oj hoj hl e' he hb
          rwa [hon] at h3
    have h4 := key _ i rfl hi
    rw [getD_both hun] at h4
    cases h4
  · obtain ⟨j, hj, hj2⟩ := List.any_eq_true.1 h1
    simp only [Bool.and_eq_true, decide_eq_true_eq] at hj2
    obtain ⟨o', ho', e, he, hb, hon⟩ := Region.waitsFor_spec hj2.2
    have : o' = ot := Option.some.inj (ho'.symm.trans hot)
    subst this
    have h2 := hall e he hb
    have hjt : j < t := List.mem_range.1 hj
    rw [hon, getD_both (inv.tail j hj2.1 (by omega))] at h2
    cases h2

theorem wpOp_of {Q : Exit → Act → World → Prop} {i : Nat} {o : Oper} {K : Act → World → Prop} {a : Act} {w : World} (ho : ops[i]? = some o)
    (h : if Region.wanted o (yielded ops a.tmps) = true then Oper.wp P o a w K Q else K (a.put o.dst undef) w) : wpOp P ops Q i K a w := by
  unfold wpOp
  simp only [ho]
  split
  · rename_i hw; simp only [hw, if_true] at h; exact .inl h
  · rename_i hw; simp only [hw] at h; exact h

theorem wp_region_call {id : Nat} {Q : Exit → Act → World → Prop} {a : Act} {w : World} {l : List Oper} (n : Nat) (hm : P.follows .mixedOrders = true) (hB : midB .any l.toArray n = true)
    (h : wpQuiet P l.toArray (fun w' => ∃ p : Regrown, w' = grow (redrawn w p.d) p.os) (fun a' => ∀ w', (∃ p : Regrown, w' = grow (redrawn w p.d) p.os) →
      ∀ K : Act → World → Prop, (∀ a'' w'', wpStill P l.toArray w'' (fun a3 => Q .normal a3 w'') (l.drop (n + 1)) a'' → K a'' w'') → wpOp P l.toArray Q n K a' w') (l.take n) a) : (Code.region id l.toArray true).wp P Q a w := by
  simp only [midB, Bool.and_eq_true, decide_eq_true_eq] at hB
  obtain ⟨⟨⟨⟨⟨⟨hsel, hn⟩, hs⟩, hg⟩, hlex⟩, hfin⟩, hrest⟩ := hB
  have hn' : n < l.length := by simpa using hn
  have htl : (l.take n).length = n := by simp; omega
  have hdl : (l.drop (n + 1)).length = l.length - (n + 1) := by simp
  have hsz : l.toArray.size = l.length := by simp
  rw [hsz] at hlex hfin hrest
  have inv0 : HeadInv .any l.toArray n (Array.replicate l.length false) :=
    ⟨by simp, fun j oj _ hl => (by rw [getD_replicate_false] at hl; cases hl), fun t _ ht => getD_in (by simpa using ht) (getD_replicate_false _ _)⟩
  have H := wpAnyLQ_lexg (C := fun w' => ∃ p : Regrown, w' = grow (redrawn w p.d) p.os) (md := .any) (fin := lexFin n 0 (Array.replicate l.length false)) hsel (fun _ inv => root_waits hs hg inv) (by rw [hfin]; simp) (l.take n) 0 _ a (fun j hj => by
    have hj' : j < n := by rw [htl] at hj; exact hj
    simp [hj']) (by simpa using htl) inv0 (by rw [htl]; exact hlex) (by rw [htl]) h
  refine wp_region_any hm ?_
  have := wpAny_of_headQ (C := fun w' => ∃ p : Regrown, w' = grow (redrawn w p.d) p.os) (Q' := Q) (g := (l.length - (n + 1)) + 1) (fun listed a' w' hw' hL => by
    obtain ⟨rfl, hL⟩ := hL
    refine ⟨fun h0 => (by rw [hfin] at h0; cases h0), fun i hi => ?_⟩
    rw [hfin] at hi
    have hin : i = n := by simpa using hi
    subst hin
    refine hL w' hw' _ (fun a'' w'' hst => ?_)
    have hS := wpAnyS_lex (md := .any) (w := w'') hsel (l.drop (i + 1)) (i + 1) ((lexFin i 0 (Array.replicate l.length false)).setIfInBounds i true) a'' (fun j => by simp [List.getElem?_drop]) (by rw [hdl]; exact hrest) hst
    rw [hdl] at hS
    exact wpAny_of_still (Q' := Q) (fun _ h => h) _ _ _ hS) _ _ _ w.drew ⟨⟨w.drawn + 1, #[]⟩, by rw [grow_empty]; rfl⟩ H
  rw [htl, show n + ((l.length - (n + 1)) + 1) = l.length by omega] at this
  simpa using this

/-- what is forced, by its numbers -/
def idxB (md : Region.Mode) (ops : Array Oper) : List Nat → Array Bool → Bool
  | [], listed => (Region.ready md ops listed).isEmpty
  | k :: ks, listed => decide (Region.ready md ops listed = [k]) && idxB md ops ks (listed.setIfInBounds k true)
def pickL (ks : List Nat) (l : List Oper) : List Oper := ks.flatMap fun k => (l.drop k).take 1
theorem wpAny_of_idx {Q' : Exit → Act → World → Prop} {l : List Oper} : ∀ (ks : List Nat) (listed : Array Bool) (a : Act) (w : World),
    idxB md l.toArray ks listed = true → wpList P l.toArray Q' (pickL ks l) a w → wpAny P md l.toArray Q' ks.length listed a w
  | [], _, _, _, hB, h => ⟨by simpa [idxB] using hB, h⟩
  | k :: ks, listed, a, w, hB, h => by
    simp only [idxB, Bool.and_eq_true, decide_eq_true_eq] at hB
    have hk : k ∈ Region.ready md l.toArray listed := by rw [hB.1]; simp
    obtain ⟨_, o, ho, _⟩ := mem_ready.1 hk
    have ho' : l[k]? = some o := by simpa using ho
    have hp : pickL (k :: ks) l = o :: pickL ks l := by
      have hkl : k < l.length := (List.getElem?_eq_some_iff.1 ho').1
      have e : (l.drop k).take 1 = [o] := by
        rw [List.drop_eq_getElem_cons hkl]
        have := (List.getElem?_eq_some_iff.1 ho').2
        simp [this]
      simp [pickL, e]
    rw [hp] at h
    refine ⟨fun h1 => (by rw [hB.1] at h1; cases h1), fun i hi => ?_⟩
    rw [hB.1] at hi
    have hik : i = k := by simpa using hi
    subst hik
    have hw : wpOp P l.toArray Q' i (wpList P l.toArray Q' (pickL ks l)) a w := by unfold wpOp; simp only [ho]; exact h
    exact wpOp_mono (fun a' w' h' => wpAny_of_idx ks _ a' w' hB.2 h') hw

theorem wp_region_quiet_tail {id : Nat} {Q : Exit → Act → World → Prop} {a : Act} {w : World} {l : List Oper} (n : Nat) (hm : P.follows .mixedOrders = true) (hB : Region.lexTailB .any l.toArray n = true) (hC : C { w with drawn := w.drawn + 1 })
    (h : wpQuiet P l.toArray C (fun a' => ∀ w', C w' → wpList P l.toArray Q (l.drop n) a' w') (l.take n) a) : (Code.region id l.toArray true).wp P Q a w := by
  simp only [Region.lexTailB, Bool.and_eq_true, decide_eq_true_eq] at hB
  obtain ⟨⟨⟨⟨hsel, hn⟩, hs⟩, hc⟩, hlex⟩ := hB
  have hn' : n < l.length := by simpa using hn
  have htl : (l.take n).length = n := by simp; omega
  have hdl : (l.drop n).length = l.toArray.size - n := by simp
  have inv0 : HeadInv .any l.toArray n (Array.replicate l.toArray.size false) :=
    ⟨by simp, fun j oj _ hl => (by rw [getD_replicate_false] at hl; cases hl), fun t _ ht => getD_in (by simpa using ht) (getD_replicate_false _ _)⟩
  have H := wpAnyLQ_lex (C := C) (md := .any) (g := l.toArray.size - n) hsel hs hc hn (l.take n) 0 _ a (fun j hj => by
    have hj' : j < n := by rw [htl] at hj; exact hj
    simp [hj']) (by simpa using htl) inv0 (by rw [htl]; exact hlex) h
  refine wp_region_any hm ?_
  have := wpAny_of_headQ (C := C) (Q' := Q) (g := l.toArray.size - n) (fun listed a' w' hw' hL => by
    have := wpAny_of_seq (md := .any) (Q' := Q) (l.drop n) n listed a' w' (fun j => by simp [List.getElem?_drop]) (by rw [hdl]; exact hL.1) (hL.2 w' hw')
    rwa [hdl] at this) _ _ _ _ hC H
  rw [htl, show n + (l.toArray.size - n) = l.toArray.size by omega] at this
  exact this

/-- at the class 'w, some draws, some new blocks' -/
theorem wp_region_grown_tail {id : Nat} {Q : Exit → Act → World → Prop} {a : Act} {w : World} {l : List Oper} (n : Nat) (hm : P.follows .mixedOrders = true) (hB : Region.lexTailB .any l.toArray n = true)
    (h : wpQuiet P l.toArray (fun w' => ∃ p : Regrown, w' = grow (redrawn w p.d) p.os) (fun a' => ∀ w', (∃ p : Regrown, w' = grow (redrawn w p.d) p.os) → wpList P l.toArray Q (l.drop n) a' w') (l.take n) a) : (Code.region id l.toArray true).wp P Q a w :=
  wp_region_quiet_tail (C := fun w' => ∃ p : Regrown, w' = grow (redrawn w p.d) p.os) n hm hB ⟨⟨w.drawn + 1, #[]⟩, by rw [grow_empty]; rfl⟩ h
end
end Go.Proofs.YtolaabllhibkdaaGreat

/- A region that draws its order, in which a new variable is made by an operation that waits for nothing, and what a call hands back is stored into it: all the others are quiet, whatever stands behind the world: one walk of theirs serves every order. No condition. -/
namespace Go.Proofs.YtolaabllhibkdaaGreat
open Go.Sort Go.RowKit
set_option linter.unusedSimpArgs false
set_option linter.unusedVariables false
section
variable {P : Program} {ops : Array Oper} {md : Region.Mode}
/-- The worlds behind b. -/
def UpOf (b : World) : World → Prop := fun w' => ∃ p : Regrown, w' = grow (redrawn b p.d) p.os
theorem UpOf.below {b w' : World} (h : UpOf b w') : Below b.heap.size b w' := by
  obtain ⟨p, rfl⟩ := h
  exact below_regrown b p.d p.os
theorem UpOf.of {b w' : World} (h : Below b.heap.size b w') : UpOf b w' := regrown_of_below h
theorem UpOf.refl (w : World) : UpOf w w := UpOf.of (Below.refl _ _)
def lexIdx (md : Region.Mode) (ops : Array Oper) : List Nat → Array Bool → Bool
  | [], listed => (Region.ready md ops listed).isEmpty
  | k :: ks, listed => (Region.ready md ops listed).contains k && Region.free md ops listed k && lexIdx md ops ks (listed.setIfInBounds k true)
theorem wpAnyQ_idx {C : World → Prop} {Q : Act → Prop} {l : List Oper} (hs : Region.noSelect l.toArray = true) : ∀ (ks : List Nat) (listed : Array Bool) (a : Act),
    lexIdx md l.toArray ks listed = true → wpQuiet P l.toArray C Q (pickL ks l) a → wpAnyQ P md l.toArray C Q ks.length listed a
  | [], _, _, hB, h => ⟨by simpa [lexIdx] using hB, h⟩
  | k :: ks, listed, a, hB, h => by
    simp only [lexIdx, Bool.and_eq_true] at hB
    obtain ⟨⟨hr, hf⟩, hB'⟩ := hB
    have hk : k ∈ Region.ready md l.toArray listed := by simpa using hr
    obtain ⟨_, o, ho, _⟩ := mem_ready.1 hk
    have ho' : l[k]? = some o := by simpa using ho
    have hp : pickL (k :: ks) l = o :: pickL ks l := by
      have hkl : k < l.length := (List.getElem?_eq_some_iff.1 ho').1
      have e : (l.drop k).take 1 = [o] := by
        rw [List.drop_eq_getElem_cons hkl]
        have := (List.getElem?_eq_some_iff.1 ho').2
        simp [this]
      simp [pickL, e]
    rw [hp] at h
    have hst : qOp P l.toArray C k (wpQuiet P l.toArray C Q (pickL ks l)) a := by unfold qOp; simp only [ho]; exact h
    obtain ⟨v, hy, hK⟩ := yieldsIn_of_qOp ho hst
    exact wpAnyQ_first ho (Region.noSelect_spec hs) ks.length listed a (Region.free_spec ho hf) hk hy (wpAnyQ_idx hs ks _ _ hB' hK)

theorem put_tmps (a : Act) (d : Option Tmp) (v : Value) (e : Tmp) (h : d ≠ some e) : (a.put d v).tmps[e]? = a.tmps[e]? := by
  cases d with
  | none => rfl
  | some d =>
    have hne : d ≠ e := fun he => h (by rw [he])
    simp [Act.put, Array.getElem?_setIfInBounds_ne hne]
theorem put_size (a : Act) (d : Option Tmp) (v : Value) : (a.put d v).tmps.size = a.tmps.size := by
  cases d <;> simp [Act.put]
/-- What an operation left stays: the frame at the end is known, and none that is to come writes there. -/
theorem wpAnyQ_end {C : World → Prop} {F : Act} {e : Tmp} : ∀ (f : Nat) (listed : Array Bool) (a : Act), (∀ j oj, ops[j]? = some oj → listed.getD j true = false → oj.dst ≠ some e) →
    wpAnyQ P md ops C (fun a' => a' = F) f listed a → a.tmps[e]? = F.tmps[e]?
  | 0, _, _, _, h => by rw [h.2]
  | f + 1, listed, a, hd, h => by
    cases hr : Region.ready md ops listed with
    | nil => rw [h.1 hr]
    | cons i is =>
      have hi : i ∈ Region.ready md ops listed := by rw [hr]; simp
      obtain ⟨hun, oi, hoi, _⟩ := mem_ready.1 hi
      obtain ⟨v, _, hK⟩ := yieldsIn_of_qOp hoi (h.2 i hi)
      have := wpAnyQ_end f (listed.setIfInBounds i true) (a.put oi.dst v) (fun j oj hj hl => by
        by_cases hij : i = j
        · subst hij
          have : oj = oi := Option.some.inj (hj.symm.trans hoi)
          subst this
          exact hd i oj hj hun
        · rw [getD_set_ne true hij] at hl
          exact hd j oj hj hl) hK
      rw [← this, put_tmps _ _ _ _ (hd i oi hoi hun)]
theorem wpAnyQ_put {C : World → Prop} {F : Act} {f : Nat} {listed : Array Bool} {a : Act} {d : Option Tmp} {v v' : Value} (hv : ∀ e, d = some e → e < a.tmps.size → (a.put d v').tmps[e]? = F.tmps[e]?)
    (hw : ∀ e, d = some e → e < a.tmps.size → (a.put d v).tmps[e]? = F.tmps[e]?) (h : wpAnyQ P md ops C (fun a' => a' = F) f listed (a.put d v)) : wpAnyQ P md ops C (fun a' => a' = F) f listed (a.put d v') := by
  have e : a.put d v' = a.put d v := by
    cases d with
    | none => rfl
    | some d =>
      by_cases hs : d < a.tmps.size
      · have h1 := hv d rfl hs
        have h2 := hw d rfl hs
        have e1 : (a.put (some d) v').tmps[d]? = some v' := by simp [Act.put, hs]
        have e2 : (a.put (some d) v).tmps[d]? = some v := by simp [Act.put, hs]
        rw [e1] at h1
        rw [e2] at h2
        have := Option.some.inj (h1.trans h2.symm)
        rw [this]
      · simp only [Act.put]
        have hs' : a.tmps.size ≤ d := Nat.not_lt.1 hs
        rw [Array.setIfInBounds_eq_of_size_le hs', Array.setIfInBounds_eq_of_size_le hs']
  rw [e]
  exact h
def dstOnce (ops : Array Oper) : Bool :=
  (List.range ops.size).all fun i => (List.range ops.size).all fun j => decide (i = j) || match ops[i]?, ops[j]? with
    | some oi, some oj => oi.dst.isNone || decide (oi.dst ≠ oj.dst)
    | _, _ => true
theorem dstOnce_spec (h : dstOnce ops = true) {i j : Nat} {oi oj : Oper} {e : Tmp} (hi : ops[i]? = some oi) (hj : ops[j]? = some oj) (hij : i ≠ j) (he : oi.dst = some e) : oj.dst ≠ some e := by
  have hil : i < ops.size := (Array.getElem?_eq_some_iff.1 hi).1
  have hjl : j < ops.size := (Array.getElem?_eq_some_iff.1 hj).1
  have h1 := List.all_eq_true.1 (List.all_eq_true.1 h i (List.mem_range.2 hil)) j (List.mem_range.2 hjl)
  simp only [hi, hj, he, Bool.or_eq_true, decide_eq_true_eq, Option.isNone_some, Bool.false_eq_true, false_or] at h1
  rcases h1 with h1 | h1
  · exact absurd h1 hij
  · exact fun h => h1 h.symm
def lexOrd (md : Region.Mode) (ops : Array Oper) : Bool :=
  (List.range ops.size).all fun i => match ops[i]? with
    | some o => o.after.all fun e => !Region.binds md e || decide (e.on < i)
    | none => true
/-- Where none is ready, all have come up. -/
theorem all_listed (h : lexOrd md ops = true) {listed : Array Bool} (hr : Region.ready md ops listed = []) (hsz : listed.size = ops.size) : ∀ i, i < ops.size → listed.getD i true = true := by
  intro i
  induction i using Nat.strongRecOn with
  | _ i ih =>
    intro hi
    cases hl : listed.getD i true with
    | true => rfl
    | false =>
      have h1 := List.all_eq_true.1 h i (List.mem_range.2 hi)
      have hoi : ops[i]? = some ops[i] := Array.getElem?_eq_getElem hi
      have : i ∈ Region.ready md ops listed := by
        refine mem_ready.2 ⟨hl, ops[i], hoi, fun e he hb => ?_⟩
        simp only [hoi] at h1
        have h2 := Array.all_eq_true_iff_forall_mem.1 h1 e he
        simp only [hb, Bool.not_true, Bool.false_or, decide_eq_true_eq] at h2
        have h3 := ih e.on h2 (by omega)
        have h4 : e.on < listed.size := by omega
        simp [h4] at h3 ⊢
        exact h3
      rw [hr] at this
      cases this
structure NewVar (md : Region.Mode) (ops : Array Oper) (m s : Nat) (om os : Oper) (dm dv : Tmp) (T : TypeId) : Prop where
  lex : lexOrd md ops = true
  once : dstOnce ops = true
  sel : Region.noSelect ops = true
  hm : ops[m]? = some om
  hs : ops[s]? = some os
  md_ : om.dst = some dm
  sd : os.dst = none
  mg : om.guard = none
  sg : os.guard = none
  ma : ∀ e ∈ om.after, Region.binds md e = false
  store : os.op = .store T (.tmp dm) (.tmp dv)
  ne : dm ≠ dv
  waits : Region.waitsFor md ops s m = true
  value : ∀ k ok, ops[k]? = some ok → ok.dst = some dv → Region.waitsFor md ops s k = true
  apart : ∀ k ok, ops[k]? = some ok → k ≠ m → k ≠ s → om.apart ops ok = true
def newVarB (md : Region.Mode) (ops : Array Oper) (m s : Nat) (om os : Oper) (dm dv : Tmp) : Bool :=
  lexOrd md ops && dstOnce ops && Region.noSelect ops && decide (om.dst = some dm) && decide (os.dst = none) && om.guard.isNone && os.guard.isNone && om.after.all (fun e => !Region.binds md e) && decide (dm ≠ dv) &&
    Region.waitsFor md ops s m && ((List.range ops.size).all fun k => match ops[k]? with
      | some ok => (decide (ok.dst ≠ some dv) || Region.waitsFor md ops s k) && (decide (k = m) || decide (k = s) || om.apart ops ok)
      | none => true)
theorem NewVar.of {m s : Nat} {om os : Oper} {dm dv : Tmp} {T : TypeId} (hm : ops[m]? = some om) (hs : ops[s]? = some os) (hst : os.op = .store T (.tmp dm) (.tmp dv)) (h : newVarB md ops m s om os dm dv = true) : NewVar md ops m s om os dm dv T := by
  simp only [newVarB, Bool.and_eq_true, decide_eq_true_eq] at h
  obtain ⟨⟨⟨⟨⟨⟨⟨⟨⟨⟨h1, h2⟩, h3⟩, h4⟩, h5⟩, h6⟩, h7⟩, h8⟩, h9⟩, h10⟩, h11⟩ := h
  refine ⟨h1, h2, h3, hm, hs, h4, h5, by simpa using h6, by simpa using h7, fun e he => ?_, hst, h9, h10, fun k ok hk hd => ?_, fun k ok hk hkm hks => ?_⟩
  · have := Array.all_eq_true_iff_forall_mem.1 h8 e he
    simpa using this
  · have h := List.all_eq_true.1 h11 k (List.mem_range.2 (Array.getElem?_eq_some_iff.1 hk).1)
    simp only [hk, Bool.and_eq_true, Bool.or_eq_true, decide_eq_true_eq, hd] at h
    simpa using h.1
  · have h := List.all_eq_true.1 h11 k (List.mem_range.2 (Array.getElem?_eq_some_iff.1 hk).1)
    simp only [hk, Bool.and_eq_true, Bool.or_eq_true, decide_eq_true_eq, hkm, hks, false_or] at h
    exact h.2
variable {m s : Nat} {om os : Oper} {dm dv : Tmp} {T : TypeId} {F : Act} {w : World}
/-- All but the variable's own operations, from every world behind w. -/
def Rest (P : Program) (md : Region.Mode) (ops : Array Oper) (F : Act) (w : World) (f : Nat) (V : Array Bool) (a : Act) : Prop :=
  ∀ b, Below w.heap.size w b → wpAnyQ P md ops (UpOf b) (fun a' => a' = F) f V a
theorem rest_step (N : NewVar md ops m s om os dm dv T) {f i : Nat} {V : Array Bool} {a : Act} {w' : World} {od : Option Tmp} {pv : Value} {Q' : Exit → Act → World → Prop} {K : Act → World → Prop} (hod : od = none ∨ od = some dm) (hB : Below w.heap.size w w') (hR : Rest P md ops F w (f + 1) V a) (hi : i ∈ Region.ready md ops V) (hm : i ≠ m) (hs : i ≠ s)
    (hVs : V.size = ops.size) (hK : ∀ a1 w'', Below w'.heap.size w' w'' → a1.tmps.size = a.tmps.size → Rest P md ops F w f (V.setIfInBounds i true) a1 → K (a1.put od pv) w'') : wpOp P ops Q' i K (a.put od pv) w' := by
  obtain ⟨hun, oi, hoi, _⟩ := mem_ready.1 hi
  have hsel := N.sel
  have hap := N.apart i oi hoi hm hs
  obtain ⟨h1, h2, h3⟩ := Oper.apart_spec hap
  have hlook : ∀ d, od = some d → d ∉ oi.looksAt ops := fun d hd => by
    rcases hod with rfl | rfl
    · cases hd
    · injection hd with hd
      subst hd
      exact h1 _ N.md_
  have hdst : ∀ d, od = some d → oi.dst ≠ some d := fun d hd => by
    rcases hod with rfl | rfl
    · cases hd
    · injection hd with hd
      subst hd
      exact h2 _ N.md_
  have hend : ∀ (b : World) (v : Value), wpAnyQ P md ops (UpOf b) (fun a' => a' = F) f (V.setIfInBounds i true) (a.put oi.dst v) → ∀ e, oi.dst = some e → e < a.tmps.size → (a.put oi.dst v).tmps[e]? = F.tmps[e]? := fun b v h e he _ => by
    refine wpAnyQ_end f _ _ (fun j oj hj hl => ?_) h
    by_cases hij : i = j
    · subst hij
      have hlt : i < V.size := by rw [hVs]; exact (Array.getElem?_eq_some_iff.1 hoi).1
      simp [hlt] at hl
    · exact dstOnce_spec N.once hoi hj hij he
  obtain ⟨v, hy, hW⟩ := yieldsIn_of_qOp hoi ((hR w' hB).2 i hi)
  have hy' : YieldsIn P ops (UpOf w') oi v (a.put od pv) := hy.of_same (execOp_put oi (fun cs b => Region.noSelect_spec hsel i oi cs b hoi) a od pv hlook) (wanted_put oi a od pv hlook)
  have hall : Rest P md ops F w f (V.setIfInBounds i true) (a.put oi.dst v) := fun b hb => by
    obtain ⟨v', _, hW'⟩ := yieldsIn_of_qOp hoi ((hR b hb).2 i hi)
    exact wpAnyQ_put (hend w' v hW) (hend b v' hW') hW'
  have hq := hy'.qOp hoi (K := fun a'' => a'' = (a.put oi.dst v).put od pv) (Act.put_comm a pv v hdst)
  refine wpOp_of_qOp (C := UpOf w') (UpOf.refl w') (fun a'' w'' hw'' ha'' => ?_) hq
  rw [ha'']
  exact hK _ _ hw''.below (put_size _ _ _) hall

def Made (w : World) (T : TypeId) (cs : Array Value) (b : Nat) (w' : World) : Prop := w.heap.size ≤ b ∧ Blok w' b T cs ∧ Below w.heap.size w w'
theorem Made.below {w w' w'' : World} {cs : Array Value} {b : Nat} (h : Made w T cs b w') (hb : Below w'.heap.size w' w'') : Made w T cs b w'' :=
  ⟨h.1, h.2.1.below hb h.2.1.lt, h.2.2.trans (hb.mono h.2.2.size)⟩
theorem ready_of {listed : Array Bool} {V : Array Bool} (hV : ∀ j, listed.getD j true = true → V.getD j true = true) (hne : ∀ j, listed.getD j false = true → V.getD j false = true) {i : Nat} (hi : i ∈ Region.ready md ops listed) (hu : V.getD i true = false) : i ∈ Region.ready md ops V := by
  obtain ⟨_, o, ho, hall⟩ := mem_ready.1 hi
  exact mem_ready.2 ⟨hu, o, ho, fun e he hb => hne _ (hall e he hb)⟩

/-- The variable is made and filled: all the others. -/
theorem nv_done (N : NewVar md ops m s om os dm dv T) {cs : Array Value} {b : Nat} {Q' : Exit → Act → World → Prop} (hQ : ∀ w', Made w T cs b w' → Q' .normal (F.put (some dm) (.pointer (some ⟨b, 0, none⟩))) w') :
    ∀ (f : Nat) (V : Array Bool) (a : Act) (w' : World), V.size = ops.size → V.getD m true = true → V.getD s true = true → Made w T cs b w' → Rest P md ops F w f V a → wpAny P md ops Q' f V (a.put (some dm) (.pointer (some ⟨b, 0, none⟩))) w'
  | 0, V, a, w', _, _, _, hM, hR => by
    have h := hR w' hM.2.2
    exact ⟨h.1, by rw [show a = F from h.2]; exact hQ w' hM⟩
  | f + 1, V, a, w', hsz, hvm, hvs, hM, hR => by
    refine ⟨fun h0 => by rw [show a = F from (hR w' hM.2.2).1 h0]; exact hQ w' hM, fun i hi => ?_⟩
    have hun := (mem_ready.1 hi).1
    refine rest_step N (.inr rfl) hM.2.2 hR hi (fun e => by rw [e, hvm] at hun; cases hun) (fun e => by rw [e, hvs] at hun; cases hun) hsz fun a1 w'' hb _ hR1 => ?_
    exact nv_done N hQ f _ a1 w'' (by simp [hsz]) (by
      by_cases e : i = m
      · subst e; rw [hvm] at hun; cases hun
      · rw [getD_set_ne true e]; exact hvm) (by
      by_cases e : i = s
      · subst e; rw [hvs] at hun; cases hun
      · rw [getD_set_ne true e]; exact hvs) (hM.below hb) hR1
theorem set_below {w w' : World} (b : Nat) (hb : w.heap.size ≤ b) : ∀ (vs : List Value) (o : Nat), Below w.heap.size w w' → Below w.heap.size w (w'.setCells b o vs)
  | [], _, h => h
  | v :: r, o, h => by
    rw [World.setCells]
    exact set_below b hb r (o + 1) (h.setCell (p := ⟨b, o, none⟩) hb v)
theorem set_blok {b : Nat} : ∀ (vs : List Value) (o : Nat) (w' : World) (cs : Array Value), Blok w' b T cs → o + vs.length = cs.size → ∃ cs', Blok (w'.setCells b o vs) b T cs' ∧ cs'.size = cs.size ∧ (∀ j, j < o → cs'[j]? = cs[j]?) ∧ ∀ j, j < vs.length → cs'[o + j]? = vs[j]?
  | [], o, w', cs, h, _ => ⟨cs, h, rfl, fun _ _ => rfl, fun j hj => by simp at hj⟩
  | v :: r, o, w', cs, h, hl => by
    rw [World.setCells]
    simp only [List.length_cons] at hl
    obtain ⟨cs', h1, h2, h3, h4⟩ := set_blok r (o + 1) (w'.setCell ⟨b, o, none⟩ v) (cs.setIfInBounds o v) (h.set_ o v) (by simp; omega)
    refine ⟨cs', h1, by simpa using h2, fun j hj => ?_, fun j hj => ?_⟩
    · rw [h3 j (by omega), Array.getElem?_setIfInBounds_ne (by omega)]
    · cases j with
      | zero =>
        rw [Nat.add_zero, h3 o (by omega), Array.getElem?_setIfInBounds_self_of_lt (by omega)]
        rfl
      | succ j =>
        simp only [List.length_cons] at hj
        have := h4 j (by omega)
        rw [show o + (j + 1) = o + 1 + j by omega, this]
        rfl
theorem set_whole {b : Nat} {w' : World} {zs cs : Array Value} (h : Blok w' b T zs) (hz : cs.size = zs.size) : Blok (w'.setCells b 0 cs.toList) b T cs := by
  obtain ⟨cs', h1, h2, _, h4⟩ := set_blok cs.toList 0 w' zs h (by simpa using hz)
  have e : cs' = cs := by
    apply Array.ext_getElem?
    intro j
    by_cases hj : j < cs.size
    · have := h4 j (by simpa using hj)
      rw [Nat.zero_add] at this
      rw [this]
      simp
    · rw [Array.getElem?_eq_none (by omega), Array.getElem?_eq_none (by omega)]
  rwa [e] at h1
theorem setD_same {R : Array Bool} {i : Nat} (h : i < R.size) : (R.setIfInBounds i true).getD i true = true := by simp [h]
theorem wanted_plain {o : Oper} {a : Act} (h : o.guard = none) : Region.wanted o (yielded ops a.tmps) = true := by unfold Region.wanted; rw [h]
/-- One step, the variable made and not filled. -/
theorem nv_made_step (N : NewVar md ops m s om os dm dv T) {zs cs : Array Value} {b : Nat} {Q' : Exit → Act → World → Prop} (hz : cs.size = zs.size) (hi : (P.info? T).map (·.size) = some cs.size) (h1 : cs.all (·.oneCell') = true) (hF : F.tmps[dv]? = some (.agg cs)) (hdm : dm < F.tmps.size)
    (hQ : ∀ w', Made w T cs b w' → Q' .normal (F.put (some dm) (.pointer (some ⟨b, 0, none⟩))) w') (f : Nat)
    (ih : ∀ g, g + 1 = f → ∀ (R : Array Bool) (a : Act) (w' : World), R.size = ops.size → R.getD m true = true → R.getD s true = false → a.tmps.size = F.tmps.size → Made w T zs b w' → Rest P md ops F w g (R.setIfInBounds s true) a → wpAny P md ops Q' (g + 1) R (a.put (some dm) (.pointer (some ⟨b, 0, none⟩))) w')
    (R : Array Bool) (a : Act) (w' : World) (hsz : R.size = ops.size) (hrm : R.getD m true = true) (hrs : R.getD s true = false) (has : a.tmps.size = F.tmps.size) (hM : Made w T zs b w') (hR : Rest P md ops F w f (R.setIfInBounds s true) a) : wpAny P md ops Q' (f + 1) R (a.put (some dm) (.pointer (some ⟨b, 0, none⟩))) w' := by
  have hsl : s < ops.size := (Array.getElem?_eq_some_iff.1 N.hs).1
  have hml : m < ops.size := (Array.getElem?_eq_some_iff.1 N.hm).1
  refine ⟨fun h0 => absurd (all_listed N.lex h0 hsz s hsl) (by rw [hrs]; simp), fun i hir => ?_⟩
  have hun := (mem_ready.1 hir).1
  have him : i ≠ m := fun e => by rw [e, hrm] at hun; cases hun
  by_cases his : i = s
  · subst his
    have hdv : a.tmps[dv]? = some (.agg cs) := by
      rw [← hF]
      refine wpAnyQ_end f _ _ (fun j oj hj hl hd => ?_) (hR w' hM.2.2)
      have hji : i ≠ j := fun e => by
        subst e
        rw [setD_same (by omega)] at hl
        cases hl
      rw [getD_set_ne true hji] at hl
      obtain ⟨o', ho', e, he, hb, hon⟩ := Region.waitsFor_spec (N.value j oj hj hd)
      obtain ⟨_, o2, ho2, hall⟩ := mem_ready.1 hir
      obtain rfl : o2 = o' := Option.some.inj (ho2.symm.trans ho')
      have := hall e he hb
      rw [hon, getD_both hl] at this
      cases this
    unfold wpOp
    simp only [N.hs]
    rw [if_pos (wanted_plain N.sg)]
    refine .inl (wp_store_mid T (.tmp dm) (.tmp dv) N.store b 0 cs ?_ ?_ ?_ hi h1 ?_)
    · simp [Act.eval, Act.put, has, hdm]
    · rw [Act.eval_put (fun d hd => by injection hd with hd; subst hd; exact fun e => N.ne (by injection e with e; exact e.symm))]
      simp [Act.eval, hdv]
    · intro j hj
      rw [Nat.zero_add]
      refine ⟨?_, hM.2.1.free j⟩
      rw [hM.2.1.cell j]
      have : j < zs.size := by omega
      simp [this]
    · rw [N.sd]
      refine nv_done N hQ f _ a _ (by simp [hsz]) (by rw [getD_set_ne true him]; exact hrm) (setD_same (by omega)) ⟨hM.1, set_whole hM.2.1 hz, set_below b hM.1 _ _ hM.2.2⟩ hR
  · have hiV : i ∈ Region.ready md ops (R.setIfInBounds s true) := ready_mono hir his
    cases f with
    | zero =>
      have := (hR w' hM.2.2).1
      rw [this] at hiV
      cases hiV
    | succ g =>
      refine rest_step N (.inr rfl) hM.2.2 hR hiV him his (by simp [hsz]) fun a1 w'' hb ha1 hR1 => ?_
      rw [Array.setIfInBounds_comm _ _ (Ne.symm his)] at hR1
      exact ih g rfl _ a1 w'' (by simp [hsz]) (by rw [getD_set_ne true him]; exact hrm) (by rw [getD_set_ne true his]; exact hrs) (by rw [ha1, has]) (hM.below hb) hR1
/-- The variable is made, not filled. -/
theorem nv_made (N : NewVar md ops m s om os dm dv T) {zs cs : Array Value} {b : Nat} {Q' : Exit → Act → World → Prop} (hz : cs.size = zs.size) (hi : (P.info? T).map (·.size) = some cs.size) (h1 : cs.all (·.oneCell') = true) (hF : F.tmps[dv]? = some (.agg cs)) (hdm : dm < F.tmps.size)
    (hQ : ∀ w', Made w T cs b w' → Q' .normal (F.put (some dm) (.pointer (some ⟨b, 0, none⟩))) w') :
    ∀ (f : Nat) (R : Array Bool) (a : Act) (w' : World), R.size = ops.size → R.getD m true = true → R.getD s true = false → a.tmps.size = F.tmps.size → Made w T zs b w' → Rest P md ops F w f (R.setIfInBounds s true) a → wpAny P md ops Q' (f + 1) R (a.put (some dm) (.pointer (some ⟨b, 0, none⟩))) w' := by
  intro f
  induction f with
  | zero =>
    intro R a w' hsz hrm hrs has hM hR
    exact nv_made_step N hz hi h1 hF hdm hQ 0 (fun g hg => by omega) R a w' hsz hrm hrs has hM hR
  | succ f ih =>
    intro R a w' hsz hrm hrs has hM hR
    exact nv_made_step N hz hi h1 hF hdm hQ (f + 1) (fun g hg => by cases hg; exact ih) R a w' hsz hrm hrs has hM hR
/-- One step, nothing made. -/
theorem nv_open_step (N : NewVar md ops m s om os dm dv T) {zs cs : Array Value} {Q' : Exit → Act → World → Prop} (hal : ∀ (a : Act) (w : World), (execOp a.eval om).run P w = .ok (.value (.pointer (some ⟨w.heap.size, 0, none⟩))) (w.alloc (.cells zs T)))
    (hz : cs.size = zs.size) (hi : (P.info? T).map (·.size) = some cs.size) (h1 : cs.all (·.oneCell') = true) (hF : F.tmps[dv]? = some (.agg cs)) (hdm : dm < F.tmps.size)
    (hQ : ∀ b w', Made w T cs b w' → Q' .normal (F.put (some dm) (.pointer (some ⟨b, 0, none⟩))) w') (f : Nat)
    (ih : ∀ g, g + 1 = f → ∀ (R : Array Bool) (a : Act) (w' : World), R.size = ops.size → R.getD m true = false → R.getD s true = false → a.tmps.size = F.tmps.size → Below w.heap.size w w' → Rest P md ops F w g ((R.setIfInBounds m true).setIfInBounds s true) a → wpAny P md ops Q' (g + 2) R a w')
    (R : Array Bool) (a : Act) (w' : World) (hsz : R.size = ops.size) (hrm : R.getD m true = false) (hrs : R.getD s true = false) (has : a.tmps.size = F.tmps.size) (hB : Below w.heap.size w w') (hR : Rest P md ops F w f ((R.setIfInBounds m true).setIfInBounds s true) a) : wpAny P md ops Q' (f + 2) R a w' := by
  have hsl : s < ops.size := (Array.getElem?_eq_some_iff.1 N.hs).1
  have hml : m < ops.size := (Array.getElem?_eq_some_iff.1 N.hm).1
  refine ⟨fun h0 => absurd (all_listed N.lex h0 hsz s hsl) (by rw [hrs]; simp), fun i hir => ?_⟩
  have hun := (mem_ready.1 hir).1
  have his : i ≠ s := fun e => by
    subst e
    obtain ⟨o', ho', e, he, hb, hon⟩ := Region.waitsFor_spec N.waits
    obtain ⟨_, o2, ho2, hall⟩ := mem_ready.1 hir
    obtain rfl : o2 = o' := Option.some.inj (ho2.symm.trans ho')
    have := hall e he hb
    rw [hon, getD_both hrm] at this
    cases this
  by_cases him : i = m
  · subst him
    unfold wpOp
    simp only [N.hm]
    rw [if_pos (wanted_plain N.mg)]
    refine .inl ?_
    unfold Oper.wp
    rw [hal, Oper.upon_value, N.md_]
    refine nv_made N hz hi h1 hF hdm (fun w2 h2 => hQ _ w2 h2) f _ a _ (by simp [hsz]) (setD_same (by omega)) (by rw [getD_set_ne true his]; exact hrs) has ⟨hB.size, Blok.new _ _ _, hB.alloc hB.size _⟩ hR
  · have hiV : i ∈ Region.ready md ops ((R.setIfInBounds m true).setIfInBounds s true) := ready_mono (ready_mono hir him) his
    cases f with
    | zero =>
      have := (hR w' hB).1
      rw [this] at hiV
      cases hiV
    | succ g =>
      refine rest_step N (od := none) (pv := undef) (.inl rfl) hB hR hiV him his (by simp [hsz]) fun a1 w'' hb ha1 hR1 => ?_
      rw [Array.setIfInBounds_comm _ _ (Ne.symm his), Array.setIfInBounds_comm _ _ (Ne.symm him)] at hR1
      exact ih g rfl _ a1 w'' (by simp [hsz]) (by rw [getD_set_ne true him]; exact hrm) (by rw [getD_set_ne true his]; exact hrs) (by rw [ha1, has]) (hB.trans (hb.mono hB.size)) hR1
/-- Nothing is made yet. -/
theorem nv_open (N : NewVar md ops m s om os dm dv T) {zs cs : Array Value} {Q' : Exit → Act → World → Prop} (hal : ∀ (a : Act) (w : World), (execOp a.eval om).run P w = .ok (.value (.pointer (some ⟨w.heap.size, 0, none⟩))) (w.alloc (.cells zs T)))
    (hz : cs.size = zs.size) (hi : (P.info? T).map (·.size) = some cs.size) (h1 : cs.all (·.oneCell') = true) (hF : F.tmps[dv]? = some (.agg cs)) (hdm : dm < F.tmps.size)
    (hQ : ∀ b w', Made w T cs b w' → Q' .normal (F.put (some dm) (.pointer (some ⟨b, 0, none⟩))) w') :
    ∀ (f : Nat) (R : Array Bool) (a : Act) (w' : World), R.size = ops.size → R.getD m true = false → R.getD s true = false → a.tmps.size = F.tmps.size → Below w.heap.size w w' → Rest P md ops F w f ((R.setIfInBounds m true).setIfInBounds s true) a → wpAny P md ops Q' (f + 2) R a w' := by
  intro f
  induction f with
  | zero =>
    intro R a w' hsz hrm hrs has hM hR
    exact nv_open_step N hal hz hi h1 hF hdm hQ 0 (fun g hg => by omega) R a w' hsz hrm hrs has hM hR
  | succ f ih =>
    intro R a w' hsz hrm hrs has hM hR
    exact nv_open_step N hal hz hi h1 hF hdm hQ (f + 1) (fun g hg => by cases hg; exact ih) R a w' hsz hrm hrs has hM hR
theorem cell_up {w b : World} {a : Addr} {v : Value} (h : w.cell? a = some v) (hb : Below w.heap.size w b) (d : Nat) (os : Array Obj) : (grow (redrawn b d) os).cell? a = some v :=
  cell_regrown ((hb.cell (block_lt_of_cell h)).trans h) d os
theorem up_below {w b : World} (hb : Below w.heap.size w b) (d : Nat) (os : Array Obj) : Below w.heap.size w (grow (redrawn b d) os) := hb.trans ((below_regrown b d os).mono hb.size)
theorem wp_region_newvar {id : Nat} {Q' : Exit → Act → World → Prop} {a : Act} {l : List Oper} (ks : List Nat) (hmo : P.follows .mixedOrders = true) (N : NewVar .any l.toArray m s om os dm dv T) (hks : lexIdx .any l.toArray ks (((Array.replicate l.length false).setIfInBounds m true).setIfInBounds s true) = true) (hlen : ks.length + 2 = l.length)
    {zs cs : Array Value} (hal : ∀ (a : Act) (w : World), (execOp a.eval om).run P w = .ok (.value (.pointer (some ⟨w.heap.size, 0, none⟩))) (w.alloc (.cells zs T)))
    (hz : cs.size = zs.size) (hi : (P.info? T).map (·.size) = some cs.size) (h1 : cs.all (·.oneCell') = true)
    (h : ∃ F : Act, (∀ b, Below w.heap.size w b → wpQuiet P l.toArray (fun w' => ∃ p : Regrown, w' = grow (redrawn b p.d) p.os) (fun a' => a' = F) (pickL ks l) a) ∧ F.tmps[dv]? = some (.agg cs) ∧ dm < F.tmps.size ∧ a.tmps.size = F.tmps.size ∧
      ∀ b w', Made w T cs b w' → Q' .normal (F.put (some dm) (.pointer (some ⟨b, 0, none⟩))) w') : (Code.region id l.toArray true).wp P Q' a w := by
  obtain ⟨F, hq, hF, hdm, hsz, hQ⟩ := h
  refine wp_region_any hmo ?_
  have hR : Rest P .any l.toArray F w ks.length (((Array.replicate l.length false).setIfInBounds m true).setIfInBounds s true) a := fun b hb => wpAnyQ_idx N.sel ks _ a hks (hq b hb)
  have hml : m < l.length := by simpa using (Array.getElem?_eq_some_iff.1 N.hm).1
  have hsl : s < l.length := by simpa using (Array.getElem?_eq_some_iff.1 N.hs).1
  have := nv_open (md := .any) N hal hz hi h1 hF hdm hQ ks.length (Array.replicate l.length false) a w.drew (by simp) (by simp [hml]) (by simp [hsl]) hsz ((Below.refl _ _).drew) hR
  rw [hlen] at this
  simpa using this
end
end Go.Proofs.YtolaabllhibkdaaGreat

/- Contracts of plan.Right and of Few. They make new memory alone. -/
namespace Go.Proofs.YtolaabllhibkdaaGreat
open Go.ChangeShapes Go.WideShapes Go.ChangeAt Go.RowKit Go.Sort
set_option linter.unusedSimpArgs false
set_option linter.unusedVariables false
def aheadC (cs : List Co) (clk : Int) : Bool := !cs.any fun x => decide (x.en ≤ clk)
def aheadR (rs : List Rg) (clk : Int) : Bool := !rs.any fun x => decide (x.en ≤ clk)
def rightP (cs : List Co) (rs : List Rg) (clk ver : Int) : Bool :=
  Kc.rightC cs && (Kr.rightB rs && (inB clk 0 2147483647 && (inB ver 0 1099511627776 && (aheadC cs clk && aheadR rs clk))))
structure RightP (cs : List Co) (rs : List Rg) (clk ver : Int) : Prop where
  co : Kc.rightC cs = true
  rg : Kr.rightB rs = true
  c0 : 0 ≤ clk
  c1 : clk ≤ 2147483647
  v0 : 0 ≤ ver
  v1 : ver ≤ 1099511627776
  ec : ∀ x ∈ cs, clk < x.en
  er : ∀ x ∈ rs, clk < x.en
theorem rightP_spec {cs : List Co} {rs : List Rg} {clk ver : Int} : rightP cs rs clk ver = true ↔ RightP cs rs clk ver := by
  unfold rightP aheadC aheadR inB
  constructor
  · intro h
    simp only [Bool.and_eq_true, decide_eq_true_eq, Bool.not_eq_true', List.any_eq_false, Int.not_le] at h
    obtain ⟨h1, h2, h3, h4, h5, h6⟩ := h
    exact ⟨h1, h2, h3.1, h3.2, h4.1, h4.2, h5, h6⟩
  · intro h
    simp only [Bool.and_eq_true, decide_eq_true_eq, Bool.not_eq_true', List.any_eq_false, Int.not_le]
    exact ⟨h.co, h.rg, ⟨h.c0, h.c1⟩, ⟨h.v0, h.v1⟩, h.ec, h.er⟩
set_option maxRecDepth 100000 in
theorem pright1_any (x : Co) (clk : Int) (g : Nat) (t : TypeId) (v0 v1 v3 : Value) (w : World) (hR : Blok w g t #[v0, v1, .int .i64 clk, v3]) : Calls Tryz.prog 38 #[.agg #[.int .i64 x.id, .int .i64 x.fr, .int .i64 x.tn, .int .i64 x.st, .int .i64 x.en, .int .i64 x.rt], .pointer (some ⟨g, 0, none⟩)] w fun e w' => e = .returned (.bool (decide (x.en ≤ clk))) ∧ Below w.heap.size w w' := by
  have r2 : w.cell? ⟨g, 2, none⟩ = some (.int .i64 clk) := hR.cell 2
  have hl := hR.lt
  clear hR
  go_enter Tryz.func38, Tryz.ntmps38
  go_wp2
  all_goals go_ret
  all_goals exact ⟨rfl, by (repeat (first | exact Below.refl _ _ | refine Below.alloc ?_ (by first | omega | (simp; done) | (simp; omega)) _ | refine Below.setCell ?_ (by first | omega | (simp; done) | (simp; omega)) _ | refine Below.drew ?_))⟩
set_option maxRecDepth 100000 in
theorem pright2_any (x : Rg) (clk : Int) (g : Nat) (t : TypeId) (v0 v1 v3 : Value) (w : World) (hR : Blok w g t #[v0, v1, .int .i64 clk, v3]) : Calls Tryz.prog 40 #[.agg #[.int .i64 x.fr, .int .i64 x.tn, .int .i64 x.st, .int .i64 x.en, .int .i64 x.ow], .pointer (some ⟨g, 0, none⟩)] w fun e w' => e = .returned (.bool (decide (x.en ≤ clk))) ∧ Below w.heap.size w w' := by
  have r2 : w.cell? ⟨g, 2, none⟩ = some (.int .i64 clk) := hR.cell 2
  have hl := hR.lt
  clear hR
  go_enter Tryz.func40, Tryz.ntmps40
  go_wp2
  all_goals go_ret
  all_goals exact ⟨rfl, by (repeat (first | exact Below.refl _ _ | refine Below.alloc ?_ (by first | omega | (simp; done) | (simp; omega)) _ | refine Below.setCell ?_ (by first | omega | (simp; done) | (simp; omega)) _ | refine Below.drew ?_))⟩
theorem pred_pr1 (clk : Int) (g : Nat) (t : TypeId) (v0 v1 v3 : Value) (w : World) (hR : Blok w g t #[v0, v1, .int .i64 clk, v3]) : PredCo 38 #[.pointer (some ⟨g, 0, none⟩)] none w (fun x => decide (x.en ≤ clk)) :=
  ⟨enter_run Tryz.func38 rfl rfl, fun w' hg x => pright1_any x clk g t v0 v1 v3 w' (hR.grown hg (fun e => by cases e))⟩
theorem pred_pr2 (clk : Int) (g : Nat) (t : TypeId) (v0 v1 v3 : Value) (w : World) (hR : Blok w g t #[v0, v1, .int .i64 clk, v3]) : PredRg 40 #[.pointer (some ⟨g, 0, none⟩)] none w (fun x => decide (x.en ≤ clk)) :=
  ⟨enter_run Tryz.func40 rfl rfl, fun w' hg x => pright2_any x clk g t v0 v1 v3 w' (hR.grown hg (fun e => by cases e))⟩
set_option maxHeartbeats 4000000 in
set_option maxRecDepth 100000 in
theorem pright_any (A1 : Option Addr) (n1 c1 : Nat) (cs : List Co) (A : Option Addr) (n c : Nat) (rs : List Rg) (clk ver : Int) (w : World) (hd1 : cs.length = n1) (hn1 : n1 ≤ 1000000) (hd : rs.length = n) (hn : n ≤ 1000000) (h1 : Sl w w.heap.size 6 A1 n1 c1 (flatCo cs)) (h : Sl w w.heap.size 5 A n c (flatRg rs)) (b : Bool) (hb : rightP cs rs clk ver = b) :
    Calls Tryz.prog 12 #[.agg #[.slice A1 n1 c1, .slice A n c, .int .i64 clk, .int .i64 ver]] w fun e w' => e = .returned (.bool b) ∧ Below w.heap.size w w' := by
  have hB : Below w.heap.size w (w.alloc (.cells #[.slice A1 n1 c1, .slice A n c, .int .i64 clk, .int .i64 ver] 25)) := by (repeat (first | exact Below.refl _ _ | refine Below.alloc ?_ (by first | omega | (simp; done) | (simp; omega)) _ | refine Below.setCell ?_ (by first | omega | (simp; done) | (simp; omega)) _ | refine Below.drew ?_))
  have hP := Blok.new w 25 #[.slice A1 n1 c1, .slice A n c, .int .i64 clk, .int .i64 ver]
  replace h1 := h1.up hB
  replace h := h.up hB
  have hs := hB.size
  have HB := Lib.hid hb
  have HD1 := Lib.hid hd1
  have HD := Lib.hid hd
  clear hb hd hd1
  obtain ⟨b1, q1⟩ : ∃ q, Kc.rightC cs = q := ⟨_, rfl⟩
  obtain ⟨b2, q2⟩ : ∃ q, Kr.rightB rs = q := ⟨_, rfl⟩
  obtain ⟨b3, q3⟩ : ∃ q, inB clk 0 2147483647 = q := ⟨_, rfl⟩
  obtain ⟨b4, q4⟩ : ∃ q, inB ver 0 1099511627776 = q := ⟨_, rfl⟩
  obtain ⟨b5, q5⟩ : ∃ q, (cs.any fun x => decide (x.en ≤ clk)) = q := ⟨_, rfl⟩
  obtain ⟨b6, q6⟩ : ∃ q, (rs.any fun x => decide (x.en ≤ clk)) = q := ⟨_, rfl⟩
  have hbb : b = (b1 && (b2 && (b3 && (b4 && (!b5 && !b6))))) := by rw [← HB.out]; unfold rightP aheadC aheadR; rw [q1, q2, q3, q4, q5, q6]
  have Q1 := Lib.hid q1
  have Q2 := Lib.hid q2
  have Q3 := Lib.hid q3
  have Q4 := Lib.hid q4
  have Q5 := Lib.hid q5
  have Q6 := Lib.hid q6
  have HBB := Lib.hid hbb
  clear q1 q2 q3 q4 q5 q6 hbb HB
  go_enter Tryz.func12, Tryz.ntmps12
  go_wp2_with fail
  generalize w.alloc (.cells #[.slice A1 n1 c1, .slice A n c, .int .i64 clk, .int .i64 ver] 25) = w0 at *
  refine (Kc.right_any A1 n1 c1 cs w0 HD1.out hn1 h1).mono ?_
  rintro e w1 ⟨rfl, hb⟩
  rw [Q1.out]
  replace h1 := h1.up hb
  replace h := h.up hb
  replace hP := hP.below hb hP.lt
  replace hB := hB.trans (hb.mono hs)
  replace hs := hB.size
  clear hb
  cases b1
  · go_wp2_with fail
    go_ret
    exact ⟨by rw [HBB.out]; rfl, hB⟩
  have r1 : w1.cell? ⟨w.heap.size, 1, none⟩ = some (.slice A n c) := hP.cell 1
  have lt_p := hP.lt
  go_wp2_with fail
  clear r1 lt_p
  refine (Kr.right_any A n c rs w1 HD.out hn h).mono ?_
  rintro e w2 ⟨rfl, hb⟩
  rw [Q2.out]
  replace h1 := h1.up hb
  replace h := h.up hb
  replace hP := hP.below hb hP.lt
  replace hB := hB.trans (hb.mono hs)
  replace hs := hB.size
  clear hb
  cases b2
  · go_wp2_with fail
    go_ret
    exact ⟨by rw [HBB.out]; rfl, hB⟩
  have r2 : w2.cell? ⟨w.heap.size, 2, none⟩ = some (.int .i64 clk) := hP.cell 2
  have r3 : w2.cell? ⟨w.heap.size, 3, none⟩ = some (.int .i64 ver) := hP.cell 3
  have lt_p := hP.lt
  go_wp2_with fail
  refine (in_any clk 0 2147483647 w2).mono ?_
  rintro e w3 ⟨rfl, rfl⟩
  rw [Q3.out]
  cases b3
  · go_wp2_with fail
    go_ret
    exact ⟨by rw [HBB.out]; rfl, hB⟩
  go_wp2_with fail
  refine (in_any ver 0 1099511627776 w2).mono ?_
  rintro e w3 ⟨rfl, rfl⟩
  rw [Q4.out]
  cases b4
  · go_wp2_with fail
    go_ret
    exact ⟨by rw [HBB.out]; rfl, hB⟩
  have r0 : w2.cell? ⟨w.heap.size, 0, none⟩ = some (.slice A1 n1 c1) := hP.cell 0
  go_wp2_with fail
  clear r0 r2 r3 lt_p
  refine (containsCo A1 n1 c1 cs _ _ none _ w2 HD1.out hn1 h1 (pred_pr1 clk _ _ _ _ _ w2 hP)).mono ?_
  rintro e w3 ⟨rfl, hb⟩
  rw [Q5.out]
  replace h1 := h1.up hb
  replace h := h.up hb
  replace hP := hP.below hb hP.lt
  replace hB := hB.trans (hb.mono hs)
  replace hs := hB.size
  clear hb
  cases b5
  case true =>
    go_wp2_with fail
    go_ret
    exact ⟨by rw [HBB.out]; rfl, hB⟩
  have r1 : w3.cell? ⟨w.heap.size, 1, none⟩ = some (.slice A n c) := hP.cell 1
  have lt_p := hP.lt
  go_wp2_with fail
  clear r1 lt_p
  refine (containsRg A n c rs _ _ none _ w3 HD.out hn h (pred_pr2 clk _ _ _ _ _ w3 hP)).mono ?_
  rintro e w4 ⟨rfl, hb⟩
  rw [Q6.out]
  replace hB := hB.trans (hb.mono hs)
  clear hb
  cases b6
  all_goals
    go_wp2_with fail
    go_ret
    exact ⟨by rw [HBB.out]; rfl, hB⟩
set_option maxHeartbeats 1000000 in
set_option maxRecDepth 100000 in
theorem few_any (A1 : Option Addr) (n1 c1 : Nat) (A : Option Addr) (n c : Nat) (clk ver : Int) (w : World) (b : Bool) (hb : decide (n1 ≤ 50 ∧ n ≤ 50) = b) :
    Calls Tryz.prog 11 #[.agg #[.slice A1 n1 c1, .slice A n c, .int .i64 clk, .int .i64 ver]] w fun e w' => e = .returned (.bool b) ∧ Below w.heap.size w w' := by
  have hB : Below w.heap.size w (w.alloc (.cells #[.slice A1 n1 c1, .slice A n c, .int .i64 clk, .int .i64 ver] 25)) := by (repeat (first | exact Below.refl _ _ | refine Below.alloc ?_ (by first | omega | (simp; done) | (simp; omega)) _ | refine Below.setCell ?_ (by first | omega | (simp; done) | (simp; omega)) _ | refine Below.drew ?_))
  by_cases h1 : n1 ≤ 50
  · by_cases h2 : n ≤ 50
    all_goals
      obtain rfl : b = decide (n ≤ 50) := by rw [← hb]; simp [h1]
      clear hb
      have g1 : decide ((n1 : Int) ≤ 50) = true := decide_eq_true (by omega)
      first | have g2 : decide ((n : Int) ≤ 50) = true := decide_eq_true (by omega) | have g2 : decide ((n : Int) ≤ 50) = false := decide_eq_false (by omega)
      go_enter Tryz.func11, Tryz.ntmps11
      go_wp2_with fail
      go_ret
      exact ⟨by simp [h2], hB⟩
  · obtain rfl : b = false := by rw [← hb]; simp [h1]
    clear hb
    have g1 : decide ((n1 : Int) ≤ 50) = false := decide_eq_false (by omega)
    go_enter Tryz.func11, Tryz.ntmps11
    go_wp2_with fail
    go_ret
    exact ⟨rfl, hB⟩
end Go.Proofs.YtolaabllhibkdaaGreat

/- The forms of directives (package direct): the map that direct.forms makes. It makes new memory alone. -/
namespace Go.Proofs.YtolaabllhibkdaaGreat
open Go.ChangeShapes Go.WideShapes Go.ChangeAt Go.RowKit Go.Sort
set_option linter.unusedSimpArgs false
set_option linter.unusedVariables false
open Go.Maps (Keyed)
set_option maxRecDepth 100000
def keyD (a b : Int) : Lit := .string (keyBytes [.int .i64 a, .int .i64 b])
theorem keyD_is (a b : Int) : WideAt.IsKeyLit (keyD a b) := trivial
theorem keyOf_pair {P : Program} {k : TypeId} {f0 f1 : Field} {a b : Int} (hk : P.underlying k = some (.struct #[f0, f1])) (hkt : P.keyType k = true) (hc : P.cellsOf k = 2) (hf : (f0.offset == 0 && P.cellsOf f0.type == 1 && f1.offset == 1 && P.cellsOf f1.type == 1) = true) (hu0 : P.underlying f0.type = some (.int .i64)) (hu1 : P.underlying f1.type = some (.int .i64))
    (hn : (#[f0, f1].all (·.name != "_")) = true) (hs : 0 < P.types.size) (ha : (Lit.int .i64 a).wf = true) (hb : (Lit.int .i64 b).wf = true) : keyOf P k (.agg #[.int .i64 a, .int .i64 b]) = some (keyD a b) := by
  simp only [Bool.and_eq_true, beq_iff_eq] at hf
  obtain ⟨⟨⟨o0, c0⟩, o1⟩, c1⟩ := hf
  obtain ⟨m, hm⟩ : ∃ m, P.types.size = m + 1 := ⟨P.types.size - 1, by omega⟩
  have h2 : (Value.agg #[.int .i64 a, .int .i64 b]).formed P k = true := by simp [Value.formed, hk, hc]
  have e0 : P.keyLits (m + 1) f0.type [.int .i64 a] = some [.int .i64 a] := by simp [Program.keyLits, hu0, ha]
  have e1 : P.keyLits (m + 1) f1.type [.int .i64 b] = some [.int .i64 b] := by simp [Program.keyLits, hu1, hb]
  have h3 : P.keyLits (P.types.size + 1) k [.int .i64 a, .int .i64 b] = some [.int .i64 a, .int .i64 b] := by
    rw [hm]
    have hu : P.keyLits (m + 1 + 1) k [.int .i64 a, .int .i64 b] = if [Value.int .i64 a, .int .i64 b].length = P.cellsOf k ∧ (#[f0, f1].all (·.name != "_")) = true then (#[f0, f1].toList.mapM fun f => P.keyLits (m + 1) f.type (([Value.int .i64 a, .int .i64 b].drop f.offset).take (P.cellsOf f.type))).map List.flatten else none := by
      conv => lhs; unfold Program.keyLits
      rw [hk]
    rw [hu, if_pos ⟨by rw [hc]; rfl, hn⟩]
    simp only [List.mapM_cons, List.mapM_nil, o0, c0, o1, c1, List.drop_zero, List.take_succ_cons, List.take_zero, List.drop_succ_cons, e0, e1]
    rfl
  unfold keyOf
  rw [hk]
  simp only [hkt, h2, Bool.and_self, if_true]
  show Option.map _ (P.keyLits _ _ [.int .i64 a, .int .i64 b]) = _
  rw [h3]
  rfl
theorem keyOfD {a b : Int} (ha : (Lit.int .i64 a).wf = true) (hb : (Lit.int .i64 b).wf = true) : keyOf Tryz.prog 111 (.agg #[.int .i64 a, .int .i64 b]) = some (keyD a b) :=
  keyOf_pair Tryz.underlying111 (by kernel_rfl) (by kernel_rfl) (by kernel_rfl) Tryz.underlying3 Tryz.underlying3 (by kernel_rfl) (by decide +kernel) ha hb
theorem lawD : WideMaps.KeyLaw Tryz.prog 111 := deep_law_laid (by kernel_rfl) (m := 3) (by omega) (by decide +kernel) (by kernel_rfl) (by simp only [Tryz.underlying111])
theorem keyedD : Keyed Tryz.prog 111 := Keyed.of_law lawD
theorem keyD_inj {a b a' b' : Int} (ha : (Lit.int .i64 a).wf = true) (hb : (Lit.int .i64 b).wf = true) (ha' : (Lit.int .i64 a').wf = true) (hb' : (Lit.int .i64 b').wf = true) (h : keyD a b = keyD a' b') : a = a' ∧ b = b' := by
  have h1 := keyedD.inj (keyOfD ha hb) (by rw [h]; exact keyOfD ha' hb')
  injection h1 with h1
  injection h1 with h1
  injection h1 with h2 h3
  injection h3 with h3
  injection h2 with _ h2
  injection h3 with _ h3
  exact ⟨h2, h3⟩
theorem wpList_insert_map {ops : Array Oper} {rest : List Oper} {o : Oper} {a : Act} {w : World} {Q : Exit → Act → World → Prop} (hg : o.guard = none) (m x y : Operand) (t : TypeId) (hop : o.op = Op.insert t m x y) (k e : TypeId) (b n : Nat) (S : Lit → Option Value)
    (hm : a.eval m = .map (some b)) (h : MapV w k b n S) (K : Keyed Tryz.prog k) (ht : Tryz.prog.underlying t = some (.map k e)) (hn : n < maxLen) (key : Value) (kl : Lit) (hx : a.eval x = key) (hkey : keyOf Tryz.prog k key = some kl) (hl : WideAt.IsKeyLit kl)
    (v : Value) (hy : a.eval y = v)
    (hK : ∀ w', MapV w' k b (n + 1) (setS S kl v) → w.grownBy w' (some b) → wpList Tryz.prog ops Q rest (a.put o.dst undef) w') : wpList Tryz.prog ops Q (o :: rest) a w := by
  refine wpList_plain hg fun K' hK' => ?_
  obtain ⟨w', hrun, h1, h2⟩ := h.put K ht hn hkey hl v
  unfold Oper.wp
  simp [execOp, hop, hm, hx, hy, hrun, Result.andThen]
  exact hK' _ _ (hK w' h1 h2)
theorem wpList_makeMap0 {P : Program} {ops : Array Oper} {rest : List Oper} {o : Oper} {a : Act} {w : World} {Q : Exit → Act → World → Prop} (hg : o.guard = none) (t : TypeId) (hop : o.op = Op.makeMap t none) (k e : TypeId) (ht : P.underlying t = some (.map k e))
    (hK : wpList P ops Q rest (a.put o.dst (.map (some w.heap.size))) (w.alloc (.map #[] 0))) : wpList P ops Q (o :: rest) a w := by
  refine wpList_plain hg fun K' hK' => ?_
  have hrun : (Instr.makeMap t none).run P w = .ok (.map (some w.heap.size)) (w.alloc (.map #[] 0)) := by
    simp [Instr.makeMap, run_underlying ht]
  unfold Oper.wp
  simp [execOp, hop, hrun, Result.andThen]
  exact hK' _ _ hK
theorem makeMap_step {P : Program} {ops : Array Oper} {Q : Exit → Act → World → Prop} {i : Nat} {o : Oper} {K : Act → World → Prop} {a : Act} {w : World} (ho : ops[i]? = some o) (hg : o.guard = none) (t : TypeId) (hop : o.op = Op.makeMap t none) (k e : TypeId) (ht : P.underlying t = some (.map k e))
    (hK : K (a.put o.dst (.map (some w.heap.size))) (w.alloc (.map #[] 0))) : wpOp P ops Q i K a w := by
  have hrun : (Instr.makeMap t none).run P w = .ok (.map (some w.heap.size)) (w.alloc (.map #[] 0)) := by
    simp [Instr.makeMap, run_underlying ht]
  unfold wpOp
  simp only [ho]
  rw [if_pos (by unfold Region.wanted; rw [hg])]
  refine .inl ?_
  unfold Oper.wp
  simp [execOp, hop, hrun, Result.andThen, Oper.upon]
  exact hK
theorem wpList_move {P : Program} {ops : Array Oper} {rest : List Oper} {o : Oper} {a : Act} {w : World} {Q : Exit → Act → World → Prop} (hg : o.guard = none) (x : Operand) (hop : o.op = Op.move x) (hK : wpList P ops Q rest (a.put o.dst (a.eval x)) w) : wpList P ops Q (o :: rest) a w := by
  refine wpList_plain hg fun K' hK' => ?_
  unfold Oper.wp
  simp [execOp, hop]
  exact hK' _ _ hK
theorem wpList_assign {P : Program} {ops : Array Oper} {rest : List Oper} {o : Oper} {a : Act} {w : World} {Q : Exit → Act → World → Prop} (hg : o.guard = none) (x : Operand) (hop : o.op = Op.assign x) (hK : wpList P ops Q rest (a.put o.dst (a.eval x)) w) : wpList P ops Q (o :: rest) a w := by
  refine wpList_plain hg fun K' hK' => ?_
  unfold Oper.wp
  simp [execOp, hop]
  exact hK' _ _ hK
theorem wpList_end {P : Program} {ops : Array Oper} {a : Act} {w : World} {Q : Exit → Act → World → Prop} (h : Q .normal a w) : wpList P ops Q [] a w := h
def fnV (f : FuncId) : Value := .func (.func f) #[] #[]
def formOf (f g h : FuncId) : Value := .agg #[fnV f, fnV g, fnV h]
/-- The form of what is done, to what. -/
def formV (a b : Int) : Option Value :=
  if a = 1 ∧ b = 1 then some (formOf 113 114 115)
  else if a = 2 ∧ b = 1 then some (formOf 116 117 118)
  else if a = 3 ∧ b = 1 then some (formOf 120 121 122)
  else if a = 1 ∧ b = 2 then some (formOf 123 124 125)
  else if a = 2 ∧ b = 2 then some (formOf 126 127 128)
  else if a = 3 ∧ b = 2 then some (formOf 130 131 132)
  else none
def fkey : Nat → Int × Int
  | 0 => (1, 1)
  | 1 => (2, 1)
  | 2 => (3, 1)
  | 3 => (1, 2)
  | 4 => (2, 2)
  | _ => (3, 2)
def fval : Nat → Value
  | 0 => formOf 113 114 115
  | 1 => formOf 116 117 118
  | 2 => formOf 120 121 122
  | 3 => formOf 123 124 125
  | 4 => formOf 126 127 128
  | _ => formOf 130 131 132
def fK (i : Nat) : Lit := keyD (fkey i).1 (fkey i).2
theorem fkey_wf : ∀ i, i < 6 → (Lit.int .i64 (fkey i).1).wf = true ∧ (Lit.int .i64 (fkey i).2).wf = true := by
  intro i hi
  match i, hi with
  | 0, _ | 1, _ | 2, _ | 3, _ | 4, _ | 5, _ => exact ⟨by decide, by decide⟩
theorem fkey_inj : ∀ i j, i < 6 → j < 6 → (fkey i).1 = (fkey j).1 → (fkey i).2 = (fkey j).2 → i = j := by
  intro i j hi hj
  match i, j, hi, hj with
  | 0, 0, _, _ => exact fun _ _ => rfl
  | 0, 1, _, _ => intro h1 h2; exact absurd (And.intro h1 h2) (by decide)
  | 0, 2, _, _ => intro h1 h2; exact absurd (And.intro h1 h2) (by decide)
  | 0, 3, _, _ => intro h1 h2; exact absurd (And.intro h1 h2) (by decide)
  | 0, 4, _, _ => intro h1 h2; exact absurd (And.intro h1 h2) (by decide)
  | 0, 5, _, _ => intro h1 h2; exact absurd (And.intro h1 h2) (by decide)
  | 1, 0, _, _ => intro h1 h2; exact absurd (And.intro h1 h2) (by decide)
  | 1, 1, _, _ => exact fun _ _ => rfl
  | 1, 2, _, _ => intro h1 h2; exact absurd (And.intro h1 h2) (by decide)
  | 1, 3, _, _ => intro h1 h2; exact absurd (And.intro h1 h2) (by decide)
  | 1, 4, _, _ => intro h1 h2; exact absurd (And.intro h1 h2) (by decide)
  | 1, 5, _, _ => intro h1 h2; exact absurd (And.intro h1 h2) (by decide)
  | 2, 0, _, _ => intro h1 h2; exact absurd (And.intro h1 h2) (by decide)
  | 2, 1, _, _ => intro h1 h2; exact absurd (And.intro h1 h2) (by decide)
  | 2, 2, _, _ => exact fun _ _ => rfl
  | 2, 3, _, _ => intro h1 h2; exact absurd (And.intro h1 h2) (by decide)
  | 2, 4, _, _ => intro h1 h2; exact absurd (And.intro h1 h2) (by decide)
  | 2, 5, _, _ => intro h1 h2; exact absurd (And.intro h1 h2) (by decide)
  | 3, 0, _, _ => intro h1 h2; exact absurd (And.intro h1 h2) (by decide)
  | 3, 1, _, _ => intro h1 h2; exact absurd (And.intro h1 h2) (by decide)
  | 3, 2, _, _ => intro h1 h2; exact absurd (And.intro h1 h2) (by decide)
  | 3, 3, _, _ => exact fun _ _ => rfl
  | 3, 4, _, _ => intro h1 h2; exact absurd (And.intro h1 h2) (by decide)
  | 3, 5, _, _ => intro h1 h2; exact absurd (And.intro h1 h2) (by decide)
  | 4, 0, _, _ => intro h1 h2; exact absurd (And.intro h1 h2) (by decide)
  | 4, 1, _, _ => intro h1 h2; exact absurd (And.intro h1 h2) (by decide)
  | 4, 2, _, _ => intro h1 h2; exact absurd (And.intro h1 h2) (by decide)
  | 4, 3, _, _ => intro h1 h2; exact absurd (And.intro h1 h2) (by decide)
  | 4, 4, _, _ => exact fun _ _ => rfl
  | 4, 5, _, _ => intro h1 h2; exact absurd (And.intro h1 h2) (by decide)
  | 5, 0, _, _ => intro h1 h2; exact absurd (And.intro h1 h2) (by decide)
  | 5, 1, _, _ => intro h1 h2; exact absurd (And.intro h1 h2) (by decide)
  | 5, 2, _, _ => intro h1 h2; exact absurd (And.intro h1 h2) (by decide)
  | 5, 3, _, _ => intro h1 h2; exact absurd (And.intro h1 h2) (by decide)
  | 5, 4, _, _ => intro h1 h2; exact absurd (And.intro h1 h2) (by decide)
  | 5, 5, _, _ => exact fun _ _ => rfl
theorem fK_inj {i j : Nat} (hi : i < 6) (hj : j < 6) (h : fK i = fK j) : i = j := by
  obtain ⟨a1, a2⟩ := fkey_wf i hi
  obtain ⟨b1, b2⟩ := fkey_wf j hj
  obtain ⟨e1, e2⟩ := keyD_inj a1 a2 b1 b2 h
  exact fkey_inj i j hi hj e1 e2
/-- S holds the forms of the mask, and no other. -/
def IsS (m : Nat → Bool) (S : Lit → Option Value) : Prop := (∀ i, i < 6 → m i = true → S (fK i) = some (fval i)) ∧ ∀ kl, (∀ i, i < 6 → m i = true → kl ≠ fK i) → S kl = none
theorem IsS.none_ : IsS (fun _ => false) (fun _ => none) := ⟨fun _ _ h => (by cases h), fun _ _ => rfl⟩
theorem IsS.put {m m' : Nat → Bool} {S : Lit → Option Value} {j : Nat} (hj : j < 6) (h : IsS m S) (hm : ∀ i, i < 6 → m' i = (decide (i = j) || m i)) : IsS m' (setS S (fK j) (fval j)) := by
  refine ⟨fun i hi h1 => ?_, fun kl hk => ?_⟩
  · by_cases e : i = j
    · subst e; exact setS_same _ _ _
    · rw [setS_other _ _ (fun h2 => e (fK_inj hi hj h2))]
      rw [hm i hi] at h1
      simp [e] at h1
      exact h.1 i hi h1
  · rw [setS_other _ _ (hk j hj (by rw [hm j hj]; simp))]
    exact h.2 kl fun i hi h1 => hk i hi (by rw [hm i hi, h1]; simp)
theorem formS_at {S : Lit → Option Value} (h : IsS (fun _ => true) S) {a b : Int} (ha : (Lit.int .i64 a).wf = true) (hb : (Lit.int .i64 b).wf = true) : S (keyD a b) = formV a b := by
  by_cases hc : ∃ i, i < 6 ∧ a = (fkey i).1 ∧ b = (fkey i).2
  · obtain ⟨i, hi, rfl, rfl⟩ := hc
    rw [show S (keyD (fkey i).1 (fkey i).2) = some (fval i) from h.1 i hi rfl]
    match i, hi with
    | 0, _ | 1, _ | 2, _ | 3, _ | 4, _ | 5, _ => rfl
  · rw [h.2 _ fun i hi _ e => hc ⟨i, hi, keyD_inj ha hb (fkey_wf i hi).1 (fkey_wf i hi).2 e⟩]
    have k (i : Nat) (hi : i < 6) : ¬ (a = (fkey i).1 ∧ b = (fkey i).2) := fun e => hc ⟨i, hi, e⟩
    have k0 : ¬ (a = 1 ∧ b = 1) := k 0 (by omega)
    have k1 : ¬ (a = 2 ∧ b = 1) := k 1 (by omega)
    have k2 : ¬ (a = 3 ∧ b = 1) := k 2 (by omega)
    have k3 : ¬ (a = 1 ∧ b = 2) := k 3 (by omega)
    have k4 : ¬ (a = 2 ∧ b = 2) := k 4 (by omega)
    have k5 : ¬ (a = 3 ∧ b = 2) := k 5 (by omega)
    unfold formV
    rw [if_neg k0, if_neg k1, if_neg k2, if_neg k3, if_neg k4, if_neg k5]
def mask (m0 m1 m2 m3 m4 m5 : Bool) : Nat → Bool
  | 0 => m0
  | 1 => m1
  | 2 => m2
  | 3 => m3
  | 4 => m4
  | _ => m5
def Lm (m0 m1 m2 m3 m4 m5 : Bool) : Array Bool := #[true, true, true, m0, true, true, m1, true, true, m2, true, true, m3, true, true, m4, true, true, m5, false, false]
def cnt (b : Bool) : Nat := if b = true then 0 else 1
def readyB (md : Region.Mode) (ops : Array Oper) (m0 m1 m2 m3 m4 m5 : Bool) : Bool :=
  !(Region.ready md ops (Lm m0 m1 m2 m3 m4 m5)).isEmpty && (Region.ready md ops (Lm m0 m1 m2 m3 m4 m5)).all fun i => (i == 3 && !m0) || (i == 6 && !m1) || (i == 9 && !m2) || (i == 12 && !m3) || (i == 15 && !m4) || (i == 18 && !m5) || (i == 19 && m0 && m1 && m2 && m3 && m4 && m5)
theorem wpAny_one {P : Program} {md : Region.Mode} {ops : Array Oper} {Q : Exit → Act → World → Prop} {f k : Nat} {listed : Array Bool} {a : Act} {w : World} (hr : Region.ready md ops listed = [k]) (h : wpOp P ops Q k (wpAny P md ops Q f (listed.setIfInBounds k true)) a w) : wpAny P md ops Q (f + 1) listed a w := by
  refine ⟨fun h0 => (by rw [hr] at h0; cases h0), fun i hi => ?_⟩
  rw [hr] at hi
  have : i = k := by simpa using hi
  subst this
  exact h
theorem insert_step {ops : Array Oper} {Q : Exit → Act → World → Prop} {i x y j b n : Nat} {o : Oper} {K : Act → World → Prop} {a : Act} {w : World} {S : Lit → Option Value} (ho : ops[i]? = some o) (hg : o.guard = none) (hd : o.dst = none) (hop : o.op = .insert 108 (.tmp 1) (.tmp x) (.tmp y))
    (hm : a.eval (.tmp 1) = .map (some b)) (hx : a.eval (.tmp x) = .agg #[.int .i64 (fkey j).1, .int .i64 (fkey j).2]) (hy : a.eval (.tmp y) = fval j) (hj : j < 6) (hn : n < 100) (hM : MapV w 111 b n S)
    (hK : ∀ w', MapV w' 111 b (n + 1) (setS S (fK j) (fval j)) → w.grownBy w' (some b) → K a w') : wpOp Tryz.prog ops Q i K a w := by
  obtain ⟨k1, k2⟩ := fkey_wf j hj
  obtain ⟨w', hrun, h1, h2⟩ := hM.put keyedD Tryz.underlying108 (by unfold maxLen; omega) (keyOfD k1 k2) (keyD_is _ _) (fval j)
  have hk := hK w' h1 h2
  unfold wpOp
  simp only [ho]
  rw [if_pos (by unfold Region.wanted; rw [hg])]
  refine .inl ?_
  unfold Oper.wp
  simp [execOp, hop, hm, hx, hy, hrun, Result.andThen, Oper.upon, hd, Act.put]
  exact hk
theorem six_inserts {ops : Array Oper} {Q : Exit → Act → World → Prop} {b : Nat} {a : Act} {w0 : World} {o0 o1 o2 o3 o4 o5 : Oper} (hr : ∀ m0 m1 m2 m3 m4 m5, readyB .any ops m0 m1 m2 m3 m4 m5 = true)
    (ho0 : ops[3]? = some o0) (ho1 : ops[6]? = some o1) (ho2 : ops[9]? = some o2) (ho3 : ops[12]? = some o3) (ho4 : ops[15]? = some o4) (ho5 : ops[18]? = some o5)
    (hg0 : o0.guard = none) (hg1 : o1.guard = none) (hg2 : o2.guard = none) (hg3 : o3.guard = none) (hg4 : o4.guard = none) (hg5 : o5.guard = none) (hd0 : o0.dst = none) (hd1 : o1.dst = none) (hd2 : o2.dst = none) (hd3 : o3.dst = none) (hd4 : o4.dst = none) (hd5 : o5.dst = none)
    (hop0 : o0.op = .insert 108 (.tmp 1) (.tmp 2) (.tmp 3)) (hop1 : o1.op = .insert 108 (.tmp 1) (.tmp 4) (.tmp 5)) (hop2 : o2.op = .insert 108 (.tmp 1) (.tmp 6) (.tmp 7)) (hop3 : o3.op = .insert 108 (.tmp 1) (.tmp 8) (.tmp 9)) (hop4 : o4.op = .insert 108 (.tmp 1) (.tmp 10) (.tmp 11)) (hop5 : o5.op = .insert 108 (.tmp 1) (.tmp 12) (.tmp 13))
    (hm : a.eval (.tmp 1) = .map (some b)) (hx0 : a.eval (.tmp 2) = .agg #[.int .i64 (fkey 0).1, .int .i64 (fkey 0).2]) (hy0 : a.eval (.tmp 3) = fval 0) (hx1 : a.eval (.tmp 4) = .agg #[.int .i64 (fkey 1).1, .int .i64 (fkey 1).2]) (hy1 : a.eval (.tmp 5) = fval 1) (hx2 : a.eval (.tmp 6) = .agg #[.int .i64 (fkey 2).1, .int .i64 (fkey 2).2]) (hy2 : a.eval (.tmp 7) = fval 2) (hx3 : a.eval (.tmp 8) = .agg #[.int .i64 (fkey 3).1, .int .i64 (fkey 3).2]) (hy3 : a.eval (.tmp 9) = fval 3) (hx4 : a.eval (.tmp 10) = .agg #[.int .i64 (fkey 4).1, .int .i64 (fkey 4).2]) (hy4 : a.eval (.tmp 11) = fval 4) (hx5 : a.eval (.tmp 12) = .agg #[.int .i64 (fkey 5).1, .int .i64 (fkey 5).2]) (hy5 : a.eval (.tmp 13) = fval 5)
    (hQ : ∀ w' S n, MapV w' 111 b n S → IsS (fun _ => true) S → w0.grownBy w' (some b) → wpAny Tryz.prog .any ops Q 2 (Lm true true true true true true) a w') :
    ∀ (f : Nat) (m0 m1 m2 m3 m4 m5 : Bool) (n : Nat) (S : Lit → Option Value) (w : World), cnt m0 + cnt m1 + cnt m2 + cnt m3 + cnt m4 + cnt m5 = f → n + f = 6 → MapV w 111 b n S → IsS (mask m0 m1 m2 m3 m4 m5) S → w0.grownBy w (some b) → wpAny Tryz.prog .any ops Q (f + 2) (Lm m0 m1 m2 m3 m4 m5) a w := by
  intro f
  induction f with
  | zero =>
    intro m0 m1 m2 m3 m4 m5 n S w hc hn hM hS hG
    have e (b : Bool) (h : cnt b = 0) : b = true := by cases b <;> simp [cnt] at h ⊢
    obtain rfl := e m0 (by omega)
    obtain rfl := e m1 (by omega)
    obtain rfl := e m2 (by omega)
    obtain rfl := e m3 (by omega)
    obtain rfl := e m4 (by omega)
    obtain rfl := e m5 (by omega)
    refine hQ w S n hM ⟨fun i hi _ => hS.1 i hi ?_, fun kl hk => hS.2 kl fun i hi _ => hk i hi rfl⟩ hG
    match i, hi with
    | 0, _ | 1, _ | 2, _ | 3, _ | 4, _ | 5, _ => rfl
  | succ f ih =>
    intro m0 m1 m2 m3 m4 m5 n S w hc hn hM hS hG
    have h1 := hr m0 m1 m2 m3 m4 m5
    unfold readyB at h1
    rw [Bool.and_eq_true] at h1
    obtain ⟨hne, hall⟩ := h1
    refine ⟨fun h0 => (by rw [h0] at hne; cases hne), fun i hi => ?_⟩
    have h2 := List.all_eq_true.1 hall i hi
    simp only [Bool.or_eq_true, Bool.and_eq_true, beq_iff_eq, Bool.not_eq_true'] at h2
    rcases h2 with (((((⟨rfl, rfl⟩ | ⟨rfl, rfl⟩) | ⟨rfl, rfl⟩) | ⟨rfl, rfl⟩) | ⟨rfl, rfl⟩) | ⟨rfl, rfl⟩) | ⟨⟨⟨⟨⟨⟨rfl, rfl⟩, rfl⟩, rfl⟩, rfl⟩, rfl⟩, rfl⟩
    · refine insert_step (j := 0) ho0 hg0 hd0 hop0 hm hx0 hy0 (by omega) (by omega) hM fun w' hM' hg' => ?_
      refine ih true m1 m2 m3 m4 m5 (n + 1) _ w' (by simp [cnt] at hc ⊢; omega) (by omega) hM' (hS.put (by omega) fun i hi => ?_) (grown_trans hG hg')
      match i, hi with
      | 0, _ | 1, _ | 2, _ | 3, _ | 4, _ | 5, _ => simp [mask]
    · refine insert_step (j := 1) ho1 hg1 hd1 hop1 hm hx1 hy1 (by omega) (by omega) hM fun w' hM' hg' => ?_
      refine ih m0 true m2 m3 m4 m5 (n + 1) _ w' (by simp [cnt] at hc ⊢; omega) (by omega) hM' (hS.put (by omega) fun i hi => ?_) (grown_trans hG hg')
      match i, hi with
      | 0, _ | 1, _ | 2, _ | 3, _ | 4, _ | 5, _ => simp [mask]
    · refine insert_step (j := 2) ho2 hg2 hd2 hop2 hm hx2 hy2 (by omega) (by omega) hM fun w' hM' hg' => ?_
      refine ih m0 m1 true m3 m4 m5 (n + 1) _ w' (by simp [cnt] at hc ⊢; omega) (by omega) hM' (hS.put (by omega) fun i hi => ?_) (grown_trans hG hg')
      match i, hi with
      | 0, _ | 1, _ | 2, _ | 3, _ | 4, _ | 5, _ => simp [mask]
    · refine insert_step (j := 3) ho3 hg3 hd3 hop3 hm hx3 hy3 (by omega) (by omega) hM fun w' hM' hg' => ?_
      refine ih m0 m1 m2 true m4 m5 (n + 1) _ w' (by simp [cnt] at hc ⊢; omega) (by omega) hM' (hS.put (by omega) fun i hi => ?_) (grown_trans hG hg')
      match i, hi with
      | 0, _ | 1, _ | 2, _ | 3, _ | 4, _ | 5, _ => simp [mask]
    · refine insert_step (j := 4) ho4 hg4 hd4 hop4 hm hx4 hy4 (by omega) (by omega) hM fun w' hM' hg' => ?_
      refine ih m0 m1 m2 m3 true m5 (n + 1) _ w' (by simp [cnt] at hc ⊢; omega) (by omega) hM' (hS.put (by omega) fun i hi => ?_) (grown_trans hG hg')
      match i, hi with
      | 0, _ | 1, _ | 2, _ | 3, _ | 4, _ | 5, _ => simp [mask]
    · refine insert_step (j := 5) ho5 hg5 hd5 hop5 hm hx5 hy5 (by omega) (by omega) hM fun w' hM' hg' => ?_
      refine ih m0 m1 m2 m3 m4 true (n + 1) _ w' (by simp [cnt] at hc ⊢; omega) (by omega) hM' (hS.put (by omega) fun i hi => ?_) (grown_trans hG hg')
      match i, hi with
      | 0, _ | 1, _ | 2, _ | 3, _ | 4, _ | 5, _ => simp [mask]
    · simp [cnt] at hc
set_option maxHeartbeats 4000000 in
theorem forms_any (w : World) : Calls Tryz.prog 100 #[] w fun e w' => ∃ b n S, e = .returned (.map (some b)) ∧ w.heap.size ≤ b ∧ MapV w' 111 b n S ∧ IsS (fun _ => true) S ∧ Below w.heap.size w w' := by
  go_enter Tryz.func100, Tryz.ntmps100
  go_wp2_with fail
  try simp only [List.append]
  refine wp_region_any (by kernel_rfl) ?_
  have hBd : Below w.heap.size w w.drew := (Below.refl _ _).drew
  have hsd : w.drew.heap.size = w.heap.size := rfl
  change wpAny _ _ _ _ _ _ _ (World.drew w)
  generalize w.drew = wd at *
  refine wpAny_take (i := 1) (v := ?_) rfl (by kernel_rfl) (by kernel_rfl) (by kernel_rfl) (fun _ _ _ h => h) (Or.inl ⟨by rfl, ?_⟩) ?_
  rotate_left
  · (intro w; go_simp; try with_reducible rfl)
  refine wpAny_take (i := 2) (v := ?_) rfl (by kernel_rfl) (by kernel_rfl) (by kernel_rfl) (fun _ _ _ h => h) (Or.inl ⟨by rfl, ?_⟩) ?_
  rotate_left
  · (intro w; go_simp; try with_reducible rfl)
  refine wpAny_take (i := 4) (v := ?_) rfl (by kernel_rfl) (by kernel_rfl) (by kernel_rfl) (fun _ _ _ h => h) (Or.inl ⟨by rfl, ?_⟩) ?_
  rotate_left
  · (intro w; go_simp; try with_reducible rfl)
  refine wpAny_take (i := 5) (v := ?_) rfl (by kernel_rfl) (by kernel_rfl) (by kernel_rfl) (fun _ _ _ h => h) (Or.inl ⟨by rfl, ?_⟩) ?_
  rotate_left
  · (intro w; go_simp; try with_reducible rfl)
  refine wpAny_take (i := 7) (v := ?_) rfl (by kernel_rfl) (by kernel_rfl) (by kernel_rfl) (fun _ _ _ h => h) (Or.inl ⟨by rfl, ?_⟩) ?_
  rotate_left
  · (intro w; go_simp; try with_reducible rfl)
  refine wpAny_take (i := 8) (v := ?_) rfl (by kernel_rfl) (by kernel_rfl) (by kernel_rfl) (fun _ _ _ h => h) (Or.inl ⟨by rfl, ?_⟩) ?_
  rotate_left
  · (intro w; go_simp; try with_reducible rfl)
  refine wpAny_take (i := 10) (v := ?_) rfl (by kernel_rfl) (by kernel_rfl) (by kernel_rfl) (fun _ _ _ h => h) (Or.inl ⟨by rfl, ?_⟩) ?_
  rotate_left
  · (intro w; go_simp; try with_reducible rfl)
  refine wpAny_take (i := 11) (v := ?_) rfl (by kernel_rfl) (by kernel_rfl) (by kernel_rfl) (fun _ _ _ h => h) (Or.inl ⟨by rfl, ?_⟩) ?_
  rotate_left
  · (intro w; go_simp; try with_reducible rfl)
  refine wpAny_take (i := 13) (v := ?_) rfl (by kernel_rfl) (by kernel_rfl) (by kernel_rfl) (fun _ _ _ h => h) (Or.inl ⟨by rfl, ?_⟩) ?_
  rotate_left
  · (intro w; go_simp; try with_reducible rfl)
  refine wpAny_take (i := 14) (v := ?_) rfl (by kernel_rfl) (by kernel_rfl) (by kernel_rfl) (fun _ _ _ h => h) (Or.inl ⟨by rfl, ?_⟩) ?_
  rotate_left
  · (intro w; go_simp; try with_reducible rfl)
  refine wpAny_take (i := 16) (v := ?_) rfl (by kernel_rfl) (by kernel_rfl) (by kernel_rfl) (fun _ _ _ h => h) (Or.inl ⟨by rfl, ?_⟩) ?_
  rotate_left
  · (intro w; go_simp; try with_reducible rfl)
  refine wpAny_take (i := 17) (v := ?_) rfl (by kernel_rfl) (by kernel_rfl) (by kernel_rfl) (fun _ _ _ h => h) (Or.inl ⟨by rfl, ?_⟩) ?_
  rotate_left
  · (intro w; go_simp; try with_reducible rfl)
  refine wpAny_one (k := 0) (by kernel_rfl) ?_
  refine makeMap_step rfl rfl 108 rfl 111 106 Tryz.underlying108 ?_
  have hM := MapV.made wd 111
  have hB : Below w.heap.size w (wd.alloc (.map #[] 0)) := hBd.alloc (by omega) _
  generalize wd.alloc (.map #[] 0) = w0 at *
  refine six_inserts (w0 := w0) (b := wd.heap.size) (by intro m0 m1 m2 m3 m4 m5; cases m0 <;> cases m1 <;> cases m2 <;> cases m3 <;> cases m4 <;> cases m5 <;> kernel_rfl) rfl rfl rfl rfl rfl rfl rfl rfl rfl rfl rfl rfl rfl rfl rfl rfl rfl rfl rfl rfl rfl rfl rfl rfl rfl rfl rfl rfl rfl rfl rfl rfl rfl rfl rfl rfl rfl ?_ 6 false false false false false false 0 _ w0 rfl rfl hM ⟨fun i hi h => ?_, fun _ _ => rfl⟩ (grown_refl _ _)
  · intro w1 S n hM1 hS1 hg1
    have hB6 : Below w.heap.size w w1 := hB.grown hg1 (by have := hB.size; omega) (fun k hk => by injection hk with hk; omega)
    refine wpAny_of_idx [19, 20] _ _ _ (by kernel_rfl) ?_
    simp only [pickL, List.flatMap_cons, List.flatMap_nil, List.drop_succ_cons, List.drop_zero, List.take_succ_cons, List.take_zero, List.append_nil, List.cons_append, List.nil_append]
    refine wpList_move rfl (.tmp 1) rfl ?_
    refine wpList_assign rfl (.tmp 14) rfl ?_
    refine wpList_end ?_
    go_simp
    go_wp2_with fail
    go_ret
    rw [hsd] at hM1
    exact ⟨_, n, S, rfl, by omega, hM1, hS1, hB6⟩
  · match i, hi with
    | 0, _ | 1, _ | 2, _ | 3, _ | 4, _ | 5, _ => cases h
end Go.Proofs.YtolaabllhibkdaaGreat

/- api.Directive: its cells, lists of it. No condition. -/
namespace Go.Proofs.YtolaabllhibkdaaGreat
open Go.ChangeShapes Go.WideShapes Go.ChangeAt Go.RowKit Go.Sort
set_option linter.unusedSimpArgs false
set_option linter.unusedVariables false
structure Dr where
  op : Int
  kd : Int
  id : Int
  fr : Int
  tn : Int
  st : Int
  en : Int
  rt : Int
  rf : Int
  rn : Int
  rs : Int
  re : Int
  ro : Int
theorem Dr.ext_ {a b : Dr} (h0 : a.op = b.op) (h1 : a.kd = b.kd) (h2 : a.id = b.id) (h3 : a.fr = b.fr) (h4 : a.tn = b.tn) (h5 : a.st = b.st) (h6 : a.en = b.en) (h7 : a.rt = b.rt) (h8 : a.rf = b.rf) (h9 : a.rn = b.rn) (h10 : a.rs = b.rs) (h11 : a.re = b.re) (h12 : a.ro = b.ro) : a = b := by cases a; cases b; simp_all
instance : DecidableEq Dr := fun a b => if h : a.op = b.op ∧ a.kd = b.kd ∧ a.id = b.id ∧ a.fr = b.fr ∧ a.tn = b.tn ∧ a.st = b.st ∧ a.en = b.en ∧ a.rt = b.rt ∧ a.rf = b.rf ∧ a.rn = b.rn ∧ a.rs = b.rs ∧ a.re = b.re ∧ a.ro = b.ro then isTrue (Dr.ext_ h.1 h.2.1 h.2.2.1 h.2.2.2.1 h.2.2.2.2.1 h.2.2.2.2.2.1 h.2.2.2.2.2.2.1 h.2.2.2.2.2.2.2.1 h.2.2.2.2.2.2.2.2.1 h.2.2.2.2.2.2.2.2.2.1 h.2.2.2.2.2.2.2.2.2.2.1 h.2.2.2.2.2.2.2.2.2.2.2.1 h.2.2.2.2.2.2.2.2.2.2.2.2) else isFalse (by rintro rfl; simp at h)
def Dr.cs (r : Dr) : List Value := [.int .i64 r.op, .int .i64 r.kd, .int .i64 r.id, .int .i64 r.fr, .int .i64 r.tn, .int .i64 r.st, .int .i64 r.en, .int .i64 r.rt, .int .i64 r.rf, .int .i64 r.rn, .int .i64 r.rs, .int .i64 r.re, .int .i64 r.ro]
def flatDr (d : List Dr) : List Value := d.flatMap Dr.cs
def gDr (d : List Dr) (i : Nat) : Dr := d.getD i ⟨0, 0, 0, 0, 0, 0, 0, 0, 0, 0, 0, 0, 0⟩
theorem flatDr_cons (p : Dr) (d : List Dr) : flatDr (p :: d) = .int .i64 p.op :: .int .i64 p.kd :: .int .i64 p.id :: .int .i64 p.fr :: .int .i64 p.tn :: .int .i64 p.st :: .int .i64 p.en :: .int .i64 p.rt :: .int .i64 p.rf :: .int .i64 p.rn :: .int .i64 p.rs :: .int .i64 p.re :: .int .i64 p.ro :: flatDr d := rfl
theorem flatDr_length (d : List Dr) : (flatDr d).length = d.length * 13 := by
  induction d with
  | nil => rfl
  | cons p d ih => rw [flatDr_cons]; simp only [List.length_cons, ih]; omega
theorem flatDr_append (d e : List Dr) : flatDr (d ++ e) = flatDr d ++ flatDr e := by simp [flatDr]
theorem flatDr_at0 : ∀ (d : List Dr) (i : Nat), i < d.length → (flatDr d)[i * 13]? = some (.int .i64 (gDr d i).op)
  | p :: d, 0, _ => rfl
  | p :: d, i + 1, h => by
    rw [flatDr_cons, show (i + 1) * 13 = i * 13 + 1 + 1 + 1 + 1 + 1 + 1 + 1 + 1 + 1 + 1 + 1 + 1 + 1 from by omega]
    simp only [List.getElem?_cons_succ]
    exact flatDr_at0 d i (by simpa using h)
theorem flatDr_at1 : ∀ (d : List Dr) (i : Nat), i < d.length → (flatDr d)[i * 13 + 1]? = some (.int .i64 (gDr d i).kd)
  | p :: d, 0, _ => rfl
  | p :: d, i + 1, h => by
    rw [flatDr_cons, show (i + 1) * 13 + 1 = i * 13 + 1 + 1 + 1 + 1 + 1 + 1 + 1 + 1 + 1 + 1 + 1 + 1 + 1 + 1 from by omega]
    simp only [List.getElem?_cons_succ]
    exact flatDr_at1 d i (by simpa using h)
theorem flatDr_at2 : ∀ (d : List Dr) (i : Nat), i < d.length → (flatDr d)[i * 13 + 2]? = some (.int .i64 (gDr d i).id)
  | p :: d, 0, _ => rfl
  | p :: d, i + 1, h => by
    rw [flatDr_cons, show (i + 1) * 13 + 2 = i * 13 + 2 + 1 + 1 + 1 + 1 + 1 + 1 + 1 + 1 + 1 + 1 + 1 + 1 + 1 from by omega]
    simp only [List.getElem?_cons_succ]
    exact flatDr_at2 d i (by simpa using h)
theorem flatDr_at3 : ∀ (d : List Dr) (i : Nat), i < d.length → (flatDr d)[i * 13 + 3]? = some (.int .i64 (gDr d i).fr)
  | p :: d, 0, _ => rfl
  | p :: d, i + 1, h => by
    rw [flatDr_cons, show (i + 1) * 13 + 3 = i * 13 + 3 + 1 + 1 + 1 + 1 + 1 + 1 + 1 + 1 + 1 + 1 + 1 + 1 + 1 from by omega]
    simp only [List.getElem?_cons_succ]
    exact flatDr_at3 d i (by simpa using h)
theorem flatDr_at4 : ∀ (d : List Dr) (i : Nat), i < d.length → (flatDr d)[i * 13 + 4]? = some (.int .i64 (gDr d i).tn)
  | p :: d, 0, _ => rfl
  | p :: d, i + 1, h => by
    rw [flatDr_cons, show (i + 1) * 13 + 4 = i * 13 + 4 + 1 + 1 + 1 + 1 + 1 + 1 + 1 + 1 + 1 + 1 + 1 + 1 + 1 from by omega]
    simp only [List.getElem?_cons_succ]
    exact flatDr_at4 d i (by simpa using h)
theorem flatDr_at5 : ∀ (d : List Dr) (i : Nat), i < d.length → (flatDr d)[i * 13 + 5]? = some (.int .i64 (gDr d i).st)
  | p :: d, 0, _ => rfl
  | p :: d, i + 1, h => by
    rw [flatDr_cons, show (i + 1) * 13 + 5 = i * 13 + 5 + 1 + 1 + 1 + 1 + 1 + 1 + 1 + 1 + 1 + 1 + 1 + 1 + 1 from by omega]
    simp only [List.getElem?_cons_succ]
    exact flatDr_at5 d i (by simpa using h)
theorem flatDr_at6 : ∀ (d : List Dr) (i : Nat), i < d.length → (flatDr d)[i * 13 + 6]? = some (.int .i64 (gDr d i).en)
  | p :: d, 0, _ => rfl
  | p :: d, i + 1, h => by
    rw [flatDr_cons, show (i + 1) * 13 + 6 = i * 13 + 6 + 1 + 1 + 1 + 1 + 1 + 1 + 1 + 1 + 1 + 1 + 1 + 1 + 1 from by omega]
    simp only [List.getElem?_cons_succ]
    exact flatDr_at6 d i (by simpa using h)
theorem flatDr_at7 : ∀ (d : List Dr) (i : Nat), i < d.length → (flatDr d)[i * 13 + 7]? = some (.int .i64 (gDr d i).rt)
  | p :: d, 0, _ => rfl
  | p :: d, i + 1, h => by
    rw [flatDr_cons, show (i + 1) * 13 + 7 = i * 13 + 7 + 1 + 1 + 1 + 1 + 1 + 1 + 1 + 1 + 1 + 1 + 1 + 1 + 1 from by omega]
    simp only [List.getElem?_cons_succ]
    exact flatDr_at7 d i (by simpa using h)
theorem flatDr_at8 : ∀ (d : List Dr) (i : Nat), i < d.length → (flatDr d)[i * 13 + 8]? = some (.int .i64 (gDr d i).rf)
  | p :: d, 0, _ => rfl
  | p :: d, i + 1, h => by
    rw [flatDr_cons, show (i + 1) * 13 + 8 = i * 13 + 8 + 1 + 1 + 1 + 1 + 1 + 1 + 1 + 1 + 1 + 1 + 1 + 1 + 1 from by omega]
    simp only [List.getElem?_cons_succ]
    exact flatDr_at8 d i (by simpa using h)
theorem flatDr_at9 : ∀ (d : List Dr) (i : Nat), i < d.length → (flatDr d)[i * 13 + 9]? = some (.int .i64 (gDr d i).rn)
  | p :: d, 0, _ => rfl
  | p :: d, i + 1, h => by
    rw [flatDr_cons, show (i + 1) * 13 + 9 = i * 13 + 9 + 1 + 1 + 1 + 1 + 1 + 1 + 1 + 1 + 1 + 1 + 1 + 1 + 1 from by omega]
    simp only [List.getElem?_cons_succ]
    exact flatDr_at9 d i (by simpa using h)
theorem flatDr_at10 : ∀ (d : List Dr) (i : Nat), i < d.length → (flatDr d)[i * 13 + 10]? = some (.int .i64 (gDr d i).rs)
  | p :: d, 0, _ => rfl
  | p :: d, i + 1, h => by
    rw [flatDr_cons, show (i + 1) * 13 + 10 = i * 13 + 10 + 1 + 1 + 1 + 1 + 1 + 1 + 1 + 1 + 1 + 1 + 1 + 1 + 1 from by omega]
    simp only [List.getElem?_cons_succ]
    exact flatDr_at10 d i (by simpa using h)
theorem flatDr_at11 : ∀ (d : List Dr) (i : Nat), i < d.length → (flatDr d)[i * 13 + 11]? = some (.int .i64 (gDr d i).re)
  | p :: d, 0, _ => rfl
  | p :: d, i + 1, h => by
    rw [flatDr_cons, show (i + 1) * 13 + 11 = i * 13 + 11 + 1 + 1 + 1 + 1 + 1 + 1 + 1 + 1 + 1 + 1 + 1 + 1 + 1 from by omega]
    simp only [List.getElem?_cons_succ]
    exact flatDr_at11 d i (by simpa using h)
theorem flatDr_at12 : ∀ (d : List Dr) (i : Nat), i < d.length → (flatDr d)[i * 13 + 12]? = some (.int .i64 (gDr d i).ro)
  | p :: d, 0, _ => rfl
  | p :: d, i + 1, h => by
    rw [flatDr_cons, show (i + 1) * 13 + 12 = i * 13 + 12 + 1 + 1 + 1 + 1 + 1 + 1 + 1 + 1 + 1 + 1 + 1 + 1 + 1 from by omega]
    simp only [List.getElem?_cons_succ]
    exact flatDr_at12 d i (by simpa using h)
theorem flatDr_set : ∀ (d : List Dr) (i : Nat) (p : Dr), ((((((((((((((flatDr d).set (i * 13) (.int .i64 p.op)).set (i * 13 + 1) (.int .i64 p.kd)).set (i * 13 + 2) (.int .i64 p.id)).set (i * 13 + 3) (.int .i64 p.fr)).set (i * 13 + 4) (.int .i64 p.tn)).set (i * 13 + 5) (.int .i64 p.st)).set (i * 13 + 6) (.int .i64 p.en)).set (i * 13 + 7) (.int .i64 p.rt)).set (i * 13 + 8) (.int .i64 p.rf)).set (i * 13 + 9) (.int .i64 p.rn)).set (i * 13 + 10) (.int .i64 p.rs)).set (i * 13 + 11) (.int .i64 p.re)).set (i * 13 + 12) (.int .i64 p.ro)) = flatDr (d.set i p)
  | [], i, p => by simp [flatDr]
  | q :: d, 0, p => rfl
  | q :: d, i + 1, p => by
    rw [flatDr_cons]
    rw [show (i + 1) * 13 = i * 13 + 1 + 1 + 1 + 1 + 1 + 1 + 1 + 1 + 1 + 1 + 1 + 1 + 1 from by omega]
    rw [show i * 13 + 1 + 1 + 1 + 1 + 1 + 1 + 1 + 1 + 1 + 1 + 1 + 1 + 1 + 1 = i * 13 + 1 + 1 + 1 + 1 + 1 + 1 + 1 + 1 + 1 + 1 + 1 + 1 + 1 + 1 from by omega]
    rw [show i * 13 + 1 + 1 + 1 + 1 + 1 + 1 + 1 + 1 + 1 + 1 + 1 + 1 + 1 + 2 = i * 13 + 2 + 1 + 1 + 1 + 1 + 1 + 1 + 1 + 1 + 1 + 1 + 1 + 1 + 1 from by omega]
    rw [show i * 13 + 1 + 1 + 1 + 1 + 1 + 1 + 1 + 1 + 1 + 1 + 1 + 1 + 1 + 3 = i * 13 + 3 + 1 + 1 + 1 + 1 + 1 + 1 + 1 + 1 + 1 + 1 + 1 + 1 + 1 from by omega]
    rw [show i * 13 + 1 + 1 + 1 + 1 + 1 + 1 + 1 + 1 + 1 + 1 + 1 + 1 + 1 + 4 = i * 13 + 4 + 1 + 1 + 1 + 1 + 1 + 1 + 1 + 1 + 1 + 1 + 1 + 1 + 1 from by omega]
    rw [show i * 13 + 1 + 1 + 1 + 1 + 1 + 1 + 1 + 1 + 1 + 1 + 1 + 1 + 1 + 5 = i * 13 + 5 + 1 + 1 + 1 + 1 + 1 + 1 + 1 + 1 + 1 + 1 + 1 + 1 + 1 from by omega]
    rw [show i * 13 + 1 + 1 + 1 + 1 + 1 + 1 + 1 + 1 + 1 + 1 + 1 + 1 + 1 + 6 = i * 13 + 6 + 1 + 1 + 1 + 1 + 1 + 1 + 1 + 1 + 1 + 1 + 1 + 1 + 1 from by omega]
    rw [show i * 13 + 1 + 1 + 1 + 1 + 1 + 1 + 1 + 1 + 1 + 1 + 1 + 1 + 1 + 7 = i * 13 + 7 + 1 + 1 + 1 + 1 + 1 + 1 + 1 + 1 + 1 + 1 + 1 + 1 + 1 from by omega]
    rw [show i * 13 + 1 + 1 + 1 + 1 + 1 + 1 + 1 + 1 + 1 + 1 + 1 + 1 + 1 + 8 = i * 13 + 8 + 1 + 1 + 1 + 1 + 1 + 1 + 1 + 1 + 1 + 1 + 1 + 1 + 1 from by omega]
    rw [show i * 13 + 1 + 1 + 1 + 1 + 1 + 1 + 1 + 1 + 1 + 1 + 1 + 1 + 1 + 9 = i * 13 + 9 + 1 + 1 + 1 + 1 + 1 + 1 + 1 + 1 + 1 + 1 + 1 + 1 + 1 from by omega]
    rw [show i * 13 + 1 + 1 + 1 + 1 + 1 + 1 + 1 + 1 + 1 + 1 + 1 + 1 + 1 + 10 = i * 13 + 10 + 1 + 1 + 1 + 1 + 1 + 1 + 1 + 1 + 1 + 1 + 1 + 1 + 1 from by omega]
    rw [show i * 13 + 1 + 1 + 1 + 1 + 1 + 1 + 1 + 1 + 1 + 1 + 1 + 1 + 1 + 11 = i * 13 + 11 + 1 + 1 + 1 + 1 + 1 + 1 + 1 + 1 + 1 + 1 + 1 + 1 + 1 from by omega]
    rw [show i * 13 + 1 + 1 + 1 + 1 + 1 + 1 + 1 + 1 + 1 + 1 + 1 + 1 + 1 + 12 = i * 13 + 12 + 1 + 1 + 1 + 1 + 1 + 1 + 1 + 1 + 1 + 1 + 1 + 1 + 1 from by omega]
    simp only [List.set_cons_succ]
    rw [flatDr_set d i p]
    rfl
theorem flatDr_take : ∀ (d : List Dr) (n : Nat), (flatDr d).take (n * 13) = flatDr (d.take n)
  | _, 0 => by simp [flatDr]
  | [], n + 1 => by simp [flatDr]
  | p :: d, n + 1 => by
    rw [flatDr_cons, show (n + 1) * 13 = n * 13 + 1 + 1 + 1 + 1 + 1 + 1 + 1 + 1 + 1 + 1 + 1 + 1 + 1 from by omega]
    simp only [List.take_succ_cons]
    rw [flatDr_take d n]
    rfl
theorem flatDr_drop : ∀ (d : List Dr) (n : Nat), (flatDr d).drop (n * 13) = flatDr (d.drop n)
  | _, 0 => by simp
  | [], n + 1 => by simp [flatDr]
  | p :: d, n + 1 => by
    rw [flatDr_cons, show (n + 1) * 13 = n * 13 + 1 + 1 + 1 + 1 + 1 + 1 + 1 + 1 + 1 + 1 + 1 + 1 + 1 from by omega]
    simp only [List.drop_succ_cons]
    rw [flatDr_drop d n]
theorem flatDr_one : ∀ (l : List Dr), ∀ u ∈ flatDr l, u.oneCell' = true
  | [], u, h => by simp [flatDr] at h
  | p :: l, u, h => by
    rw [flatDr_cons] at h
    simp only [List.mem_cons] at h
    rcases h with rfl | rfl | rfl | rfl | rfl | rfl | rfl | rfl | rfl | rfl | rfl | rfl | rfl | h
    all_goals first | rfl | exact flatDr_one l u h
theorem rowsDr_of : ∀ (n : Nat) (ns : List Int), ns.length = n * 13 → ∃ d : List Dr, d.length = n ∧ ns.map (Value.int .i64) = flatDr d
  | 0, [], _ => ⟨[], rfl, rfl⟩
  | 0, _ :: _, h => by simp at h
  | n + 1, a0 :: a1 :: a2 :: a3 :: a4 :: a5 :: a6 :: a7 :: a8 :: a9 :: a10 :: a11 :: a12 :: ns, h => by
    obtain ⟨d, h1, h2⟩ := rowsDr_of n ns (by simp at h; omega)
    exact ⟨⟨a0, a1, a2, a3, a4, a5, a6, a7, a8, a9, a10, a11, a12⟩ :: d, by simp [h1], by simp [flatDr_cons, h2]⟩
  | n + 1, [], h => by simp at h <;> omega
  | n + 1, [_], h => by simp at h <;> omega
  | n + 1, [_, _], h => by simp at h <;> omega
  | n + 1, [_, _, _], h => by simp at h <;> omega
  | n + 1, [_, _, _, _], h => by simp at h <;> omega
  | n + 1, [_, _, _, _, _], h => by simp at h <;> omega
  | n + 1, [_, _, _, _, _, _], h => by simp at h <;> omega
  | n + 1, [_, _, _, _, _, _, _], h => by simp at h <;> omega
  | n + 1, [_, _, _, _, _, _, _, _], h => by simp at h <;> omega
  | n + 1, [_, _, _, _, _, _, _, _, _], h => by simp at h <;> omega
  | n + 1, [_, _, _, _, _, _, _, _, _, _], h => by simp at h <;> omega
  | n + 1, [_, _, _, _, _, _, _, _, _, _, _], h => by simp at h <;> omega
  | n + 1, [_, _, _, _, _, _, _, _, _, _, _, _], h => by simp at h <;> omega

theorem Lst.atDr {w : World} {B : Nat} {A : Option Addr} {n : Nat} {l : List Dr} (h : Lst w B 13 A n (flatDr l)) (hl : l.length = n) {k : Nat} (hk : k < n) : ∃ ad, A = some ad ∧ ad.block < B ∧ w.cell? (ad.add (k * 13)) = some (.int .i64 (gDr l k).op) ∧ w.cell? ⟨(ad.add (k * 13)).block, (ad.add (k * 13)).off + 1, none⟩ = some (.int .i64 (gDr l k).kd) ∧ w.cell? ⟨(ad.add (k * 13)).block, (ad.add (k * 13)).off + 2, none⟩ = some (.int .i64 (gDr l k).id) ∧ w.cell? ⟨(ad.add (k * 13)).block, (ad.add (k * 13)).off + 3, none⟩ = some (.int .i64 (gDr l k).fr) ∧ w.cell? ⟨(ad.add (k * 13)).block, (ad.add (k * 13)).off + 4, none⟩ = some (.int .i64 (gDr l k).tn) ∧ w.cell? ⟨(ad.add (k * 13)).block, (ad.add (k * 13)).off + 5, none⟩ = some (.int .i64 (gDr l k).st) ∧ w.cell? ⟨(ad.add (k * 13)).block, (ad.add (k * 13)).off + 6, none⟩ = some (.int .i64 (gDr l k).en) ∧ w.cell? ⟨(ad.add (k * 13)).block, (ad.add (k * 13)).off + 7, none⟩ = some (.int .i64 (gDr l k).rt) ∧ w.cell? ⟨(ad.add (k * 13)).block, (ad.add (k * 13)).off + 8, none⟩ = some (.int .i64 (gDr l k).rf) ∧ w.cell? ⟨(ad.add (k * 13)).block, (ad.add (k * 13)).off + 9, none⟩ = some (.int .i64 (gDr l k).rn) ∧ w.cell? ⟨(ad.add (k * 13)).block, (ad.add (k * 13)).off + 10, none⟩ = some (.int .i64 (gDr l k).rs) ∧ w.cell? ⟨(ad.add (k * 13)).block, (ad.add (k * 13)).off + 11, none⟩ = some (.int .i64 (gDr l k).re) ∧ w.cell? ⟨(ad.add (k * 13)).block, (ad.add (k * 13)).off + 12, none⟩ = some (.int .i64 (gDr l k).ro) := by
  obtain ⟨ad, e, hb, hc⟩ := h.at_ (by omega)
  exact ⟨ad, e, hb, hc _ _ (flatDr_at0 l k (by omega)), by rw [addr_next _ _ _ (by omega)]; exact hc _ _ (flatDr_at1 l k (by omega)), by rw [addr_next _ _ _ (by omega)]; exact hc _ _ (flatDr_at2 l k (by omega)), by rw [addr_next _ _ _ (by omega)]; exact hc _ _ (flatDr_at3 l k (by omega)), by rw [addr_next _ _ _ (by omega)]; exact hc _ _ (flatDr_at4 l k (by omega)), by rw [addr_next _ _ _ (by omega)]; exact hc _ _ (flatDr_at5 l k (by omega)), by rw [addr_next _ _ _ (by omega)]; exact hc _ _ (flatDr_at6 l k (by omega)), by rw [addr_next _ _ _ (by omega)]; exact hc _ _ (flatDr_at7 l k (by omega)), by rw [addr_next _ _ _ (by omega)]; exact hc _ _ (flatDr_at8 l k (by omega)), by rw [addr_next _ _ _ (by omega)]; exact hc _ _ (flatDr_at9 l k (by omega)), by rw [addr_next _ _ _ (by omega)]; exact hc _ _ (flatDr_at10 l k (by omega)), by rw [addr_next _ _ _ (by omega)]; exact hc _ _ (flatDr_at11 l k (by omega)), by rw [addr_next _ _ _ (by omega)]; exact hc _ _ (flatDr_at12 l k (by omega))⟩
theorem ownDr_at {w : World} {base : Nat} {t : TypeId} {g n c : Nat} {d : List Dr} (h : w.ownsRow base t 13 (.slice (some ⟨g, 0, none⟩) n c) n (flatDr d)) (hd : d.length = n) {k : Nat} (hk : k < n) : w.cell? ⟨g, k * 13, none⟩ = some (.int .i64 (gDr d k).op) ∧ w.cell? ⟨g, k * 13 + 1, none⟩ = some (.int .i64 (gDr d k).kd) ∧ w.cell? ⟨g, k * 13 + 2, none⟩ = some (.int .i64 (gDr d k).id) ∧ w.cell? ⟨g, k * 13 + 3, none⟩ = some (.int .i64 (gDr d k).fr) ∧ w.cell? ⟨g, k * 13 + 4, none⟩ = some (.int .i64 (gDr d k).tn) ∧ w.cell? ⟨g, k * 13 + 5, none⟩ = some (.int .i64 (gDr d k).st) ∧ w.cell? ⟨g, k * 13 + 6, none⟩ = some (.int .i64 (gDr d k).en) ∧ w.cell? ⟨g, k * 13 + 7, none⟩ = some (.int .i64 (gDr d k).rt) ∧ w.cell? ⟨g, k * 13 + 8, none⟩ = some (.int .i64 (gDr d k).rf) ∧ w.cell? ⟨g, k * 13 + 9, none⟩ = some (.int .i64 (gDr d k).rn) ∧ w.cell? ⟨g, k * 13 + 10, none⟩ = some (.int .i64 (gDr d k).rs) ∧ w.cell? ⟨g, k * 13 + 11, none⟩ = some (.int .i64 (gDr d k).re) ∧ w.cell? ⟨g, k * 13 + 12, none⟩ = some (.int .i64 (gDr d k).ro) :=
  ⟨(h.cellAt (k * 13) (by omega)).trans (flatDr_at0 d k (by omega)), (h.cellAt (k * 13 + 1) (by omega)).trans (flatDr_at1 d k (by omega)), (h.cellAt (k * 13 + 2) (by omega)).trans (flatDr_at2 d k (by omega)), (h.cellAt (k * 13 + 3) (by omega)).trans (flatDr_at3 d k (by omega)), (h.cellAt (k * 13 + 4) (by omega)).trans (flatDr_at4 d k (by omega)), (h.cellAt (k * 13 + 5) (by omega)).trans (flatDr_at5 d k (by omega)), (h.cellAt (k * 13 + 6) (by omega)).trans (flatDr_at6 d k (by omega)), (h.cellAt (k * 13 + 7) (by omega)).trans (flatDr_at7 d k (by omega)), (h.cellAt (k * 13 + 8) (by omega)).trans (flatDr_at8 d k (by omega)), (h.cellAt (k * 13 + 9) (by omega)).trans (flatDr_at9 d k (by omega)), (h.cellAt (k * 13 + 10) (by omega)).trans (flatDr_at10 d k (by omega)), (h.cellAt (k * 13 + 11) (by omega)).trans (flatDr_at11 d k (by omega)), (h.cellAt (k * 13 + 12) (by omega)).trans (flatDr_at12 d k (by omega))⟩
theorem ownDr_store {w : World} {base : Nat} {t : TypeId} {g n c : Nat} {d : List Dr} (h : w.ownsRow base t 13 (.slice (some ⟨g, 0, none⟩) n c) n (flatDr d)) (i : Nat) (p : Dr) : (((((((((((((w.setCell ⟨g, i * 13, none⟩ (.int .i64 p.op)).setCell ⟨g, i * 13 + 1, none⟩ (.int .i64 p.kd)).setCell ⟨g, i * 13 + 2, none⟩ (.int .i64 p.id)).setCell ⟨g, i * 13 + 3, none⟩ (.int .i64 p.fr)).setCell ⟨g, i * 13 + 4, none⟩ (.int .i64 p.tn)).setCell ⟨g, i * 13 + 5, none⟩ (.int .i64 p.st)).setCell ⟨g, i * 13 + 6, none⟩ (.int .i64 p.en)).setCell ⟨g, i * 13 + 7, none⟩ (.int .i64 p.rt)).setCell ⟨g, i * 13 + 8, none⟩ (.int .i64 p.rf)).setCell ⟨g, i * 13 + 9, none⟩ (.int .i64 p.rn)).setCell ⟨g, i * 13 + 10, none⟩ (.int .i64 p.rs)).setCell ⟨g, i * 13 + 11, none⟩ (.int .i64 p.re)).setCell ⟨g, i * 13 + 12, none⟩ (.int .i64 p.ro)).ownsRow base t 13 (.slice (some ⟨g, 0, none⟩) n c) n (flatDr (d.set i p)) ∧ w.grownBy (((((((((((((w.setCell ⟨g, i * 13, none⟩ (.int .i64 p.op)).setCell ⟨g, i * 13 + 1, none⟩ (.int .i64 p.kd)).setCell ⟨g, i * 13 + 2, none⟩ (.int .i64 p.id)).setCell ⟨g, i * 13 + 3, none⟩ (.int .i64 p.fr)).setCell ⟨g, i * 13 + 4, none⟩ (.int .i64 p.tn)).setCell ⟨g, i * 13 + 5, none⟩ (.int .i64 p.st)).setCell ⟨g, i * 13 + 6, none⟩ (.int .i64 p.en)).setCell ⟨g, i * 13 + 7, none⟩ (.int .i64 p.rt)).setCell ⟨g, i * 13 + 8, none⟩ (.int .i64 p.rf)).setCell ⟨g, i * 13 + 9, none⟩ (.int .i64 p.rn)).setCell ⟨g, i * 13 + 10, none⟩ (.int .i64 p.rs)).setCell ⟨g, i * 13 + 11, none⟩ (.int .i64 p.re)).setCell ⟨g, i * 13 + 12, none⟩ (.int .i64 p.ro)) (some g) := by
  obtain ⟨r0, g0⟩ := h.stored (i * 13) (.int .i64 p.op)
  obtain ⟨r1, g1⟩ := r0.stored (i * 13 + 1) (.int .i64 p.kd)
  obtain ⟨r2, g2⟩ := r1.stored (i * 13 + 2) (.int .i64 p.id)
  obtain ⟨r3, g3⟩ := r2.stored (i * 13 + 3) (.int .i64 p.fr)
  obtain ⟨r4, g4⟩ := r3.stored (i * 13 + 4) (.int .i64 p.tn)
  obtain ⟨r5, g5⟩ := r4.stored (i * 13 + 5) (.int .i64 p.st)
  obtain ⟨r6, g6⟩ := r5.stored (i * 13 + 6) (.int .i64 p.en)
  obtain ⟨r7, g7⟩ := r6.stored (i * 13 + 7) (.int .i64 p.rt)
  obtain ⟨r8, g8⟩ := r7.stored (i * 13 + 8) (.int .i64 p.rf)
  obtain ⟨r9, g9⟩ := r8.stored (i * 13 + 9) (.int .i64 p.rn)
  obtain ⟨r10, g10⟩ := r9.stored (i * 13 + 10) (.int .i64 p.rs)
  obtain ⟨r11, g11⟩ := r10.stored (i * 13 + 11) (.int .i64 p.re)
  obtain ⟨r12, g12⟩ := r11.stored (i * 13 + 12) (.int .i64 p.ro)
  rw [flatDr_set] at r12
  exact ⟨r12, grown_trans (grown_trans (grown_trans (grown_trans (grown_trans (grown_trans (grown_trans (grown_trans (grown_trans (grown_trans (grown_trans (grown_trans (g0) g1) g2) g3) g4) g5) g6) g7) g8) g9) g10) g11) g12⟩
theorem gDr_mem {d : List Dr} {i : Nat} (h : i < d.length) : gDr d i ∈ d := by
  unfold gDr; rw [List.getD_eq_getElem?_getD, List.getElem?_eq_getElem h]; simp
theorem gDr_eq {d : List Dr} {i : Nat} (h : i < d.length) : gDr d i = d[i] := by
  unfold gDr; rw [List.getD_eq_getElem?_getD, List.getElem?_eq_getElem h]; rfl
theorem take_nextDr {l : List Dr} {k : Nat} (h : k < l.length) : l.take (k + 1) = l.take k ++ [gDr l k] := by
  rw [List.take_succ_eq_append_getElem h, gDr_eq h]
theorem extDr {a b : List Dr} (hl : a.length = b.length) (h : ∀ i, i < a.length → gDr a i = gDr b i) : a = b := by
  refine List.ext_getElem hl fun i h1 h2 => ?_
  have := h i h1
  rw [gDr_eq h1, gDr_eq h2] at this
  exact this
theorem eqlDr (a b : Dr) (w : World) : (binOp .eql 37 (.agg #[.int .i64 a.op, .int .i64 a.kd, .int .i64 a.id, .int .i64 a.fr, .int .i64 a.tn, .int .i64 a.st, .int .i64 a.en, .int .i64 a.rt, .int .i64 a.rf, .int .i64 a.rn, .int .i64 a.rs, .int .i64 a.re, .int .i64 a.ro]) (.agg #[.int .i64 b.op, .int .i64 b.kd, .int .i64 b.id, .int .i64 b.fr, .int .i64 b.tn, .int .i64 b.st, .int .i64 b.en, .int .i64 b.rt, .int .i64 b.rf, .int .i64 b.rn, .int .i64 b.rs, .int .i64 b.re, .int .i64 b.ro])).run Tryz.prog w = .ok (.bool (decide (a = b))) w := by
  have u3 := Tryz.underlying3
  have a3 := Tryz.isAgg3
  have z3 := Tryz.sizeOf3
  have hS : Tryz.prog.underlying 37 = some (.struct (Tryz.prog.fieldsOf 37)) := by kernel_rfl
  have hp : Tryz.prog.stoodInHeld 37 = false := by kernel_rfl
  rw [run_eql_struct, show (10000 : Nat) = 9999 + 1 from rfl, run_equalIn_agg w 9999 37 _ _ hS hp]
  simp only [Program.fieldsOf, Tryz.underlying37]
  go_simp
  by_cases hab : a = b
  · subst hab; simp
  · simp only [hab, decide_false]
    by_cases h0 : ¬ a.op = b.op
    · simp [h0]
    replace h0 := Decidable.not_not.1 h0
    by_cases h1 : ¬ a.kd = b.kd
    · simp [h0, h1]
    replace h1 := Decidable.not_not.1 h1
    by_cases h2 : ¬ a.id = b.id
    · simp [h0, h1, h2]
    replace h2 := Decidable.not_not.1 h2
    by_cases h3 : ¬ a.fr = b.fr
    · simp [h0, h1, h2, h3]
    replace h3 := Decidable.not_not.1 h3
    by_cases h4 : ¬ a.tn = b.tn
    · simp [h0, h1, h2, h3, h4]
    replace h4 := Decidable.not_not.1 h4
    by_cases h5 : ¬ a.st = b.st
    · simp [h0, h1, h2, h3, h4, h5]
    replace h5 := Decidable.not_not.1 h5
    by_cases h6 : ¬ a.en = b.en
    · simp [h0, h1, h2, h3, h4, h5, h6]
    replace h6 := Decidable.not_not.1 h6
    by_cases h7 : ¬ a.rt = b.rt
    · simp [h0, h1, h2, h3, h4, h5, h6, h7]
    replace h7 := Decidable.not_not.1 h7
    by_cases h8 : ¬ a.rf = b.rf
    · simp [h0, h1, h2, h3, h4, h5, h6, h7, h8]
    replace h8 := Decidable.not_not.1 h8
    by_cases h9 : ¬ a.rn = b.rn
    · simp [h0, h1, h2, h3, h4, h5, h6, h7, h8, h9]
    replace h9 := Decidable.not_not.1 h9
    by_cases h10 : ¬ a.rs = b.rs
    · simp [h0, h1, h2, h3, h4, h5, h6, h7, h8, h9, h10]
    replace h10 := Decidable.not_not.1 h10
    by_cases h11 : ¬ a.re = b.re
    · simp [h0, h1, h2, h3, h4, h5, h6, h7, h8, h9, h10, h11]
    replace h11 := Decidable.not_not.1 h11
    by_cases h12 : ¬ a.ro = b.ro
    · simp [h0, h1, h2, h3, h4, h5, h6, h7, h8, h9, h10, h11, h12]
    replace h12 := Decidable.not_not.1 h12
    exact absurd (Dr.ext_ h0 h1 h2 h3 h4 h5 h6 h7 h8 h9 h10 h11 h12) hab
theorem neqDr (a b : Dr) (w : World) : (binOp .neq 37 (.agg #[.int .i64 a.op, .int .i64 a.kd, .int .i64 a.id, .int .i64 a.fr, .int .i64 a.tn, .int .i64 a.st, .int .i64 a.en, .int .i64 a.rt, .int .i64 a.rf, .int .i64 a.rn, .int .i64 a.rs, .int .i64 a.re, .int .i64 a.ro]) (.agg #[.int .i64 b.op, .int .i64 b.kd, .int .i64 b.id, .int .i64 b.fr, .int .i64 b.tn, .int .i64 b.st, .int .i64 b.en, .int .i64 b.rt, .int .i64 b.rf, .int .i64 b.rn, .int .i64 b.rs, .int .i64 b.re, .int .i64 b.ro])).run Tryz.prog w = .ok (.bool (!decide (a = b))) w := by
  have u3 := Tryz.underlying3
  have a3 := Tryz.isAgg3
  have z3 := Tryz.sizeOf3
  have hS : Tryz.prog.underlying 37 = some (.struct (Tryz.prog.fieldsOf 37)) := by kernel_rfl
  have hp : Tryz.prog.stoodInHeld 37 = false := by kernel_rfl
  rw [run_neq_struct, show (10000 : Nat) = 9999 + 1 from rfl, run_equalIn_agg w 9999 37 _ _ hS hp]
  simp only [Program.fieldsOf, Tryz.underlying37]
  go_simp
  by_cases hab : a = b
  · subst hab; simp
  · simp only [hab, decide_false]
    by_cases h0 : ¬ a.op = b.op
    · simp [h0]
    replace h0 := Decidable.not_not.1 h0
    by_cases h1 : ¬ a.kd = b.kd
    · simp [h0, h1]
    replace h1 := Decidable.not_not.1 h1
    by_cases h2 : ¬ a.id = b.id
    · simp [h0, h1, h2]
    replace h2 := Decidable.not_not.1 h2
    by_cases h3 : ¬ a.fr = b.fr
    · simp [h0, h1, h2, h3]
    replace h3 := Decidable.not_not.1 h3
    by_cases h4 : ¬ a.tn = b.tn
    · simp [h0, h1, h2, h3, h4]
    replace h4 := Decidable.not_not.1 h4
    by_cases h5 : ¬ a.st = b.st
    · simp [h0, h1, h2, h3, h4, h5]
    replace h5 := Decidable.not_not.1 h5
    by_cases h6 : ¬ a.en = b.en
    · simp [h0, h1, h2, h3, h4, h5, h6]
    replace h6 := Decidable.not_not.1 h6
    by_cases h7 : ¬ a.rt = b.rt
    · simp [h0, h1, h2, h3, h4, h5, h6, h7]
    replace h7 := Decidable.not_not.1 h7
    by_cases h8 : ¬ a.rf = b.rf
    · simp [h0, h1, h2, h3, h4, h5, h6, h7, h8]
    replace h8 := Decidable.not_not.1 h8
    by_cases h9 : ¬ a.rn = b.rn
    · simp [h0, h1, h2, h3, h4, h5, h6, h7, h8, h9]
    replace h9 := Decidable.not_not.1 h9
    by_cases h10 : ¬ a.rs = b.rs
    · simp [h0, h1, h2, h3, h4, h5, h6, h7, h8, h9, h10]
    replace h10 := Decidable.not_not.1 h10
    by_cases h11 : ¬ a.re = b.re
    · simp [h0, h1, h2, h3, h4, h5, h6, h7, h8, h9, h10, h11]
    replace h11 := Decidable.not_not.1 h11
    by_cases h12 : ¬ a.ro = b.ro
    · simp [h0, h1, h2, h3, h4, h5, h6, h7, h8, h9, h10, h11, h12]
    replace h12 := Decidable.not_not.1 h12
    exact absurd (Dr.ext_ h0 h1 h2 h3 h4 h5 h6 h7 h8 h9 h10 h11 h12) hab
theorem infoDr : (Tryz.prog.info? 37).map (fun i => (i.zero, i.size, i.bytes)) = some (some (.agg #[.int .i64 0, .int .i64 0, .int .i64 0, .int .i64 0, .int .i64 0, .int .i64 0, .int .i64 0, .int .i64 0, .int .i64 0, .int .i64 0, .int .i64 0, .int .i64 0, .int .i64 0]), 13, 104) := by kernel_rfl
end Go.Proofs.YtolaabllhibkdaaGreat
