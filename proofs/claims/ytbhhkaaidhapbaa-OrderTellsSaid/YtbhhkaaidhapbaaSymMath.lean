/- Merging in place (SymMerge): plain facts of lists. No condition. -/
import Derived.Lib.Hide
namespace Go.Proofs.Ytbhhkaaidhapbaa
section
variable {α : Type}
/-- A strict order whose ties are alike. -/
structure Swo (lt : α → α → Bool) : Prop where
  asym : ∀ a b, lt a b = true → lt b a = false
  neg : ∀ a b c, lt a b = false → lt b c = false → lt a c = false
theorem Swo.irr {lt : α → α → Bool} (h : Swo lt) (a : α) : lt a a = false := by
  cases hc : lt a a with
  | false => rfl
  | true => exact absurd (h.asym a a hc) (by rw [hc]; decide)
theorem Swo.lt_of {lt : α → α → Bool} (h : Swo lt) {a b c : α} (h1 : lt b a = false) (h2 : lt b c = true) : lt a c = true := by
  cases hc : lt a c with
  | true => rfl
  | false =>
    have := h.neg b a c h1 hc
    rw [h2] at this
    cases this
theorem Swo.lt_of' {lt : α → α → Bool} (h : Swo lt) {a b c : α} (h1 : lt a b = true) (h2 : lt c b = false) : lt a c = true := by
  cases hc : lt a c with
  | true => rfl
  | false =>
    have := h.neg a c b hc h2
    rw [h1] at this
    cases this
/-- In order: none is ahead of one that stands ahead of it. -/
def Ord (lt : α → α → Bool) (l : List α) : Prop := l.Pairwise fun a b => lt b a = false
/-- Two rows in order made one, of those alike the first row's first. -/
def mrg (lt : α → α → Bool) : List α → List α → List α
  | [], Y => Y
  | X, [] => X
  | x :: X, y :: Y => if lt y x = true then y :: mrg lt (x :: X) Y else x :: mrg lt X (y :: Y)
termination_by X Y => X.length + Y.length
theorem mrg_nil (lt : α → α → Bool) (X : List α) : mrg lt X [] = X := by
  cases X <;> unfold mrg <;> rfl
theorem nil_mrg (lt : α → α → Bool) (Y : List α) : mrg lt [] Y = Y := by unfold mrg; rfl
theorem mrg_cons (lt : α → α → Bool) (x y : α) (X Y : List α) : mrg lt (x :: X) (y :: Y) = if lt y x = true then y :: mrg lt (x :: X) Y else x :: mrg lt X (y :: Y) := by
  conv => lhs; unfold mrg
/-- Where the first parts stand ahead of the second ones, each part may be merged by itself. -/
theorem mrg_app (lt : α → α → Bool) : ∀ (X1 Y1 X2 Y2 : List α), (∀ x ∈ X1, ∀ y ∈ Y2, lt y x = false) → (∀ y ∈ Y1, ∀ x ∈ X2, lt y x = true) → mrg lt (X1 ++ X2) (Y1 ++ Y2) = mrg lt X1 Y1 ++ mrg lt X2 Y2
  | [], [], X2, Y2, _, _ => by rw [nil_mrg]; rfl
  | [], y :: Y1, X2, Y2, h1, h2 => by
    rw [nil_mrg]
    cases X2 with
    | nil => rw [List.nil_append, nil_mrg, nil_mrg]
    | cons x X2 =>
      have ih := mrg_app lt [] Y1 (x :: X2) Y2 h1 (fun y' hy' => h2 y' (List.mem_cons_of_mem _ hy'))
      rw [nil_mrg, List.nil_append] at ih
      rw [List.nil_append, List.cons_append, mrg_cons, if_pos (h2 y (List.mem_cons_self ..) x (List.mem_cons_self ..)), ih]
      rfl
  | x :: X1, [], X2, Y2, h1, h2 => by
    rw [mrg_nil]
    cases Y2 with
    | nil => rw [List.nil_append, mrg_nil, mrg_nil]
    | cons y Y2 =>
      have ih := mrg_app lt X1 [] X2 (y :: Y2) (fun x' hx' => h1 x' (List.mem_cons_of_mem _ hx')) h2
      rw [mrg_nil, List.nil_append] at ih
      have h3 := h1 x (List.mem_cons_self ..) y (List.mem_cons_self ..)
      rw [List.nil_append, List.cons_append, mrg_cons, if_neg (by rw [h3]; decide), ih]
      rfl
  | x :: X1, y :: Y1, X2, Y2, h1, h2 => by
    rw [List.cons_append, List.cons_append, mrg_cons, mrg_cons]
    by_cases hc : lt y x = true
    · rw [if_pos hc, if_pos hc]
      have ih := mrg_app lt (x :: X1) Y1 X2 Y2 h1 (fun y' hy' => h2 y' (List.mem_cons_of_mem _ hy'))
      rw [List.cons_append] at ih
      rw [ih]
      rfl
    · rw [if_neg hc, if_neg hc]
      have ih := mrg_app lt X1 (y :: Y1) X2 Y2 (fun x' hx' => h1 x' (List.mem_cons_of_mem _ hx')) h2
      rw [List.cons_append] at ih
      rw [ih]
      rfl
termination_by X1 Y1 => X1.length + Y1.length
/-- One against a row: behind all that are ahead of it. -/
theorem mrg_one (lt : α → α → Bool) (x : α) (Ya Yb : List α) (h1 : ∀ y ∈ Ya, lt y x = true) (h2 : ∀ y ∈ Yb, lt y x = false) : mrg lt [x] (Ya ++ Yb) = Ya ++ x :: Yb := by
  have h := mrg_app lt [] Ya [x] Yb (fun x hx => by cases hx) (fun y hy x' hx' => by rw [List.mem_singleton.1 hx']; exact h1 y hy)
  rw [List.nil_append, nil_mrg] at h
  rw [h]
  cases Yb with
  | nil => rw [mrg_nil]
  | cons y Yb =>
    rw [mrg_cons, if_neg (by rw [h2 y (List.mem_cons_self ..)]; decide), nil_mrg]
/-- A row against one: ahead of all that it is ahead of. -/
theorem mrg_last (lt : α → α → Bool) (y : α) (Xa Xb : List α) (h1 : ∀ x ∈ Xa, lt y x = false) (h2 : ∀ x ∈ Xb, lt y x = true) : mrg lt (Xa ++ Xb) [y] = Xa ++ y :: Xb := by
  have h := mrg_app lt Xa [] Xb [y] (fun x hx y' hy' => by rw [List.mem_singleton.1 hy']; exact h1 x hx) (fun y' hy' => by cases hy')
  rw [List.nil_append, mrg_nil] at h
  rw [h]
  cases Xb with
  | nil => rw [nil_mrg]
  | cons x Xb =>
    rw [mrg_cons, if_pos (h2 x (List.mem_cons_self ..)), mrg_nil]
theorem mrg_perm (lt : α → α → Bool) : ∀ (X Y : List α), (mrg lt X Y).Perm (X ++ Y)
  | [], Y => by rw [nil_mrg]; exact List.Perm.refl _
  | x :: X, [] => by rw [mrg_nil, List.append_nil]
  | x :: X, y :: Y => by
    rw [mrg_cons]
    by_cases hc : lt y x = true
    · rw [if_pos hc]
      exact ((mrg_perm lt (x :: X) Y).cons y).trans List.perm_middle.symm
    · rw [if_neg hc]
      exact (mrg_perm lt X (y :: Y)).cons x
termination_by X Y => X.length + Y.length
theorem mrg_ord {lt : α → α → Bool} (hs : Swo lt) : ∀ (X Y : List α), Ord lt X → Ord lt Y → Ord lt (mrg lt X Y)
  | [], Y, _, hY => by rw [nil_mrg]; exact hY
  | x :: X, [], hX, _ => by rw [mrg_nil]; exact hX
  | x :: X, y :: Y, hX, hY => by
    have hX' := List.pairwise_cons.1 hX
    have hY' := List.pairwise_cons.1 hY
    rw [mrg_cons]
    by_cases hc : lt y x = true
    · rw [if_pos hc]
      refine List.pairwise_cons.2 ⟨fun z hz => ?_, mrg_ord hs (x :: X) Y hX hY'.2⟩
      rcases List.mem_append.1 ((mrg_perm lt (x :: X) Y).mem_iff.1 hz) with h | h
      · rcases List.mem_cons.1 h with rfl | h
        · exact hs.asym _ _ hc
        · exact hs.neg _ _ _ (hX'.1 z h) (hs.asym _ _ hc)
      · exact hY'.1 z h
    · have hc' : lt y x = false := by simpa using hc
      rw [if_neg hc]
      refine List.pairwise_cons.2 ⟨fun z hz => ?_, mrg_ord hs X (y :: Y) hX'.2 hY⟩
      rcases List.mem_append.1 ((mrg_perm lt X (y :: Y)).mem_iff.1 hz) with h | h
      · exact hX'.1 z h
      · rcases List.mem_cons.1 h with rfl | h
        · exact hc'
        · exact hs.neg _ _ _ (hY'.1 z h) hc'
termination_by X Y => X.length + Y.length
/-- Alike: neither is ahead. -/
def alk (lt : α → α → Bool) (a b : α) : Bool := !lt a b && !lt b a
theorem alk_spec {lt : α → α → Bool} {a b : α} : alk lt a b = true ↔ lt a b = false ∧ lt b a = false := by
  unfold alk
  cases lt a b <;> cases lt b a <;> simp
/-- Of those alike none changes its place among them. -/
theorem mrg_alk {lt : α → α → Bool} (hs : Swo lt) (z : α) : ∀ (X Y : List α), Ord lt X → (mrg lt X Y).filter (alk lt z) = X.filter (alk lt z) ++ Y.filter (alk lt z)
  | [], Y, _ => by rw [nil_mrg]; rfl
  | x :: X, [], _ => by rw [mrg_nil]; simp
  | x :: X, y :: Y, hX => by
    have hX' := List.pairwise_cons.1 hX
    rw [mrg_cons]
    by_cases hc : lt y x = true
    · rw [if_pos hc]
      have ih := mrg_alk hs z (x :: X) Y hX
      cases hz : alk lt z y with
      | false => rw [List.filter_cons_of_neg (by rw [hz]; decide), ih, List.filter_cons_of_neg (p := alk lt z) (a := y) (by rw [hz]; decide)]
      | true =>
        have hno : (x :: X).filter (alk lt z) = [] := by
          refine List.filter_eq_nil_iff.2 fun u hu hu2 => ?_
          have h1 := alk_spec.1 hz
          have h2 := alk_spec.1 hu2
          have h3 : lt y u = true := by
            rcases List.mem_cons.1 hu with rfl | h
            · exact hc
            · exact hs.lt_of' hc (hX'.1 u h)
          have h4 := hs.neg y z u h1.2 h2.1
          rw [h3] at h4
          cases h4
        rw [List.filter_cons_of_pos hz, ih, hno, List.filter_cons_of_pos hz]
        rfl
    · rw [if_neg hc]
      have ih := mrg_alk hs z X (y :: Y) hX'.2
      cases hz : alk lt z x with
      | false => rw [List.filter_cons_of_neg (by rw [hz]; decide), ih, List.filter_cons_of_neg (p := alk lt z) (a := x) (by rw [hz]; decide)]
      | true => rw [List.filter_cons_of_pos hz, ih, List.filter_cons_of_pos hz]; rfl
termination_by X Y => X.length + Y.length
/-- Sorted so that of those alike none changes its place among them. -/
structure Stab (lt : α → α → Bool) (l r : List α) : Prop where
  ord : Ord lt r
  alk : ∀ z, r.filter (alk lt z) = l.filter (Go.Proofs.Ytbhhkaaidhapbaa.alk lt z)
theorem alk_self {lt : α → α → Bool} (hs : Swo lt) (a : α) : alk lt a a = true := alk_spec.2 ⟨hs.irr a, hs.irr a⟩
theorem Stab.mem {lt : α → α → Bool} (hs : Swo lt) {l r : List α} (h : Stab lt l r) {z : α} : z ∈ r ↔ z ∈ l := by
  have h1 : z ∈ r.filter (Go.Proofs.Ytbhhkaaidhapbaa.alk lt z) ↔ z ∈ l.filter (Go.Proofs.Ytbhhkaaidhapbaa.alk lt z) := by rw [h.alk z]
  rw [List.mem_filter, List.mem_filter] at h1
  constructor
  · intro hz; exact (h1.1 ⟨hz, alk_self hs z⟩).1
  · intro hz; exact (h1.2 ⟨hz, alk_self hs z⟩).1
/-- There is but one. -/
theorem Stab.one {lt : α → α → Bool} (hs : Swo lt) : ∀ {r r' l : List α}, Stab lt l r → Stab lt l r' → r = r'
  | [], [], _, _, _ => rfl
  | [], y :: r', l, h, h' => by
    have := (h.mem hs).2 ((h'.mem hs).1 (List.mem_cons_self (a := y) (l := r')))
    cases this
  | x :: r, [], l, h, h' => by
    have := (h'.mem hs).2 ((h.mem hs).1 (List.mem_cons_self (a := x) (l := r)))
    cases this
  | x :: r, y :: r', l, h, h' => by
    have hx := List.pairwise_cons.1 h.ord
    have hy := List.pairwise_cons.1 h'.ord
    have hxy : lt x y = false := by
      rcases List.mem_cons.1 ((h'.mem hs).2 ((h.mem hs).1 (List.mem_cons_self (a := x) (l := r)))) with e | e
      · rw [e]; exact hs.irr y
      · exact hy.1 x e
    have hyx : lt y x = false := by
      rcases List.mem_cons.1 ((h.mem hs).2 ((h'.mem hs).1 (List.mem_cons_self (a := y) (l := r')))) with e | e
      · rw [e]; exact hs.irr x
      · exact hx.1 y e
    have h1 := (h.alk x).trans (h'.alk x).symm
    rw [List.filter_cons_of_pos (alk_self hs x), List.filter_cons_of_pos (alk_spec.2 ⟨hxy, hyx⟩)] at h1
    have e : x = y := (List.cons.inj h1).1
    subst e
    have hr : Stab lt r r' := ⟨hy.2, fun z => by
      have h2 := (h.alk z).trans (h'.alk z).symm
      cases hz : Go.Proofs.Ytbhhkaaidhapbaa.alk lt z x with
      | false => rw [List.filter_cons_of_neg (by rw [hz]; decide), List.filter_cons_of_neg (by rw [hz]; decide)] at h2; exact h2.symm
      | true => rw [List.filter_cons_of_pos hz, List.filter_cons_of_pos hz] at h2; exact (List.cons.inj h2).2.symm⟩
    rw [Stab.one hs (⟨hx.2, fun _ => rfl⟩ : Stab lt r r) hr]
theorem Stab.mrg {lt : α → α → Bool} (hs : Swo lt) {l1 l2 r1 r2 : List α} (h1 : Stab lt l1 r1) (h2 : Stab lt l2 r2) : Stab lt (l1 ++ l2) (mrg lt r1 r2) :=
  ⟨mrg_ord hs _ _ h1.ord h2.ord, fun z => by rw [mrg_alk hs z _ _ h1.ord, h1.alk, h2.alk, List.filter_append]⟩
end
end Go.Proofs.Ytbhhkaaidhapbaa
