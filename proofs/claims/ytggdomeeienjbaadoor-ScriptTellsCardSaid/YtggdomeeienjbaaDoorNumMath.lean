
/- Plain mathematics of numbers and their texts: each is the other's. Nothing of any program. -/
import Derived.Test.YtggdomeeienjbaaDoorParse
import Derived.Test.YtggdomeeienjbaaDoorText
namespace Go.Proofs.YtggdomeeienjbaaDoor

def allDig (l : List UInt8) : Prop := ∀ c ∈ l, 48 ≤ c.toNat ∧ c.toNat ≤ 57
def dstep (n : Nat) (c : UInt8) : Nat := 10 * n + (c.toNat - 48)
def dval (n : Nat) (l : List UInt8) : Nat := l.foldl dstep n

theorem dval_nil (n : Nat) : dval n [] = n := rfl
theorem dval_cons (n : Nat) (c : UInt8) (r : List UInt8) : dval n (c :: r) = dval (10 * n + (c.toNat - 48)) r := by show List.foldl dstep n (c :: r) = List.foldl dstep (10 * n + (c.toNat - 48)) r; rw [List.foldl_cons, dstep]
theorem dval_ge (l : List UInt8) : ∀ n : Nat, n ≤ dval n l := by
  induction l with
  | nil => intro n; rw [dval_nil]; exact Nat.le_refl _
  | cons c r ih =>
    intro n
    have := ih (10 * n + (c.toNat - 48))
    rw [dval_cons]
    omega
theorem dval_snoc (l : List UInt8) (c : UInt8) : ∀ n, dval n (l ++ [c]) = 10 * dval n l + (c.toNat - 48) := by
  induction l with
  | nil => intro n; rw [List.nil_append, dval_cons, dval_nil, dval_nil]
  | cons a l ih => intro n; rw [List.cons_append, dval_cons, dval_cons]; exact ih _

theorem dfold_cons (n : Int) (c : UInt8) (r : List UInt8) : dfold n (c :: r) = if 48 ≤ c.toNat ∧ c.toNat ≤ 57 ∧ n ≤ (9223372036854775807 - ((c.toNat : Int) - 48)) / 10 then dfold (n * 10 + ((c.toNat : Int) - 48)) r else none := by rw [dfold]

theorem dfold_iff (l : List UInt8) : ∀ (n : Nat) (m : Int), n ≤ 9223372036854775807 → (dfold (n : Int) l = some m ↔ allDig l ∧ dval n l ≤ 9223372036854775807 ∧ m = (dval n l : Int)) := by
  induction l with
  | nil =>
    intro n m h
    rw [dval_nil]
    constructor
    · intro h2
      rw [dfold, Option.some.injEq] at h2
      have h3 := h2
      exact ⟨(fun c hc => by cases hc), h, h3.symm⟩
    · rintro ⟨_, _, h3⟩
      rw [dfold, h3]
  | cons c r ih =>
    intro n m h
    rw [dfold_cons, dval_cons]
    by_cases hc : 48 ≤ c.toNat ∧ c.toNat ≤ 57
    · obtain ⟨h1, h2⟩ := hc
      by_cases hm : (n : Int) ≤ (9223372036854775807 - ((c.toNat : Int) - 48)) / 10
      · rw [if_pos ⟨h1, h2, hm⟩]
        have e : (n : Int) * 10 + ((c.toNat : Int) - 48) = ((10 * n + (c.toNat - 48) : Nat) : Int) := by omega
        rw [e, ih _ _ (by omega)]
        constructor
        · rintro ⟨k1, k2, k3⟩
          refine ⟨fun x hx => ?_, k2, k3⟩
          rcases List.mem_cons.1 hx with rfl | hx
          · exact ⟨h1, h2⟩
          · exact k1 x hx
        · rintro ⟨k1, k2, k3⟩
          exact ⟨fun x hx => k1 x (List.mem_cons_of_mem _ hx), k2, k3⟩
      · rw [if_neg (fun h => hm h.2.2)]
        constructor
        · intro h; cases h
        · rintro ⟨_, h4, _⟩
          exfalso
          have := dval_ge r (10 * n + (c.toNat - 48))
          omega
    · rw [if_neg (fun h => hc ⟨h.1, h.2.1⟩)]
      constructor
      · intro h; cases h
      · rintro ⟨h3, _⟩
        exact absurd (h3 c (List.mem_cons_self ..)) hc

theorem digit_toNat {u : Nat} (h : u < 10) : (UInt8.ofNat (48 + u)).toNat = 48 + u := by
  rw [UInt8.toNat_ofNat']
  omega

theorem decDigits_val (u : Nat) : allDig (Lib.decDigits u) ∧ dval 0 (Lib.decDigits u) = u ∧ Lib.decDigits u ≠ [] ∧ lead (Lib.decDigits u) = false := by
  induction u using Nat.strongRecOn with
  | ind u ih =>
    by_cases h : u < 10
    · rw [Lib.decDigits_one h]
      have e := digit_toNat h
      refine ⟨?_, ?_, List.cons_ne_nil _ _, rfl⟩
      · intro c hc
        rw [List.mem_singleton.1 hc, e]
        omega
      · rw [dval_cons, dval_nil, e]; omega
    · rw [Lib.decDigits, dif_neg h]
      obtain ⟨i1, i2, i3, i4⟩ := ih (u / 10) (by omega)
      have e := digit_toNat (show u % 10 < 10 by omega)
      refine ⟨?_, ?_, ?_, ?_⟩
      · intro c hc
        rcases List.mem_append.1 hc with hc | hc
        · exact i1 c hc
        · rw [List.mem_singleton.1 hc, e]; omega
      · rw [dval_snoc, i2, e]; omega
      · intro h0
        exact absurd (List.append_eq_nil_iff.1 h0).2 (List.cons_ne_nil _ _)
      · cases hl : Lib.decDigits (u / 10) with
        | nil => exact absurd hl i3
        | cons a r =>
          rw [hl] at i2 i4
          have ha : a ≠ 48 := by
            intro ha
            subst ha
            cases r with
            | nil =>
              rw [dval_cons, dval_nil] at i2
              have e48 : (48 : UInt8).toNat = 48 := rfl
              rw [e48] at i2
              omega
            | cons b r => exact absurd i4 (by simp [lead])
          simp [lead, ha]

theorem canon : ∀ (k : Nat) (l : List UInt8), l.length ≤ k → allDig l → lead l = false → Lib.decDigits (dval 0 l) = l
  | 0, l, hk, _, hl => by
    have : l = [] := List.length_eq_zero_iff.1 (by omega)
    subst this
    simp [lead] at hl
  | k + 1, l, hk, hd, hl => by
    rcases List.eq_nil_or_concat l with rfl | ⟨l', c, rfl⟩
    · simp [lead] at hl
    · have hc : 48 ≤ c.toNat ∧ c.toNat ≤ 57 := hd c (by simp)
      have ec : UInt8.ofNat (48 + (c.toNat - 48)) = c := by
        rw [show 48 + (c.toNat - 48) = c.toNat by omega]
        exact UInt8.ofNat_toNat
      rw [List.concat_eq_append] at *
      cases l' with
      | nil =>
        rw [List.nil_append, dval_cons, dval_nil, show 10 * 0 + (c.toNat - 48) = c.toNat - 48 by omega, Lib.decDigits_one (by omega), ec]
      | cons a r =>
        have ha : a ≠ 48 := by
          intro ha
          subst ha
          simp [lead] at hl
        have hl' : lead (a :: r) = false := by
          have : ¬ (a == 48) = true := by simpa using ha
          simp [lead, ha]
        have hd' : allDig (a :: r) := fun x hx => hd x (by simp only [List.mem_append]; exact .inl hx)
        have ih := canon k (a :: r) (by simp at hk ⊢; omega) hd' hl'
        have hpos : dval 0 (a :: r) ≠ 0 := by
          intro h0
          rw [h0] at ih
          rw [Lib.decDigits_one (by omega)] at ih
          simp only [List.cons.injEq] at ih
          exact ha ih.1.symm
        rw [dval_snoc, Lib.decDigits, dif_neg (by omega)]
        rw [show (10 * dval 0 (a :: r) + (c.toNat - 48)) / 10 = dval 0 (a :: r) by omega, show (10 * dval 0 (a :: r) + (c.toNat - 48)) % 10 = c.toNat - 48 by omega, ih, ec]

theorem parseF_some {l : List UInt8} {high k : Int} : parseF l high = some k ↔ lead l = false ∧ dfold 0 l = some k ∧ k ≤ high := by
  unfold parseF
  by_cases hl : lead l = true
  · rw [if_pos hl]
    constructor
    · intro h; cases h
    · rintro ⟨h, _⟩; rw [hl] at h; cases h
  · rw [if_neg hl]
    have hl' : lead l = false := by simpa using hl
    cases hd : dfold 0 l with
    | none =>
      constructor
      · intro h; cases h
      · rintro ⟨_, h, _⟩; cases h
    | some n =>
      show (if n ≤ high then some n else none) = some k ↔ _
      constructor
      · intro h
        by_cases hn : n ≤ high
        · rw [if_pos hn] at h
          simp only [Option.some.injEq] at h
          subst h
          exact ⟨hl', rfl, hn⟩
        · rw [if_neg hn] at h; cases h
      · rintro ⟨_, h, hk⟩
        simp only [Option.some.injEq] at h
        subst h
        rw [if_pos hk]

theorem dfold0 (l : List UInt8) (m : Int) : dfold 0 l = some m ↔ allDig l ∧ dval 0 l ≤ 9223372036854775807 ∧ m = (dval 0 l : Int) := dfold_iff l 0 m (by omega)

theorem itoa_inj {a b : Int} (h0 : -9223372036854775808 ≤ a) (h1 : a ≤ 9223372036854775807) (h2 : -9223372036854775808 ≤ b) (h3 : b ≤ 9223372036854775807) (h : Lib.itoa a = Lib.itoa b) : a = b := by
  unfold Lib.itoa at h
  by_cases ha : a < 0 <;> by_cases hb : b < 0
  · rw [if_pos ha, if_pos hb] at h
    simp only [List.cons.injEq, true_and] at h
    have e1 := (decDigits_val a.natAbs).2.1
    have e2 := (decDigits_val b.natAbs).2.1
    rw [h] at e1
    omega
  · rw [if_pos ha, if_neg hb] at h
    exfalso
    have := (decDigits_val b.toNat).1 45 (by rw [← h]; simp)
    simp at this
  · rw [if_neg ha, if_pos hb] at h
    exfalso
    have := (decDigits_val a.toNat).1 45 (by rw [h]; simp)
    simp at this
  · rw [if_neg ha, if_neg hb] at h
    have e1 := (decDigits_val a.toNat).2.1
    have e2 := (decDigits_val b.toNat).2.1
    rw [h] at e1
    omega

/-- What a text says has that text. -/
theorem itoa_parse {l : List UInt8} {high k : Int} (h : parseF l high = some k) : Lib.itoa k = l ∧ 0 ≤ k ∧ k ≤ high ∧ k ≤ 9223372036854775807 := by
  obtain ⟨h1, h2, h3⟩ := parseF_some.1 h
  obtain ⟨k1, k2, rfl⟩ := (dfold0 l k).1 h2
  refine ⟨?_, by omega, h3, by omega⟩
  unfold Lib.itoa
  rw [if_neg (by omega), Int.toNat_natCast]
  exact canon _ l (Nat.le_refl _) k1 h1

/-- Who reads a number's text has the number, if it is from 0 to the greatest. -/
theorem parse_itoa {n high : Int} (h1 : n ≤ 9223372036854775807) (h2 : 0 ≤ n) (h3 : n ≤ high) : parseF (Lib.itoa n) high = some n := by
  obtain ⟨i1, i2, i3, i4⟩ := decDigits_val n.toNat
  have e : Lib.itoa n = Lib.decDigits n.toNat := by unfold Lib.itoa; rw [if_neg (by omega)]
  rw [e, parseF_some]
  exact ⟨i4, (dfold0 _ _).2 ⟨i1, by omega, by omega⟩, h3⟩
theorem parse_itoa_no {n high : Int} (h0 : -9223372036854775808 ≤ n) (h1 : n ≤ 9223372036854775807) (h2 : n < 0 ∨ high < n) : parseF (Lib.itoa n) high = none := by
  cases hp : parseF (Lib.itoa n) high with
  | none => rfl
  | some k =>
    obtain ⟨e, k0, k1, k2⟩ := itoa_parse hp
    have : k = n := itoa_inj (by omega) k2 h0 h1 e
    omega
end Go.Proofs.YtggdomeeienjbaaDoor
