/- Insertion sort by blocks, and merging in place: the stable sort. Plain facts. No condition. -/
import Derived.Test.YtbhhkaaidhapbaaSymTo
namespace Go.Proofs.Ytbhhkaaidhapbaa
open Go.Sort
set_option linter.unusedSimpArgs false
set_option linter.unusedVariables false
section
variable {α : Type} [Inhabited α]
/-- A part sorted, of those alike none changing its place among them. -/
def Good (lt : α → α → Bool) (d0 d : Array α) (x y : Nat) : Prop := Stab lt (seg d0 x (y - x)) (seg d x (y - x))
theorem Good.congr {lt : α → α → Bool} {d0 d d' : Array α} {x y : Nat} (h : Good lt d0 d x y) (he : ∀ k, x ≤ k → k < y → d'[k]! = d[k]!) : Good lt d0 d' x y := by
  unfold Good
  rw [show seg d' x (y - x) = seg d x (y - x) from seg_congr fun k hk => he _ (by omega) (by omega)]
  exact h
omit [Inhabited α] in
theorem filter_two {p : α → Bool} {u v : α} {P S : List α} (hno : ¬ (p u = true ∧ p v = true)) : (P ++ ([v] ++ ([u] ++ S))).filter p = (P ++ ([u] ++ ([v] ++ S))).filter p := by
  rw [List.filter_append, List.filter_append]
  congr 1
  cases g1 : p u with
  | false => cases g2 : p v <;> simp [g1, g2]
  | true =>
    cases g2 : p v with
    | false => simp [g1, g2]
    | true => exact absurd ⟨g1, g2⟩ hno
/-- Two neighbours, the second one ahead, change places: of those alike none changes its place. -/
theorem alk_swp {lt : α → α → Bool} (hs : Swo lt) (z : α) {d : Array α} {a n j : Nat} (h1 : a ≤ j) (h2 : j + 1 < a + n) (hb : a + n ≤ d.size) (hl : lt d[j + 1]! d[j]! = true) : (seg (swp d (j + 1) j) a n).filter (alk lt z) = (seg d a n).filter (alk lt z) := by
  have hsw := bang_swp d (j + 1) j
  obtain ⟨p, hp⟩ : ∃ p, p = j - a := ⟨_, rfl⟩
  obtain ⟨q, hq⟩ : ∃ q, q = a + n - (j + 2) := ⟨_, rfl⟩
  have hn : n = p + (1 + (1 + q)) := by omega
  rw [hn, seg_app, seg_app, seg_app, seg_app d, seg_app d, seg_app d, seg_one, seg_one, seg_one, seg_one]
  have e1 : seg (swp d (j + 1) j) a p = seg d a p := seg_congr fun k hk => by
    rw [hsw _ (by omega) (by omega), if_neg (by omega), if_neg (by omega)]
  have e2 : seg (swp d (j + 1) j) (a + p + 1 + 1) q = seg d (a + p + 1 + 1) q := seg_congr fun k hk => by
    rw [hsw _ (by omega) (by omega), if_neg (by omega), if_neg (by omega)]
  have hj : a + p = j := by omega
  rw [e1, e2, hj, hsw _ (by omega) (by omega), if_pos rfl, hsw _ (by omega) (by omega), if_neg (by omega), if_pos rfl]
  refine filter_two fun ⟨g1, g2⟩ => ?_
  have k1 := alk_spec.1 g1
  have k2 := alk_spec.1 g2
  have := hs.neg _ _ _ k2.2 k1.1
  rw [hl] at this
  cases this
theorem alk_inner {lt : α → α → Bool} (hs : Swo lt) (z : α) (a n : Nat) : ∀ (j : Nat) (d : Array α), j < a + n → a + n ≤ d.size → (insInner lt a j d).size = d.size ∧ (seg (insInner lt a j d) a n).filter (alk lt z) = (seg d a n).filter (alk lt z)
  | 0, d, _, _ => ⟨rfl, rfl⟩
  | j + 1, d, h1, h2 => by
    unfold insInner
    by_cases c : (decide (j + 1 > a) && lt d[j + 1]! d[j]!) = true
    · rw [if_pos c]
      rw [Bool.and_eq_true, decide_eq_true_eq] at c
      obtain ⟨i1, i2⟩ := alk_inner hs z a n j (swp d (j + 1) j) (by omega) (by rw [size_swp]; exact h2)
      exact ⟨by rw [i1, size_swp], by rw [i2, alk_swp hs z (by omega) h1 h2 c.2]⟩
    · rw [if_neg c]; exact ⟨rfl, rfl⟩
theorem alk_outer {lt : α → α → Bool} (hs : Swo lt) (z : α) (a n : Nat) : ∀ (s i : Nat) (d : Array α), a + n - i ≤ s → a + n ≤ d.size → (insOuter lt a (a + n) i d).size = d.size ∧ (seg (insOuter lt a (a + n) i d) a n).filter (alk lt z) = (seg d a n).filter (alk lt z)
  | 0, i, d, h, _ => by
    unfold insOuter
    rw [if_neg (by omega)]
    exact ⟨rfl, rfl⟩
  | s + 1, i, d, h, hb => by
    unfold insOuter
    by_cases c : i < a + n
    · rw [if_pos c]
      obtain ⟨i1, i2⟩ := alk_inner hs z a n i d c hb
      obtain ⟨k1, k2⟩ := alk_outer hs z a n s (i + 1) (insInner lt a i d) (by omega) (by rw [i1]; exact hb)
      exact ⟨by rw [k1, i1], by rw [k2, i2]⟩
    · rw [if_neg c]; exact ⟨rfl, rfl⟩
omit [Inhabited α] in
theorem Swo.swo {lt : α → α → Bool} (hs : Swo lt) : SWO lt := ⟨hs.irr, fun x y z h1 h2 => hs.lt_of' h1 (hs.asym _ _ h2), hs.neg⟩
/-- One block. -/
theorem ins_good {lt : α → α → Bool} (hs : Swo lt) (d : Array α) {a b : Nat} (hab : a ≤ b) (hb : b ≤ d.size) : (insertionSort lt d a b).size = d.size ∧ (∀ k, k < a ∨ b ≤ k → (insertionSort lt d a b)[k]! = d[k]!) ∧ Good lt d (insertionSort lt d a b) a b := by
  obtain ⟨⟨h1, h2, _⟩, h3⟩ := insertionSort_holds (lt := lt) hs.swo d a b hab hb
  refine ⟨h1, h2, ?_, fun z => ?_⟩
  · rw [ord_seg]
    intro i j hij hj
    exact h3 (a + i) (a + j) (by omega) (by omega) (by omega)
  · have := (alk_outer hs z a (b - a) (b - a) (a + 1) d (by omega) (by omega)).2
    rw [show a + (b - a) = b by omega] at this
    exact this
/-- All blocks of bs. -/
structure InvB (lt : α → α → Bool) (bs n : Nat) (d0 d : Array α) : Prop where
  size : d.size = d0.size
  good : ∀ x, bs ∣ x → x < n → Good lt d0 d x (min (x + bs) n)
  out : ∀ k, n ≤ k → d[k]! = d0[k]!
/-- The first loop: block by block, from a on. -/
def insB (lt : α → α → Bool) (n bs : Nat) : Nat → Nat → Array α → Array α
  | 0, _, d => d
  | f + 1, a, d => if a + bs ≤ n then insB lt n bs f (a + bs) (insertionSort lt d a (a + bs)) else insertionSort lt d a n
theorem dvd_next {p x a : Nat} (h1 : p ∣ x) (h2 : p ∣ a) (h3 : a ≤ x) (h4 : x < a + p) : x = a := by
  have h5 := Nat.dvd_sub h1 h2
  have h6 := Nat.eq_zero_of_dvd_of_lt h5 (by omega)
  omega
theorem insB_inv {lt : α → α → Bool} (hs : Swo lt) {n bs : Nat} (hbs : 0 < bs) (d0 : Array α) (hn : n ≤ d0.size) : ∀ (f a : Nat) (d : Array α), n - a < f → a ≤ n → bs ∣ a → d.size = d0.size → (∀ x, bs ∣ x → x < a → Good lt d0 d x (min (x + bs) n)) → (∀ k, a ≤ k → d[k]! = d0[k]!) → InvB lt bs n d0 (insB lt n bs f a d)
  | 0, a, d, h, _, _, _, _, _ => by omega
  | f + 1, a, d, h, han, hd, hsz, hg, ho => by
    unfold insB
    by_cases c : a + bs ≤ n
    · rw [if_pos c]
      obtain ⟨i1, i2, i3⟩ := ins_good hs d (a := a) (b := a + bs) (by omega) (by omega)
      refine insB_inv hs hbs d0 hn f (a + bs) _ (by omega) c (Nat.dvd_add hd (Nat.dvd_refl bs)) (i1.trans hsz) (fun x x1 x2 => ?_) (fun k hk => (i2 k (.inr hk)).trans (ho k (by omega)))
      by_cases e : x < a
      · refine (hg x x1 e).congr fun k k1 k2 => i2 k (.inl ?_)
        have h5 := Nat.dvd_sub hd x1
        have h6 := Nat.le_of_dvd (by omega) h5
        omega
      · obtain rfl : x = a := dvd_next x1 hd (by omega) x2
        rw [show min (x + bs) n = x + bs by omega]
        unfold Good at i3 ⊢
        rw [← show seg d x (x + bs - x) = seg d0 x (x + bs - x) from seg_congr fun k hk => ho _ (by omega)]
        exact i3
    · rw [if_neg c]
      obtain ⟨i1, i2, i3⟩ := ins_good hs d (a := a) (b := n) han (by omega)
      refine ⟨i1.trans hsz, fun x x1 x2 => ?_, fun k hk => (i2 k (.inr hk)).trans (ho k (by omega))⟩
      by_cases e : x < a
      · refine (hg x x1 e).congr fun k k1 k2 => i2 k (.inl ?_)
        have h5 := Nat.dvd_sub hd x1
        have h6 := Nat.le_of_dvd (by omega) h5
        omega
      · obtain rfl : x = a := dvd_next x1 hd (by omega) (by omega)
        rw [show min (x + bs) n = n by omega]
        unfold Good at i3 ⊢
        rw [← show seg d x (n - x) = seg d0 x (n - x) from seg_congr fun k hk => ho _ (by omega)]
        exact i3
/-- One round of merging, from a on. -/
def mrgB (lt : α → α → Bool) (n bs : Nat) : Nat → Nat → Array α → Array α
  | 0, _, d => d
  | f + 1, a, d => if a + 2 * bs ≤ n then mrgB lt n bs f (a + 2 * bs) (symM lt (2 * bs) d a (a + bs) (a + 2 * bs)) else if a + bs < n then symM lt (2 * bs) d a (a + bs) n else d
theorem good_two {lt : α → α → Bool} (hs : Swo lt) {d0 d d' : Array α} {a m b : Nat} (ham : a ≤ m) (hmb : m ≤ b) (h1 : Good lt d0 d a m) (h2 : Good lt d0 d m b) (hm : Mgd lt d a m b d') : Good lt d0 d' a b := by
  unfold Good at h1 h2 ⊢
  rw [hm.is]
  have e : seg d0 a (b - a) = seg d0 a (m - a) ++ seg d0 m (b - m) := by
    have := seg_app d0 a (m - a) (b - m)
    rw [show m - a + (b - m) = b - a by omega, show a + (m - a) = m by omega] at this
    exact this
  rw [e]
  exact h1.mrg hs h2
theorem mrgB_inv {lt : α → α → Bool} (hs : Swo lt) {n bs : Nat} (hbs : 0 < bs) (d0 : Array α) (hn : n ≤ d0.size) : ∀ (f a : Nat) (d : Array α), n - a < f → a ≤ n → 2 * bs ∣ a → d.size = d0.size → (∀ x, 2 * bs ∣ x → x < a → Good lt d0 d x (min (x + 2 * bs) n)) → (∀ x, bs ∣ x → a ≤ x → x < n → Good lt d0 d x (min (x + bs) n)) → (∀ k, n ≤ k → d[k]! = d0[k]!) → InvB lt (2 * bs) n d0 (mrgB lt n bs f a d)
  | 0, a, d, h, _, _, _, _, _, _ => by omega
  | f + 1, a, d, h, han, hd, hsz, hg, hr, ho => by
    have hd1 : bs ∣ a := Nat.dvd_trans (Nat.dvd_mul_left bs 2) hd
    have hbefore : ∀ x, 2 * bs ∣ x → x < a → x + 2 * bs ≤ a := fun x x1 x2 => by
      have h5 := Nat.dvd_sub hd x1
      have h6 := Nat.le_of_dvd (by omega) h5
      omega
    unfold mrgB
    by_cases c : a + 2 * bs ≤ n
    · rw [if_pos c]
      have g1 := hr a hd1 (Nat.le_refl _) (by omega)
      have g2 := hr (a + bs) (Nat.dvd_add hd1 (Nat.dvd_refl bs)) (by omega) (by omega)
      rw [show min (a + bs) n = a + bs by omega] at g1
      rw [show min (a + bs + bs) n = a + 2 * bs by omega] at g2
      have hm := symM_mgd hs (2 * bs) d a (a + bs) (a + 2 * bs) (by omega) (by omega) (by omega) (by omega) g1.ord g2.ord
      refine mrgB_inv hs hbs d0 hn f (a + 2 * bs) _ (by omega) c (Nat.dvd_add hd (Nat.dvd_refl _)) (hm.size.trans hsz) (fun x x1 x2 => ?_) (fun x x1 x2 x3 => (hr x x1 (by omega) x3).congr fun k k1 k2 => hm.out k (.inr (by omega))) (fun k hk => (hm.out k (.inr (by omega))).trans (ho k hk))
      by_cases e : x < a
      · exact (hg x x1 e).congr fun k k1 k2 => hm.out k (.inl (by have := hbefore x x1 e; omega))
      · obtain rfl : x = a := dvd_next x1 hd (by omega) x2
        rw [show min (x + 2 * bs) n = x + 2 * bs by omega]
        exact good_two hs (by omega) (by omega) g1 g2 hm
    · rw [if_neg c]
      by_cases c2 : a + bs < n
      · rw [if_pos c2]
        have g1 := hr a hd1 (Nat.le_refl _) (by omega)
        have g2 := hr (a + bs) (Nat.dvd_add hd1 (Nat.dvd_refl bs)) (by omega) (by omega)
        rw [show min (a + bs) n = a + bs by omega] at g1
        rw [show min (a + bs + bs) n = n by omega] at g2
        have hm := symM_mgd hs (2 * bs) d a (a + bs) n (by omega) (by omega) c2 (by omega) g1.ord g2.ord
        refine ⟨hm.size.trans hsz, fun x x1 x2 => ?_, fun k hk => (hm.out k (.inr hk)).trans (ho k hk)⟩
        by_cases e : x < a
        · exact (hg x x1 e).congr fun k k1 k2 => hm.out k (.inl (by have := hbefore x x1 e; omega))
        · obtain rfl : x = a := dvd_next x1 hd (by omega) (by omega)
          rw [show min (x + 2 * bs) n = n by omega]
          exact good_two hs (by omega) (by omega) g1 g2 hm
      · rw [if_neg c2]
        refine ⟨hsz, fun x x1 x2 => ?_, ho⟩
        by_cases e : x < a
        · exact hg x x1 e
        · obtain rfl : x = a := dvd_next x1 hd (by omega) (by omega)
          have g1 := hr x hd1 (Nat.le_refl _) x2
          rw [show min (x + bs) n = n by omega] at g1
          rw [show min (x + 2 * bs) n = n by omega]
          exact g1
/-- Round by round. -/
def stabB (lt : α → α → Bool) (n : Nat) : Nat → Nat → Array α → Array α
  | 0, _, d => d
  | f + 1, bs, d => if bs < n then stabB lt n f (2 * bs) (mrgB lt n bs (n + 1) 0 d) else d
/-- slices' stable sort of the first n. -/
def stableA (lt : α → α → Bool) (n : Nat) (d : Array α) : Array α := stabB lt n (n + 1) 20 (insB lt n 20 (n + 1) 0 d)
theorem stabB_good {lt : α → α → Bool} (hs : Swo lt) {n : Nat} (d0 : Array α) (hn : n ≤ d0.size) : ∀ (f bs : Nat) (d : Array α), 0 < bs → n - bs < f → InvB lt bs n d0 d → (stabB lt n f bs d).size = d0.size ∧ (∀ k, n ≤ k → (stabB lt n f bs d)[k]! = d0[k]!) ∧ Good lt d0 (stabB lt n f bs d) 0 n
  | 0, bs, d, _, h, _ => by omega
  | f + 1, bs, d, hb, h, hi => by
    unfold stabB
    by_cases c : bs < n
    · rw [if_pos c]
      refine stabB_good hs d0 hn f (2 * bs) _ (by omega) (by omega) ?_
      exact mrgB_inv hs hb d0 hn (n + 1) 0 d (by omega) (by omega) (Nat.dvd_zero _) hi.size (fun x _ hx => by omega) (fun x x1 _ x3 => hi.good x x1 x3) hi.out
    · rw [if_neg c]
      refine ⟨hi.size, hi.out, ?_⟩
      by_cases h0 : n = 0
      · subst h0
        exact ⟨List.Pairwise.nil, fun z => rfl⟩
      · have := hi.good 0 (Nat.dvd_zero _) (by omega)
        rw [show min (0 + bs) n = n by omega] at this
        exact this
theorem stableA_good {lt : α → α → Bool} (hs : Swo lt) {n : Nat} (d : Array α) (hn : n ≤ d.size) : (stableA lt n d).size = d.size ∧ (∀ k, n ≤ k → (stableA lt n d)[k]! = d[k]!) ∧ Good lt d (stableA lt n d) 0 n :=
  stabB_good hs d hn (n + 1) 20 _ (by omega) (by omega) (insB_inv hs (by omega) d hn (n + 1) 0 d (by omega) (by omega) (Nat.dvd_zero _) rfl (fun x _ hx => by omega) (fun _ _ => rfl))
end
end Go.Proofs.Ytbhhkaaidhapbaa
