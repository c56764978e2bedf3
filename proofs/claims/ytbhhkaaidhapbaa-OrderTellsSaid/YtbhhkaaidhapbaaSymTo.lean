/- Merging in place (SymMerge): it is the stable merge. Plain facts. No condition. -/
import Derived.Test.YtbhhkaaidhapbaaSymArr
namespace Go.Proofs.Ytbhhkaaidhapbaa
open Go.Sort
set_option linter.unusedSimpArgs false
set_option linter.unusedVariables false
section
variable {α : Type} [Inhabited α]
/-- symMerge: the parts [a, m) and [m, b) made one; f: how deep at most. -/
def symM (lt : α → α → Bool) : Nat → Array α → Nat → Nat → Nat → Array α
  | 0, d, _, _, _ => d
  | f + 1, d, a, m, b =>
    if m - a = 1 then shUp d a (bsr (fun h => !lt d[h]! d[a]!) m b - 1 - a)
    else if b - m = 1 then shDn d m (m - bsr (fun h => lt d[m]! d[h]!) a m)
    else
      let mid := (a + b) / 2
      let start := bsr (fun c => lt d[mid + m - 1 - c]! d[c]!) (if mid < m then mid + m - b else a) (if mid < m then mid else m)
      let en := mid + m - start
      let d1 := if start < m ∧ m < en then rot m (m - start) (en - m) d else d
      let d2 := if a < start ∧ start < mid then symM lt f d1 a start mid else d1
      if mid < en ∧ en < b then symM lt f d2 mid en b else d2
/-- What is asked: the parts merged, all else as it was. -/
structure Mgd (lt : α → α → Bool) (d : Array α) (a m b : Nat) (d' : Array α) : Prop where
  size : d'.size = d.size
  out : ∀ k, k < a ∨ b ≤ k → d'[k]! = d[k]!
  is : seg d' a (b - a) = mrg lt (seg d a (m - a)) (seg d m (b - m))
theorem Mgd.triv {lt : α → α → Bool} {d : Array α} {a m b : Nat} (hm : a ≤ m) (hb : m ≤ b) (h : a = m ∨ m = b) : Mgd lt d a m b d := by
  refine ⟨rfl, fun _ _ => rfl, ?_⟩
  rcases h with rfl | rfl
  · rw [Nat.sub_self, seg_zero, nil_mrg]
  · rw [Nat.sub_self, seg_zero, mrg_nil]
theorem mgd_one {lt : α → α → Bool} (hs : Swo lt) {d : Array α} {a m b : Nat} (h1 : m = a + 1) (hmb : m < b) (hb : b ≤ d.size) (hY : Ord lt (seg d m (b - m))) : Mgd lt d a m b (shUp d a (bsr (fun h => !lt d[h]! d[a]!) m b - 1 - a)) := by
  subst h1
  obtain ⟨r1, r2, r3, r4⟩ := bsr_spec (fun h => !lt d[h]! d[a]!) (b - (a + 1)) (a + 1) b (Nat.le_refl _) (by omega) (fun h h' x1 x2 x3 x4 => by
    have h5 : lt d[h]! d[a]! = false := by simpa using x4
    have h6 : lt d[h']! d[h]! = false := by
      by_cases e : h = h'
      · rw [e]; exact hs.irr _
      · have := (ord_seg.1 hY) (h - (a + 1)) (h' - (a + 1)) (by omega) (by omega)
        rwa [show a + 1 + (h' - (a + 1)) = h' by omega, show a + 1 + (h - (a + 1)) = h by omega] at this
    show (!lt d[h']! d[a]!) = true
    rw [hs.neg _ _ _ h6 h5]
    rfl)
  generalize hr : bsr (fun h => !lt d[h]! d[a]!) (a + 1) b = r at *
  obtain ⟨s1, s2⟩ := shUp_spec d a (r - 1 - a) (by omega)
  refine ⟨s1, fun k hk => ?_, ?_⟩
  · rw [s2, if_neg (by omega)]
    by_cases e : k = a + (r - 1 - a)
    · rcases hk with hk | hk
      · omega
      · have : r = b := by omega
        omega
    · rw [if_neg e]
  · have e1 : seg d (a + 1) (b - (a + 1)) = seg d (a + 1) (r - 1 - a) ++ seg d r (b - r) := by
      have := seg_app d (a + 1) (r - 1 - a) (b - r)
      rw [show r - 1 - a + (b - r) = b - (a + 1) by omega, show a + 1 + (r - 1 - a) = r by omega] at this
      exact this
    rw [show a + 1 - a = 1 by omega, seg_one, e1, mrg_one lt]
    · have e2 : b - a = (r - 1 - a) + (1 + (b - r)) := by omega
      rw [e2, seg_app, seg_app, seg_one]
      have q1 : seg (shUp d a (r - 1 - a)) a (r - 1 - a) = seg d (a + 1) (r - 1 - a) := seg_congr fun k hk => by
        rw [s2, if_pos (by omega)]; congr 1; omega
      have q2 : (shUp d a (r - 1 - a))[a + (r - 1 - a)]! = d[a]! := by
        rw [s2, if_neg (by omega), if_pos rfl]
      have q3 : seg (shUp d a (r - 1 - a)) (a + (r - 1 - a) + 1) (b - r) = seg d r (b - r) := seg_congr fun k hk => by
        rw [s2, if_neg (by omega), if_neg (by omega)]; congr 1; omega
      rw [q1, q2, q3]
      rfl
    · intro y hy
      obtain ⟨k, hk, rfl⟩ := seg_mem.1 hy
      have := r3 (a + 1 + k) (by omega) (by omega)
      simpa using this
    · intro y hy
      obtain ⟨k, hk, rfl⟩ := seg_mem.1 hy
      have := r4 (r + k) (by omega) (by omega)
      simpa using this
theorem mgd_last {lt : α → α → Bool} (hs : Swo lt) {d : Array α} {a m b : Nat} (h1 : b = m + 1) (ham : a < m) (hb : b ≤ d.size) (hX : Ord lt (seg d a (m - a))) : Mgd lt d a m b (shDn d m (m - bsr (fun h => lt d[m]! d[h]!) a m)) := by
  subst h1
  obtain ⟨r1, r2, r3, r4⟩ := bsr_spec (fun h => lt d[m]! d[h]!) (m - a) a m (Nat.le_refl _) (by omega) (fun h h' x1 x2 x3 x4 => by
    by_cases e : h = h'
    · rw [← e]; exact x4
    · have := (ord_seg.1 hX) (h - a) (h' - a) (by omega) (by omega)
      rw [show a + (h' - a) = h' by omega, show a + (h - a) = h by omega] at this
      exact hs.lt_of' x4 this)
  generalize hr : bsr (fun h => lt d[m]! d[h]!) a m = r at *
  obtain ⟨s1, s2⟩ := shDn_spec d m (m - r) (by omega) (by omega)
  refine ⟨s1, fun k hk => ?_, ?_⟩
  · rw [s2, if_neg (by omega), if_neg (by omega)]
  · have e1 : seg d a (m - a) = seg d a (r - a) ++ seg d r (m - r) := by
      have := seg_app d a (r - a) (m - r)
      rw [show r - a + (m - r) = m - a by omega, show a + (r - a) = r by omega] at this
      exact this
    rw [show m + 1 - m = 1 by omega, seg_one, e1, mrg_last lt]
    · have e2 : m + 1 - a = (r - a) + (1 + (m - r)) := by omega
      rw [e2, seg_app, seg_app, seg_one]
      have q1 : seg (shDn d m (m - r)) a (r - a) = seg d a (r - a) := seg_congr fun k hk => by
        rw [s2, if_neg (by omega), if_neg (by omega)]
      have q2 : (shDn d m (m - r))[a + (r - a)]! = d[m]! := by
        rw [s2, if_neg (by omega), if_pos (by omega)]
      have q3 : seg (shDn d m (m - r)) (a + (r - a) + 1) (m - r) = seg d r (m - r) := seg_congr fun k hk => by
        rw [s2, if_pos (by omega)]; congr 1; omega
      rw [q1, q2, q3]
      rfl
    · intro x hx
      obtain ⟨k, hk, rfl⟩ := seg_mem.1 hx
      have := r3 (a + k) (by omega) (by omega)
      exact this
    · intro x hx
      obtain ⟨k, hk, rfl⟩ := seg_mem.1 hx
      exact r4 (r + k) (by omega) (by omega)
theorem ord_at {lt : α → α → Bool} (hs : Swo lt) {d : Array α} {a n : Nat} (h : Ord lt (seg d a n)) {i j : Nat} (hi : a ≤ i) (hij : i ≤ j) (hj : j < a + n) : lt d[j]! d[i]! = false := by
  by_cases e : i = j
  · rw [e]; exact hs.irr _
  · have := (ord_seg.1 h) (i - a) (j - a) (by omega) (by omega)
    rwa [show a + (j - a) = j by omega, show a + (i - a) = i by omega] at this
theorem ord_part {lt : α → α → Bool} {d : Array α} {a n a' n' : Nat} (h : Ord lt (seg d a n)) (h1 : a ≤ a') (h2 : a' + n' ≤ a + n) : Ord lt (seg d a' n') := by
  rw [ord_seg]
  intro i j hij hj
  have := (ord_seg.1 h) (a' - a + i) (a' - a + j) (by omega) (by omega)
  rwa [show a + (a' - a + j) = a' + j by omega, show a + (a' - a + i) = a' + i by omega] at this
theorem symM_mgd {lt : α → α → Bool} (hs : Swo lt) : ∀ (f : Nat) (d : Array α) (a m b : Nat), b - a ≤ f → a < m → m < b → b ≤ d.size → Ord lt (seg d a (m - a)) → Ord lt (seg d m (b - m)) → Mgd lt d a m b (symM lt f d a m b)
  | 0, d, a, m, b, hf, h1, h2, _, _, _ => by omega
  | f + 1, d, a, m, b, hf, ham, hmb, hb, hX, hY => by
    unfold symM
    by_cases c1 : m - a = 1
    · rw [if_pos c1]; exact mgd_one hs (by omega) hmb hb hY
    rw [if_neg c1]
    by_cases c2 : b - m = 1
    · rw [if_pos c2]; exact mgd_last hs (by omega) ham hb hX
    rw [if_neg c2]
    dsimp only
    obtain ⟨mid, hmid⟩ : ∃ z, (a + b) / 2 = z := ⟨_, rfl⟩
    rw [hmid]
    have hm1 : a < mid := by omega
    have hm2 : mid < b := by omega
    obtain ⟨s0, hs0⟩ : ∃ z, (if mid < m then mid + m - b else a) = z := ⟨_, rfl⟩
    obtain ⟨r0, hr0⟩ : ∃ z, (if mid < m then mid else m) = z := ⟨_, rfl⟩
    rw [hs0, hr0]
    have hsr : (mid < m ∧ s0 = mid + m - b ∧ r0 = mid) ∨ (m ≤ mid ∧ s0 = a ∧ r0 = m) := by
      by_cases c : mid < m
      · rw [if_pos c] at hs0 hr0; exact .inl ⟨c, hs0.symm, hr0.symm⟩
      · rw [if_neg c] at hs0 hr0; exact .inr ⟨by omega, hs0.symm, hr0.symm⟩
    clear hs0 hr0
    obtain ⟨r1, r2, r3, r4⟩ := bsr_spec (fun c => lt d[mid + m - 1 - c]! d[c]!) (r0 - s0) s0 r0 (Nat.le_refl _) (by omega) (fun h h' x1 x2 x3 x4 => by
      have k1 : lt d[h']! d[h]! = false := ord_at hs hX (by omega) x2 (by omega)
      have k2 : lt d[mid + m - 1 - h]! d[mid + m - 1 - h']! = false := ord_at hs hY (by omega) (by omega) (by omega)
      exact hs.lt_of' (hs.lt_of k2 x4) k1)
    generalize bsr (fun c => lt d[mid + m - 1 - c]! d[c]!) s0 r0 = st at *
    obtain ⟨en, hen⟩ : ∃ z, mid + m - st = z := ⟨_, rfl⟩
    rw [hen]
    have he1 : m ≤ en := by omega
    have he2 : en ≤ b := by omega
    have hst1 : a ≤ st := by omega
    have hst2 : st ≤ m := by omega
    have hlen : (st - a) + (en - m) = mid - a := by omega
    have hC1 : ∀ i j, a ≤ i → i < st → en ≤ j → j < b → lt d[j]! d[i]! = false := fun i j i1 i2 j1 j2 => by
      have hs0lt : s0 < st := by omega
      have k0 := r3 (st - 1) (by omega) (by omega)
      have k0' : lt d[mid + m - 1 - (st - 1)]! d[st - 1]! = false := k0
      rw [show mid + m - 1 - (st - 1) = en by omega] at k0'
      have k1 := ord_at hs hX (i := i) (j := st - 1) i1 (by omega) (by omega)
      have k2 := ord_at hs hY (i := en) (j := j) he1 j1 (by omega)
      exact hs.neg _ _ _ (hs.neg _ _ _ k2 k0') k1
    have hC2 : ∀ j i, m ≤ j → j < en → st ≤ i → i < m → lt d[j]! d[i]! = true := fun j i j1 j2 i1 i2 => by
      have hlt : st < r0 := by omega
      have k0 := r4 st (Nat.le_refl _) hlt
      have k0' : lt d[mid + m - 1 - st]! d[st]! = true := k0
      rw [show mid + m - 1 - st = en - 1 by omega] at k0'
      have k1 := ord_at hs hY (i := j) (j := en - 1) j1 (by omega) (by omega)
      have k2 := ord_at hs hX (i := st) (j := i) hst1 i1 (by omega)
      exact hs.lt_of' (hs.lt_of k1 k0') k2
    -- behind the rotation
    obtain ⟨d1, hd1⟩ : ∃ z, (if st < m ∧ m < en then rot m (m - st) (en - m) d else d) = z := ⟨_, rfl⟩
    rw [hd1]
    have hD1 : d1.size = d.size ∧ ∀ k, d1[k]! = if st ≤ k ∧ k < st + (en - m) then d[k + (m - st)]! else if st + (en - m) ≤ k ∧ k < en then d[k - (en - m)]! else d[k]! := by
      rw [← hd1]
      by_cases c : st < m ∧ m < en
      · rw [if_pos c]
        obtain ⟨q1, q2⟩ := rot_spec m (m - st + (en - m)) (m - st) (en - m) d (Nat.le_refl _) (by omega) (by omega) (by omega) (by omega)
        refine ⟨q1, fun k => ?_⟩
        rw [q2 k, show m - (m - st) = st by omega, show m + (en - m) = en by omega]
      · rw [if_neg c]
        refine ⟨rfl, fun k => ?_⟩
        by_cases g1 : st ≤ k ∧ k < st + (en - m)
        · rw [if_pos g1, show k + (m - st) = k by omega]
        · rw [if_neg g1]
          by_cases g2 : st + (en - m) ≤ k ∧ k < en
          · rw [if_pos g2, show k - (en - m) = k by omega]
          · rw [if_neg g2]
    clear hd1
    obtain ⟨z1, z2⟩ := hD1
    have w1 : seg d1 a (st - a) = seg d a (st - a) := seg_congr fun k hk => by rw [z2, if_neg (by omega), if_neg (by omega)]
    have w2 : seg d1 st (mid - st) = seg d m (en - m) := by
      rw [show mid - st = en - m by omega]
      exact seg_congr fun k hk => by rw [z2, if_pos (by omega)]; congr 1; omega
    have w3 : seg d1 mid (en - mid) = seg d st (m - st) := by
      rw [show en - mid = m - st by omega]
      exact seg_congr fun k hk => by rw [z2, if_neg (by omega), if_pos (by omega)]; congr 1; omega
    have w4 : seg d1 en (b - en) = seg d en (b - en) := seg_congr fun k hk => by rw [z2, if_neg (by omega), if_neg (by omega)]
    -- the first half
    obtain ⟨d2, hd2⟩ : ∃ z, (if a < st ∧ st < mid then symM lt f d1 a st mid else d1) = z := ⟨_, rfl⟩
    rw [hd2]
    have hM1 : Mgd lt d1 a st mid d2 := by
      rw [← hd2]
      by_cases c : a < st ∧ st < mid
      · rw [if_pos c]
        exact symM_mgd hs f d1 a st mid (by omega) c.1 c.2 (by omega) (by rw [w1]; exact ord_part hX (Nat.le_refl _) (by omega)) (by rw [w2]; exact ord_part hY (Nat.le_refl _) (by omega))
      · rw [if_neg c]
        exact Mgd.triv hst1 (by omega) (by omega)
    clear hd2
    -- the second half
    obtain ⟨d3, hd3⟩ : ∃ z, (if mid < en ∧ en < b then symM lt f d2 mid en b else d2) = z := ⟨_, rfl⟩
    rw [hd3]
    have v3 : seg d2 mid (en - mid) = seg d1 mid (en - mid) := seg_congr fun k hk => hM1.out _ (.inr (by omega))
    have v4 : seg d2 en (b - en) = seg d1 en (b - en) := seg_congr fun k hk => hM1.out _ (.inr (by omega))
    have hM2 : Mgd lt d2 mid en b d3 := by
      rw [← hd3]
      by_cases c : mid < en ∧ en < b
      · rw [if_pos c]
        exact symM_mgd hs f d2 mid en b (by omega) c.1 c.2 (by rw [hM1.size, z1]; exact hb) (by rw [v3, w3]; exact ord_part hX (by omega) (by omega)) (by rw [v4, w4]; exact ord_part hY (by omega) (by omega))
      · rw [if_neg c]
        exact Mgd.triv (by omega) he2 (by omega)
    clear hd3
    refine ⟨by rw [hM2.size, hM1.size, z1], fun k hk => ?_, ?_⟩
    · rw [hM2.out k (by omega), hM1.out k (by omega), z2, if_neg (by omega), if_neg (by omega)]
    · have e1 : seg d3 a (b - a) = seg d3 a (mid - a) ++ seg d3 mid (b - mid) := by
        have := seg_app d3 a (mid - a) (b - mid)
        rw [show mid - a + (b - mid) = b - a by omega, show a + (mid - a) = mid by omega] at this
        exact this
      have e2 : seg d3 a (mid - a) = seg d2 a (mid - a) := seg_congr fun k hk => hM2.out _ (.inl (by omega))
      rw [e1, e2, hM1.is, hM2.is, v3, v4, w1, w2, w3, w4]
      have e3 : seg d a (m - a) = seg d a (st - a) ++ seg d st (m - st) := by
        have := seg_app d a (st - a) (m - st)
        rw [show st - a + (m - st) = m - a by omega, show a + (st - a) = st by omega] at this
        exact this
      have e4 : seg d m (b - m) = seg d m (en - m) ++ seg d en (b - en) := by
        have := seg_app d m (en - m) (b - en)
        rw [show en - m + (b - en) = b - m by omega, show m + (en - m) = en by omega] at this
        exact this
      rw [e3, e4]
      refine (mrg_app lt _ _ _ _ ?_ ?_).symm
      · intro x hx y hy
        obtain ⟨i, hi, rfl⟩ := seg_mem.1 hx
        obtain ⟨j, hj, rfl⟩ := seg_mem.1 hy
        exact hC1 _ _ (by omega) (by omega) (by omega) (by omega)
      · intro y hy x hx
        obtain ⟨j, hj, rfl⟩ := seg_mem.1 hy
        obtain ⟨i, hi, rfl⟩ := seg_mem.1 hx
        exact hC2 _ _ (by omega) (by omega) (by omega) (by omega)
end
end Go.Proofs.Ytbhhkaaidhapbaa
