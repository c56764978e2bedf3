/- Several texts of mine in one: HopMath, Ref03, Ref10. No condition. -/
import Derived.Test.YtmbaklodgpcegaaHop
import Derived.Test.YtmbaklodgpcegaaGQ0

/- Plain mathematics of hops: who is ready earlier is there no later; less takes no longer; the latest time. Nothing of any program. -/
namespace Go.Proofs.Ytmbaklodgpcegaa

theorem pass_iff {e : Ed} {t size a b : Int} : e.pass t size = some (a, b) ↔
    e.asks t size = true ∧ size ≤ e.ro ∧ max t e.op < e.en ∧ max t e.op + cdiv size e.ra ≤ e.en ∧ a = max t e.op ∧ b = max t e.op + cdiv size e.ra + e.ow := by
  unfold Ed.pass
  constructor
  · intro h
    split at h
    · rename_i hc
      simp only [Option.some.injEq, Prod.mk.injEq] at h
      exact ⟨hc.1, hc.2.1, hc.2.2.1, hc.2.2.2, h.1.symm, h.2.symm⟩
    · cases h
  · rintro ⟨h1, h2, h3, h4, rfl, rfl⟩
    rw [if_pos ⟨h1, h2, h3, h4⟩]

theorem asks_le {e : Ed} {t l size more : Int} (h : e.asks l more = true) (h0 : 0 ≤ t) (h1 : t ≤ l) (h2 : 0 ≤ size) (h3 : size ≤ more) : e.asks t size = true := by
  rw [Ed.asks_spec] at h ⊢
  exact ⟨h.1, by omega, by omega⟩

/-- Who is ready earlier is there no later, and passes, if one who is ready later does. -/
theorem pass_earlier {e : Ed} {t l size c d : Int} (h0 : 0 ≤ t) (h1 : t ≤ l) (h : e.pass l size = some (c, d)) :
    ∃ a b, e.pass t size = some (a, b) ∧ a ≤ c ∧ b ≤ d ∧ t ≤ a ∧ a ≤ b ∧ l ≤ c := by
  obtain ⟨g1, g2, g3, g4, rfl, rfl⟩ := pass_iff.1 h
  have g := Ed.asks_spec.1 g1
  have k := Ed.ok_spec.1 g.1
  obtain ⟨c1, _, _, _, _⟩ := cdiv_bounds g.2.2.1 k.2.2.2.2.2.2.1.1
  refine ⟨_, _, pass_iff.2 ⟨asks_le g1 h0 h1 g.2.2.1 (Int.le_refl _), g2, ?_, ?_, rfl, rfl⟩, ?_, ?_, ?_, ?_, ?_⟩ <;> omega

/-- Less takes no longer, and passes, if more does. -/
theorem pass_less {e : Ed} {t size more c d : Int} (h0 : 0 ≤ size) (h1 : size ≤ more) (h : e.pass t more = some (c, d)) :
    ∃ b, e.pass t size = some (c, b) ∧ b ≤ d ∧ e.takes size ≤ e.takes more ∧ d - b = e.takes more - e.takes size ∧ more ≤ e.ro ∧ c + e.takes more ≤ e.en ∧ 0 ≤ e.takes size ∧ 0 ≤ b ∧ 0 ≤ c := by
  obtain ⟨g1, g2, g3, g4, rfl, rfl⟩ := pass_iff.1 h
  have g := Ed.asks_spec.1 g1
  have k := Ed.ok_spec.1 g.1
  have hr := k.2.2.2.2.2.2.1.1
  have m := cdiv_le h0 h1 hr
  have e1 : e.takes size = cdiv size e.ra := by
    unfold Ed.takes
    rw [if_pos (asks_le g1 (Int.le_refl _) g.2.1.1 h0 h1)]
  have e2 : e.takes more = cdiv more e.ra := by
    unfold Ed.takes
    rw [if_pos (asks_le g1 (Int.le_refl _) g.2.1.1 g.2.2.1 (Int.le_refl _))]
  rw [e1, e2]
  obtain ⟨c1, _, _, _, _⟩ := cdiv_bounds h0 hr
  refine ⟨_, pass_iff.2 ⟨asks_le g1 g.2.1.1 (Int.le_refl _) h0 h1, by omega, g3, by omega, rfl, rfl⟩, ?_, ?_, ?_, ?_, ?_, ?_, ?_, ?_⟩ <;> omega

theorem pass_facts {e : Ed} {t size a b : Int} (h : e.pass t size = some (a, b)) :
    e.ok = true ∧ e.op ≤ a ∧ t ≤ a ∧ (a = e.op ∨ a = t) ∧ a < e.en ∧ a + e.takes size ≤ e.en ∧ b = a + e.takes size + e.ow ∧ size ≤ e.ro ∧ size ≤ e.takes size * e.ra ∧ (e.takes size = 0 ∨ (e.takes size - 1) * e.ra < size) ∧
      0 ≤ e.takes size ∧ e.takes size ≤ 2147483647 ∧ 1 ≤ e.ra ∧ e.ra ≤ 2147483647 ∧ 0 ≤ a ∧ a ≤ 2147483647 ∧ 0 ≤ e.ow ∧ e.ow ≤ 2147483647 ∧ 0 ≤ t ∧ 0 ≤ size ∧ size ≤ 1099511627775 := by
  obtain ⟨g1, g2, g3, g4, rfl, rfl⟩ := pass_iff.1 h
  have g := Ed.asks_spec.1 g1
  have k := Ed.ok_spec.1 g.1
  have hr := k.2.2.2.2.2.2.1.1
  have e1 : e.takes size = cdiv size e.ra := by
    unfold Ed.takes
    rw [if_pos (asks_le g1 (Int.le_refl _) g.2.1.1 g.2.2.1 (Int.le_refl _))]
  rw [e1]
  obtain ⟨c1, c2, c3, c4, c5⟩ := cdiv_bounds g.2.2.1 hr
  refine ⟨g.1, ?_, ?_, ?_, ?_, ?_, ?_, ?_, c3, ?_, ?_, ?_, ?_, ?_, ?_, ?_, ?_, ?_, ?_, ?_, ?_⟩ <;> omega

theorem latest_iff {e : Ed} {b size t : Int} : e.latest b size = some t ↔ e.asks b size = true ∧ size ≤ e.ro ∧ e.op ≤ t ∧ t = min (min (e.en - 1) (e.en - cdiv size e.ra)) (b - cdiv size e.ra - e.ow) := by
  unfold Ed.latest
  constructor
  · intro h
    split at h
    · rename_i hc
      simp only [Option.some.injEq] at h
      exact ⟨hc.1, hc.2.1, h ▸ hc.2.2, h.symm⟩
    · cases h
  · rintro ⟨h1, h2, h3, h4⟩
    have h5 : t = e.last b size := h4
    subst h5
    rw [if_pos ⟨h1, h2, h3⟩]

/-- Who is ready at the latest time is there by then, and a second later is too late. -/
theorem latest_facts {e : Ed} {b size t : Int} (h : e.latest b size = some t) :
    0 ≤ t ∧ t ≤ 2147483647 ∧ (∃ x a, e.pass t size = some (x, a) ∧ a ≤ b) ∧ (∀ x c, e.pass (t + 1) size = some (x, c) → b < c) := by
  obtain ⟨g1, g2, g3, g4⟩ := latest_iff.1 h
  have g := Ed.asks_spec.1 g1
  have k := Ed.ok_spec.1 g.1
  have hr := k.2.2.2.2.2.2.1.1
  obtain ⟨c1, c2, c3, c4, c5⟩ := cdiv_bounds g.2.2.1 hr
  have hm : max t e.op = t := by omega
  refine ⟨by omega, by omega, ⟨_, _, pass_iff.2 ⟨?_, g2, ?_, ?_, rfl, rfl⟩, ?_⟩, ?_⟩
  · rw [Ed.asks_spec]
    exact ⟨g.1, by omega, by omega⟩
  · omega
  · omega
  · omega
  · intro x c hx
    obtain ⟨p1, p2, p3, p4, rfl, rfl⟩ := pass_iff.1 hx
    omega

theorem latest_none {e : Ed} {b size x a : Int} (h : e.latest b size = none) (hp : e.pass 0 size = some (x, a)) : b < a ∨ b < 0 ∨ 1099511627776 < b := by
  obtain ⟨p1, p2, p3, p4, rfl, rfl⟩ := pass_iff.1 hp
  have g := Ed.asks_spec.1 p1
  have k := Ed.ok_spec.1 g.1
  by_cases hb : 0 ≤ b ∧ b ≤ 1099511627776
  · left
    rcases Int.lt_or_le b (max 0 e.op + cdiv size e.ra + e.ow) with h1 | h1
    · exact h1
    · exfalso
      have : e.latest b size = some (min (min (e.en - 1) (e.en - cdiv size e.ra)) (b - cdiv size e.ra - e.ow)) := latest_iff.2 ⟨by rw [Ed.asks_spec]; exact ⟨g.1, by omega, by omega⟩, p2, by omega, rfl⟩
      rw [h] at this
      cases this
  · omega

theorem shift_ok {e : Ed} {n : Int} (h0 : 0 ≤ n) (h1 : 0 ≤ e.ow) (h2 : e.ow ≤ 2147483647 - n) : ({ e with ow := e.ow + n } : Ed).ok = e.ok := by
  rw [Bool.eq_iff_iff, Ed.ok_spec, Ed.ok_spec]
  simp only
  omega
theorem shift_asks {e : Ed} {t size n : Int} (h0 : 0 ≤ n) (h1 : 0 ≤ e.ow) (h2 : e.ow ≤ 2147483647 - n) : ({ e with ow := e.ow + n } : Ed).asks t size = e.asks t size := by
  unfold Ed.asks
  rw [shift_ok h0 h1 h2]
/-- Longer on the way is there later by as much, and sent at the same time. -/
theorem shift_pass {e : Ed} {t size n : Int} (h0 : 0 ≤ n) (h1 : 0 ≤ e.ow) (h2 : e.ow ≤ 2147483647 - n) : ({ e with ow := e.ow + n } : Ed).pass t size = (e.pass t size).map fun p => (p.1, p.2 + n) := by
  unfold Ed.pass
  rw [shift_asks h0 h1 h2]
  simp only
  split
  · simp only [Option.map_some, Option.some.injEq, Prod.mk.injEq, true_and]
    omega
  · rfl
/-- Who has so much less time is to be ready as before. -/
theorem shift_latest {e : Ed} {t size n : Int} (h0 : 0 ≤ n) (h3 : n ≤ 1000) (h1 : 0 ≤ e.ow) (h2 : e.ow ≤ 2147483647 - n) (h4 : 0 ≤ t) (h5 : t ≤ 549755813888) : ({ e with ow := e.ow + n } : Ed).latest (t + n) size = e.latest t size := by
  unfold Ed.latest Ed.last
  rw [shift_asks h0 h1 h2]
  have h6 : e.asks (t + n) size = e.asks t size := by
    rw [Bool.eq_iff_iff, Ed.asks_spec, Ed.asks_spec]
    constructor
    · rintro ⟨k1, k2, k3⟩
      exact ⟨k1, by omega, k3⟩
    · rintro ⟨k1, k2, k3⟩
      exact ⟨k1, by omega, k3⟩
  rw [h6]
  simp only
  rw [show t + n - cdiv size e.ra - (e.ow + n) = t - cdiv size e.ra - e.ow by omega]
end Go.Proofs.Ytmbaklodgpcegaa

/- Contracts of the document's answer for layer 3: it answers what package check answers, at all arguments. -/
namespace Go.Proofs.Ytmbaklodgpcegaa
open Go.ChangeShapes Go.WideShapes Go.ChangeAt Go.RowKit Go.Sort
set_option linter.unusedSimpArgs false
set_option linter.unusedVariables false

theorem ret_bool {a b : Bool} (h : a = b) : Ending.returned (.bool a) = .returned (.bool b) := by rw [h]

def pairB (fr tn st en : Int) : Bool := wayB fr tn && spanB st en
theorem pairB_spec {fr tn st en : Int} : pairB fr tn st en = true ↔ (1 ≤ fr ∧ fr ≤ 255) ∧ (1 ≤ tn ∧ tn ≤ 255) ∧ fr ≠ tn ∧ 0 ≤ st ∧ st < en ∧ en ≤ 2147483647 := by
  simp [pairB, wayB, nodeB, spanB, inB, and_assoc]

end Go.Proofs.Ytmbaklodgpcegaa

/- Contracts of the document's answer for layer 10: it answers what package hop answers, at all arguments. No condition. -/
namespace Go.Proofs.Ytmbaklodgpcegaa
open Go.ChangeShapes Go.WideShapes Go.ChangeAt Go.RowKit Go.Sort
set_option linter.unusedSimpArgs false
set_option linter.unusedVariables false

def passV (p : Option (Int × Int)) : Value := match p with
  | some (a, b) => .tuple #[.int .i64 a, .int .i64 b, .bool true]
  | none => .tuple #[.int .i64 0, .int .i64 0, .bool false]

/-- The document's way to the latest time comes to the same. -/
theorem latest_ref {e : Ed} {b size : Int} (h : e.asks b size = true) : e.latest b size =
    (if 0 ≤ e.last b size then (match e.pass (max (e.last b size) 0) size with | some (_, c) => if c ≤ b then some (e.last b size) else none | none => none) else none) := by
  have g := Ed.asks_spec.1 h
  have k := Ed.ok_spec.1 g.1
  have hr := k.2.2.2.2.2.2.1.1
  obtain ⟨c1, c2, c3, c4, c5⟩ := cdiv_bounds g.2.2.1 hr
  obtain ⟨t, ht⟩ : ∃ t, e.last b size = t := ⟨_, rfl⟩
  have ht2 : t = min (min (e.en - 1) (e.en - cdiv size e.ra)) (b - cdiv size e.ra - e.ow) := ht.symm
  rw [ht]
  unfold Ed.latest
  rw [ht]
  by_cases h0 : size ≤ e.ro ∧ e.op ≤ t
  · rw [if_pos ⟨h, h0.1, h0.2⟩, if_pos (by omega)]
    have hm : max (max t 0) e.op = t := by omega
    have hp : e.pass (max t 0) size = some (max (max t 0) e.op, max (max t 0) e.op + cdiv size e.ra + e.ow) :=
      pass_iff.2 ⟨by rw [Ed.asks_spec]; exact ⟨g.1, by omega, g.2.2⟩, h0.1, by omega, by omega, rfl, rfl⟩
    rw [hp]
    show some t = if max (max t 0) e.op + cdiv size e.ra + e.ow ≤ b then some t else none
    rw [if_pos (by omega)]
  · rw [if_neg (fun hh => h0 ⟨hh.2.1, hh.2.2⟩)]
    split
    · rename_i ht0
      cases hp : e.pass (max t 0) size with
      | none => rfl
      | some p =>
        obtain ⟨x, c⟩ := p
        obtain ⟨g1, g2, g3, g4, rfl, rfl⟩ := pass_iff.1 hp
        show none = if max (max t 0) e.op + cdiv size e.ra + e.ow ≤ b then some t else none
        rw [if_neg (by omega)]
    · rfl

theorem lastof_bounds {id fr tn op en ra ow ro : Int} {b size : Int} (h : Ed.asks ⟨id, fr, tn, op, en, ra, ow, ro⟩ b size = true) : -1099511627777 - 4294967295 ≤ Ed.last ⟨id, fr, tn, op, en, ra, ow, ro⟩ b size ∧ Ed.last ⟨id, fr, tn, op, en, ra, ow, ro⟩ b size ≤ 2147483647 := by
  have g := Ed.asks_spec.1 h
  have k := ok_ints g.1
  have hr := k.2.2.2.2.2.2.1.1
  obtain ⟨c1, c2, c3, c4, c5⟩ := cdiv_bounds g.2.2.1 hr
  have e1 : Ed.last ⟨id, fr, tn, op, en, ra, ow, ro⟩ b size = min (min (en - 1) (en - cdiv size ra)) (b - cdiv size ra - ow) := rfl
  omega

def latestV (p : Option Int) : Value := match p with
  | some a => .tuple #[.int .i64 a, .bool true]
  | none => .tuple #[.int .i64 0, .bool false]

end Go.Proofs.Ytmbaklodgpcegaa
