/- Several texts of mine in one: HopMath, Ref10. No condition. -/
import Derived.Test.YtmbaklodgpcegaaGreatHop
import Derived.Test.YtmbaklodgpcegaaGreatGQ0

/- Plain mathematics of hops: who is ready earlier is there no later; less takes no longer; the latest time. Nothing of any program. -/
namespace Go.Proofs.YtmbaklodgpcegaaGreat

theorem pass_iff {e : Ed} {t size a b : Int} : e.pass t size = some (a, b) ↔
    e.asks t size = true ∧ size ≤ e.ro ∧ max t e.op < e.en ∧ max t e.op + cdiv size e.ra ≤ e.en ∧ a = max t e.op ∧ b = max t e.op + cdiv size e.ra + e.ow := by
  unfold Ed.pass
  constructor
  · intro h
    split at h
    · rename_i hc
      simp only [Option.some.injEq, Prod.mk.injEq] at h
      exact ⟨hc.1, hc.2.1, hc.2.2.1, hc.2.2.2, h.1.symm, h.2.symm⟩
    · cases h
  · rintro ⟨h1, h2, h3, h4, rfl, rfl⟩
    rw [if_pos ⟨h1, h2, h3, h4⟩]

theorem asks_le {e : Ed} {t l size more : Int} (h : e.asks l more = true) (h0 : 0 ≤ t) (h1 : t ≤ l) (h2 : 0 ≤ size) (h3 : size ≤ more) : e.asks t size = true := by
  rw [Ed.asks_spec] at h ⊢
  exact ⟨h.1, by omega, by omega⟩

/-- Who is ready earlier is there no later, and passes, if one who is ready later does. -/
theorem pass_earlier {e : Ed} {t l size c d : Int} (h0 : 0 ≤ t) (h1 : t ≤ l) (h : e.pass l size = some (c, d)) :
    ∃ a b, e.pass t size = some (a, b) ∧ a ≤ c ∧ b ≤ d ∧ t ≤ a ∧ a ≤ b ∧ l ≤ c := by
  obtain ⟨g1, g2, g3, g4, rfl, rfl⟩ := pass_iff.1 h
  have g := Ed.asks_spec.1 g1
  have k := Ed.ok_spec.1 g.1
  obtain ⟨c1, _, _, _, _⟩ := cdiv_bounds g.2.2.1 k.2.2.2.2.2.2.1.1
  refine ⟨_, _, pass_iff.2 ⟨asks_le g1 h0 h1 g.2.2.1 (Int.le_refl _), g2, ?_, ?_, rfl, rfl⟩, ?_, ?_, ?_, ?_, ?_⟩ <;> omega

/-- Less takes no longer, and passes, if more does. -/
theorem pass_less {e : Ed} {t size more c d : Int} (h0 : 0 ≤ size) (h1 : size ≤ more) (h : e.pass t more = some (c, d)) :
    ∃ b, e.pass t size = some (c, b) ∧ b ≤ d ∧ e.takes size ≤ e.takes more ∧ d - b = e.takes more - e.takes size ∧ more ≤ e.ro ∧ c + e.takes more ≤ e.en ∧ 0 ≤ e.takes size ∧ 0 ≤ b ∧ 0 ≤ c := by
  obtain ⟨g1, g2, g3, g4, rfl, rfl⟩ := pass_iff.1 h
  have g := Ed.asks_spec.1 g1
  have k := Ed.ok_spec.1 g.1
  have hr := k.2.2.2.2.2.2.1.1
  have m := cdiv_le h0 h1 hr
  have e1 : e.takes size = cdiv size e.ra := by
    unfold Ed.takes
    rw [if_pos (asks_le g1 (Int.le_refl _) g.2.1.1 h0 h1)]
  have e2 : e.takes more = cdiv more e.ra := by
    unfold Ed.takes
    rw [if_pos (asks_le g1 (Int.le_refl _) g.2.1.1 g.2.2.1 (Int.le_refl _))]
  rw [e1, e2]
  obtain ⟨c1, _, _, _, _⟩ := cdiv_bounds h0 hr
  refine ⟨_, pass_iff.2 ⟨asks_le g1 g.2.1.1 (Int.le_refl _) h0 h1, by omega, g3, by omega, rfl, rfl⟩, ?_, ?_, ?_, ?_, ?_, ?_, ?_, ?_⟩ <;> omega

theorem pass_facts {e : Ed} {t size a b : Int} (h : e.pass t size = some (a, b)) :
    e.ok = true ∧ e.op ≤ a ∧ t ≤ a ∧ (a = e.op ∨ a = t) ∧ a < e.en ∧ a + e.takes size ≤ e.en ∧ b = a + e.takes size + e.ow ∧ size ≤ e.ro ∧ size ≤ e.takes size * e.ra ∧ (e.takes size = 0 ∨ (e.takes size - 1) * e.ra < size) ∧
      0 ≤ e.takes size ∧ e.takes size ≤ 2147483647 ∧ 1 ≤ e.ra ∧ e.ra ≤ 2147483647 ∧ 0 ≤ a ∧ a ≤ 2147483647 ∧ 0 ≤ e.ow ∧ e.ow ≤ 2147483647 ∧ 0 ≤ t ∧ 0 ≤ size ∧ size ≤ 1099511627775 := by
  obtain ⟨g1, g2, g3, g4, rfl, rfl⟩ := pass_iff.1 h
  have g := Ed.asks_spec.1 g1
  have k := Ed.ok_spec.1 g.1
  have hr := k.2.2.2.2.2.2.1.1
  have e1 : e.takes size = cdiv size e.ra := by
    unfold Ed.takes
    rw [if_pos (asks_le g1 (Int.le_refl _) g.2.1.1 g.2.2.1 (Int.le_refl _))]
  rw [e1]
  obtain ⟨c1, c2, c3, c4, c5⟩ := cdiv_bounds g.2.2.1 hr
  refine ⟨g.1, ?_, ?_, ?_, ?_, ?_, ?_, ?_, c3, ?_, ?_, ?_, ?_, ?_, ?_, ?_, ?_, ?_, ?_, ?_, ?_⟩ <;> omega

theorem latest_iff {e : Ed} {b size t : Int} : e.latest b size = some t ↔ e.asks b size = true ∧ size ≤ e.ro ∧ e.op ≤ t ∧ t = min (min (e.en - 1) (e.en - cdiv size e.ra)) (b - cdiv size e.ra - e.ow) := by
  unfold Ed.latest
  constructor
  · intro h
    split at h
    · rename_i hc
      simp only [Option.some.injEq] at h
      exact ⟨hc.1, hc.2.1, h ▸ hc.2.2, h.symm⟩
    · cases h
  · rintro ⟨h1, h2, h3, h4⟩
    have h5 : t = e.last b size := h4
    subst h5
    rw [if_pos ⟨h1, h2, h3⟩]

/-- Who is ready at the latest time is there by then, and a second later is too late. -/
theorem latest_facts {e : Ed} {b size t : Int} (h : e.latest b size = some t) :
    0 ≤ t ∧ t ≤ 2147483647 ∧ (∃ x a, e.pass t size = some (x, a) ∧ a ≤ b) ∧ (∀ x c, e.pass (t + 1) size = some (x, c) → b < c) := by
  obtain ⟨g1, g2, g3, g4⟩ := latest_iff.1 h
  have g := Ed.asks_spec.1 g1
  have k := Ed.ok_spec.1 g.1
  have hr := k.2.2.2.2.2.2.1.1
  obtain ⟨c1, c2, c3, c4, c5⟩ := cdiv_bounds g.2.2.1 hr
  have hm : max t e.op = t := by omega
  refine ⟨by omega, by omega, ⟨_, _, pass_iff.2 ⟨?_, g2, ?_, ?_, rfl, rfl⟩, ?_⟩, ?_⟩
  · rw [Ed.asks_spec]
    exact ⟨g.1, by omega, by omega⟩
  · omega
  · omega
  · omega
  · intro x c hx
    obtain ⟨p1, p2, p3, p4, rfl, rfl⟩ := pass_iff.1 hx
    omega

theorem latest_none {e : Ed} {b size x a : Int} (h : e.latest b size = none) (hp : e.pass 0 size = some (x, a)) : b < a ∨ b < 0 ∨ 1099511627776 < b := by
  obtain ⟨p1, p2, p3, p4, rfl, rfl⟩ := pass_iff.1 hp
  have g := Ed.asks_spec.1 p1
  have k := Ed.ok_spec.1 g.1
  by_cases hb : 0 ≤ b ∧ b ≤ 1099511627776
  · left
    rcases Int.lt_or_le b (max 0 e.op + cdiv size e.ra + e.ow) with h1 | h1
    · exact h1
    · exfalso
      have : e.latest b size = some (min (min (e.en - 1) (e.en - cdiv size e.ra)) (b - cdiv size e.ra - e.ow)) := latest_iff.2 ⟨by rw [Ed.asks_spec]; exact ⟨g.1, by omega, by omega⟩, p2, by omega, rfl⟩
      rw [h] at this
      cases this
  · omega

theorem shift_ok {e : Ed} {n : Int} (h0 : 0 ≤ n) (h1 : 0 ≤ e.ow) (h2 : e.ow ≤ 2147483647 - n) : ({ e with ow := e.ow + n } : Ed).ok = e.ok := by
  rw [Bool.eq_iff_iff, Ed.ok_spec, Ed.ok_spec]
  simp only
  omega
theorem shift_asks {e : Ed} {t size n : Int} (h0 : 0 ≤ n) (h1 : 0 ≤ e.ow) (h2 : e.ow ≤ 2147483647 - n) : ({ e with ow := e.ow + n } : Ed).asks t size = e.asks t size := by
  unfold Ed.asks
  rw [shift_ok h0 h1 h2]
/-- Longer on the way is there later by as much, and sent at the same time. -/
theorem shift_pass {e : Ed} {t size n : Int} (h0 : 0 ≤ n) (h1 : 0 ≤ e.ow) (h2 : e.ow ≤ 2147483647 - n) : ({ e with ow := e.ow + n } : Ed).pass t size = (e.pass t size).map fun p => (p.1, p.2 + n) := by
  unfold Ed.pass
  rw [shift_asks h0 h1 h2]
  simp only
  split
  · simp only [Option.map_some, Option.some.injEq, Prod.mk.injEq, true_and]
    omega
  · rfl
/-- Who has so much less time is to be ready as before. -/
theorem shift_latest {e : Ed} {t size n : Int} (h0 : 0 ≤ n) (h3 : n ≤ 1000) (h1 : 0 ≤ e.ow) (h2 : e.ow ≤ 2147483647 - n) (h4 : 0 ≤ t) (h5 : t ≤ 549755813888) : ({ e with ow := e.ow + n } : Ed).latest (t + n) size = e.latest t size := by
  unfold Ed.latest Ed.last
  rw [shift_asks h0 h1 h2]
  have h6 : e.asks (t + n) size = e.asks t size := by
    rw [Bool.eq_iff_iff, Ed.asks_spec, Ed.asks_spec]
    constructor
    · rintro ⟨k1, k2, k3⟩
      exact ⟨k1, by omega, k3⟩
    · rintro ⟨k1, k2, k3⟩
      exact ⟨k1, by omega, k3⟩
  rw [h6]
  simp only
  rw [show t + n - cdiv size e.ra - (e.ow + n) = t - cdiv size e.ra - e.ow by omega]
end Go.Proofs.YtmbaklodgpcegaaGreat

/- Contracts of the document's answer for layer 10: it answers what package hop answers, at all arguments. No condition. -/
namespace Go.Proofs.YtmbaklodgpcegaaGreat
open Go.ChangeShapes Go.WideShapes Go.ChangeAt Go.RowKit Go.Sort
set_option linter.unusedSimpArgs false
set_option linter.unusedVariables false

set_option maxHeartbeats 1000000 in
theorem rhright_any (id fr tn op en ra ow ro : Int) (w : World) :
    Calls Tryz.prog 73 #[.agg #[.int .i64 id, .int .i64 fr, .int .i64 tn, .int .i64 op, .int .i64 en, .int .i64 ra, .int .i64 ow, .int .i64 ro]] w fun e w' => e = .returned (.bool (Ed.ok ⟨id, fr, tn, op, en, ra, ow, ro⟩)) ∧ Below w.heap.size w w' := by
  go_enter Tryz.func73, Tryz.ntmps73
  go_wp2_with (go_at_call 56; (with_reducible refine Calls.mono (rnode_any _ _) ?_); rintro e w1 ⟨rfl, rfl⟩)
  all_goals go_ret
  all_goals refine ⟨ret_bool ?_, (Below.refl _ _).alloc (Nat.le_refl _) _⟩
  all_goals simp only [nodeB_spec, ← Bool.not_eq_true, Bool.not_eq_false, beq_iff_eq, bne_iff_ne] at *
  all_goals rw [Bool.eq_iff_iff, Ed.ok_spec]
  all_goals simp only [decide_eq_true_eq, Bool.false_eq_true, iff_true, false_iff]
  all_goals omega
theorem rasked_any (id fr tn op en ra ow ro : Int) (t size : Int) (w : World) :
    Calls Tryz.prog 84 #[.agg #[.int .i64 id, .int .i64 fr, .int .i64 tn, .int .i64 op, .int .i64 en, .int .i64 ra, .int .i64 ow, .int .i64 ro], .int .i64 t, .int .i64 size] w fun e w' => e = .returned (.bool (Ed.asks ⟨id, fr, tn, op, en, ra, ow, ro⟩ t size)) ∧ Below w.heap.size w w' := by
  go_enter Tryz.func84, Tryz.ntmps84
  go_wp2_with fail
  refine (rhright_any _ _ _ _ _ _ _ _ _).mono ?_
  rintro e w1 ⟨rfl, hb⟩
  go_wp2
  all_goals go_ret
  all_goals refine ⟨ret_bool ?_, ((Below.refl _ _).alloc (Nat.le_refl _) _).trans (hb.mono (by simp))⟩
  all_goals first
    | (simp [Ed.asks, inB, *]; done)
    | (simp [Ed.asks, inB, *]; omega)
theorem rasked_is {id fr tn op en ra ow ro : Int} {t size : Int} (b : Bool) (h : Ed.asks ⟨id, fr, tn, op, en, ra, ow, ro⟩ t size = b) (w : World) :
    Calls Tryz.prog 84 #[.agg #[.int .i64 id, .int .i64 fr, .int .i64 tn, .int .i64 op, .int .i64 en, .int .i64 ra, .int .i64 ow, .int .i64 ro], .int .i64 t, .int .i64 size] w fun e w' => e = .returned (.bool b) ∧ Below w.heap.size w w' := h ▸ rasked_any id fr tn op en ra ow ro t size w

theorem rtakes_any (id fr tn op en ra ow ro : Int) (size : Int) (w : World) :
    Calls Tryz.prog 85 #[.agg #[.int .i64 id, .int .i64 fr, .int .i64 tn, .int .i64 op, .int .i64 en, .int .i64 ra, .int .i64 ow, .int .i64 ro], .int .i64 size] w fun e w' => e = .returned (.int .i64 (Ed.takes ⟨id, fr, tn, op, en, ra, ow, ro⟩ size)) ∧ Below w.heap.size w w' := by
  by_cases h : Ed.asks ⟨id, fr, tn, op, en, ra, ow, ro⟩ 0 size = true
  · have H := Lib.hid h
    have h2 := Ed.asks_spec.1 h
    have h3 := Ed.ok_spec.1 h2.1
    have e1 := Lib.hid (show Ed.takes ⟨id, fr, tn, op, en, ra, ow, ro⟩ size = cdiv size ra by simp [Ed.takes, h])
    have s1 : 1 ≤ ra := h3.2.2.2.2.2.2.1.1
    have s2 : 0 ≤ size := h2.2.2.1
    have s3 : size ≤ 9223372036854775807 := by have : size ≤ 1099511627775 := h2.2.2.2; omega
    clear h h2 h3
    go_enter Tryz.func85, Tryz.ntmps85
    go_wp2_with fail
    (with_reducible refine Calls.mono (rasked_is true H.out _) ?_)
    rintro e w1 ⟨rfl, hB⟩
    obtain ⟨hc, hf⟩ := bcell hB
    go_wp2_with fail
    (with_reducible refine Calls.mono (rceil_yes s2 s3 s1 _) ?_)
    rintro e w2 ⟨rfl, rfl⟩
    go_wp2
    go_ret
    exact ⟨by rw [e1.out]; rfl, by (repeat (first | exact Below.refl _ _ | exact hB | refine Below.alloc ?_ (by first | omega | (simp; done) | (simp; omega)) _ | refine Below.setCell ?_ (by first | omega | (simp; done) | (simp; omega)) _ | refine Below.drew ?_ | refine Below.trans ?_ (hB.mono (by first | omega | (simp; done) | (simp; omega)))))⟩
  · have H := Lib.hid (show Ed.asks ⟨id, fr, tn, op, en, ra, ow, ro⟩ 0 size = false by simpa using h)
    have e1 := Lib.hid (show Ed.takes ⟨id, fr, tn, op, en, ra, ow, ro⟩ size = 0 by simp [Ed.takes, h])
    clear h
    go_enter Tryz.func85, Tryz.ntmps85
    go_wp2_with fail
    (with_reducible refine Calls.mono (rasked_is false H.out _) ?_)
    rintro e w1 ⟨rfl, hB⟩
    go_wp2
    go_ret
    exact ⟨by rw [e1.out]; rfl, by (repeat (first | exact Below.refl _ _ | exact hB | refine Below.alloc ?_ (by first | omega | (simp; done) | (simp; omega)) _ | refine Below.setCell ?_ (by first | omega | (simp; done) | (simp; omega)) _ | refine Below.drew ?_ | refine Below.trans ?_ (hB.mono (by first | omega | (simp; done) | (simp; omega)))))⟩

def passV (p : Option (Int × Int)) : Value := match p with
  | some (a, b) => .tuple #[.int .i64 a, .int .i64 b, .bool true]
  | none => .tuple #[.int .i64 0, .int .i64 0, .bool false]

set_option maxHeartbeats 2000000 in
theorem rpass_any (id fr tn op en ra ow ro : Int) (t size : Int) (w : World) :
    Calls Tryz.prog 75 #[.agg #[.int .i64 id, .int .i64 fr, .int .i64 tn, .int .i64 op, .int .i64 en, .int .i64 ra, .int .i64 ow, .int .i64 ro], .int .i64 t, .int .i64 size] w fun e w' => e = .returned (passV (Ed.pass ⟨id, fr, tn, op, en, ra, ow, ro⟩ t size)) ∧ Below w.heap.size w w' := by
  by_cases h1 : Ed.asks ⟨id, fr, tn, op, en, ra, ow, ro⟩ t size = true
  · have H := Lib.hid h1
    have g := Ed.asks_spec.1 h1
    obtain ⟨⟨i1, i2⟩, ⟨f1, f2⟩, ⟨t1, t2⟩, _, ⟨o1, o2⟩, ⟨e1, e2⟩, ⟨r1, r2⟩, ⟨w1, w2⟩, ⟨q1, q2⟩⟩ := ok_ints g.1
    obtain ⟨_, ⟨y1, y2⟩, ⟨z1, z2⟩⟩ := g
    obtain ⟨c1, c2, _, _, _⟩ := cdiv_bounds z1 r1
    obtain ⟨n, hn⟩ : ∃ n, cdiv size ra = n := ⟨_, rfl⟩
    obtain ⟨m, hm⟩ : ∃ m, max t op = m := ⟨_, rfl⟩
    rw [hn] at c1 c2
    have m1 : 0 ≤ m := by omega
    have m2 : m ≤ 1099511627776 := by omega
    have hmx : (if t < op then op else t) = m := by rw [← hm]; split <;> omega
    have ht : Ed.takes ⟨id, fr, tn, op, en, ra, ow, ro⟩ size = n := by
      rw [← hn]
      unfold Ed.takes
      rw [if_pos (asks_le h1 (Int.le_refl _) y1 z1 (Int.le_refl _))]
    have hp : Ed.pass ⟨id, fr, tn, op, en, ra, ow, ro⟩ t size = if size ≤ ro ∧ m < en ∧ m + n ≤ en then some (m, m + n + ow) else none := by
      unfold Ed.pass
      simp only [hn, hm, h1, true_and]
    have HT := Lib.hid (show ∀ w', Calls Tryz.prog 85 #[.agg #[.int .i64 id, .int .i64 fr, .int .i64 tn, .int .i64 op, .int .i64 en, .int .i64 ra, .int .i64 ow, .int .i64 ro], .int .i64 size] w' fun e w'' => e = .returned (.int .i64 n) ∧ Below w'.heap.size w' w'' from fun w' => ht ▸ rtakes_any id fr tn op en ra ow ro size w')
    have HMX := Lib.hid hmx
    rw [hp]
    clear hn hm hmx ht hp h1
    by_cases k : size ≤ ro ∧ m < en ∧ m + n ≤ en
    · rw [if_pos k]
      obtain ⟨k1, k2, k3⟩ := k
      show Calls Tryz.prog 75 #[.agg #[.int .i64 id, .int .i64 fr, .int .i64 tn, .int .i64 op, .int .i64 en, .int .i64 ra, .int .i64 ow, .int .i64 ro], .int .i64 t, .int .i64 size] w fun e w' => e = .returned (.tuple #[.int .i64 m, .int .i64 (m + n + ow), .bool true]) ∧ Below w.heap.size w w'
      go_enter Tryz.func75, Tryz.ntmps75
      go_wp2_with fail
      (with_reducible refine Calls.mono (rasked_is true H.out _) ?_)
      rintro e wa ⟨rfl, hB⟩
      obtain ⟨hc, hf⟩ := bcell hB
      have hmx := HMX.out
      go_wp2_with fail
      (with_reducible refine Calls.mono (HT.out _) ?_)
      rintro e wb ⟨rfl, hb⟩
      replace hB := hB.trans (hb.mono hB.size)
      clear hb hc hf
      have hz := hB.size
      simp only [World.size_alloc] at hz
      have hlt : w.heap.size < wb.heap.size := by omega
      have hp : ∀ o, wb.cell? ⟨w.heap.size, o, none⟩ = (#[.int .i64 id, .int .i64 fr, .int .i64 tn, .int .i64 op, .int .i64 en, .int .i64 ra, .int .i64 ow, .int .i64 ro] : Array Value)[o]? := by
        intro o
        rw [(bcell hB).1 _ _ (by simp only [World.size_alloc]; omega)]
        simp only [cell_alloc_if]
        rw [if_pos trivial]
      have HB := Lib.hid (show Below w.heap.size w wb by (repeat (first | exact Below.refl _ _ | exact hB | refine Below.alloc ?_ (by first | omega | (simp; done) | (simp; omega)) _ | refine Below.setCell ?_ (by first | omega | (simp; done) | (simp; omega)) _ | refine Below.drew ?_ | refine Below.trans ?_ (hB.mono (by first | omega | (simp; done) | (simp; omega))))))
      clear hB hmx
      go_upto_region 7 with fail
      have hg := below_regrown wb
      have hq := grown_cells wb
      try simp only [List.append]
      first | refine wp_region_text_below ?_ | refine wp_region_quiet_below (by kernel_rfl) (by kernel_rfl) ?_
      repeat (go_big_quiet_step ((fail)))
      refine wpQuiet_nil ?_
      intro _ hqw
      obtain ⟨pq, hqw⟩ := hqw
      subst hqw
      go_wp2
      go_ret3
      exact ⟨rfl, HB.out.trans ((hg _ _).mono HB.out.size)⟩
    · rw [if_neg k]
      have k' : ro < size ∨ size ≤ ro ∧ en ≤ m ∨ size ≤ ro ∧ m < en ∧ en < m + n := by omega
      have K := Lib.hid k'
      clear k k'
      show Calls Tryz.prog 75 #[.agg #[.int .i64 id, .int .i64 fr, .int .i64 tn, .int .i64 op, .int .i64 en, .int .i64 ra, .int .i64 ow, .int .i64 ro], .int .i64 t, .int .i64 size] w fun e w' => e = .returned (.tuple #[.int .i64 0, .int .i64 0, .bool false]) ∧ Below w.heap.size w w'
      go_enter Tryz.func75, Tryz.ntmps75
      go_wp2_with fail
      (with_reducible refine Calls.mono (rasked_is true H.out _) ?_)
      rintro e wa ⟨rfl, hB⟩
      obtain ⟨hc, hf⟩ := bcell hB
      have hmx := HMX.out
      go_wp2_with fail
      (with_reducible refine Calls.mono (HT.out _) ?_)
      rintro e wb ⟨rfl, hb⟩
      replace hB := hB.trans (hb.mono hB.size)
      clear hb hc hf
      obtain ⟨hc, hf⟩ := bcell hB
      rcases K.out with k | ⟨k1, k2⟩ | ⟨k1, k2, k3⟩
      all_goals
        go_wp2
        go_ret3
        exact ⟨rfl, by (repeat (first | exact Below.refl _ _ | exact hB | refine Below.alloc ?_ (by first | omega | (simp; done) | (simp; omega)) _ | refine Below.setCell ?_ (by first | omega | (simp; done) | (simp; omega)) _ | refine Below.drew ?_ | refine Below.trans ?_ (hB.mono (by first | omega | (simp; done) | (simp; omega)))))⟩
  · have H := Lib.hid (show Ed.asks ⟨id, fr, tn, op, en, ra, ow, ro⟩ t size = false by simpa using h1)
    have hp : Ed.pass ⟨id, fr, tn, op, en, ra, ow, ro⟩ t size = none := by unfold Ed.pass; rw [if_neg (fun h => h1 h.1)]
    rw [hp]
    clear h1 hp
    show Calls Tryz.prog 75 #[.agg #[.int .i64 id, .int .i64 fr, .int .i64 tn, .int .i64 op, .int .i64 en, .int .i64 ra, .int .i64 ow, .int .i64 ro], .int .i64 t, .int .i64 size] w fun e w' => e = .returned (.tuple #[.int .i64 0, .int .i64 0, .bool false]) ∧ Below w.heap.size w w'
    go_enter Tryz.func75, Tryz.ntmps75
    go_wp2_with fail
    (with_reducible refine Calls.mono (rasked_is false H.out _) ?_)
    rintro e wa ⟨rfl, hB⟩
    obtain ⟨hc, hf⟩ := bcell hB
    go_wp2
    go_ret3
    exact ⟨rfl, by (repeat (first | exact Below.refl _ _ | exact hB | refine Below.alloc ?_ (by first | omega | (simp; done) | (simp; omega)) _ | refine Below.setCell ?_ (by first | omega | (simp; done) | (simp; omega)) _ | refine Below.drew ?_ | refine Below.trans ?_ (hB.mono (by first | omega | (simp; done) | (simp; omega)))))⟩
theorem rpass_is {id fr tn op en ra ow ro : Int} {t size : Int} (p : Option (Int × Int)) (h : Ed.pass ⟨id, fr, tn, op, en, ra, ow, ro⟩ t size = p) (w : World) :
    Calls Tryz.prog 75 #[.agg #[.int .i64 id, .int .i64 fr, .int .i64 tn, .int .i64 op, .int .i64 en, .int .i64 ra, .int .i64 ow, .int .i64 ro], .int .i64 t, .int .i64 size] w fun e w' => e = .returned (passV p) ∧ Below w.heap.size w w' := h ▸ rpass_any id fr tn op en ra ow ro t size w
theorem rpass_yes {id fr tn op en ra ow ro : Int} {t size a b : Int} (h : Ed.pass ⟨id, fr, tn, op, en, ra, ow, ro⟩ t size = some (a, b)) (w : World) :
    Calls Tryz.prog 75 #[.agg #[.int .i64 id, .int .i64 fr, .int .i64 tn, .int .i64 op, .int .i64 en, .int .i64 ra, .int .i64 ow, .int .i64 ro], .int .i64 t, .int .i64 size] w fun e w' => e = .returned (.tuple #[.int .i64 a, .int .i64 b, .bool true]) ∧ Below w.heap.size w w' := rpass_is _ h w
theorem rpass_no {id fr tn op en ra ow ro : Int} {t size : Int} (h : Ed.pass ⟨id, fr, tn, op, en, ra, ow, ro⟩ t size = none) (w : World) :
    Calls Tryz.prog 75 #[.agg #[.int .i64 id, .int .i64 fr, .int .i64 tn, .int .i64 op, .int .i64 en, .int .i64 ra, .int .i64 ow, .int .i64 ro], .int .i64 t, .int .i64 size] w fun e w' => e = .returned (.tuple #[.int .i64 0, .int .i64 0, .bool false]) ∧ Below w.heap.size w w' := rpass_is _ h w

/-- The document's way to the latest time comes to the same. -/
theorem latest_ref {e : Ed} {b size : Int} (h : e.asks b size = true) : e.latest b size =
    (if 0 ≤ e.last b size then (match e.pass (max (e.last b size) 0) size with | some (_, c) => if c ≤ b then some (e.last b size) else none | none => none) else none) := by
  have g := Ed.asks_spec.1 h
  have k := Ed.ok_spec.1 g.1
  have hr := k.2.2.2.2.2.2.1.1
  obtain ⟨c1, c2, c3, c4, c5⟩ := cdiv_bounds g.2.2.1 hr
  obtain ⟨t, ht⟩ : ∃ t, e.last b size = t := ⟨_, rfl⟩
  have ht2 : t = min (min (e.en - 1) (e.en - cdiv size e.ra)) (b - cdiv size e.ra - e.ow) := ht.symm
  rw [ht]
  unfold Ed.latest
  rw [ht]
  by_cases h0 : size ≤ e.ro ∧ e.op ≤ t
  · rw [if_pos ⟨h, h0.1, h0.2⟩, if_pos (by omega)]
    have hm : max (max t 0) e.op = t := by omega
    have hp : e.pass (max t 0) size = some (max (max t 0) e.op, max (max t 0) e.op + cdiv size e.ra + e.ow) :=
      pass_iff.2 ⟨by rw [Ed.asks_spec]; exact ⟨g.1, by omega, g.2.2⟩, h0.1, by omega, by omega, rfl, rfl⟩
    rw [hp]
    show some t = if max (max t 0) e.op + cdiv size e.ra + e.ow ≤ b then some t else none
    rw [if_pos (by omega)]
  · rw [if_neg (fun hh => h0 ⟨hh.2.1, hh.2.2⟩)]
    split
    · rename_i ht0
      cases hp : e.pass (max t 0) size with
      | none => rfl
      | some p =>
        obtain ⟨x, c⟩ := p
        obtain ⟨g1, g2, g3, g4, rfl, rfl⟩ := pass_iff.1 hp
        show none = if max (max t 0) e.op + cdiv size e.ra + e.ow ≤ b then some t else none
        rw [if_neg (by omega)]
    · rfl

theorem lastof_bounds {id fr tn op en ra ow ro : Int} {b size : Int} (h : Ed.asks ⟨id, fr, tn, op, en, ra, ow, ro⟩ b size = true) : -1099511627777 - 4294967295 ≤ Ed.last ⟨id, fr, tn, op, en, ra, ow, ro⟩ b size ∧ Ed.last ⟨id, fr, tn, op, en, ra, ow, ro⟩ b size ≤ 2147483647 := by
  have g := Ed.asks_spec.1 h
  have k := ok_ints g.1
  have hr := k.2.2.2.2.2.2.1.1
  obtain ⟨c1, c2, c3, c4, c5⟩ := cdiv_bounds g.2.2.1 hr
  have e1 : Ed.last ⟨id, fr, tn, op, en, ra, ow, ro⟩ b size = min (min (en - 1) (en - cdiv size ra)) (b - cdiv size ra - ow) := rfl
  omega

def latestV (p : Option Int) : Value := match p with
  | some a => .tuple #[.int .i64 a, .bool true]
  | none => .tuple #[.int .i64 0, .bool false]

end Go.Proofs.YtmbaklodgpcegaaGreat
