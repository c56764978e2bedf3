/- The order of contacts is one: ContactsOrder returns true for every three. No condition. -/
import Derived.Test.YtojjnbpgdegjiaaRows
import Derived.Test.YtojjnbpgdegjiaaSmall06
namespace Go.Proofs.Ytojjnbpgdegjiaa
open Go.ChangeShapes Go.WideShapes Go.ChangeAt Go.RowKit Go.Sort
set_option linter.unusedSimpArgs false
set_option linter.unusedVariables false
theorem cmpC_facts (a b c : Co) : cmpC b a = -cmpC a b ∧ cmpC a a = 0 ∧ (cmpC a b = -1 ∨ cmpC a b = 0 ∨ cmpC a b = 1) ∧ (cmpC a b ≤ 0 → cmpC b c ≤ 0 → cmpC a c ≤ 0) ∧ (cmpC a b = 0 → cmpC b c = cmpC a c) := by
  have h1 := cmpC_spec a b
  have h2 := cmpC_spec b a
  have h3 := cmpC_spec a a
  have h4 := cmpC_spec b c
  have h5 := cmpC_spec a c
  unfold ltC at *
  refine ⟨by omega, by omega, by omega, by omega, by omega⟩
set_option maxHeartbeats 8000000 in
set_option maxRecDepth 100000 in
theorem order_walk (a b c : Co) (w : World) :
    Calls Try.prog 5 #[.agg #[.int .i64 a.id, .int .i64 a.fr, .int .i64 a.tn, .int .i64 a.st, .int .i64 a.en, .int .i64 a.rt], .agg #[.int .i64 b.id, .int .i64 b.fr, .int .i64 b.tn, .int .i64 b.st, .int .i64 b.en, .int .i64 b.rt], .agg #[.int .i64 c.id, .int .i64 c.fr, .int .i64 c.tn, .int .i64 c.st, .int .i64 c.en, .int .i64 c.rt]] w fun e w' => e = .returned (.bool true) ∧ Below w.heap.size w w' := by
  obtain ⟨x, hx⟩ : ∃ x, cmpC a b = x := ⟨_, rfl⟩
  obtain ⟨y, hy⟩ : ∃ y, cmpC b c = y := ⟨_, rfl⟩
  obtain ⟨z, hz⟩ : ∃ z, cmpC a c = z := ⟨_, rfl⟩
  obtain ⟨f1, f2, f3, f4, f5⟩ := cmpC_facts a b c
  rw [hx] at f1 f3 f4 f5
  rw [hy] at f4 f5
  rw [hz] at f4 f5
  have hy3 := (cmpC_facts b c a).2.2.1
  have hz3 := (cmpC_facts a c b).2.2.1
  rw [hy] at hy3
  rw [hz] at hz3
  have HX := Lib.hid hx
  have HY := Lib.hid hy
  have HZ := Lib.hid hz
  have HN := Lib.hid f1
  have HA := Lib.hid f2
  clear hx hy hz f1 f2
  have hB : Below w.heap.size w (((w.alloc (.cells #[.int .i64 a.id, .int .i64 a.fr, .int .i64 a.tn, .int .i64 a.st, .int .i64 a.en, .int .i64 a.rt] 28)).alloc (.cells #[.int .i64 b.id, .int .i64 b.fr, .int .i64 b.tn, .int .i64 b.st, .int .i64 b.en, .int .i64 b.rt] 28)).alloc (.cells #[.int .i64 c.id, .int .i64 c.fr, .int .i64 c.tn, .int .i64 c.st, .int .i64 c.en, .int .i64 c.rt] 28)) := by (repeat (first | exact Below.refl _ _ | refine Below.alloc ?_ (by first | omega | (simp; done) | (simp; omega)) _ | refine Below.setCell ?_ (by first | omega | (simp; done) | (simp; omega)) _ | refine Below.drew ?_))
  have hXa := ((Blok.new w 28 #[.int .i64 a.id, .int .i64 a.fr, .int .i64 a.tn, .int .i64 a.st, .int .i64 a.en, .int .i64 a.rt]).alloc (.cells #[.int .i64 b.id, .int .i64 b.fr, .int .i64 b.tn, .int .i64 b.st, .int .i64 b.en, .int .i64 b.rt] 28)).alloc (.cells #[.int .i64 c.id, .int .i64 c.fr, .int .i64 c.tn, .int .i64 c.st, .int .i64 c.en, .int .i64 c.rt] 28)
  have hXb := (Blok.new (w.alloc (.cells #[.int .i64 a.id, .int .i64 a.fr, .int .i64 a.tn, .int .i64 a.st, .int .i64 a.en, .int .i64 a.rt] 28)) 28 #[.int .i64 b.id, .int .i64 b.fr, .int .i64 b.tn, .int .i64 b.st, .int .i64 b.en, .int .i64 b.rt]).alloc (.cells #[.int .i64 c.id, .int .i64 c.fr, .int .i64 c.tn, .int .i64 c.st, .int .i64 c.en, .int .i64 c.rt] 28)
  have hXc := Blok.new ((w.alloc (.cells #[.int .i64 a.id, .int .i64 a.fr, .int .i64 a.tn, .int .i64 a.st, .int .i64 a.en, .int .i64 a.rt] 28)).alloc (.cells #[.int .i64 b.id, .int .i64 b.fr, .int .i64 b.tn, .int .i64 b.st, .int .i64 b.en, .int .i64 b.rt] 28)) 28 #[.int .i64 c.id, .int .i64 c.fr, .int .i64 c.tn, .int .i64 c.st, .int .i64 c.en, .int .i64 c.rt]
  simp only [World.size_alloc] at hXb hXc
  have hs := hB.size
  have hcase : (x = -1 ∨ x = 0 ∨ x = 1) ∧ (y = -1 ∨ y = 0 ∨ y = 1) ∧ (z = -1 ∨ z = 0 ∨ z = 1) := ⟨f3, hy3, hz3⟩
  clear f3 hy3 hz3
  obtain ⟨q1, q2, q3⟩ := hcase
  rcases q1 with rfl | rfl | rfl <;> rcases q2 with rfl | rfl | rfl <;> rcases q3 with rfl | rfl | rfl
  all_goals first | (exfalso; omega) | skip
  all_goals clear f4 f5
  all_goals
    go_enter Try.func5, Try.ntmps5
    go_wp2_with fail
    generalize (((w.alloc (.cells #[.int .i64 a.id, .int .i64 a.fr, .int .i64 a.tn, .int .i64 a.st, .int .i64 a.en, .int .i64 a.rt] 28)).alloc (.cells #[.int .i64 b.id, .int .i64 b.fr, .int .i64 b.tn, .int .i64 b.st, .int .i64 b.en, .int .i64 b.rt] 28)).alloc (.cells #[.int .i64 c.id, .int .i64 c.fr, .int .i64 c.tn, .int .i64 c.st, .int .i64 c.en, .int .i64 c.rt] 28)) = w0 at *
    refine (small06 w0).mono ?_
    rintro e w1 ⟨rfl, hb1⟩
    replace hXa := hXa.below hb1 hXa.lt
    replace hXb := hXb.below hb1 hXb.lt
    replace hXc := hXc.below hb1 hXc.lt
    replace hB := hB.trans (hb1.mono hs)
    replace hs := hB.size
    clear hb1
    have a0 : w1.cell? ⟨w.heap.size, 0, none⟩ = some (.int .i64 a.id) := hXa.cell 0
    have a1 : w1.cell? ⟨w.heap.size, 1, none⟩ = some (.int .i64 a.fr) := hXa.cell 1
    have a2 : w1.cell? ⟨w.heap.size, 2, none⟩ = some (.int .i64 a.tn) := hXa.cell 2
    have a3 : w1.cell? ⟨w.heap.size, 3, none⟩ = some (.int .i64 a.st) := hXa.cell 3
    have a4 : w1.cell? ⟨w.heap.size, 4, none⟩ = some (.int .i64 a.en) := hXa.cell 4
    have a5 : w1.cell? ⟨w.heap.size, 5, none⟩ = some (.int .i64 a.rt) := hXa.cell 5
    have lt_a := hXa.lt
    have b0 : w1.cell? ⟨w.heap.size + 1, 0, none⟩ = some (.int .i64 b.id) := hXb.cell 0
    have b1 : w1.cell? ⟨w.heap.size + 1, 1, none⟩ = some (.int .i64 b.fr) := hXb.cell 1
    have b2 : w1.cell? ⟨w.heap.size + 1, 2, none⟩ = some (.int .i64 b.tn) := hXb.cell 2
    have b3 : w1.cell? ⟨w.heap.size + 1, 3, none⟩ = some (.int .i64 b.st) := hXb.cell 3
    have b4 : w1.cell? ⟨w.heap.size + 1, 4, none⟩ = some (.int .i64 b.en) := hXb.cell 4
    have b5 : w1.cell? ⟨w.heap.size + 1, 5, none⟩ = some (.int .i64 b.rt) := hXb.cell 5
    have lt_b := hXb.lt
    have c0 : w1.cell? ⟨w.heap.size + 1 + 1, 0, none⟩ = some (.int .i64 c.id) := hXc.cell 0
    have c1 : w1.cell? ⟨w.heap.size + 1 + 1, 1, none⟩ = some (.int .i64 c.fr) := hXc.cell 1
    have c2 : w1.cell? ⟨w.heap.size + 1 + 1, 2, none⟩ = some (.int .i64 c.tn) := hXc.cell 2
    have c3 : w1.cell? ⟨w.heap.size + 1 + 1, 3, none⟩ = some (.int .i64 c.st) := hXc.cell 3
    have c4 : w1.cell? ⟨w.heap.size + 1 + 1, 4, none⟩ = some (.int .i64 c.en) := hXc.cell 4
    have c5 : w1.cell? ⟨w.heap.size + 1 + 1, 5, none⟩ = some (.int .i64 c.rt) := hXc.cell 5
    have lt_c := hXc.lt
    go_wp2_with fail
    clear a0 a1 a2 a3 a4 a5 lt_a b0 b1 b2 b3 b4 b5 lt_b c0 c1 c2 c3 c4 c5 lt_c
    refine (HX.out ▸ cmpC_any a b w1).mono ?_
    rintro e w2 ⟨rfl, hb1⟩
    replace hXa := hXa.below hb1 hXa.lt
    replace hXb := hXb.below hb1 hXb.lt
    replace hXc := hXc.below hb1 hXc.lt
    replace hB := hB.trans (hb1.mono hs)
    replace hs := hB.size
    clear hb1
    have a0 : w2.cell? ⟨w.heap.size, 0, none⟩ = some (.int .i64 a.id) := hXa.cell 0
    have a1 : w2.cell? ⟨w.heap.size, 1, none⟩ = some (.int .i64 a.fr) := hXa.cell 1
    have a2 : w2.cell? ⟨w.heap.size, 2, none⟩ = some (.int .i64 a.tn) := hXa.cell 2
    have a3 : w2.cell? ⟨w.heap.size, 3, none⟩ = some (.int .i64 a.st) := hXa.cell 3
    have a4 : w2.cell? ⟨w.heap.size, 4, none⟩ = some (.int .i64 a.en) := hXa.cell 4
    have a5 : w2.cell? ⟨w.heap.size, 5, none⟩ = some (.int .i64 a.rt) := hXa.cell 5
    have lt_a := hXa.lt
    have b0 : w2.cell? ⟨w.heap.size + 1, 0, none⟩ = some (.int .i64 b.id) := hXb.cell 0
    have b1 : w2.cell? ⟨w.heap.size + 1, 1, none⟩ = some (.int .i64 b.fr) := hXb.cell 1
    have b2 : w2.cell? ⟨w.heap.size + 1, 2, none⟩ = some (.int .i64 b.tn) := hXb.cell 2
    have b3 : w2.cell? ⟨w.heap.size + 1, 3, none⟩ = some (.int .i64 b.st) := hXb.cell 3
    have b4 : w2.cell? ⟨w.heap.size + 1, 4, none⟩ = some (.int .i64 b.en) := hXb.cell 4
    have b5 : w2.cell? ⟨w.heap.size + 1, 5, none⟩ = some (.int .i64 b.rt) := hXb.cell 5
    have lt_b := hXb.lt
    have c0 : w2.cell? ⟨w.heap.size + 1 + 1, 0, none⟩ = some (.int .i64 c.id) := hXc.cell 0
    have c1 : w2.cell? ⟨w.heap.size + 1 + 1, 1, none⟩ = some (.int .i64 c.fr) := hXc.cell 1
    have c2 : w2.cell? ⟨w.heap.size + 1 + 1, 2, none⟩ = some (.int .i64 c.tn) := hXc.cell 2
    have c3 : w2.cell? ⟨w.heap.size + 1 + 1, 3, none⟩ = some (.int .i64 c.st) := hXc.cell 3
    have c4 : w2.cell? ⟨w.heap.size + 1 + 1, 4, none⟩ = some (.int .i64 c.en) := hXc.cell 4
    have c5 : w2.cell? ⟨w.heap.size + 1 + 1, 5, none⟩ = some (.int .i64 c.rt) := hXc.cell 5
    have lt_c := hXc.lt
    go_wp2_with fail
    clear a0 a1 a2 a3 a4 a5 lt_a b0 b1 b2 b3 b4 b5 lt_b c0 c1 c2 c3 c4 c5 lt_c
    refine (HY.out ▸ cmpC_any b c w2).mono ?_
    rintro e w3 ⟨rfl, hb1⟩
    replace hXa := hXa.below hb1 hXa.lt
    replace hXb := hXb.below hb1 hXb.lt
    replace hXc := hXc.below hb1 hXc.lt
    replace hB := hB.trans (hb1.mono hs)
    replace hs := hB.size
    clear hb1
    have a0 : w3.cell? ⟨w.heap.size, 0, none⟩ = some (.int .i64 a.id) := hXa.cell 0
    have a1 : w3.cell? ⟨w.heap.size, 1, none⟩ = some (.int .i64 a.fr) := hXa.cell 1
    have a2 : w3.cell? ⟨w.heap.size, 2, none⟩ = some (.int .i64 a.tn) := hXa.cell 2
    have a3 : w3.cell? ⟨w.heap.size, 3, none⟩ = some (.int .i64 a.st) := hXa.cell 3
    have a4 : w3.cell? ⟨w.heap.size, 4, none⟩ = some (.int .i64 a.en) := hXa.cell 4
    have a5 : w3.cell? ⟨w.heap.size, 5, none⟩ = some (.int .i64 a.rt) := hXa.cell 5
    have lt_a := hXa.lt
    have b0 : w3.cell? ⟨w.heap.size + 1, 0, none⟩ = some (.int .i64 b.id) := hXb.cell 0
    have b1 : w3.cell? ⟨w.heap.size + 1, 1, none⟩ = some (.int .i64 b.fr) := hXb.cell 1
    have b2 : w3.cell? ⟨w.heap.size + 1, 2, none⟩ = some (.int .i64 b.tn) := hXb.cell 2
    have b3 : w3.cell? ⟨w.heap.size + 1, 3, none⟩ = some (.int .i64 b.st) := hXb.cell 3
    have b4 : w3.cell? ⟨w.heap.size + 1, 4, none⟩ = some (.int .i64 b.en) := hXb.cell 4
    have b5 : w3.cell? ⟨w.heap.size + 1, 5, none⟩ = some (.int .i64 b.rt) := hXb.cell 5
    have lt_b := hXb.lt
    have c0 : w3.cell? ⟨w.heap.size + 1 + 1, 0, none⟩ = some (.int .i64 c.id) := hXc.cell 0
    have c1 : w3.cell? ⟨w.heap.size + 1 + 1, 1, none⟩ = some (.int .i64 c.fr) := hXc.cell 1
    have c2 : w3.cell? ⟨w.heap.size + 1 + 1, 2, none⟩ = some (.int .i64 c.tn) := hXc.cell 2
    have c3 : w3.cell? ⟨w.heap.size + 1 + 1, 3, none⟩ = some (.int .i64 c.st) := hXc.cell 3
    have c4 : w3.cell? ⟨w.heap.size + 1 + 1, 4, none⟩ = some (.int .i64 c.en) := hXc.cell 4
    have c5 : w3.cell? ⟨w.heap.size + 1 + 1, 5, none⟩ = some (.int .i64 c.rt) := hXc.cell 5
    have lt_c := hXc.lt
    go_wp2_with fail
    clear a0 a1 a2 a3 a4 a5 lt_a b0 b1 b2 b3 b4 b5 lt_b c0 c1 c2 c3 c4 c5 lt_c
    refine (HZ.out ▸ cmpC_any a c w3).mono ?_
    rintro e w4 ⟨rfl, hb1⟩
    replace hXa := hXa.below hb1 hXa.lt
    replace hXb := hXb.below hb1 hXb.lt
    replace hXc := hXc.below hb1 hXc.lt
    replace hB := hB.trans (hb1.mono hs)
    replace hs := hB.size
    clear hb1
    have a0 : w4.cell? ⟨w.heap.size, 0, none⟩ = some (.int .i64 a.id) := hXa.cell 0
    have a1 : w4.cell? ⟨w.heap.size, 1, none⟩ = some (.int .i64 a.fr) := hXa.cell 1
    have a2 : w4.cell? ⟨w.heap.size, 2, none⟩ = some (.int .i64 a.tn) := hXa.cell 2
    have a3 : w4.cell? ⟨w.heap.size, 3, none⟩ = some (.int .i64 a.st) := hXa.cell 3
    have a4 : w4.cell? ⟨w.heap.size, 4, none⟩ = some (.int .i64 a.en) := hXa.cell 4
    have a5 : w4.cell? ⟨w.heap.size, 5, none⟩ = some (.int .i64 a.rt) := hXa.cell 5
    have lt_a := hXa.lt
    have b0 : w4.cell? ⟨w.heap.size + 1, 0, none⟩ = some (.int .i64 b.id) := hXb.cell 0
    have b1 : w4.cell? ⟨w.heap.size + 1, 1, none⟩ = some (.int .i64 b.fr) := hXb.cell 1
    have b2 : w4.cell? ⟨w.heap.size + 1, 2, none⟩ = some (.int .i64 b.tn) := hXb.cell 2
    have b3 : w4.cell? ⟨w.heap.size + 1, 3, none⟩ = some (.int .i64 b.st) := hXb.cell 3
    have b4 : w4.cell? ⟨w.heap.size + 1, 4, none⟩ = some (.int .i64 b.en) := hXb.cell 4
    have b5 : w4.cell? ⟨w.heap.size + 1, 5, none⟩ = some (.int .i64 b.rt) := hXb.cell 5
    have lt_b := hXb.lt
    have c0 : w4.cell? ⟨w.heap.size + 1 + 1, 0, none⟩ = some (.int .i64 c.id) := hXc.cell 0
    have c1 : w4.cell? ⟨w.heap.size + 1 + 1, 1, none⟩ = some (.int .i64 c.fr) := hXc.cell 1
    have c2 : w4.cell? ⟨w.heap.size + 1 + 1, 2, none⟩ = some (.int .i64 c.tn) := hXc.cell 2
    have c3 : w4.cell? ⟨w.heap.size + 1 + 1, 3, none⟩ = some (.int .i64 c.st) := hXc.cell 3
    have c4 : w4.cell? ⟨w.heap.size + 1 + 1, 4, none⟩ = some (.int .i64 c.en) := hXc.cell 4
    have c5 : w4.cell? ⟨w.heap.size + 1 + 1, 5, none⟩ = some (.int .i64 c.rt) := hXc.cell 5
    have lt_c := hXc.lt
    go_wp2_with fail
    clear a0 a1 a2 a3 a4 a5 lt_a b0 b1 b2 b3 b4 b5 lt_b c0 c1 c2 c3 c4 c5 lt_c
    refine (HN.out ▸ cmpC_any b a w4).mono ?_
    rintro e w5 ⟨rfl, hb1⟩
    replace hXa := hXa.below hb1 hXa.lt
    replace hXb := hXb.below hb1 hXb.lt
    replace hXc := hXc.below hb1 hXc.lt
    replace hB := hB.trans (hb1.mono hs)
    replace hs := hB.size
    clear hb1
    have a0 : w5.cell? ⟨w.heap.size, 0, none⟩ = some (.int .i64 a.id) := hXa.cell 0
    have a1 : w5.cell? ⟨w.heap.size, 1, none⟩ = some (.int .i64 a.fr) := hXa.cell 1
    have a2 : w5.cell? ⟨w.heap.size, 2, none⟩ = some (.int .i64 a.tn) := hXa.cell 2
    have a3 : w5.cell? ⟨w.heap.size, 3, none⟩ = some (.int .i64 a.st) := hXa.cell 3
    have a4 : w5.cell? ⟨w.heap.size, 4, none⟩ = some (.int .i64 a.en) := hXa.cell 4
    have a5 : w5.cell? ⟨w.heap.size, 5, none⟩ = some (.int .i64 a.rt) := hXa.cell 5
    have lt_a := hXa.lt
    have b0 : w5.cell? ⟨w.heap.size + 1, 0, none⟩ = some (.int .i64 b.id) := hXb.cell 0
    have b1 : w5.cell? ⟨w.heap.size + 1, 1, none⟩ = some (.int .i64 b.fr) := hXb.cell 1
    have b2 : w5.cell? ⟨w.heap.size + 1, 2, none⟩ = some (.int .i64 b.tn) := hXb.cell 2
    have b3 : w5.cell? ⟨w.heap.size + 1, 3, none⟩ = some (.int .i64 b.st) := hXb.cell 3
    have b4 : w5.cell? ⟨w.heap.size + 1, 4, none⟩ = some (.int .i64 b.en) := hXb.cell 4
    have b5 : w5.cell? ⟨w.heap.size + 1, 5, none⟩ = some (.int .i64 b.rt) := hXb.cell 5
    have lt_b := hXb.lt
    have c0 : w5.cell? ⟨w.heap.size + 1 + 1, 0, none⟩ = some (.int .i64 c.id) := hXc.cell 0
    have c1 : w5.cell? ⟨w.heap.size + 1 + 1, 1, none⟩ = some (.int .i64 c.fr) := hXc.cell 1
    have c2 : w5.cell? ⟨w.heap.size + 1 + 1, 2, none⟩ = some (.int .i64 c.tn) := hXc.cell 2
    have c3 : w5.cell? ⟨w.heap.size + 1 + 1, 3, none⟩ = some (.int .i64 c.st) := hXc.cell 3
    have c4 : w5.cell? ⟨w.heap.size + 1 + 1, 4, none⟩ = some (.int .i64 c.en) := hXc.cell 4
    have c5 : w5.cell? ⟨w.heap.size + 1 + 1, 5, none⟩ = some (.int .i64 c.rt) := hXc.cell 5
    have lt_c := hXc.lt
    go_wp2_with fail
    clear a0 a1 a2 a3 a4 a5 lt_a b0 b1 b2 b3 b4 b5 lt_b c0 c1 c2 c3 c4 c5 lt_c
    refine (HA.out ▸ cmpC_any a a w5).mono ?_
    rintro e w6 ⟨rfl, hb1⟩
    replace hXa := hXa.below hb1 hXa.lt
    replace hXb := hXb.below hb1 hXb.lt
    replace hXc := hXc.below hb1 hXc.lt
    replace hB := hB.trans (hb1.mono hs)
    replace hs := hB.size
    clear hb1
    clear hXa hXb hXc
    go_wp2
    go_ret
    exact ⟨rfl, hB⟩
theorem contactsOrder_walk (p00 p01 p02 p03 p04 p05 p10 p11 p12 p13 p14 p15 p20 p21 p22 p23 p24 p25 : Int) (_ : ∀ m ∈ [p00, p01, p02, p03, p04, p05], (Lit.int .i64 m).wf = true) (_ : ∀ m ∈ [p10, p11, p12, p13, p14, p15], (Lit.int .i64 m).wf = true) (_ : ∀ m ∈ [p20, p21, p22, p23, p24, p25], (Lit.int .i64 m).wf = true) (w : World) :
    Calls Try.prog 5 #[.agg #[.int .i64 p00, .int .i64 p01, .int .i64 p02, .int .i64 p03, .int .i64 p04, .int .i64 p05], .agg #[.int .i64 p10, .int .i64 p11, .int .i64 p12, .int .i64 p13, .int .i64 p14, .int .i64 p15], .agg #[.int .i64 p20, .int .i64 p21, .int .i64 p22, .int .i64 p23, .int .i64 p24, .int .i64 p25]] w fun e w' => e = .returned (.bool true) ∧ Below w.heap.size w w' := order_walk ⟨p00, p01, p02, p03, p04, p05⟩ ⟨p10, p11, p12, p13, p14, p15⟩ ⟨p20, p21, p22, p23, p24, p25⟩ w
theorem contactsOrder_own : ownKnob Try.prog.godebug = none := by kernel_rfl
theorem contactsOrder_laidOut : laidOutB Try.prog = true := by kernel_rfl

set_option maxHeartbeats 1000000 in
set_option maxRecDepth 100000 in
theorem contactsOrder_lifted (os : Os) (started : os.Started) (H : Type) (enc : TypeId × Value → H) :
    ReturnsInHanded {} Try.checked os 5 .any (Rows.contactsOrderSpec.pre6 enc Try.prog Try.f5 Rows.contactsOrderRow.domain false) (Rows.contactsOrderSpec.post enc Try.prog Try.f5 false true false false) := by
  refine returnsInHanded_of_change (C := Try.checked) contactsOrder_own started (by kernel_rfl) Try.func5
    (ChangeSpec.witness6 (enc := enc) (C := Try.checked) false ⟨#[], #[.agg #[.int .i64 0, .int .i64 0, .int .i64 0, .int .i64 0, .int .i64 0, .int .i64 0], .agg #[.int .i64 0, .int .i64 0, .int .i64 0, .int .i64 0, .int .i64 0, .int .i64 0], .agg #[.int .i64 0, .int .i64 0, .int .i64 0, .int .i64 0, .int .i64 0, .int .i64 0]], []⟩ 8 (by kernel_rfl) (by kernel_rfl) (by kernel_rfl) (by kernel_rfl)) ?_
  intro W base args ds gs before hval0 hW hcnd _
  have hval : ∀ (j : Nat) t v, Try.f5.params[j]? = some t → args[j]? = some v → Value.okWide Try.prog W .any base t v := hval0
  have hW' := hW
  obtain ⟨p, q, hA0, hV, rfl, hfz, hnd⟩ := hW
  have hA : DataW.TrodAll enc Try.prog W 0 (fun _ => true) true Try.f5.params.toList args.toList ds p := hA0
  rw [Try.params5] at hA hval
  obtain ⟨v0, vs0, d0, ds0, p0, q0, hargs, rfl, rfl, h0, r0⟩ := trodAll_cons hA
  obtain ⟨v1, vs1, d1, ds1, p1, q1, rfl, rfl, rfl, h1, r1⟩ := trodAll_cons r0
  obtain ⟨v2, vs2, d2, ds2, p2, q2, rfl, rfl, rfl, h2, r2⟩ := trodAll_cons r1
  obtain ⟨rfl, rfl, rfl⟩ := trodAll_nil r2
  obtain rfl : args = #[v0, v1, v2] := by cases args; simp_all
  obtain ⟨rfl, rfl⟩ := trodVars_none hV
  obtain ⟨n0, e0, l0, w0⟩ := open_flat 4 Try.underlying28 (by kernel_rfl) (hval 0 28 v0 rfl rfl) h0
  obtain ⟨a0_0, a0_1, a0_2, a0_3, a0_4, a0_5, rfl⟩ : ∃ a0_0 a0_1 a0_2 a0_3 a0_4 a0_5 : Int, n0 = [a0_0, a0_1, a0_2, a0_3, a0_4, a0_5] := by
    rw [show Try.prog.cellsOf 28 = 6 by kernel_rfl] at l0
    match n0, l0 with
    | [a0_0, a0_1, a0_2, a0_3, a0_4, a0_5], _ => exact ⟨_, _, _, _, _, _, rfl⟩
  obtain rfl : v0 = .agg #[.int .i64 a0_0, .int .i64 a0_1, .int .i64 a0_2, .int .i64 a0_3, .int .i64 a0_4, .int .i64 a0_5] := e0
  obtain ⟨n1, e1, l1, w1⟩ := open_flat 4 Try.underlying28 (by kernel_rfl) (hval 1 28 v1 rfl rfl) h1
  obtain ⟨a1_0, a1_1, a1_2, a1_3, a1_4, a1_5, rfl⟩ : ∃ a1_0 a1_1 a1_2 a1_3 a1_4 a1_5 : Int, n1 = [a1_0, a1_1, a1_2, a1_3, a1_4, a1_5] := by
    rw [show Try.prog.cellsOf 28 = 6 by kernel_rfl] at l1
    match n1, l1 with
    | [a1_0, a1_1, a1_2, a1_3, a1_4, a1_5], _ => exact ⟨_, _, _, _, _, _, rfl⟩
  obtain rfl : v1 = .agg #[.int .i64 a1_0, .int .i64 a1_1, .int .i64 a1_2, .int .i64 a1_3, .int .i64 a1_4, .int .i64 a1_5] := e1
  obtain ⟨n2, e2, l2, w2⟩ := open_flat 4 Try.underlying28 (by kernel_rfl) (hval 2 28 v2 rfl rfl) h2
  obtain ⟨a2_0, a2_1, a2_2, a2_3, a2_4, a2_5, rfl⟩ : ∃ a2_0 a2_1 a2_2 a2_3 a2_4 a2_5 : Int, n2 = [a2_0, a2_1, a2_2, a2_3, a2_4, a2_5] := by
    rw [show Try.prog.cellsOf 28 = 6 by kernel_rfl] at l2
    match n2, l2 with
    | [a2_0, a2_1, a2_2, a2_3, a2_4, a2_5], _ => exact ⟨_, _, _, _, _, _, rfl⟩
  obtain rfl : v2 = .agg #[.int .i64 a2_0, .int .i64 a2_1, .int .i64 a2_2, .int .i64 a2_3, .int .i64 a2_4, .int .i64 a2_5] := e2
  clear hA0 hval0
  refine (contactsOrder_walk a0_0 a0_1 a0_2 a0_3 a0_4 a0_5 a1_0 a1_1 a1_2 a1_3 a1_4 a1_5 a2_0 a2_1 a2_2 a2_3 a2_4 a2_5 w0 w1 w2 W ).mono fun e W' ⟨he, bel⟩ => ?_
  subst he
  exact ⟨_, rfl, law_post contactsOrder_laidOut (by kernel_rfl) rfl Try.underlying4 rfl rfl hW' bel⟩

theorem contactsOrder_proved : Rows.ContactsOrderSaid :=
  OpenClaim.holds_of_wide 5 Try.f5 rfl rfl rfl rfl rfl rfl rfl ⟨rfl, rfl, rfl, rfl, rfl⟩ rfl rfl rfl rfl rfl (by kernel_rfl) Try.func5 (by kernel_rfl)
    (of_decide_eq_true (by kernel_rfl)) (by unfold Func.isWrapper; first | (rw [if_pos (by decide +kernel)]; kernel_rfl) | (rw [if_neg (by decide +kernel)]; exact ⟨rfl, rfl⟩))
    (fun os started H enc _ => contactsOrder_lifted os started H enc)
#print axioms contactsOrder_proved
end Go.Proofs.Ytojjnbpgdegjiaa
