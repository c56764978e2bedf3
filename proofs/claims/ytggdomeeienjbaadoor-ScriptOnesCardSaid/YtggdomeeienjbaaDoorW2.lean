/- Contracts and plain facts, several texts of mine in one: Scr6, Scr6c0, Scr6c1, Scr6c2, Scr6c3, Scr6c4, Scr6c5, Scr6c6, Scr6c7, Scr6c8, ScrL, Scr7, Scr8, Small25, Ten25, Bytes, ApOn, ArrB. No condition. -/
import Derived.Test.YtggdomeeienjbaaDoorW1
import Derived.Test.YtggdomeeienjbaaDoorTie
import Derived.Test.YtggdomeeienjbaaDoorCards
import Derived.LaidMore
import Derived.LaidSub
import Derived.Stop.Joined
import Derived.SevenTiedAt
import Derived.Test.YtggdomeeienjbaaDoorOpen
import Derived.Test.YtggdomeeienjbaaDoorAppl

/- Package script: Same's closure, part 0. No condition but on sizes. -/
namespace Go.Proofs.YtggdomeeienjbaaDoor
open Go.ChangeShapes Go.WideShapes Go.ChangeAt Go.RowKit Go.Sort
set_option linter.unusedSimpArgs false
set_option linter.unusedVariables false
def eqB (p q : Pa) : Bool := decide (p.bf = q.bf) && (decide (p.bt = q.bt) && (decide (p.bs_ = q.bs_) && (decide (p.bc = q.bc) && decide (p.bd = q.bd))))
theorem eqlBd (p q : Pa) (w : World) : (binOp .eql 34 (.agg #[.int .i64 p.bf, .int .i64 p.bt, .int .i64 p.bs_, .int .i64 p.bc, .int .i64 p.bd]) (.agg #[.int .i64 q.bf, .int .i64 q.bt, .int .i64 q.bs_, .int .i64 q.bc, .int .i64 q.bd])).run Tryd.prog w = .ok (.bool (eqB p q)) w := by
  have u3 := Tryd.underlying3
  have a3 := Tryd.isAgg3
  have z3 := Tryd.sizeOf3
  have hS : Tryd.prog.underlying 34 = some (.struct (Tryd.prog.fieldsOf 34)) := by kernel_rfl
  have hp : Tryd.prog.stoodInHeld 34 = false := by kernel_rfl
  rw [run_eql_struct, show (10000 : Nat) = 9999 + 1 from rfl, run_equalIn_agg w 9999 34 _ _ hS hp]
  simp only [Program.fieldsOf, Tryd.underlying34]
  go_simp
  unfold eqB
  by_cases h0 : p.bf = q.bf
  · by_cases h1 : p.bt = q.bt
    · by_cases h2 : p.bs_ = q.bs_
      · by_cases h3 : p.bc = q.bc
        · by_cases h4 : p.bd = q.bd <;> simp [h0, h1, h2, h3, h4]
        · simp [h0, h1, h2, h3]
      · simp [h0, h1, h2]
    · simp [h0, h1]
  · simp [h0]
theorem Pa.ext_ {p q : Pa} (h0 : p.dk = q.dk) (h1 : p.tx = q.tx) (h2 : p.D = q.D) (h3 : p.n = q.n) (h4 : p.ids = q.ids) (h5 : p.cl = q.cl) (h6 : p.sz = q.sz) (h7 : eqB p q = true) : p = q := by
  obtain ⟨⟩ := p
  obtain ⟨⟩ := q
  simp only [eqB, Bool.and_eq_true, decide_eq_true_eq] at h0 h1 h2 h3 h4 h5 h6 h7
  obtain ⟨a, b, c, d, e⟩ := h7
  subst h0 h1 h2 h3 h4 h5 h6 a b c d e
  rfl
theorem equalI_is (A A' : Option Addr) (n c n' c' : Nat) (d d' : List Int) (w : World) {r : Bool} (hr : decide (d = d') = r) (hd : d.length = n) (hd' : d'.length = n') (hn : n ≤ 1000000) (hn' : n' ≤ 1000000) (h : Sl w w.heap.size 1 A n c (d.map (Value.int .i64))) (h' : Sl w w.heap.size 1 A' n' c' (d'.map (Value.int .i64))) :
    Calls Tryd.prog 22 #[.slice A n c, .slice A' n' c'] w fun e w' => e = .returned (.bool r) ∧ Below w.heap.size w w' := by
  subst hr
  exact equalI_any A A' n c n' c' d d' w hd hd' hn hn' h h'
theorem bs_iff {s t : Bytes} : bs s = bs t ↔ s = t := ⟨fun h => by
  have := congrArg (fun x : ByteArray => x.data.toList) h
  simpa [bs] using this, fun h => by rw [h]⟩
end Go.Proofs.YtggdomeeienjbaaDoor

/- Package script: Same's closure, part 1. No condition but on sizes. -/
namespace Go.Proofs.YtggdomeeienjbaaDoor
open Go.ChangeShapes Go.WideShapes Go.ChangeAt Go.RowKit Go.Sort
set_option linter.unusedSimpArgs false
set_option linter.unusedVariables false
set_option maxHeartbeats 8000000 in
set_option maxRecDepth 100000 in
theorem same1_0 (p q : Pa) (A A' : Option Addr) (k c k' c' : Nat) (w : World) (hk : p.ids.length = k) (hk' : q.ids.length = k') (hkm : k ≤ 1000000) (hkm' : k' ≤ 1000000) (h : Sl w w.heap.size 1 A k c (p.ids.map (Value.int .i64))) (h' : Sl w w.heap.size 1 A' k' c' (q.ids.map (Value.int .i64)))  (c0 : ¬ (p.dk = q.dk)) :
    Calls Tryd.prog 21 #[.agg #[.int .i64 p.dk, .string (bs p.tx), .int .i64 p.D.op, .int .i64 p.D.kd, .int .i64 p.D.id, .int .i64 p.D.fr, .int .i64 p.D.tn, .int .i64 p.D.st, .int .i64 p.D.en, .int .i64 p.D.rt, .int .i64 p.D.rf, .int .i64 p.D.rn, .int .i64 p.D.rs, .int .i64 p.D.re, .int .i64 p.D.ro, .int .i64 p.n, .slice A k c, .int .i64 p.cl, .int .i64 p.sz, .int .i64 p.bf, .int .i64 p.bt, .int .i64 p.bs_, .int .i64 p.bc, .int .i64 p.bd], .agg #[.int .i64 q.dk, .string (bs q.tx), .int .i64 q.D.op, .int .i64 q.D.kd, .int .i64 q.D.id, .int .i64 q.D.fr, .int .i64 q.D.tn, .int .i64 q.D.st, .int .i64 q.D.en, .int .i64 q.D.rt, .int .i64 q.D.rf, .int .i64 q.D.rn, .int .i64 q.D.rs, .int .i64 q.D.re, .int .i64 q.D.ro, .int .i64 q.n, .slice A' k' c', .int .i64 q.cl, .int .i64 q.sz, .int .i64 q.bf, .int .i64 q.bt, .int .i64 q.bs_, .int .i64 q.bc, .int .i64 q.bd]] w fun e w' => e = .returned (.bool false) ∧ Below w.heap.size w w' := by
  have g0 : (p.dk == q.dk) = false := by simp [c0]
  clear c0
  have hB : Below w.heap.size w ((w.alloc (.cells #[.int .i64 p.dk, .string (bs p.tx), .int .i64 p.D.op, .int .i64 p.D.kd, .int .i64 p.D.id, .int .i64 p.D.fr, .int .i64 p.D.tn, .int .i64 p.D.st, .int .i64 p.D.en, .int .i64 p.D.rt, .int .i64 p.D.rf, .int .i64 p.D.rn, .int .i64 p.D.rs, .int .i64 p.D.re, .int .i64 p.D.ro, .int .i64 p.n, .slice A k c, .int .i64 p.cl, .int .i64 p.sz, .int .i64 p.bf, .int .i64 p.bt, .int .i64 p.bs_, .int .i64 p.bc, .int .i64 p.bd] 36)).alloc (.cells #[.int .i64 q.dk, .string (bs q.tx), .int .i64 q.D.op, .int .i64 q.D.kd, .int .i64 q.D.id, .int .i64 q.D.fr, .int .i64 q.D.tn, .int .i64 q.D.st, .int .i64 q.D.en, .int .i64 q.D.rt, .int .i64 q.D.rf, .int .i64 q.D.rn, .int .i64 q.D.rs, .int .i64 q.D.re, .int .i64 q.D.ro, .int .i64 q.n, .slice A' k' c', .int .i64 q.cl, .int .i64 q.sz, .int .i64 q.bf, .int .i64 q.bt, .int .i64 q.bs_, .int .i64 q.bc, .int .i64 q.bd] 36)) := by (repeat (first | exact Below.refl _ _ | refine Below.alloc ?_ (by first | omega | (simp; done) | (simp; omega)) _ | refine Below.setCell ?_ (by first | omega | (simp; done) | (simp; omega)) _ | refine Below.drew ?_))
  have hX := (Blok.new w 36 #[.int .i64 p.dk, .string (bs p.tx), .int .i64 p.D.op, .int .i64 p.D.kd, .int .i64 p.D.id, .int .i64 p.D.fr, .int .i64 p.D.tn, .int .i64 p.D.st, .int .i64 p.D.en, .int .i64 p.D.rt, .int .i64 p.D.rf, .int .i64 p.D.rn, .int .i64 p.D.rs, .int .i64 p.D.re, .int .i64 p.D.ro, .int .i64 p.n, .slice A k c, .int .i64 p.cl, .int .i64 p.sz, .int .i64 p.bf, .int .i64 p.bt, .int .i64 p.bs_, .int .i64 p.bc, .int .i64 p.bd]).alloc (.cells #[.int .i64 q.dk, .string (bs q.tx), .int .i64 q.D.op, .int .i64 q.D.kd, .int .i64 q.D.id, .int .i64 q.D.fr, .int .i64 q.D.tn, .int .i64 q.D.st, .int .i64 q.D.en, .int .i64 q.D.rt, .int .i64 q.D.rf, .int .i64 q.D.rn, .int .i64 q.D.rs, .int .i64 q.D.re, .int .i64 q.D.ro, .int .i64 q.n, .slice A' k' c', .int .i64 q.cl, .int .i64 q.sz, .int .i64 q.bf, .int .i64 q.bt, .int .i64 q.bs_, .int .i64 q.bc, .int .i64 q.bd] 36)
  have hY := Blok.new (w.alloc (.cells #[.int .i64 p.dk, .string (bs p.tx), .int .i64 p.D.op, .int .i64 p.D.kd, .int .i64 p.D.id, .int .i64 p.D.fr, .int .i64 p.D.tn, .int .i64 p.D.st, .int .i64 p.D.en, .int .i64 p.D.rt, .int .i64 p.D.rf, .int .i64 p.D.rn, .int .i64 p.D.rs, .int .i64 p.D.re, .int .i64 p.D.ro, .int .i64 p.n, .slice A k c, .int .i64 p.cl, .int .i64 p.sz, .int .i64 p.bf, .int .i64 p.bt, .int .i64 p.bs_, .int .i64 p.bc, .int .i64 p.bd] 36)) 36 #[.int .i64 q.dk, .string (bs q.tx), .int .i64 q.D.op, .int .i64 q.D.kd, .int .i64 q.D.id, .int .i64 q.D.fr, .int .i64 q.D.tn, .int .i64 q.D.st, .int .i64 q.D.en, .int .i64 q.D.rt, .int .i64 q.D.rf, .int .i64 q.D.rn, .int .i64 q.D.rs, .int .i64 q.D.re, .int .i64 q.D.ro, .int .i64 q.n, .slice A' k' c', .int .i64 q.cl, .int .i64 q.sz, .int .i64 q.bf, .int .i64 q.bt, .int .i64 q.bs_, .int .i64 q.bc, .int .i64 q.bd]
  rw [World.size_alloc] at hY
  replace h := h.up hB
  replace h' := h'.up hB
  have hs := hB.size
  have HK := Lib.hid (⟨hk, hk', hkm, hkm'⟩ : _ ∧ _ ∧ _ ∧ _)
  have HH := Lib.hid h
  have HH' := Lib.hid h'
  clear hk hk' hkm hkm' h h'
  go_enter Tryd.func21, Tryd.ntmps21
  go_upto_region 1 with fail
  generalize (w.alloc (.cells #[.int .i64 p.dk, .string (bs p.tx), .int .i64 p.D.op, .int .i64 p.D.kd, .int .i64 p.D.id, .int .i64 p.D.fr, .int .i64 p.D.tn, .int .i64 p.D.st, .int .i64 p.D.en, .int .i64 p.D.rt, .int .i64 p.D.rf, .int .i64 p.D.rn, .int .i64 p.D.rs, .int .i64 p.D.re, .int .i64 p.D.ro, .int .i64 p.n, .slice A k c, .int .i64 p.cl, .int .i64 p.sz, .int .i64 p.bf, .int .i64 p.bt, .int .i64 p.bs_, .int .i64 p.bc, .int .i64 p.bd] 36)).alloc (.cells #[.int .i64 q.dk, .string (bs q.tx), .int .i64 q.D.op, .int .i64 q.D.kd, .int .i64 q.D.id, .int .i64 q.D.fr, .int .i64 q.D.tn, .int .i64 q.D.st, .int .i64 q.D.en, .int .i64 q.D.rt, .int .i64 q.D.rf, .int .i64 q.D.rn, .int .i64 q.D.rs, .int .i64 q.D.re, .int .i64 q.D.ro, .int .i64 q.n, .slice A' k' c', .int .i64 q.cl, .int .i64 q.sz, .int .i64 q.bf, .int .i64 q.bt, .int .i64 q.bs_, .int .i64 q.bc, .int .i64 q.bd] 36) = w1 at *
  have x0 : w1.cell? ⟨w.heap.size, 0, none⟩ = some (.int .i64 p.dk) := hX.cell 0
  have x1 : w1.cell? ⟨w.heap.size, 1, none⟩ = some (.string (bs p.tx)) := hX.cell 1
  have x2 : w1.cell? ⟨w.heap.size, 2, none⟩ = some (.int .i64 p.D.op) := hX.cell 2
  have x3 : w1.cell? ⟨w.heap.size, 3, none⟩ = some (.int .i64 p.D.kd) := hX.cell 3
  have x4 : w1.cell? ⟨w.heap.size, 4, none⟩ = some (.int .i64 p.D.id) := hX.cell 4
  have x5 : w1.cell? ⟨w.heap.size, 5, none⟩ = some (.int .i64 p.D.fr) := hX.cell 5
  have x6 : w1.cell? ⟨w.heap.size, 6, none⟩ = some (.int .i64 p.D.tn) := hX.cell 6
  have x7 : w1.cell? ⟨w.heap.size, 7, none⟩ = some (.int .i64 p.D.st) := hX.cell 7
  have x8 : w1.cell? ⟨w.heap.size, 8, none⟩ = some (.int .i64 p.D.en) := hX.cell 8
  have x9 : w1.cell? ⟨w.heap.size, 9, none⟩ = some (.int .i64 p.D.rt) := hX.cell 9
  have x10 : w1.cell? ⟨w.heap.size, 10, none⟩ = some (.int .i64 p.D.rf) := hX.cell 10
  have x11 : w1.cell? ⟨w.heap.size, 11, none⟩ = some (.int .i64 p.D.rn) := hX.cell 11
  have x12 : w1.cell? ⟨w.heap.size, 12, none⟩ = some (.int .i64 p.D.rs) := hX.cell 12
  have x13 : w1.cell? ⟨w.heap.size, 13, none⟩ = some (.int .i64 p.D.re) := hX.cell 13
  have x14 : w1.cell? ⟨w.heap.size, 14, none⟩ = some (.int .i64 p.D.ro) := hX.cell 14
  have x15 : w1.cell? ⟨w.heap.size, 15, none⟩ = some (.int .i64 p.n) := hX.cell 15
  have x16 : w1.cell? ⟨w.heap.size, 16, none⟩ = some (.slice A k c) := hX.cell 16
  have x17 : w1.cell? ⟨w.heap.size, 17, none⟩ = some (.int .i64 p.cl) := hX.cell 17
  have x18 : w1.cell? ⟨w.heap.size, 18, none⟩ = some (.int .i64 p.sz) := hX.cell 18
  have x19 : w1.cell? ⟨w.heap.size, 19, none⟩ = some (.int .i64 p.bf) := hX.cell 19
  have x20 : w1.cell? ⟨w.heap.size, 20, none⟩ = some (.int .i64 p.bt) := hX.cell 20
  have x21 : w1.cell? ⟨w.heap.size, 21, none⟩ = some (.int .i64 p.bs_) := hX.cell 21
  have x22 : w1.cell? ⟨w.heap.size, 22, none⟩ = some (.int .i64 p.bc) := hX.cell 22
  have x23 : w1.cell? ⟨w.heap.size, 23, none⟩ = some (.int .i64 p.bd) := hX.cell 23
  have y0 : w1.cell? ⟨w.heap.size + 1, 0, none⟩ = some (.int .i64 q.dk) := hY.cell 0
  have y1 : w1.cell? ⟨w.heap.size + 1, 1, none⟩ = some (.string (bs q.tx)) := hY.cell 1
  have y2 : w1.cell? ⟨w.heap.size + 1, 2, none⟩ = some (.int .i64 q.D.op) := hY.cell 2
  have y3 : w1.cell? ⟨w.heap.size + 1, 3, none⟩ = some (.int .i64 q.D.kd) := hY.cell 3
  have y4 : w1.cell? ⟨w.heap.size + 1, 4, none⟩ = some (.int .i64 q.D.id) := hY.cell 4
  have y5 : w1.cell? ⟨w.heap.size + 1, 5, none⟩ = some (.int .i64 q.D.fr) := hY.cell 5
  have y6 : w1.cell? ⟨w.heap.size + 1, 6, none⟩ = some (.int .i64 q.D.tn) := hY.cell 6
  have y7 : w1.cell? ⟨w.heap.size + 1, 7, none⟩ = some (.int .i64 q.D.st) := hY.cell 7
  have y8 : w1.cell? ⟨w.heap.size + 1, 8, none⟩ = some (.int .i64 q.D.en) := hY.cell 8
  have y9 : w1.cell? ⟨w.heap.size + 1, 9, none⟩ = some (.int .i64 q.D.rt) := hY.cell 9
  have y10 : w1.cell? ⟨w.heap.size + 1, 10, none⟩ = some (.int .i64 q.D.rf) := hY.cell 10
  have y11 : w1.cell? ⟨w.heap.size + 1, 11, none⟩ = some (.int .i64 q.D.rn) := hY.cell 11
  have y12 : w1.cell? ⟨w.heap.size + 1, 12, none⟩ = some (.int .i64 q.D.rs) := hY.cell 12
  have y13 : w1.cell? ⟨w.heap.size + 1, 13, none⟩ = some (.int .i64 q.D.re) := hY.cell 13
  have y14 : w1.cell? ⟨w.heap.size + 1, 14, none⟩ = some (.int .i64 q.D.ro) := hY.cell 14
  have y15 : w1.cell? ⟨w.heap.size + 1, 15, none⟩ = some (.int .i64 q.n) := hY.cell 15
  have y16 : w1.cell? ⟨w.heap.size + 1, 16, none⟩ = some (.slice A' k' c') := hY.cell 16
  have y17 : w1.cell? ⟨w.heap.size + 1, 17, none⟩ = some (.int .i64 q.cl) := hY.cell 17
  have y18 : w1.cell? ⟨w.heap.size + 1, 18, none⟩ = some (.int .i64 q.sz) := hY.cell 18
  have y19 : w1.cell? ⟨w.heap.size + 1, 19, none⟩ = some (.int .i64 q.bf) := hY.cell 19
  have y20 : w1.cell? ⟨w.heap.size + 1, 20, none⟩ = some (.int .i64 q.bt) := hY.cell 20
  have y21 : w1.cell? ⟨w.heap.size + 1, 21, none⟩ = some (.int .i64 q.bs_) := hY.cell 21
  have y22 : w1.cell? ⟨w.heap.size + 1, 22, none⟩ = some (.int .i64 q.bc) := hY.cell 22
  have y23 : w1.cell? ⟨w.heap.size + 1, 23, none⟩ = some (.int .i64 q.bd) := hY.cell 23
  have lt_x := hX.lt
  have lt_y := hY.lt
  go_wp2_with fail
  go_ret
  exact ⟨rfl, hB⟩
end Go.Proofs.YtggdomeeienjbaaDoor

/- Package script: Same's closure, part 2. No condition but on sizes. -/
namespace Go.Proofs.YtggdomeeienjbaaDoor
open Go.ChangeShapes Go.WideShapes Go.ChangeAt Go.RowKit Go.Sort
set_option linter.unusedSimpArgs false
set_option linter.unusedVariables false
set_option maxHeartbeats 8000000 in
set_option maxRecDepth 100000 in
theorem same1_1 (p q : Pa) (A A' : Option Addr) (k c k' c' : Nat) (w : World) (hk : p.ids.length = k) (hk' : q.ids.length = k') (hkm : k ≤ 1000000) (hkm' : k' ≤ 1000000) (h : Sl w w.heap.size 1 A k c (p.ids.map (Value.int .i64))) (h' : Sl w w.heap.size 1 A' k' c' (q.ids.map (Value.int .i64))) (c0 : p.dk = q.dk) (c1 : ¬ (p.tx = q.tx)) :
    Calls Tryd.prog 21 #[.agg #[.int .i64 p.dk, .string (bs p.tx), .int .i64 p.D.op, .int .i64 p.D.kd, .int .i64 p.D.id, .int .i64 p.D.fr, .int .i64 p.D.tn, .int .i64 p.D.st, .int .i64 p.D.en, .int .i64 p.D.rt, .int .i64 p.D.rf, .int .i64 p.D.rn, .int .i64 p.D.rs, .int .i64 p.D.re, .int .i64 p.D.ro, .int .i64 p.n, .slice A k c, .int .i64 p.cl, .int .i64 p.sz, .int .i64 p.bf, .int .i64 p.bt, .int .i64 p.bs_, .int .i64 p.bc, .int .i64 p.bd], .agg #[.int .i64 q.dk, .string (bs q.tx), .int .i64 q.D.op, .int .i64 q.D.kd, .int .i64 q.D.id, .int .i64 q.D.fr, .int .i64 q.D.tn, .int .i64 q.D.st, .int .i64 q.D.en, .int .i64 q.D.rt, .int .i64 q.D.rf, .int .i64 q.D.rn, .int .i64 q.D.rs, .int .i64 q.D.re, .int .i64 q.D.ro, .int .i64 q.n, .slice A' k' c', .int .i64 q.cl, .int .i64 q.sz, .int .i64 q.bf, .int .i64 q.bt, .int .i64 q.bs_, .int .i64 q.bc, .int .i64 q.bd]] w fun e w' => e = .returned (.bool false) ∧ Below w.heap.size w w' := by
  have g0 : (p.dk == q.dk) = true := by simp [c0]
  have g1 : ((bs p.tx).toList == (bs q.tx).toList) = false := by rw [beq_eq_false_iff_ne]; exact fun e => c1 ((str_ne _ _).1 e)
  clear c0 c1
  have hB : Below w.heap.size w ((w.alloc (.cells #[.int .i64 p.dk, .string (bs p.tx), .int .i64 p.D.op, .int .i64 p.D.kd, .int .i64 p.D.id, .int .i64 p.D.fr, .int .i64 p.D.tn, .int .i64 p.D.st, .int .i64 p.D.en, .int .i64 p.D.rt, .int .i64 p.D.rf, .int .i64 p.D.rn, .int .i64 p.D.rs, .int .i64 p.D.re, .int .i64 p.D.ro, .int .i64 p.n, .slice A k c, .int .i64 p.cl, .int .i64 p.sz, .int .i64 p.bf, .int .i64 p.bt, .int .i64 p.bs_, .int .i64 p.bc, .int .i64 p.bd] 36)).alloc (.cells #[.int .i64 q.dk, .string (bs q.tx), .int .i64 q.D.op, .int .i64 q.D.kd, .int .i64 q.D.id, .int .i64 q.D.fr, .int .i64 q.D.tn, .int .i64 q.D.st, .int .i64 q.D.en, .int .i64 q.D.rt, .int .i64 q.D.rf, .int .i64 q.D.rn, .int .i64 q.D.rs, .int .i64 q.D.re, .int .i64 q.D.ro, .int .i64 q.n, .slice A' k' c', .int .i64 q.cl, .int .i64 q.sz, .int .i64 q.bf, .int .i64 q.bt, .int .i64 q.bs_, .int .i64 q.bc, .int .i64 q.bd] 36)) := by (repeat (first | exact Below.refl _ _ | refine Below.alloc ?_ (by first | omega | (simp; done) | (simp; omega)) _ | refine Below.setCell ?_ (by first | omega | (simp; done) | (simp; omega)) _ | refine Below.drew ?_))
  have hX := (Blok.new w 36 #[.int .i64 p.dk, .string (bs p.tx), .int .i64 p.D.op, .int .i64 p.D.kd, .int .i64 p.D.id, .int .i64 p.D.fr, .int .i64 p.D.tn, .int .i64 p.D.st, .int .i64 p.D.en, .int .i64 p.D.rt, .int .i64 p.D.rf, .int .i64 p.D.rn, .int .i64 p.D.rs, .int .i64 p.D.re, .int .i64 p.D.ro, .int .i64 p.n, .slice A k c, .int .i64 p.cl, .int .i64 p.sz, .int .i64 p.bf, .int .i64 p.bt, .int .i64 p.bs_, .int .i64 p.bc, .int .i64 p.bd]).alloc (.cells #[.int .i64 q.dk, .string (bs q.tx), .int .i64 q.D.op, .int .i64 q.D.kd, .int .i64 q.D.id, .int .i64 q.D.fr, .int .i64 q.D.tn, .int .i64 q.D.st, .int .i64 q.D.en, .int .i64 q.D.rt, .int .i64 q.D.rf, .int .i64 q.D.rn, .int .i64 q.D.rs, .int .i64 q.D.re, .int .i64 q.D.ro, .int .i64 q.n, .slice A' k' c', .int .i64 q.cl, .int .i64 q.sz, .int .i64 q.bf, .int .i64 q.bt, .int .i64 q.bs_, .int .i64 q.bc, .int .i64 q.bd] 36)
  have hY := Blok.new (w.alloc (.cells #[.int .i64 p.dk, .string (bs p.tx), .int .i64 p.D.op, .int .i64 p.D.kd, .int .i64 p.D.id, .int .i64 p.D.fr, .int .i64 p.D.tn, .int .i64 p.D.st, .int .i64 p.D.en, .int .i64 p.D.rt, .int .i64 p.D.rf, .int .i64 p.D.rn, .int .i64 p.D.rs, .int .i64 p.D.re, .int .i64 p.D.ro, .int .i64 p.n, .slice A k c, .int .i64 p.cl, .int .i64 p.sz, .int .i64 p.bf, .int .i64 p.bt, .int .i64 p.bs_, .int .i64 p.bc, .int .i64 p.bd] 36)) 36 #[.int .i64 q.dk, .string (bs q.tx), .int .i64 q.D.op, .int .i64 q.D.kd, .int .i64 q.D.id, .int .i64 q.D.fr, .int .i64 q.D.tn, .int .i64 q.D.st, .int .i64 q.D.en, .int .i64 q.D.rt, .int .i64 q.D.rf, .int .i64 q.D.rn, .int .i64 q.D.rs, .int .i64 q.D.re, .int .i64 q.D.ro, .int .i64 q.n, .slice A' k' c', .int .i64 q.cl, .int .i64 q.sz, .int .i64 q.bf, .int .i64 q.bt, .int .i64 q.bs_, .int .i64 q.bc, .int .i64 q.bd]
  rw [World.size_alloc] at hY
  replace h := h.up hB
  replace h' := h'.up hB
  have hs := hB.size
  have HK := Lib.hid (⟨hk, hk', hkm, hkm'⟩ : _ ∧ _ ∧ _ ∧ _)
  have HH := Lib.hid h
  have HH' := Lib.hid h'
  clear hk hk' hkm hkm' h h'
  go_enter Tryd.func21, Tryd.ntmps21
  go_upto_region 1 with fail
  generalize (w.alloc (.cells #[.int .i64 p.dk, .string (bs p.tx), .int .i64 p.D.op, .int .i64 p.D.kd, .int .i64 p.D.id, .int .i64 p.D.fr, .int .i64 p.D.tn, .int .i64 p.D.st, .int .i64 p.D.en, .int .i64 p.D.rt, .int .i64 p.D.rf, .int .i64 p.D.rn, .int .i64 p.D.rs, .int .i64 p.D.re, .int .i64 p.D.ro, .int .i64 p.n, .slice A k c, .int .i64 p.cl, .int .i64 p.sz, .int .i64 p.bf, .int .i64 p.bt, .int .i64 p.bs_, .int .i64 p.bc, .int .i64 p.bd] 36)).alloc (.cells #[.int .i64 q.dk, .string (bs q.tx), .int .i64 q.D.op, .int .i64 q.D.kd, .int .i64 q.D.id, .int .i64 q.D.fr, .int .i64 q.D.tn, .int .i64 q.D.st, .int .i64 q.D.en, .int .i64 q.D.rt, .int .i64 q.D.rf, .int .i64 q.D.rn, .int .i64 q.D.rs, .int .i64 q.D.re, .int .i64 q.D.ro, .int .i64 q.n, .slice A' k' c', .int .i64 q.cl, .int .i64 q.sz, .int .i64 q.bf, .int .i64 q.bt, .int .i64 q.bs_, .int .i64 q.bc, .int .i64 q.bd] 36) = w1 at *
  have x0 : w1.cell? ⟨w.heap.size, 0, none⟩ = some (.int .i64 p.dk) := hX.cell 0
  have x1 : w1.cell? ⟨w.heap.size, 1, none⟩ = some (.string (bs p.tx)) := hX.cell 1
  have x2 : w1.cell? ⟨w.heap.size, 2, none⟩ = some (.int .i64 p.D.op) := hX.cell 2
  have x3 : w1.cell? ⟨w.heap.size, 3, none⟩ = some (.int .i64 p.D.kd) := hX.cell 3
  have x4 : w1.cell? ⟨w.heap.size, 4, none⟩ = some (.int .i64 p.D.id) := hX.cell 4
  have x5 : w1.cell? ⟨w.heap.size, 5, none⟩ = some (.int .i64 p.D.fr) := hX.cell 5
  have x6 : w1.cell? ⟨w.heap.size, 6, none⟩ = some (.int .i64 p.D.tn) := hX.cell 6
  have x7 : w1.cell? ⟨w.heap.size, 7, none⟩ = some (.int .i64 p.D.st) := hX.cell 7
  have x8 : w1.cell? ⟨w.heap.size, 8, none⟩ = some (.int .i64 p.D.en) := hX.cell 8
  have x9 : w1.cell? ⟨w.heap.size, 9, none⟩ = some (.int .i64 p.D.rt) := hX.cell 9
  have x10 : w1.cell? ⟨w.heap.size, 10, none⟩ = some (.int .i64 p.D.rf) := hX.cell 10
  have x11 : w1.cell? ⟨w.heap.size, 11, none⟩ = some (.int .i64 p.D.rn) := hX.cell 11
  have x12 : w1.cell? ⟨w.heap.size, 12, none⟩ = some (.int .i64 p.D.rs) := hX.cell 12
  have x13 : w1.cell? ⟨w.heap.size, 13, none⟩ = some (.int .i64 p.D.re) := hX.cell 13
  have x14 : w1.cell? ⟨w.heap.size, 14, none⟩ = some (.int .i64 p.D.ro) := hX.cell 14
  have x15 : w1.cell? ⟨w.heap.size, 15, none⟩ = some (.int .i64 p.n) := hX.cell 15
  have x16 : w1.cell? ⟨w.heap.size, 16, none⟩ = some (.slice A k c) := hX.cell 16
  have x17 : w1.cell? ⟨w.heap.size, 17, none⟩ = some (.int .i64 p.cl) := hX.cell 17
  have x18 : w1.cell? ⟨w.heap.size, 18, none⟩ = some (.int .i64 p.sz) := hX.cell 18
  have x19 : w1.cell? ⟨w.heap.size, 19, none⟩ = some (.int .i64 p.bf) := hX.cell 19
  have x20 : w1.cell? ⟨w.heap.size, 20, none⟩ = some (.int .i64 p.bt) := hX.cell 20
  have x21 : w1.cell? ⟨w.heap.size, 21, none⟩ = some (.int .i64 p.bs_) := hX.cell 21
  have x22 : w1.cell? ⟨w.heap.size, 22, none⟩ = some (.int .i64 p.bc) := hX.cell 22
  have x23 : w1.cell? ⟨w.heap.size, 23, none⟩ = some (.int .i64 p.bd) := hX.cell 23
  have y0 : w1.cell? ⟨w.heap.size + 1, 0, none⟩ = some (.int .i64 q.dk) := hY.cell 0
  have y1 : w1.cell? ⟨w.heap.size + 1, 1, none⟩ = some (.string (bs q.tx)) := hY.cell 1
  have y2 : w1.cell? ⟨w.heap.size + 1, 2, none⟩ = some (.int .i64 q.D.op) := hY.cell 2
  have y3 : w1.cell? ⟨w.heap.size + 1, 3, none⟩ = some (.int .i64 q.D.kd) := hY.cell 3
  have y4 : w1.cell? ⟨w.heap.size + 1, 4, none⟩ = some (.int .i64 q.D.id) := hY.cell 4
  have y5 : w1.cell? ⟨w.heap.size + 1, 5, none⟩ = some (.int .i64 q.D.fr) := hY.cell 5
  have y6 : w1.cell? ⟨w.heap.size + 1, 6, none⟩ = some (.int .i64 q.D.tn) := hY.cell 6
  have y7 : w1.cell? ⟨w.heap.size + 1, 7, none⟩ = some (.int .i64 q.D.st) := hY.cell 7
  have y8 : w1.cell? ⟨w.heap.size + 1, 8, none⟩ = some (.int .i64 q.D.en) := hY.cell 8
  have y9 : w1.cell? ⟨w.heap.size + 1, 9, none⟩ = some (.int .i64 q.D.rt) := hY.cell 9
  have y10 : w1.cell? ⟨w.heap.size + 1, 10, none⟩ = some (.int .i64 q.D.rf) := hY.cell 10
  have y11 : w1.cell? ⟨w.heap.size + 1, 11, none⟩ = some (.int .i64 q.D.rn) := hY.cell 11
  have y12 : w1.cell? ⟨w.heap.size + 1, 12, none⟩ = some (.int .i64 q.D.rs) := hY.cell 12
  have y13 : w1.cell? ⟨w.heap.size + 1, 13, none⟩ = some (.int .i64 q.D.re) := hY.cell 13
  have y14 : w1.cell? ⟨w.heap.size + 1, 14, none⟩ = some (.int .i64 q.D.ro) := hY.cell 14
  have y15 : w1.cell? ⟨w.heap.size + 1, 15, none⟩ = some (.int .i64 q.n) := hY.cell 15
  have y16 : w1.cell? ⟨w.heap.size + 1, 16, none⟩ = some (.slice A' k' c') := hY.cell 16
  have y17 : w1.cell? ⟨w.heap.size + 1, 17, none⟩ = some (.int .i64 q.cl) := hY.cell 17
  have y18 : w1.cell? ⟨w.heap.size + 1, 18, none⟩ = some (.int .i64 q.sz) := hY.cell 18
  have y19 : w1.cell? ⟨w.heap.size + 1, 19, none⟩ = some (.int .i64 q.bf) := hY.cell 19
  have y20 : w1.cell? ⟨w.heap.size + 1, 20, none⟩ = some (.int .i64 q.bt) := hY.cell 20
  have y21 : w1.cell? ⟨w.heap.size + 1, 21, none⟩ = some (.int .i64 q.bs_) := hY.cell 21
  have y22 : w1.cell? ⟨w.heap.size + 1, 22, none⟩ = some (.int .i64 q.bc) := hY.cell 22
  have y23 : w1.cell? ⟨w.heap.size + 1, 23, none⟩ = some (.int .i64 q.bd) := hY.cell 23
  have lt_x := hX.lt
  have lt_y := hY.lt
  go_wp2_with fail
  go_ret
  exact ⟨rfl, hB⟩
end Go.Proofs.YtggdomeeienjbaaDoor

/- Package script: Same's closure, part 3. No condition but on sizes. -/
namespace Go.Proofs.YtggdomeeienjbaaDoor
open Go.ChangeShapes Go.WideShapes Go.ChangeAt Go.RowKit Go.Sort
set_option linter.unusedSimpArgs false
set_option linter.unusedVariables false
set_option maxHeartbeats 8000000 in
set_option maxRecDepth 100000 in
theorem same1_2 (p q : Pa) (A A' : Option Addr) (k c k' c' : Nat) (w : World) (hk : p.ids.length = k) (hk' : q.ids.length = k') (hkm : k ≤ 1000000) (hkm' : k' ≤ 1000000) (h : Sl w w.heap.size 1 A k c (p.ids.map (Value.int .i64))) (h' : Sl w w.heap.size 1 A' k' c' (q.ids.map (Value.int .i64))) (c0 : p.dk = q.dk) (c1 : p.tx = q.tx) (c2 : ¬ (p.D = q.D)) :
    Calls Tryd.prog 21 #[.agg #[.int .i64 p.dk, .string (bs p.tx), .int .i64 p.D.op, .int .i64 p.D.kd, .int .i64 p.D.id, .int .i64 p.D.fr, .int .i64 p.D.tn, .int .i64 p.D.st, .int .i64 p.D.en, .int .i64 p.D.rt, .int .i64 p.D.rf, .int .i64 p.D.rn, .int .i64 p.D.rs, .int .i64 p.D.re, .int .i64 p.D.ro, .int .i64 p.n, .slice A k c, .int .i64 p.cl, .int .i64 p.sz, .int .i64 p.bf, .int .i64 p.bt, .int .i64 p.bs_, .int .i64 p.bc, .int .i64 p.bd], .agg #[.int .i64 q.dk, .string (bs q.tx), .int .i64 q.D.op, .int .i64 q.D.kd, .int .i64 q.D.id, .int .i64 q.D.fr, .int .i64 q.D.tn, .int .i64 q.D.st, .int .i64 q.D.en, .int .i64 q.D.rt, .int .i64 q.D.rf, .int .i64 q.D.rn, .int .i64 q.D.rs, .int .i64 q.D.re, .int .i64 q.D.ro, .int .i64 q.n, .slice A' k' c', .int .i64 q.cl, .int .i64 q.sz, .int .i64 q.bf, .int .i64 q.bt, .int .i64 q.bs_, .int .i64 q.bc, .int .i64 q.bd]] w fun e w' => e = .returned (.bool false) ∧ Below w.heap.size w w' := by
  have g0 : (p.dk == q.dk) = true := by simp [c0]
  have g1 : ((bs p.tx).toList == (bs q.tx).toList) = true := by rw [beq_iff_eq]; exact (str_ne _ _).2 c1
  have g2 : ∀ w0, (binOp .eql 31 (.agg #[.int .i64 p.D.op, .int .i64 p.D.kd, .int .i64 p.D.id, .int .i64 p.D.fr, .int .i64 p.D.tn, .int .i64 p.D.st, .int .i64 p.D.en, .int .i64 p.D.rt, .int .i64 p.D.rf, .int .i64 p.D.rn, .int .i64 p.D.rs, .int .i64 p.D.re, .int .i64 p.D.ro]) (.agg #[.int .i64 q.D.op, .int .i64 q.D.kd, .int .i64 q.D.id, .int .i64 q.D.fr, .int .i64 q.D.tn, .int .i64 q.D.st, .int .i64 q.D.en, .int .i64 q.D.rt, .int .i64 q.D.rf, .int .i64 q.D.rn, .int .i64 q.D.rs, .int .i64 q.D.re, .int .i64 q.D.ro])).run Tryd.prog w0 = .ok (.bool false) w0 := fun w0 => by rw [eqlDr]; simp [c2]
  clear c0 c1 c2
  have hB : Below w.heap.size w ((w.alloc (.cells #[.int .i64 p.dk, .string (bs p.tx), .int .i64 p.D.op, .int .i64 p.D.kd, .int .i64 p.D.id, .int .i64 p.D.fr, .int .i64 p.D.tn, .int .i64 p.D.st, .int .i64 p.D.en, .int .i64 p.D.rt, .int .i64 p.D.rf, .int .i64 p.D.rn, .int .i64 p.D.rs, .int .i64 p.D.re, .int .i64 p.D.ro, .int .i64 p.n, .slice A k c, .int .i64 p.cl, .int .i64 p.sz, .int .i64 p.bf, .int .i64 p.bt, .int .i64 p.bs_, .int .i64 p.bc, .int .i64 p.bd] 36)).alloc (.cells #[.int .i64 q.dk, .string (bs q.tx), .int .i64 q.D.op, .int .i64 q.D.kd, .int .i64 q.D.id, .int .i64 q.D.fr, .int .i64 q.D.tn, .int .i64 q.D.st, .int .i64 q.D.en, .int .i64 q.D.rt, .int .i64 q.D.rf, .int .i64 q.D.rn, .int .i64 q.D.rs, .int .i64 q.D.re, .int .i64 q.D.ro, .int .i64 q.n, .slice A' k' c', .int .i64 q.cl, .int .i64 q.sz, .int .i64 q.bf, .int .i64 q.bt, .int .i64 q.bs_, .int .i64 q.bc, .int .i64 q.bd] 36)) := by (repeat (first | exact Below.refl _ _ | refine Below.alloc ?_ (by first | omega | (simp; done) | (simp; omega)) _ | refine Below.setCell ?_ (by first | omega | (simp; done) | (simp; omega)) _ | refine Below.drew ?_))
  have hX := (Blok.new w 36 #[.int .i64 p.dk, .string (bs p.tx), .int .i64 p.D.op, .int .i64 p.D.kd, .int .i64 p.D.id, .int .i64 p.D.fr, .int .i64 p.D.tn, .int .i64 p.D.st, .int .i64 p.D.en, .int .i64 p.D.rt, .int .i64 p.D.rf, .int .i64 p.D.rn, .int .i64 p.D.rs, .int .i64 p.D.re, .int .i64 p.D.ro, .int .i64 p.n, .slice A k c, .int .i64 p.cl, .int .i64 p.sz, .int .i64 p.bf, .int .i64 p.bt, .int .i64 p.bs_, .int .i64 p.bc, .int .i64 p.bd]).alloc (.cells #[.int .i64 q.dk, .string (bs q.tx), .int .i64 q.D.op, .int .i64 q.D.kd, .int .i64 q.D.id, .int .i64 q.D.fr, .int .i64 q.D.tn, .int .i64 q.D.st, .int .i64 q.D.en, .int .i64 q.D.rt, .int .i64 q.D.rf, .int .i64 q.D.rn, .int .i64 q.D.rs, .int .i64 q.D.re, .int .i64 q.D.ro, .int .i64 q.n, .slice A' k' c', .int .i64 q.cl, .int .i64 q.sz, .int .i64 q.bf, .int .i64 q.bt, .int .i64 q.bs_, .int .i64 q.bc, .int .i64 q.bd] 36)
  have hY := Blok.new (w.alloc (.cells #[.int .i64 p.dk, .string (bs p.tx), .int .i64 p.D.op, .int .i64 p.D.kd, .int .i64 p.D.id, .int .i64 p.D.fr, .int .i64 p.D.tn, .int .i64 p.D.st, .int .i64 p.D.en, .int .i64 p.D.rt, .int .i64 p.D.rf, .int .i64 p.D.rn, .int .i64 p.D.rs, .int .i64 p.D.re, .int .i64 p.D.ro, .int .i64 p.n, .slice A k c, .int .i64 p.cl, .int .i64 p.sz, .int .i64 p.bf, .int .i64 p.bt, .int .i64 p.bs_, .int .i64 p.bc, .int .i64 p.bd] 36)) 36 #[.int .i64 q.dk, .string (bs q.tx), .int .i64 q.D.op, .int .i64 q.D.kd, .int .i64 q.D.id, .int .i64 q.D.fr, .int .i64 q.D.tn, .int .i64 q.D.st, .int .i64 q.D.en, .int .i64 q.D.rt, .int .i64 q.D.rf, .int .i64 q.D.rn, .int .i64 q.D.rs, .int .i64 q.D.re, .int .i64 q.D.ro, .int .i64 q.n, .slice A' k' c', .int .i64 q.cl, .int .i64 q.sz, .int .i64 q.bf, .int .i64 q.bt, .int .i64 q.bs_, .int .i64 q.bc, .int .i64 q.bd]
  rw [World.size_alloc] at hY
  replace h := h.up hB
  replace h' := h'.up hB
  have hs := hB.size
  have HK := Lib.hid (⟨hk, hk', hkm, hkm'⟩ : _ ∧ _ ∧ _ ∧ _)
  have HH := Lib.hid h
  have HH' := Lib.hid h'
  clear hk hk' hkm hkm' h h'
  go_enter Tryd.func21, Tryd.ntmps21
  go_upto_region 1 with fail
  generalize (w.alloc (.cells #[.int .i64 p.dk, .string (bs p.tx), .int .i64 p.D.op, .int .i64 p.D.kd, .int .i64 p.D.id, .int .i64 p.D.fr, .int .i64 p.D.tn, .int .i64 p.D.st, .int .i64 p.D.en, .int .i64 p.D.rt, .int .i64 p.D.rf, .int .i64 p.D.rn, .int .i64 p.D.rs, .int .i64 p.D.re, .int .i64 p.D.ro, .int .i64 p.n, .slice A k c, .int .i64 p.cl, .int .i64 p.sz, .int .i64 p.bf, .int .i64 p.bt, .int .i64 p.bs_, .int .i64 p.bc, .int .i64 p.bd] 36)).alloc (.cells #[.int .i64 q.dk, .string (bs q.tx), .int .i64 q.D.op, .int .i64 q.D.kd, .int .i64 q.D.id, .int .i64 q.D.fr, .int .i64 q.D.tn, .int .i64 q.D.st, .int .i64 q.D.en, .int .i64 q.D.rt, .int .i64 q.D.rf, .int .i64 q.D.rn, .int .i64 q.D.rs, .int .i64 q.D.re, .int .i64 q.D.ro, .int .i64 q.n, .slice A' k' c', .int .i64 q.cl, .int .i64 q.sz, .int .i64 q.bf, .int .i64 q.bt, .int .i64 q.bs_, .int .i64 q.bc, .int .i64 q.bd] 36) = w1 at *
  have x0 : w1.cell? ⟨w.heap.size, 0, none⟩ = some (.int .i64 p.dk) := hX.cell 0
  have x1 : w1.cell? ⟨w.heap.size, 1, none⟩ = some (.string (bs p.tx)) := hX.cell 1
  have x2 : w1.cell? ⟨w.heap.size, 2, none⟩ = some (.int .i64 p.D.op) := hX.cell 2
  have x3 : w1.cell? ⟨w.heap.size, 3, none⟩ = some (.int .i64 p.D.kd) := hX.cell 3
  have x4 : w1.cell? ⟨w.heap.size, 4, none⟩ = some (.int .i64 p.D.id) := hX.cell 4
  have x5 : w1.cell? ⟨w.heap.size, 5, none⟩ = some (.int .i64 p.D.fr) := hX.cell 5
  have x6 : w1.cell? ⟨w.heap.size, 6, none⟩ = some (.int .i64 p.D.tn) := hX.cell 6
  have x7 : w1.cell? ⟨w.heap.size, 7, none⟩ = some (.int .i64 p.D.st) := hX.cell 7
  have x8 : w1.cell? ⟨w.heap.size, 8, none⟩ = some (.int .i64 p.D.en) := hX.cell 8
  have x9 : w1.cell? ⟨w.heap.size, 9, none⟩ = some (.int .i64 p.D.rt) := hX.cell 9
  have x10 : w1.cell? ⟨w.heap.size, 10, none⟩ = some (.int .i64 p.D.rf) := hX.cell 10
  have x11 : w1.cell? ⟨w.heap.size, 11, none⟩ = some (.int .i64 p.D.rn) := hX.cell 11
  have x12 : w1.cell? ⟨w.heap.size, 12, none⟩ = some (.int .i64 p.D.rs) := hX.cell 12
  have x13 : w1.cell? ⟨w.heap.size, 13, none⟩ = some (.int .i64 p.D.re) := hX.cell 13
  have x14 : w1.cell? ⟨w.heap.size, 14, none⟩ = some (.int .i64 p.D.ro) := hX.cell 14
  have x15 : w1.cell? ⟨w.heap.size, 15, none⟩ = some (.int .i64 p.n) := hX.cell 15
  have x16 : w1.cell? ⟨w.heap.size, 16, none⟩ = some (.slice A k c) := hX.cell 16
  have x17 : w1.cell? ⟨w.heap.size, 17, none⟩ = some (.int .i64 p.cl) := hX.cell 17
  have x18 : w1.cell? ⟨w.heap.size, 18, none⟩ = some (.int .i64 p.sz) := hX.cell 18
  have x19 : w1.cell? ⟨w.heap.size, 19, none⟩ = some (.int .i64 p.bf) := hX.cell 19
  have x20 : w1.cell? ⟨w.heap.size, 20, none⟩ = some (.int .i64 p.bt) := hX.cell 20
  have x21 : w1.cell? ⟨w.heap.size, 21, none⟩ = some (.int .i64 p.bs_) := hX.cell 21
  have x22 : w1.cell? ⟨w.heap.size, 22, none⟩ = some (.int .i64 p.bc) := hX.cell 22
  have x23 : w1.cell? ⟨w.heap.size, 23, none⟩ = some (.int .i64 p.bd) := hX.cell 23
  have y0 : w1.cell? ⟨w.heap.size + 1, 0, none⟩ = some (.int .i64 q.dk) := hY.cell 0
  have y1 : w1.cell? ⟨w.heap.size + 1, 1, none⟩ = some (.string (bs q.tx)) := hY.cell 1
  have y2 : w1.cell? ⟨w.heap.size + 1, 2, none⟩ = some (.int .i64 q.D.op) := hY.cell 2
  have y3 : w1.cell? ⟨w.heap.size + 1, 3, none⟩ = some (.int .i64 q.D.kd) := hY.cell 3
  have y4 : w1.cell? ⟨w.heap.size + 1, 4, none⟩ = some (.int .i64 q.D.id) := hY.cell 4
  have y5 : w1.cell? ⟨w.heap.size + 1, 5, none⟩ = some (.int .i64 q.D.fr) := hY.cell 5
  have y6 : w1.cell? ⟨w.heap.size + 1, 6, none⟩ = some (.int .i64 q.D.tn) := hY.cell 6
  have y7 : w1.cell? ⟨w.heap.size + 1, 7, none⟩ = some (.int .i64 q.D.st) := hY.cell 7
  have y8 : w1.cell? ⟨w.heap.size + 1, 8, none⟩ = some (.int .i64 q.D.en) := hY.cell 8
  have y9 : w1.cell? ⟨w.heap.size + 1, 9, none⟩ = some (.int .i64 q.D.rt) := hY.cell 9
  have y10 : w1.cell? ⟨w.heap.size + 1, 10, none⟩ = some (.int .i64 q.D.rf) := hY.cell 10
  have y11 : w1.cell? ⟨w.heap.size + 1, 11, none⟩ = some (.int .i64 q.D.rn) := hY.cell 11
  have y12 : w1.cell? ⟨w.heap.size + 1, 12, none⟩ = some (.int .i64 q.D.rs) := hY.cell 12
  have y13 : w1.cell? ⟨w.heap.size + 1, 13, none⟩ = some (.int .i64 q.D.re) := hY.cell 13
  have y14 : w1.cell? ⟨w.heap.size + 1, 14, none⟩ = some (.int .i64 q.D.ro) := hY.cell 14
  have y15 : w1.cell? ⟨w.heap.size + 1, 15, none⟩ = some (.int .i64 q.n) := hY.cell 15
  have y16 : w1.cell? ⟨w.heap.size + 1, 16, none⟩ = some (.slice A' k' c') := hY.cell 16
  have y17 : w1.cell? ⟨w.heap.size + 1, 17, none⟩ = some (.int .i64 q.cl) := hY.cell 17
  have y18 : w1.cell? ⟨w.heap.size + 1, 18, none⟩ = some (.int .i64 q.sz) := hY.cell 18
  have y19 : w1.cell? ⟨w.heap.size + 1, 19, none⟩ = some (.int .i64 q.bf) := hY.cell 19
  have y20 : w1.cell? ⟨w.heap.size + 1, 20, none⟩ = some (.int .i64 q.bt) := hY.cell 20
  have y21 : w1.cell? ⟨w.heap.size + 1, 21, none⟩ = some (.int .i64 q.bs_) := hY.cell 21
  have y22 : w1.cell? ⟨w.heap.size + 1, 22, none⟩ = some (.int .i64 q.bc) := hY.cell 22
  have y23 : w1.cell? ⟨w.heap.size + 1, 23, none⟩ = some (.int .i64 q.bd) := hY.cell 23
  have lt_x := hX.lt
  have lt_y := hY.lt
  go_wp2_with fail
  go_ret
  exact ⟨rfl, hB⟩
end Go.Proofs.YtggdomeeienjbaaDoor

/- Package script: Same's closure, part 4. No condition but on sizes. -/
namespace Go.Proofs.YtggdomeeienjbaaDoor
open Go.ChangeShapes Go.WideShapes Go.ChangeAt Go.RowKit Go.Sort
set_option linter.unusedSimpArgs false
set_option linter.unusedVariables false
set_option maxHeartbeats 8000000 in
set_option maxRecDepth 100000 in
theorem same1_3 (p q : Pa) (A A' : Option Addr) (k c k' c' : Nat) (w : World) (hk : p.ids.length = k) (hk' : q.ids.length = k') (hkm : k ≤ 1000000) (hkm' : k' ≤ 1000000) (h : Sl w w.heap.size 1 A k c (p.ids.map (Value.int .i64))) (h' : Sl w w.heap.size 1 A' k' c' (q.ids.map (Value.int .i64))) (c0 : p.dk = q.dk) (c1 : p.tx = q.tx) (c2 : p.D = q.D) (c3 : ¬ (p.n = q.n)) :
    Calls Tryd.prog 21 #[.agg #[.int .i64 p.dk, .string (bs p.tx), .int .i64 p.D.op, .int .i64 p.D.kd, .int .i64 p.D.id, .int .i64 p.D.fr, .int .i64 p.D.tn, .int .i64 p.D.st, .int .i64 p.D.en, .int .i64 p.D.rt, .int .i64 p.D.rf, .int .i64 p.D.rn, .int .i64 p.D.rs, .int .i64 p.D.re, .int .i64 p.D.ro, .int .i64 p.n, .slice A k c, .int .i64 p.cl, .int .i64 p.sz, .int .i64 p.bf, .int .i64 p.bt, .int .i64 p.bs_, .int .i64 p.bc, .int .i64 p.bd], .agg #[.int .i64 q.dk, .string (bs q.tx), .int .i64 q.D.op, .int .i64 q.D.kd, .int .i64 q.D.id, .int .i64 q.D.fr, .int .i64 q.D.tn, .int .i64 q.D.st, .int .i64 q.D.en, .int .i64 q.D.rt, .int .i64 q.D.rf, .int .i64 q.D.rn, .int .i64 q.D.rs, .int .i64 q.D.re, .int .i64 q.D.ro, .int .i64 q.n, .slice A' k' c', .int .i64 q.cl, .int .i64 q.sz, .int .i64 q.bf, .int .i64 q.bt, .int .i64 q.bs_, .int .i64 q.bc, .int .i64 q.bd]] w fun e w' => e = .returned (.bool false) ∧ Below w.heap.size w w' := by
  have g0 : (p.dk == q.dk) = true := by simp [c0]
  have g1 : ((bs p.tx).toList == (bs q.tx).toList) = true := by rw [beq_iff_eq]; exact (str_ne _ _).2 c1
  have g2 : ∀ w0, (binOp .eql 31 (.agg #[.int .i64 p.D.op, .int .i64 p.D.kd, .int .i64 p.D.id, .int .i64 p.D.fr, .int .i64 p.D.tn, .int .i64 p.D.st, .int .i64 p.D.en, .int .i64 p.D.rt, .int .i64 p.D.rf, .int .i64 p.D.rn, .int .i64 p.D.rs, .int .i64 p.D.re, .int .i64 p.D.ro]) (.agg #[.int .i64 q.D.op, .int .i64 q.D.kd, .int .i64 q.D.id, .int .i64 q.D.fr, .int .i64 q.D.tn, .int .i64 q.D.st, .int .i64 q.D.en, .int .i64 q.D.rt, .int .i64 q.D.rf, .int .i64 q.D.rn, .int .i64 q.D.rs, .int .i64 q.D.re, .int .i64 q.D.ro])).run Tryd.prog w0 = .ok (.bool true) w0 := fun w0 => by rw [eqlDr]; simp [c2]
  have g3 : (p.n == q.n) = false := by simp [c3]
  clear c0 c1 c2 c3
  have hB : Below w.heap.size w ((w.alloc (.cells #[.int .i64 p.dk, .string (bs p.tx), .int .i64 p.D.op, .int .i64 p.D.kd, .int .i64 p.D.id, .int .i64 p.D.fr, .int .i64 p.D.tn, .int .i64 p.D.st, .int .i64 p.D.en, .int .i64 p.D.rt, .int .i64 p.D.rf, .int .i64 p.D.rn, .int .i64 p.D.rs, .int .i64 p.D.re, .int .i64 p.D.ro, .int .i64 p.n, .slice A k c, .int .i64 p.cl, .int .i64 p.sz, .int .i64 p.bf, .int .i64 p.bt, .int .i64 p.bs_, .int .i64 p.bc, .int .i64 p.bd] 36)).alloc (.cells #[.int .i64 q.dk, .string (bs q.tx), .int .i64 q.D.op, .int .i64 q.D.kd, .int .i64 q.D.id, .int .i64 q.D.fr, .int .i64 q.D.tn, .int .i64 q.D.st, .int .i64 q.D.en, .int .i64 q.D.rt, .int .i64 q.D.rf, .int .i64 q.D.rn, .int .i64 q.D.rs, .int .i64 q.D.re, .int .i64 q.D.ro, .int .i64 q.n, .slice A' k' c', .int .i64 q.cl, .int .i64 q.sz, .int .i64 q.bf, .int .i64 q.bt, .int .i64 q.bs_, .int .i64 q.bc, .int .i64 q.bd] 36)) := by (repeat (first | exact Below.refl _ _ | refine Below.alloc ?_ (by first | omega | (simp; done) | (simp; omega)) _ | refine Below.setCell ?_ (by first | omega | (simp; done) | (simp; omega)) _ | refine Below.drew ?_))
  have hX := (Blok.new w 36 #[.int .i64 p.dk, .string (bs p.tx), .int .i64 p.D.op, .int .i64 p.D.kd, .int .i64 p.D.id, .int .i64 p.D.fr, .int .i64 p.D.tn, .int .i64 p.D.st, .int .i64 p.D.en, .int .i64 p.D.rt, .int .i64 p.D.rf, .int .i64 p.D.rn, .int .i64 p.D.rs, .int .i64 p.D.re, .int .i64 p.D.ro, .int .i64 p.n, .slice A k c, .int .i64 p.cl, .int .i64 p.sz, .int .i64 p.bf, .int .i64 p.bt, .int .i64 p.bs_, .int .i64 p.bc, .int .i64 p.bd]).alloc (.cells #[.int .i64 q.dk, .string (bs q.tx), .int .i64 q.D.op, .int .i64 q.D.kd, .int .i64 q.D.id, .int .i64 q.D.fr, .int .i64 q.D.tn, .int .i64 q.D.st, .int .i64 q.D.en, .int .i64 q.D.rt, .int .i64 q.D.rf, .int .i64 q.D.rn, .int .i64 q.D.rs, .int .i64 q.D.re, .int .i64 q.D.ro, .int .i64 q.n, .slice A' k' c', .int .i64 q.cl, .int .i64 q.sz, .int .i64 q.bf, .int .i64 q.bt, .int .i64 q.bs_, .int .i64 q.bc, .int .i64 q.bd] 36)
  have hY := Blok.new (w.alloc (.cells #[.int .i64 p.dk, .string (bs p.tx), .int .i64 p.D.op, .int .i64 p.D.kd, .int .i64 p.D.id, .int .i64 p.D.fr, .int .i64 p.D.tn, .int .i64 p.D.st, .int .i64 p.D.en, .int .i64 p.D.rt, .int .i64 p.D.rf, .int .i64 p.D.rn, .int .i64 p.D.rs, .int .i64 p.D.re, .int .i64 p.D.ro, .int .i64 p.n, .slice A k c, .int .i64 p.cl, .int .i64 p.sz, .int .i64 p.bf, .int .i64 p.bt, .int .i64 p.bs_, .int .i64 p.bc, .int .i64 p.bd] 36)) 36 #[.int .i64 q.dk, .string (bs q.tx), .int .i64 q.D.op, .int .i64 q.D.kd, .int .i64 q.D.id, .int .i64 q.D.fr, .int .i64 q.D.tn, .int .i64 q.D.st, .int .i64 q.D.en, .int .i64 q.D.rt, .int .i64 q.D.rf, .int .i64 q.D.rn, .int .i64 q.D.rs, .int .i64 q.D.re, .int .i64 q.D.ro, .int .i64 q.n, .slice A' k' c', .int .i64 q.cl, .int .i64 q.sz, .int .i64 q.bf, .int .i64 q.bt, .int .i64 q.bs_, .int .i64 q.bc, .int .i64 q.bd]
  rw [World.size_alloc] at hY
  replace h := h.up hB
  replace h' := h'.up hB
  have hs := hB.size
  have HK := Lib.hid (⟨hk, hk', hkm, hkm'⟩ : _ ∧ _ ∧ _ ∧ _)
  have HH := Lib.hid h
  have HH' := Lib.hid h'
  clear hk hk' hkm hkm' h h'
  go_enter Tryd.func21, Tryd.ntmps21
  go_upto_region 1 with fail
  generalize (w.alloc (.cells #[.int .i64 p.dk, .string (bs p.tx), .int .i64 p.D.op, .int .i64 p.D.kd, .int .i64 p.D.id, .int .i64 p.D.fr, .int .i64 p.D.tn, .int .i64 p.D.st, .int .i64 p.D.en, .int .i64 p.D.rt, .int .i64 p.D.rf, .int .i64 p.D.rn, .int .i64 p.D.rs, .int .i64 p.D.re, .int .i64 p.D.ro, .int .i64 p.n, .slice A k c, .int .i64 p.cl, .int .i64 p.sz, .int .i64 p.bf, .int .i64 p.bt, .int .i64 p.bs_, .int .i64 p.bc, .int .i64 p.bd] 36)).alloc (.cells #[.int .i64 q.dk, .string (bs q.tx), .int .i64 q.D.op, .int .i64 q.D.kd, .int .i64 q.D.id, .int .i64 q.D.fr, .int .i64 q.D.tn, .int .i64 q.D.st, .int .i64 q.D.en, .int .i64 q.D.rt, .int .i64 q.D.rf, .int .i64 q.D.rn, .int .i64 q.D.rs, .int .i64 q.D.re, .int .i64 q.D.ro, .int .i64 q.n, .slice A' k' c', .int .i64 q.cl, .int .i64 q.sz, .int .i64 q.bf, .int .i64 q.bt, .int .i64 q.bs_, .int .i64 q.bc, .int .i64 q.bd] 36) = w1 at *
  have x0 : w1.cell? ⟨w.heap.size, 0, none⟩ = some (.int .i64 p.dk) := hX.cell 0
  have x1 : w1.cell? ⟨w.heap.size, 1, none⟩ = some (.string (bs p.tx)) := hX.cell 1
  have x2 : w1.cell? ⟨w.heap.size, 2, none⟩ = some (.int .i64 p.D.op) := hX.cell 2
  have x3 : w1.cell? ⟨w.heap.size, 3, none⟩ = some (.int .i64 p.D.kd) := hX.cell 3
  have x4 : w1.cell? ⟨w.heap.size, 4, none⟩ = some (.int .i64 p.D.id) := hX.cell 4
  have x5 : w1.cell? ⟨w.heap.size, 5, none⟩ = some (.int .i64 p.D.fr) := hX.cell 5
  have x6 : w1.cell? ⟨w.heap.size, 6, none⟩ = some (.int .i64 p.D.tn) := hX.cell 6
  have x7 : w1.cell? ⟨w.heap.size, 7, none⟩ = some (.int .i64 p.D.st) := hX.cell 7
  have x8 : w1.cell? ⟨w.heap.size, 8, none⟩ = some (.int .i64 p.D.en) := hX.cell 8
  have x9 : w1.cell? ⟨w.heap.size, 9, none⟩ = some (.int .i64 p.D.rt) := hX.cell 9
  have x10 : w1.cell? ⟨w.heap.size, 10, none⟩ = some (.int .i64 p.D.rf) := hX.cell 10
  have x11 : w1.cell? ⟨w.heap.size, 11, none⟩ = some (.int .i64 p.D.rn) := hX.cell 11
  have x12 : w1.cell? ⟨w.heap.size, 12, none⟩ = some (.int .i64 p.D.rs) := hX.cell 12
  have x13 : w1.cell? ⟨w.heap.size, 13, none⟩ = some (.int .i64 p.D.re) := hX.cell 13
  have x14 : w1.cell? ⟨w.heap.size, 14, none⟩ = some (.int .i64 p.D.ro) := hX.cell 14
  have x15 : w1.cell? ⟨w.heap.size, 15, none⟩ = some (.int .i64 p.n) := hX.cell 15
  have x16 : w1.cell? ⟨w.heap.size, 16, none⟩ = some (.slice A k c) := hX.cell 16
  have x17 : w1.cell? ⟨w.heap.size, 17, none⟩ = some (.int .i64 p.cl) := hX.cell 17
  have x18 : w1.cell? ⟨w.heap.size, 18, none⟩ = some (.int .i64 p.sz) := hX.cell 18
  have x19 : w1.cell? ⟨w.heap.size, 19, none⟩ = some (.int .i64 p.bf) := hX.cell 19
  have x20 : w1.cell? ⟨w.heap.size, 20, none⟩ = some (.int .i64 p.bt) := hX.cell 20
  have x21 : w1.cell? ⟨w.heap.size, 21, none⟩ = some (.int .i64 p.bs_) := hX.cell 21
  have x22 : w1.cell? ⟨w.heap.size, 22, none⟩ = some (.int .i64 p.bc) := hX.cell 22
  have x23 : w1.cell? ⟨w.heap.size, 23, none⟩ = some (.int .i64 p.bd) := hX.cell 23
  have y0 : w1.cell? ⟨w.heap.size + 1, 0, none⟩ = some (.int .i64 q.dk) := hY.cell 0
  have y1 : w1.cell? ⟨w.heap.size + 1, 1, none⟩ = some (.string (bs q.tx)) := hY.cell 1
  have y2 : w1.cell? ⟨w.heap.size + 1, 2, none⟩ = some (.int .i64 q.D.op) := hY.cell 2
  have y3 : w1.cell? ⟨w.heap.size + 1, 3, none⟩ = some (.int .i64 q.D.kd) := hY.cell 3
  have y4 : w1.cell? ⟨w.heap.size + 1, 4, none⟩ = some (.int .i64 q.D.id) := hY.cell 4
  have y5 : w1.cell? ⟨w.heap.size + 1, 5, none⟩ = some (.int .i64 q.D.fr) := hY.cell 5
  have y6 : w1.cell? ⟨w.heap.size + 1, 6, none⟩ = some (.int .i64 q.D.tn) := hY.cell 6
  have y7 : w1.cell? ⟨w.heap.size + 1, 7, none⟩ = some (.int .i64 q.D.st) := hY.cell 7
  have y8 : w1.cell? ⟨w.heap.size + 1, 8, none⟩ = some (.int .i64 q.D.en) := hY.cell 8
  have y9 : w1.cell? ⟨w.heap.size + 1, 9, none⟩ = some (.int .i64 q.D.rt) := hY.cell 9
  have y10 : w1.cell? ⟨w.heap.size + 1, 10, none⟩ = some (.int .i64 q.D.rf) := hY.cell 10
  have y11 : w1.cell? ⟨w.heap.size + 1, 11, none⟩ = some (.int .i64 q.D.rn) := hY.cell 11
  have y12 : w1.cell? ⟨w.heap.size + 1, 12, none⟩ = some (.int .i64 q.D.rs) := hY.cell 12
  have y13 : w1.cell? ⟨w.heap.size + 1, 13, none⟩ = some (.int .i64 q.D.re) := hY.cell 13
  have y14 : w1.cell? ⟨w.heap.size + 1, 14, none⟩ = some (.int .i64 q.D.ro) := hY.cell 14
  have y15 : w1.cell? ⟨w.heap.size + 1, 15, none⟩ = some (.int .i64 q.n) := hY.cell 15
  have y16 : w1.cell? ⟨w.heap.size + 1, 16, none⟩ = some (.slice A' k' c') := hY.cell 16
  have y17 : w1.cell? ⟨w.heap.size + 1, 17, none⟩ = some (.int .i64 q.cl) := hY.cell 17
  have y18 : w1.cell? ⟨w.heap.size + 1, 18, none⟩ = some (.int .i64 q.sz) := hY.cell 18
  have y19 : w1.cell? ⟨w.heap.size + 1, 19, none⟩ = some (.int .i64 q.bf) := hY.cell 19
  have y20 : w1.cell? ⟨w.heap.size + 1, 20, none⟩ = some (.int .i64 q.bt) := hY.cell 20
  have y21 : w1.cell? ⟨w.heap.size + 1, 21, none⟩ = some (.int .i64 q.bs_) := hY.cell 21
  have y22 : w1.cell? ⟨w.heap.size + 1, 22, none⟩ = some (.int .i64 q.bc) := hY.cell 22
  have y23 : w1.cell? ⟨w.heap.size + 1, 23, none⟩ = some (.int .i64 q.bd) := hY.cell 23
  have lt_x := hX.lt
  have lt_y := hY.lt
  go_wp2_with fail
  go_ret
  exact ⟨rfl, hB⟩
end Go.Proofs.YtggdomeeienjbaaDoor

/- Package script: Same's closure, part 5. No condition but on sizes. -/
namespace Go.Proofs.YtggdomeeienjbaaDoor
open Go.ChangeShapes Go.WideShapes Go.ChangeAt Go.RowKit Go.Sort
set_option linter.unusedSimpArgs false
set_option linter.unusedVariables false
set_option maxHeartbeats 8000000 in
set_option maxRecDepth 100000 in
theorem same1_4 (p q : Pa) (A A' : Option Addr) (k c k' c' : Nat) (w : World) (hk : p.ids.length = k) (hk' : q.ids.length = k') (hkm : k ≤ 1000000) (hkm' : k' ≤ 1000000) (h : Sl w w.heap.size 1 A k c (p.ids.map (Value.int .i64))) (h' : Sl w w.heap.size 1 A' k' c' (q.ids.map (Value.int .i64))) (c0 : p.dk = q.dk) (c1 : p.tx = q.tx) (c2 : p.D = q.D) (c3 : p.n = q.n) (c4 : ¬ (p.ids = q.ids)) :
    Calls Tryd.prog 21 #[.agg #[.int .i64 p.dk, .string (bs p.tx), .int .i64 p.D.op, .int .i64 p.D.kd, .int .i64 p.D.id, .int .i64 p.D.fr, .int .i64 p.D.tn, .int .i64 p.D.st, .int .i64 p.D.en, .int .i64 p.D.rt, .int .i64 p.D.rf, .int .i64 p.D.rn, .int .i64 p.D.rs, .int .i64 p.D.re, .int .i64 p.D.ro, .int .i64 p.n, .slice A k c, .int .i64 p.cl, .int .i64 p.sz, .int .i64 p.bf, .int .i64 p.bt, .int .i64 p.bs_, .int .i64 p.bc, .int .i64 p.bd], .agg #[.int .i64 q.dk, .string (bs q.tx), .int .i64 q.D.op, .int .i64 q.D.kd, .int .i64 q.D.id, .int .i64 q.D.fr, .int .i64 q.D.tn, .int .i64 q.D.st, .int .i64 q.D.en, .int .i64 q.D.rt, .int .i64 q.D.rf, .int .i64 q.D.rn, .int .i64 q.D.rs, .int .i64 q.D.re, .int .i64 q.D.ro, .int .i64 q.n, .slice A' k' c', .int .i64 q.cl, .int .i64 q.sz, .int .i64 q.bf, .int .i64 q.bt, .int .i64 q.bs_, .int .i64 q.bc, .int .i64 q.bd]] w fun e w' => e = .returned (.bool false) ∧ Below w.heap.size w w' := by
  have g0 : (p.dk == q.dk) = true := by simp [c0]
  have g1 : ((bs p.tx).toList == (bs q.tx).toList) = true := by rw [beq_iff_eq]; exact (str_ne _ _).2 c1
  have g2 : ∀ w0, (binOp .eql 31 (.agg #[.int .i64 p.D.op, .int .i64 p.D.kd, .int .i64 p.D.id, .int .i64 p.D.fr, .int .i64 p.D.tn, .int .i64 p.D.st, .int .i64 p.D.en, .int .i64 p.D.rt, .int .i64 p.D.rf, .int .i64 p.D.rn, .int .i64 p.D.rs, .int .i64 p.D.re, .int .i64 p.D.ro]) (.agg #[.int .i64 q.D.op, .int .i64 q.D.kd, .int .i64 q.D.id, .int .i64 q.D.fr, .int .i64 q.D.tn, .int .i64 q.D.st, .int .i64 q.D.en, .int .i64 q.D.rt, .int .i64 q.D.rf, .int .i64 q.D.rn, .int .i64 q.D.rs, .int .i64 q.D.re, .int .i64 q.D.ro])).run Tryd.prog w0 = .ok (.bool true) w0 := fun w0 => by rw [eqlDr]; simp [c2]
  have g3 : (p.n == q.n) = true := by simp [c3]
  have g4 : Hid (decide (p.ids = q.ids) = false) := by show decide (p.ids = q.ids) = false; simp [c4]
  clear c0 c1 c2 c3 c4
  have hB : Below w.heap.size w ((w.alloc (.cells #[.int .i64 p.dk, .string (bs p.tx), .int .i64 p.D.op, .int .i64 p.D.kd, .int .i64 p.D.id, .int .i64 p.D.fr, .int .i64 p.D.tn, .int .i64 p.D.st, .int .i64 p.D.en, .int .i64 p.D.rt, .int .i64 p.D.rf, .int .i64 p.D.rn, .int .i64 p.D.rs, .int .i64 p.D.re, .int .i64 p.D.ro, .int .i64 p.n, .slice A k c, .int .i64 p.cl, .int .i64 p.sz, .int .i64 p.bf, .int .i64 p.bt, .int .i64 p.bs_, .int .i64 p.bc, .int .i64 p.bd] 36)).alloc (.cells #[.int .i64 q.dk, .string (bs q.tx), .int .i64 q.D.op, .int .i64 q.D.kd, .int .i64 q.D.id, .int .i64 q.D.fr, .int .i64 q.D.tn, .int .i64 q.D.st, .int .i64 q.D.en, .int .i64 q.D.rt, .int .i64 q.D.rf, .int .i64 q.D.rn, .int .i64 q.D.rs, .int .i64 q.D.re, .int .i64 q.D.ro, .int .i64 q.n, .slice A' k' c', .int .i64 q.cl, .int .i64 q.sz, .int .i64 q.bf, .int .i64 q.bt, .int .i64 q.bs_, .int .i64 q.bc, .int .i64 q.bd] 36)) := by (repeat (first | exact Below.refl _ _ | refine Below.alloc ?_ (by first | omega | (simp; done) | (simp; omega)) _ | refine Below.setCell ?_ (by first | omega | (simp; done) | (simp; omega)) _ | refine Below.drew ?_))
  have hX := (Blok.new w 36 #[.int .i64 p.dk, .string (bs p.tx), .int .i64 p.D.op, .int .i64 p.D.kd, .int .i64 p.D.id, .int .i64 p.D.fr, .int .i64 p.D.tn, .int .i64 p.D.st, .int .i64 p.D.en, .int .i64 p.D.rt, .int .i64 p.D.rf, .int .i64 p.D.rn, .int .i64 p.D.rs, .int .i64 p.D.re, .int .i64 p.D.ro, .int .i64 p.n, .slice A k c, .int .i64 p.cl, .int .i64 p.sz, .int .i64 p.bf, .int .i64 p.bt, .int .i64 p.bs_, .int .i64 p.bc, .int .i64 p.bd]).alloc (.cells #[.int .i64 q.dk, .string (bs q.tx), .int .i64 q.D.op, .int .i64 q.D.kd, .int .i64 q.D.id, .int .i64 q.D.fr, .int .i64 q.D.tn, .int .i64 q.D.st, .int .i64 q.D.en, .int .i64 q.D.rt, .int .i64 q.D.rf, .int .i64 q.D.rn, .int .i64 q.D.rs, .int .i64 q.D.re, .int .i64 q.D.ro, .int .i64 q.n, .slice A' k' c', .int .i64 q.cl, .int .i64 q.sz, .int .i64 q.bf, .int .i64 q.bt, .int .i64 q.bs_, .int .i64 q.bc, .int .i64 q.bd] 36)
  have hY := Blok.new (w.alloc (.cells #[.int .i64 p.dk, .string (bs p.tx), .int .i64 p.D.op, .int .i64 p.D.kd, .int .i64 p.D.id, .int .i64 p.D.fr, .int .i64 p.D.tn, .int .i64 p.D.st, .int .i64 p.D.en, .int .i64 p.D.rt, .int .i64 p.D.rf, .int .i64 p.D.rn, .int .i64 p.D.rs, .int .i64 p.D.re, .int .i64 p.D.ro, .int .i64 p.n, .slice A k c, .int .i64 p.cl, .int .i64 p.sz, .int .i64 p.bf, .int .i64 p.bt, .int .i64 p.bs_, .int .i64 p.bc, .int .i64 p.bd] 36)) 36 #[.int .i64 q.dk, .string (bs q.tx), .int .i64 q.D.op, .int .i64 q.D.kd, .int .i64 q.D.id, .int .i64 q.D.fr, .int .i64 q.D.tn, .int .i64 q.D.st, .int .i64 q.D.en, .int .i64 q.D.rt, .int .i64 q.D.rf, .int .i64 q.D.rn, .int .i64 q.D.rs, .int .i64 q.D.re, .int .i64 q.D.ro, .int .i64 q.n, .slice A' k' c', .int .i64 q.cl, .int .i64 q.sz, .int .i64 q.bf, .int .i64 q.bt, .int .i64 q.bs_, .int .i64 q.bc, .int .i64 q.bd]
  rw [World.size_alloc] at hY
  replace h := h.up hB
  replace h' := h'.up hB
  have hs := hB.size
  have HK := Lib.hid (⟨hk, hk', hkm, hkm'⟩ : _ ∧ _ ∧ _ ∧ _)
  have HH := Lib.hid h
  have HH' := Lib.hid h'
  clear hk hk' hkm hkm' h h'
  go_enter Tryd.func21, Tryd.ntmps21
  go_upto_region 1 with fail
  generalize (w.alloc (.cells #[.int .i64 p.dk, .string (bs p.tx), .int .i64 p.D.op, .int .i64 p.D.kd, .int .i64 p.D.id, .int .i64 p.D.fr, .int .i64 p.D.tn, .int .i64 p.D.st, .int .i64 p.D.en, .int .i64 p.D.rt, .int .i64 p.D.rf, .int .i64 p.D.rn, .int .i64 p.D.rs, .int .i64 p.D.re, .int .i64 p.D.ro, .int .i64 p.n, .slice A k c, .int .i64 p.cl, .int .i64 p.sz, .int .i64 p.bf, .int .i64 p.bt, .int .i64 p.bs_, .int .i64 p.bc, .int .i64 p.bd] 36)).alloc (.cells #[.int .i64 q.dk, .string (bs q.tx), .int .i64 q.D.op, .int .i64 q.D.kd, .int .i64 q.D.id, .int .i64 q.D.fr, .int .i64 q.D.tn, .int .i64 q.D.st, .int .i64 q.D.en, .int .i64 q.D.rt, .int .i64 q.D.rf, .int .i64 q.D.rn, .int .i64 q.D.rs, .int .i64 q.D.re, .int .i64 q.D.ro, .int .i64 q.n, .slice A' k' c', .int .i64 q.cl, .int .i64 q.sz, .int .i64 q.bf, .int .i64 q.bt, .int .i64 q.bs_, .int .i64 q.bc, .int .i64 q.bd] 36) = w1 at *
  have x0 : w1.cell? ⟨w.heap.size, 0, none⟩ = some (.int .i64 p.dk) := hX.cell 0
  have x1 : w1.cell? ⟨w.heap.size, 1, none⟩ = some (.string (bs p.tx)) := hX.cell 1
  have x2 : w1.cell? ⟨w.heap.size, 2, none⟩ = some (.int .i64 p.D.op) := hX.cell 2
  have x3 : w1.cell? ⟨w.heap.size, 3, none⟩ = some (.int .i64 p.D.kd) := hX.cell 3
  have x4 : w1.cell? ⟨w.heap.size, 4, none⟩ = some (.int .i64 p.D.id) := hX.cell 4
  have x5 : w1.cell? ⟨w.heap.size, 5, none⟩ = some (.int .i64 p.D.fr) := hX.cell 5
  have x6 : w1.cell? ⟨w.heap.size, 6, none⟩ = some (.int .i64 p.D.tn) := hX.cell 6
  have x7 : w1.cell? ⟨w.heap.size, 7, none⟩ = some (.int .i64 p.D.st) := hX.cell 7
  have x8 : w1.cell? ⟨w.heap.size, 8, none⟩ = some (.int .i64 p.D.en) := hX.cell 8
  have x9 : w1.cell? ⟨w.heap.size, 9, none⟩ = some (.int .i64 p.D.rt) := hX.cell 9
  have x10 : w1.cell? ⟨w.heap.size, 10, none⟩ = some (.int .i64 p.D.rf) := hX.cell 10
  have x11 : w1.cell? ⟨w.heap.size, 11, none⟩ = some (.int .i64 p.D.rn) := hX.cell 11
  have x12 : w1.cell? ⟨w.heap.size, 12, none⟩ = some (.int .i64 p.D.rs) := hX.cell 12
  have x13 : w1.cell? ⟨w.heap.size, 13, none⟩ = some (.int .i64 p.D.re) := hX.cell 13
  have x14 : w1.cell? ⟨w.heap.size, 14, none⟩ = some (.int .i64 p.D.ro) := hX.cell 14
  have x15 : w1.cell? ⟨w.heap.size, 15, none⟩ = some (.int .i64 p.n) := hX.cell 15
  have x16 : w1.cell? ⟨w.heap.size, 16, none⟩ = some (.slice A k c) := hX.cell 16
  have x17 : w1.cell? ⟨w.heap.size, 17, none⟩ = some (.int .i64 p.cl) := hX.cell 17
  have x18 : w1.cell? ⟨w.heap.size, 18, none⟩ = some (.int .i64 p.sz) := hX.cell 18
  have x19 : w1.cell? ⟨w.heap.size, 19, none⟩ = some (.int .i64 p.bf) := hX.cell 19
  have x20 : w1.cell? ⟨w.heap.size, 20, none⟩ = some (.int .i64 p.bt) := hX.cell 20
  have x21 : w1.cell? ⟨w.heap.size, 21, none⟩ = some (.int .i64 p.bs_) := hX.cell 21
  have x22 : w1.cell? ⟨w.heap.size, 22, none⟩ = some (.int .i64 p.bc) := hX.cell 22
  have x23 : w1.cell? ⟨w.heap.size, 23, none⟩ = some (.int .i64 p.bd) := hX.cell 23
  have y0 : w1.cell? ⟨w.heap.size + 1, 0, none⟩ = some (.int .i64 q.dk) := hY.cell 0
  have y1 : w1.cell? ⟨w.heap.size + 1, 1, none⟩ = some (.string (bs q.tx)) := hY.cell 1
  have y2 : w1.cell? ⟨w.heap.size + 1, 2, none⟩ = some (.int .i64 q.D.op) := hY.cell 2
  have y3 : w1.cell? ⟨w.heap.size + 1, 3, none⟩ = some (.int .i64 q.D.kd) := hY.cell 3
  have y4 : w1.cell? ⟨w.heap.size + 1, 4, none⟩ = some (.int .i64 q.D.id) := hY.cell 4
  have y5 : w1.cell? ⟨w.heap.size + 1, 5, none⟩ = some (.int .i64 q.D.fr) := hY.cell 5
  have y6 : w1.cell? ⟨w.heap.size + 1, 6, none⟩ = some (.int .i64 q.D.tn) := hY.cell 6
  have y7 : w1.cell? ⟨w.heap.size + 1, 7, none⟩ = some (.int .i64 q.D.st) := hY.cell 7
  have y8 : w1.cell? ⟨w.heap.size + 1, 8, none⟩ = some (.int .i64 q.D.en) := hY.cell 8
  have y9 : w1.cell? ⟨w.heap.size + 1, 9, none⟩ = some (.int .i64 q.D.rt) := hY.cell 9
  have y10 : w1.cell? ⟨w.heap.size + 1, 10, none⟩ = some (.int .i64 q.D.rf) := hY.cell 10
  have y11 : w1.cell? ⟨w.heap.size + 1, 11, none⟩ = some (.int .i64 q.D.rn) := hY.cell 11
  have y12 : w1.cell? ⟨w.heap.size + 1, 12, none⟩ = some (.int .i64 q.D.rs) := hY.cell 12
  have y13 : w1.cell? ⟨w.heap.size + 1, 13, none⟩ = some (.int .i64 q.D.re) := hY.cell 13
  have y14 : w1.cell? ⟨w.heap.size + 1, 14, none⟩ = some (.int .i64 q.D.ro) := hY.cell 14
  have y15 : w1.cell? ⟨w.heap.size + 1, 15, none⟩ = some (.int .i64 q.n) := hY.cell 15
  have y16 : w1.cell? ⟨w.heap.size + 1, 16, none⟩ = some (.slice A' k' c') := hY.cell 16
  have y17 : w1.cell? ⟨w.heap.size + 1, 17, none⟩ = some (.int .i64 q.cl) := hY.cell 17
  have y18 : w1.cell? ⟨w.heap.size + 1, 18, none⟩ = some (.int .i64 q.sz) := hY.cell 18
  have y19 : w1.cell? ⟨w.heap.size + 1, 19, none⟩ = some (.int .i64 q.bf) := hY.cell 19
  have y20 : w1.cell? ⟨w.heap.size + 1, 20, none⟩ = some (.int .i64 q.bt) := hY.cell 20
  have y21 : w1.cell? ⟨w.heap.size + 1, 21, none⟩ = some (.int .i64 q.bs_) := hY.cell 21
  have y22 : w1.cell? ⟨w.heap.size + 1, 22, none⟩ = some (.int .i64 q.bc) := hY.cell 22
  have y23 : w1.cell? ⟨w.heap.size + 1, 23, none⟩ = some (.int .i64 q.bd) := hY.cell 23
  have lt_x := hX.lt
  have lt_y := hY.lt
  have q_x16 := fun d os => cell_regrown x16 d os
  have q_x17 := fun d os => cell_regrown x17 d os
  have q_x18 := fun d os => cell_regrown x18 d os
  have q_x19 := fun d os => cell_regrown x19 d os
  have q_x20 := fun d os => cell_regrown x20 d os
  have q_x21 := fun d os => cell_regrown x21 d os
  have q_x22 := fun d os => cell_regrown x22 d os
  have q_x23 := fun d os => cell_regrown x23 d os
  have q_y16 := fun d os => cell_regrown y16 d os
  have q_y17 := fun d os => cell_regrown y17 d os
  have q_y18 := fun d os => cell_regrown y18 d os
  have q_y19 := fun d os => cell_regrown y19 d os
  have q_y20 := fun d os => cell_regrown y20 d os
  have q_y21 := fun d os => cell_regrown y21 d os
  have q_y22 := fun d os => cell_regrown y22 d os
  have q_y23 := fun d os => cell_regrown y23 d os
  have q_x0 := fun d os => cell_regrown x0 d os
  have q_y0 := fun d os => cell_regrown y0 d os
  have q_x1 := fun d os => cell_regrown x1 d os
  have q_y1 := fun d os => cell_regrown y1 d os
  have q_x2 := fun d os => cell_regrown x2 d os
  have q_y2 := fun d os => cell_regrown y2 d os
  have q_x3 := fun d os => cell_regrown x3 d os
  have q_y3 := fun d os => cell_regrown y3 d os
  have q_x4 := fun d os => cell_regrown x4 d os
  have q_y4 := fun d os => cell_regrown y4 d os
  have q_x5 := fun d os => cell_regrown x5 d os
  have q_y5 := fun d os => cell_regrown y5 d os
  have q_x6 := fun d os => cell_regrown x6 d os
  have q_y6 := fun d os => cell_regrown y6 d os
  have q_x7 := fun d os => cell_regrown x7 d os
  have q_y7 := fun d os => cell_regrown y7 d os
  have q_x8 := fun d os => cell_regrown x8 d os
  have q_y8 := fun d os => cell_regrown y8 d os
  have q_x9 := fun d os => cell_regrown x9 d os
  have q_y9 := fun d os => cell_regrown y9 d os
  have q_x10 := fun d os => cell_regrown x10 d os
  have q_y10 := fun d os => cell_regrown y10 d os
  have q_x11 := fun d os => cell_regrown x11 d os
  have q_y11 := fun d os => cell_regrown y11 d os
  have q_x12 := fun d os => cell_regrown x12 d os
  have q_y12 := fun d os => cell_regrown y12 d os
  have q_x13 := fun d os => cell_regrown x13 d os
  have q_y13 := fun d os => cell_regrown y13 d os
  have q_x14 := fun d os => cell_regrown x14 d os
  have q_y14 := fun d os => cell_regrown y14 d os
  have q_x15 := fun d os => cell_regrown x15 d os
  have q_y15 := fun d os => cell_regrown y15 d os
  try simp only [List.append]
  first | refine wp_region_text_below ?_ | refine wp_region_quiet_below (by kernel_rfl) (by kernel_rfl) ?_
  repeat (go_big_quiet_step (((go_at_call 22; with_reducible exact Calls.regrown_of (equalI_is A A' k c k' c' p.ids q.ids _ g4.out HK.out.1 HK.out.2.1 HK.out.2.2.1 HK.out.2.2.2 (HH.out.up (below_regrown _ _ _)) (HH'.out.up (below_regrown _ _ _)))))))
  refine wpQuiet_nil ?_
  intro _ hqw
  obtain ⟨pq, hqw⟩ := hqw
  subst hqw
  go_wp2
  go_ret
  exact ⟨rfl, hB.trans ((below_regrown _ _ _).mono hs)⟩
end Go.Proofs.YtggdomeeienjbaaDoor

/- Package script: Same's closure, part 6. No condition but on sizes. -/
namespace Go.Proofs.YtggdomeeienjbaaDoor
open Go.ChangeShapes Go.WideShapes Go.ChangeAt Go.RowKit Go.Sort
set_option linter.unusedSimpArgs false
set_option linter.unusedVariables false
set_option maxHeartbeats 8000000 in
set_option maxRecDepth 100000 in
theorem same1_5 (p q : Pa) (A A' : Option Addr) (k c k' c' : Nat) (w : World) (hk : p.ids.length = k) (hk' : q.ids.length = k') (hkm : k ≤ 1000000) (hkm' : k' ≤ 1000000) (h : Sl w w.heap.size 1 A k c (p.ids.map (Value.int .i64))) (h' : Sl w w.heap.size 1 A' k' c' (q.ids.map (Value.int .i64))) (c0 : p.dk = q.dk) (c1 : p.tx = q.tx) (c2 : p.D = q.D) (c3 : p.n = q.n) (c4 : p.ids = q.ids) (c5 : ¬ (p.cl = q.cl)) :
    Calls Tryd.prog 21 #[.agg #[.int .i64 p.dk, .string (bs p.tx), .int .i64 p.D.op, .int .i64 p.D.kd, .int .i64 p.D.id, .int .i64 p.D.fr, .int .i64 p.D.tn, .int .i64 p.D.st, .int .i64 p.D.en, .int .i64 p.D.rt, .int .i64 p.D.rf, .int .i64 p.D.rn, .int .i64 p.D.rs, .int .i64 p.D.re, .int .i64 p.D.ro, .int .i64 p.n, .slice A k c, .int .i64 p.cl, .int .i64 p.sz, .int .i64 p.bf, .int .i64 p.bt, .int .i64 p.bs_, .int .i64 p.bc, .int .i64 p.bd], .agg #[.int .i64 q.dk, .string (bs q.tx), .int .i64 q.D.op, .int .i64 q.D.kd, .int .i64 q.D.id, .int .i64 q.D.fr, .int .i64 q.D.tn, .int .i64 q.D.st, .int .i64 q.D.en, .int .i64 q.D.rt, .int .i64 q.D.rf, .int .i64 q.D.rn, .int .i64 q.D.rs, .int .i64 q.D.re, .int .i64 q.D.ro, .int .i64 q.n, .slice A' k' c', .int .i64 q.cl, .int .i64 q.sz, .int .i64 q.bf, .int .i64 q.bt, .int .i64 q.bs_, .int .i64 q.bc, .int .i64 q.bd]] w fun e w' => e = .returned (.bool false) ∧ Below w.heap.size w w' := by
  have g0 : (p.dk == q.dk) = true := by simp [c0]
  have g1 : ((bs p.tx).toList == (bs q.tx).toList) = true := by rw [beq_iff_eq]; exact (str_ne _ _).2 c1
  have g2 : ∀ w0, (binOp .eql 31 (.agg #[.int .i64 p.D.op, .int .i64 p.D.kd, .int .i64 p.D.id, .int .i64 p.D.fr, .int .i64 p.D.tn, .int .i64 p.D.st, .int .i64 p.D.en, .int .i64 p.D.rt, .int .i64 p.D.rf, .int .i64 p.D.rn, .int .i64 p.D.rs, .int .i64 p.D.re, .int .i64 p.D.ro]) (.agg #[.int .i64 q.D.op, .int .i64 q.D.kd, .int .i64 q.D.id, .int .i64 q.D.fr, .int .i64 q.D.tn, .int .i64 q.D.st, .int .i64 q.D.en, .int .i64 q.D.rt, .int .i64 q.D.rf, .int .i64 q.D.rn, .int .i64 q.D.rs, .int .i64 q.D.re, .int .i64 q.D.ro])).run Tryd.prog w0 = .ok (.bool true) w0 := fun w0 => by rw [eqlDr]; simp [c2]
  have g3 : (p.n == q.n) = true := by simp [c3]
  have g4 : Hid (decide (p.ids = q.ids) = true) := by show decide (p.ids = q.ids) = true; simp [c4]
  have g5 : (p.cl == q.cl) = false := by simp [c5]
  clear c0 c1 c2 c3 c4 c5
  have hB : Below w.heap.size w ((w.alloc (.cells #[.int .i64 p.dk, .string (bs p.tx), .int .i64 p.D.op, .int .i64 p.D.kd, .int .i64 p.D.id, .int .i64 p.D.fr, .int .i64 p.D.tn, .int .i64 p.D.st, .int .i64 p.D.en, .int .i64 p.D.rt, .int .i64 p.D.rf, .int .i64 p.D.rn, .int .i64 p.D.rs, .int .i64 p.D.re, .int .i64 p.D.ro, .int .i64 p.n, .slice A k c, .int .i64 p.cl, .int .i64 p.sz, .int .i64 p.bf, .int .i64 p.bt, .int .i64 p.bs_, .int .i64 p.bc, .int .i64 p.bd] 36)).alloc (.cells #[.int .i64 q.dk, .string (bs q.tx), .int .i64 q.D.op, .int .i64 q.D.kd, .int .i64 q.D.id, .int .i64 q.D.fr, .int .i64 q.D.tn, .int .i64 q.D.st, .int .i64 q.D.en, .int .i64 q.D.rt, .int .i64 q.D.rf, .int .i64 q.D.rn, .int .i64 q.D.rs, .int .i64 q.D.re, .int .i64 q.D.ro, .int .i64 q.n, .slice A' k' c', .int .i64 q.cl, .int .i64 q.sz, .int .i64 q.bf, .int .i64 q.bt, .int .i64 q.bs_, .int .i64 q.bc, .int .i64 q.bd] 36)) := by (repeat (first | exact Below.refl _ _ | refine Below.alloc ?_ (by first | omega | (simp; done) | (simp; omega)) _ | refine Below.setCell ?_ (by first | omega | (simp; done) | (simp; omega)) _ | refine Below.drew ?_))
  have hX := (Blok.new w 36 #[.int .i64 p.dk, .string (bs p.tx), .int .i64 p.D.op, .int .i64 p.D.kd, .int .i64 p.D.id, .int .i64 p.D.fr, .int .i64 p.D.tn, .int .i64 p.D.st, .int .i64 p.D.en, .int .i64 p.D.rt, .int .i64 p.D.rf, .int .i64 p.D.rn, .int .i64 p.D.rs, .int .i64 p.D.re, .int .i64 p.D.ro, .int .i64 p.n, .slice A k c, .int .i64 p.cl, .int .i64 p.sz, .int .i64 p.bf, .int .i64 p.bt, .int .i64 p.bs_, .int .i64 p.bc, .int .i64 p.bd]).alloc (.cells #[.int .i64 q.dk, .string (bs q.tx), .int .i64 q.D.op, .int .i64 q.D.kd, .int .i64 q.D.id, .int .i64 q.D.fr, .int .i64 q.D.tn, .int .i64 q.D.st, .int .i64 q.D.en, .int .i64 q.D.rt, .int .i64 q.D.rf, .int .i64 q.D.rn, .int .i64 q.D.rs, .int .i64 q.D.re, .int .i64 q.D.ro, .int .i64 q.n, .slice A' k' c', .int .i64 q.cl, .int .i64 q.sz, .int .i64 q.bf, .int .i64 q.bt, .int .i64 q.bs_, .int .i64 q.bc, .int .i64 q.bd] 36)
  have hY := Blok.new (w.alloc (.cells #[.int .i64 p.dk, .string (bs p.tx), .int .i64 p.D.op, .int .i64 p.D.kd, .int .i64 p.D.id, .int .i64 p.D.fr, .int .i64 p.D.tn, .int .i64 p.D.st, .int .i64 p.D.en, .int .i64 p.D.rt, .int .i64 p.D.rf, .int .i64 p.D.rn, .int .i64 p.D.rs, .int .i64 p.D.re, .int .i64 p.D.ro, .int .i64 p.n, .slice A k c, .int .i64 p.cl, .int .i64 p.sz, .int .i64 p.bf, .int .i64 p.bt, .int .i64 p.bs_, .int .i64 p.bc, .int .i64 p.bd] 36)) 36 #[.int .i64 q.dk, .string (bs q.tx), .int .i64 q.D.op, .int .i64 q.D.kd, .int .i64 q.D.id, .int .i64 q.D.fr, .int .i64 q.D.tn, .int .i64 q.D.st, .int .i64 q.D.en, .int .i64 q.D.rt, .int .i64 q.D.rf, .int .i64 q.D.rn, .int .i64 q.D.rs, .int .i64 q.D.re, .int .i64 q.D.ro, .int .i64 q.n, .slice A' k' c', .int .i64 q.cl, .int .i64 q.sz, .int .i64 q.bf, .int .i64 q.bt, .int .i64 q.bs_, .int .i64 q.bc, .int .i64 q.bd]
  rw [World.size_alloc] at hY
  replace h := h.up hB
  replace h' := h'.up hB
  have hs := hB.size
  have HK := Lib.hid (⟨hk, hk', hkm, hkm'⟩ : _ ∧ _ ∧ _ ∧ _)
  have HH := Lib.hid h
  have HH' := Lib.hid h'
  clear hk hk' hkm hkm' h h'
  go_enter Tryd.func21, Tryd.ntmps21
  go_upto_region 1 with fail
  generalize (w.alloc (.cells #[.int .i64 p.dk, .string (bs p.tx), .int .i64 p.D.op, .int .i64 p.D.kd, .int .i64 p.D.id, .int .i64 p.D.fr, .int .i64 p.D.tn, .int .i64 p.D.st, .int .i64 p.D.en, .int .i64 p.D.rt, .int .i64 p.D.rf, .int .i64 p.D.rn, .int .i64 p.D.rs, .int .i64 p.D.re, .int .i64 p.D.ro, .int .i64 p.n, .slice A k c, .int .i64 p.cl, .int .i64 p.sz, .int .i64 p.bf, .int .i64 p.bt, .int .i64 p.bs_, .int .i64 p.bc, .int .i64 p.bd] 36)).alloc (.cells #[.int .i64 q.dk, .string (bs q.tx), .int .i64 q.D.op, .int .i64 q.D.kd, .int .i64 q.D.id, .int .i64 q.D.fr, .int .i64 q.D.tn, .int .i64 q.D.st, .int .i64 q.D.en, .int .i64 q.D.rt, .int .i64 q.D.rf, .int .i64 q.D.rn, .int .i64 q.D.rs, .int .i64 q.D.re, .int .i64 q.D.ro, .int .i64 q.n, .slice A' k' c', .int .i64 q.cl, .int .i64 q.sz, .int .i64 q.bf, .int .i64 q.bt, .int .i64 q.bs_, .int .i64 q.bc, .int .i64 q.bd] 36) = w1 at *
  have x0 : w1.cell? ⟨w.heap.size, 0, none⟩ = some (.int .i64 p.dk) := hX.cell 0
  have x1 : w1.cell? ⟨w.heap.size, 1, none⟩ = some (.string (bs p.tx)) := hX.cell 1
  have x2 : w1.cell? ⟨w.heap.size, 2, none⟩ = some (.int .i64 p.D.op) := hX.cell 2
  have x3 : w1.cell? ⟨w.heap.size, 3, none⟩ = some (.int .i64 p.D.kd) := hX.cell 3
  have x4 : w1.cell? ⟨w.heap.size, 4, none⟩ = some (.int .i64 p.D.id) := hX.cell 4
  have x5 : w1.cell? ⟨w.heap.size, 5, none⟩ = some (.int .i64 p.D.fr) := hX.cell 5
  have x6 : w1.cell? ⟨w.heap.size, 6, none⟩ = some (.int .i64 p.D.tn) := hX.cell 6
  have x7 : w1.cell? ⟨w.heap.size, 7, none⟩ = some (.int .i64 p.D.st) := hX.cell 7
  have x8 : w1.cell? ⟨w.heap.size, 8, none⟩ = some (.int .i64 p.D.en) := hX.cell 8
  have x9 : w1.cell? ⟨w.heap.size, 9, none⟩ = some (.int .i64 p.D.rt) := hX.cell 9
  have x10 : w1.cell? ⟨w.heap.size, 10, none⟩ = some (.int .i64 p.D.rf) := hX.cell 10
  have x11 : w1.cell? ⟨w.heap.size, 11, none⟩ = some (.int .i64 p.D.rn) := hX.cell 11
  have x12 : w1.cell? ⟨w.heap.size, 12, none⟩ = some (.int .i64 p.D.rs) := hX.cell 12
  have x13 : w1.cell? ⟨w.heap.size, 13, none⟩ = some (.int .i64 p.D.re) := hX.cell 13
  have x14 : w1.cell? ⟨w.heap.size, 14, none⟩ = some (.int .i64 p.D.ro) := hX.cell 14
  have x15 : w1.cell? ⟨w.heap.size, 15, none⟩ = some (.int .i64 p.n) := hX.cell 15
  have x16 : w1.cell? ⟨w.heap.size, 16, none⟩ = some (.slice A k c) := hX.cell 16
  have x17 : w1.cell? ⟨w.heap.size, 17, none⟩ = some (.int .i64 p.cl) := hX.cell 17
  have x18 : w1.cell? ⟨w.heap.size, 18, none⟩ = some (.int .i64 p.sz) := hX.cell 18
  have x19 : w1.cell? ⟨w.heap.size, 19, none⟩ = some (.int .i64 p.bf) := hX.cell 19
  have x20 : w1.cell? ⟨w.heap.size, 20, none⟩ = some (.int .i64 p.bt) := hX.cell 20
  have x21 : w1.cell? ⟨w.heap.size, 21, none⟩ = some (.int .i64 p.bs_) := hX.cell 21
  have x22 : w1.cell? ⟨w.heap.size, 22, none⟩ = some (.int .i64 p.bc) := hX.cell 22
  have x23 : w1.cell? ⟨w.heap.size, 23, none⟩ = some (.int .i64 p.bd) := hX.cell 23
  have y0 : w1.cell? ⟨w.heap.size + 1, 0, none⟩ = some (.int .i64 q.dk) := hY.cell 0
  have y1 : w1.cell? ⟨w.heap.size + 1, 1, none⟩ = some (.string (bs q.tx)) := hY.cell 1
  have y2 : w1.cell? ⟨w.heap.size + 1, 2, none⟩ = some (.int .i64 q.D.op) := hY.cell 2
  have y3 : w1.cell? ⟨w.heap.size + 1, 3, none⟩ = some (.int .i64 q.D.kd) := hY.cell 3
  have y4 : w1.cell? ⟨w.heap.size + 1, 4, none⟩ = some (.int .i64 q.D.id) := hY.cell 4
  have y5 : w1.cell? ⟨w.heap.size + 1, 5, none⟩ = some (.int .i64 q.D.fr) := hY.cell 5
  have y6 : w1.cell? ⟨w.heap.size + 1, 6, none⟩ = some (.int .i64 q.D.tn) := hY.cell 6
  have y7 : w1.cell? ⟨w.heap.size + 1, 7, none⟩ = some (.int .i64 q.D.st) := hY.cell 7
  have y8 : w1.cell? ⟨w.heap.size + 1, 8, none⟩ = some (.int .i64 q.D.en) := hY.cell 8
  have y9 : w1.cell? ⟨w.heap.size + 1, 9, none⟩ = some (.int .i64 q.D.rt) := hY.cell 9
  have y10 : w1.cell? ⟨w.heap.size + 1, 10, none⟩ = some (.int .i64 q.D.rf) := hY.cell 10
  have y11 : w1.cell? ⟨w.heap.size + 1, 11, none⟩ = some (.int .i64 q.D.rn) := hY.cell 11
  have y12 : w1.cell? ⟨w.heap.size + 1, 12, none⟩ = some (.int .i64 q.D.rs) := hY.cell 12
  have y13 : w1.cell? ⟨w.heap.size + 1, 13, none⟩ = some (.int .i64 q.D.re) := hY.cell 13
  have y14 : w1.cell? ⟨w.heap.size + 1, 14, none⟩ = some (.int .i64 q.D.ro) := hY.cell 14
  have y15 : w1.cell? ⟨w.heap.size + 1, 15, none⟩ = some (.int .i64 q.n) := hY.cell 15
  have y16 : w1.cell? ⟨w.heap.size + 1, 16, none⟩ = some (.slice A' k' c') := hY.cell 16
  have y17 : w1.cell? ⟨w.heap.size + 1, 17, none⟩ = some (.int .i64 q.cl) := hY.cell 17
  have y18 : w1.cell? ⟨w.heap.size + 1, 18, none⟩ = some (.int .i64 q.sz) := hY.cell 18
  have y19 : w1.cell? ⟨w.heap.size + 1, 19, none⟩ = some (.int .i64 q.bf) := hY.cell 19
  have y20 : w1.cell? ⟨w.heap.size + 1, 20, none⟩ = some (.int .i64 q.bt) := hY.cell 20
  have y21 : w1.cell? ⟨w.heap.size + 1, 21, none⟩ = some (.int .i64 q.bs_) := hY.cell 21
  have y22 : w1.cell? ⟨w.heap.size + 1, 22, none⟩ = some (.int .i64 q.bc) := hY.cell 22
  have y23 : w1.cell? ⟨w.heap.size + 1, 23, none⟩ = some (.int .i64 q.bd) := hY.cell 23
  have lt_x := hX.lt
  have lt_y := hY.lt
  have q_x16 := fun d os => cell_regrown x16 d os
  have q_x17 := fun d os => cell_regrown x17 d os
  have q_x18 := fun d os => cell_regrown x18 d os
  have q_x19 := fun d os => cell_regrown x19 d os
  have q_x20 := fun d os => cell_regrown x20 d os
  have q_x21 := fun d os => cell_regrown x21 d os
  have q_x22 := fun d os => cell_regrown x22 d os
  have q_x23 := fun d os => cell_regrown x23 d os
  have q_y16 := fun d os => cell_regrown y16 d os
  have q_y17 := fun d os => cell_regrown y17 d os
  have q_y18 := fun d os => cell_regrown y18 d os
  have q_y19 := fun d os => cell_regrown y19 d os
  have q_y20 := fun d os => cell_regrown y20 d os
  have q_y21 := fun d os => cell_regrown y21 d os
  have q_y22 := fun d os => cell_regrown y22 d os
  have q_y23 := fun d os => cell_regrown y23 d os
  have q_x0 := fun d os => cell_regrown x0 d os
  have q_y0 := fun d os => cell_regrown y0 d os
  have q_x1 := fun d os => cell_regrown x1 d os
  have q_y1 := fun d os => cell_regrown y1 d os
  have q_x2 := fun d os => cell_regrown x2 d os
  have q_y2 := fun d os => cell_regrown y2 d os
  have q_x3 := fun d os => cell_regrown x3 d os
  have q_y3 := fun d os => cell_regrown y3 d os
  have q_x4 := fun d os => cell_regrown x4 d os
  have q_y4 := fun d os => cell_regrown y4 d os
  have q_x5 := fun d os => cell_regrown x5 d os
  have q_y5 := fun d os => cell_regrown y5 d os
  have q_x6 := fun d os => cell_regrown x6 d os
  have q_y6 := fun d os => cell_regrown y6 d os
  have q_x7 := fun d os => cell_regrown x7 d os
  have q_y7 := fun d os => cell_regrown y7 d os
  have q_x8 := fun d os => cell_regrown x8 d os
  have q_y8 := fun d os => cell_regrown y8 d os
  have q_x9 := fun d os => cell_regrown x9 d os
  have q_y9 := fun d os => cell_regrown y9 d os
  have q_x10 := fun d os => cell_regrown x10 d os
  have q_y10 := fun d os => cell_regrown y10 d os
  have q_x11 := fun d os => cell_regrown x11 d os
  have q_y11 := fun d os => cell_regrown y11 d os
  have q_x12 := fun d os => cell_regrown x12 d os
  have q_y12 := fun d os => cell_regrown y12 d os
  have q_x13 := fun d os => cell_regrown x13 d os
  have q_y13 := fun d os => cell_regrown y13 d os
  have q_x14 := fun d os => cell_regrown x14 d os
  have q_y14 := fun d os => cell_regrown y14 d os
  have q_x15 := fun d os => cell_regrown x15 d os
  have q_y15 := fun d os => cell_regrown y15 d os
  try simp only [List.append]
  first | refine wp_region_text_below ?_ | refine wp_region_quiet_below (by kernel_rfl) (by kernel_rfl) ?_
  repeat (go_big_quiet_step (((go_at_call 22; with_reducible exact Calls.regrown_of (equalI_is A A' k c k' c' p.ids q.ids _ g4.out HK.out.1 HK.out.2.1 HK.out.2.2.1 HK.out.2.2.2 (HH.out.up (below_regrown _ _ _)) (HH'.out.up (below_regrown _ _ _)))))))
  refine wpQuiet_nil ?_
  intro _ hqw
  obtain ⟨pq, hqw⟩ := hqw
  subst hqw
  go_wp2
  go_ret
  exact ⟨rfl, hB.trans ((below_regrown _ _ _).mono hs)⟩
end Go.Proofs.YtggdomeeienjbaaDoor

/- Package script: Same's closure, part 7. No condition but on sizes. -/
namespace Go.Proofs.YtggdomeeienjbaaDoor
open Go.ChangeShapes Go.WideShapes Go.ChangeAt Go.RowKit Go.Sort
set_option linter.unusedSimpArgs false
set_option linter.unusedVariables false
set_option maxHeartbeats 8000000 in
set_option maxRecDepth 100000 in
theorem same1_6 (p q : Pa) (A A' : Option Addr) (k c k' c' : Nat) (w : World) (hk : p.ids.length = k) (hk' : q.ids.length = k') (hkm : k ≤ 1000000) (hkm' : k' ≤ 1000000) (h : Sl w w.heap.size 1 A k c (p.ids.map (Value.int .i64))) (h' : Sl w w.heap.size 1 A' k' c' (q.ids.map (Value.int .i64))) (c0 : p.dk = q.dk) (c1 : p.tx = q.tx) (c2 : p.D = q.D) (c3 : p.n = q.n) (c4 : p.ids = q.ids) (c5 : p.cl = q.cl) (c6 : ¬ (p.sz = q.sz)) :
    Calls Tryd.prog 21 #[.agg #[.int .i64 p.dk, .string (bs p.tx), .int .i64 p.D.op, .int .i64 p.D.kd, .int .i64 p.D.id, .int .i64 p.D.fr, .int .i64 p.D.tn, .int .i64 p.D.st, .int .i64 p.D.en, .int .i64 p.D.rt, .int .i64 p.D.rf, .int .i64 p.D.rn, .int .i64 p.D.rs, .int .i64 p.D.re, .int .i64 p.D.ro, .int .i64 p.n, .slice A k c, .int .i64 p.cl, .int .i64 p.sz, .int .i64 p.bf, .int .i64 p.bt, .int .i64 p.bs_, .int .i64 p.bc, .int .i64 p.bd], .agg #[.int .i64 q.dk, .string (bs q.tx), .int .i64 q.D.op, .int .i64 q.D.kd, .int .i64 q.D.id, .int .i64 q.D.fr, .int .i64 q.D.tn, .int .i64 q.D.st, .int .i64 q.D.en, .int .i64 q.D.rt, .int .i64 q.D.rf, .int .i64 q.D.rn, .int .i64 q.D.rs, .int .i64 q.D.re, .int .i64 q.D.ro, .int .i64 q.n, .slice A' k' c', .int .i64 q.cl, .int .i64 q.sz, .int .i64 q.bf, .int .i64 q.bt, .int .i64 q.bs_, .int .i64 q.bc, .int .i64 q.bd]] w fun e w' => e = .returned (.bool false) ∧ Below w.heap.size w w' := by
  have g0 : (p.dk == q.dk) = true := by simp [c0]
  have g1 : ((bs p.tx).toList == (bs q.tx).toList) = true := by rw [beq_iff_eq]; exact (str_ne _ _).2 c1
  have g2 : ∀ w0, (binOp .eql 31 (.agg #[.int .i64 p.D.op, .int .i64 p.D.kd, .int .i64 p.D.id, .int .i64 p.D.fr, .int .i64 p.D.tn, .int .i64 p.D.st, .int .i64 p.D.en, .int .i64 p.D.rt, .int .i64 p.D.rf, .int .i64 p.D.rn, .int .i64 p.D.rs, .int .i64 p.D.re, .int .i64 p.D.ro]) (.agg #[.int .i64 q.D.op, .int .i64 q.D.kd, .int .i64 q.D.id, .int .i64 q.D.fr, .int .i64 q.D.tn, .int .i64 q.D.st, .int .i64 q.D.en, .int .i64 q.D.rt, .int .i64 q.D.rf, .int .i64 q.D.rn, .int .i64 q.D.rs, .int .i64 q.D.re, .int .i64 q.D.ro])).run Tryd.prog w0 = .ok (.bool true) w0 := fun w0 => by rw [eqlDr]; simp [c2]
  have g3 : (p.n == q.n) = true := by simp [c3]
  have g4 : Hid (decide (p.ids = q.ids) = true) := by show decide (p.ids = q.ids) = true; simp [c4]
  have g5 : (p.cl == q.cl) = true := by simp [c5]
  have g6 : (p.sz == q.sz) = false := by simp [c6]
  clear c0 c1 c2 c3 c4 c5 c6
  have hB : Below w.heap.size w ((w.alloc (.cells #[.int .i64 p.dk, .string (bs p.tx), .int .i64 p.D.op, .int .i64 p.D.kd, .int .i64 p.D.id, .int .i64 p.D.fr, .int .i64 p.D.tn, .int .i64 p.D.st, .int .i64 p.D.en, .int .i64 p.D.rt, .int .i64 p.D.rf, .int .i64 p.D.rn, .int .i64 p.D.rs, .int .i64 p.D.re, .int .i64 p.D.ro, .int .i64 p.n, .slice A k c, .int .i64 p.cl, .int .i64 p.sz, .int .i64 p.bf, .int .i64 p.bt, .int .i64 p.bs_, .int .i64 p.bc, .int .i64 p.bd] 36)).alloc (.cells #[.int .i64 q.dk, .string (bs q.tx), .int .i64 q.D.op, .int .i64 q.D.kd, .int .i64 q.D.id, .int .i64 q.D.fr, .int .i64 q.D.tn, .int .i64 q.D.st, .int .i64 q.D.en, .int .i64 q.D.rt, .int .i64 q.D.rf, .int .i64 q.D.rn, .int .i64 q.D.rs, .int .i64 q.D.re, .int .i64 q.D.ro, .int .i64 q.n, .slice A' k' c', .int .i64 q.cl, .int .i64 q.sz, .int .i64 q.bf, .int .i64 q.bt, .int .i64 q.bs_, .int .i64 q.bc, .int .i64 q.bd] 36)) := by (repeat (first | exact Below.refl _ _ | refine Below.alloc ?_ (by first | omega | (simp; done) | (simp; omega)) _ | refine Below.setCell ?_ (by first | omega | (simp; done) | (simp; omega)) _ | refine Below.drew ?_))
  have hX := (Blok.new w 36 #[.int .i64 p.dk, .string (bs p.tx), .int .i64 p.D.op, .int .i64 p.D.kd, .int .i64 p.D.id, .int .i64 p.D.fr, .int .i64 p.D.tn, .int .i64 p.D.st, .int .i64 p.D.en, .int .i64 p.D.rt, .int .i64 p.D.rf, .int .i64 p.D.rn, .int .i64 p.D.rs, .int .i64 p.D.re, .int .i64 p.D.ro, .int .i64 p.n, .slice A k c, .int .i64 p.cl, .int .i64 p.sz, .int .i64 p.bf, .int .i64 p.bt, .int .i64 p.bs_, .int .i64 p.bc, .int .i64 p.bd]).alloc (.cells #[.int .i64 q.dk, .string (bs q.tx), .int .i64 q.D.op, .int .i64 q.D.kd, .int .i64 q.D.id, .int .i64 q.D.fr, .int .i64 q.D.tn, .int .i64 q.D.st, .int .i64 q.D.en, .int .i64 q.D.rt, .int .i64 q.D.rf, .int .i64 q.D.rn, .int .i64 q.D.rs, .int .i64 q.D.re, .int .i64 q.D.ro, .int .i64 q.n, .slice A' k' c', .int .i64 q.cl, .int .i64 q.sz, .int .i64 q.bf, .int .i64 q.bt, .int .i64 q.bs_, .int .i64 q.bc, .int .i64 q.bd] 36)
  have hY := Blok.new (w.alloc (.cells #[.int .i64 p.dk, .string (bs p.tx), .int .i64 p.D.op, .int .i64 p.D.kd, .int .i64 p.D.id, .int .i64 p.D.fr, .int .i64 p.D.tn, .int .i64 p.D.st, .int .i64 p.D.en, .int .i64 p.D.rt, .int .i64 p.D.rf, .int .i64 p.D.rn, .int .i64 p.D.rs, .int .i64 p.D.re, .int .i64 p.D.ro, .int .i64 p.n, .slice A k c, .int .i64 p.cl, .int .i64 p.sz, .int .i64 p.bf, .int .i64 p.bt, .int .i64 p.bs_, .int .i64 p.bc, .int .i64 p.bd] 36)) 36 #[.int .i64 q.dk, .string (bs q.tx), .int .i64 q.D.op, .int .i64 q.D.kd, .int .i64 q.D.id, .int .i64 q.D.fr, .int .i64 q.D.tn, .int .i64 q.D.st, .int .i64 q.D.en, .int .i64 q.D.rt, .int .i64 q.D.rf, .int .i64 q.D.rn, .int .i64 q.D.rs, .int .i64 q.D.re, .int .i64 q.D.ro, .int .i64 q.n, .slice A' k' c', .int .i64 q.cl, .int .i64 q.sz, .int .i64 q.bf, .int .i64 q.bt, .int .i64 q.bs_, .int .i64 q.bc, .int .i64 q.bd]
  rw [World.size_alloc] at hY
  replace h := h.up hB
  replace h' := h'.up hB
  have hs := hB.size
  have HK := Lib.hid (⟨hk, hk', hkm, hkm'⟩ : _ ∧ _ ∧ _ ∧ _)
  have HH := Lib.hid h
  have HH' := Lib.hid h'
  clear hk hk' hkm hkm' h h'
  go_enter Tryd.func21, Tryd.ntmps21
  go_upto_region 1 with fail
  generalize (w.alloc (.cells #[.int .i64 p.dk, .string (bs p.tx), .int .i64 p.D.op, .int .i64 p.D.kd, .int .i64 p.D.id, .int .i64 p.D.fr, .int .i64 p.D.tn, .int .i64 p.D.st, .int .i64 p.D.en, .int .i64 p.D.rt, .int .i64 p.D.rf, .int .i64 p.D.rn, .int .i64 p.D.rs, .int .i64 p.D.re, .int .i64 p.D.ro, .int .i64 p.n, .slice A k c, .int .i64 p.cl, .int .i64 p.sz, .int .i64 p.bf, .int .i64 p.bt, .int .i64 p.bs_, .int .i64 p.bc, .int .i64 p.bd] 36)).alloc (.cells #[.int .i64 q.dk, .string (bs q.tx), .int .i64 q.D.op, .int .i64 q.D.kd, .int .i64 q.D.id, .int .i64 q.D.fr, .int .i64 q.D.tn, .int .i64 q.D.st, .int .i64 q.D.en, .int .i64 q.D.rt, .int .i64 q.D.rf, .int .i64 q.D.rn, .int .i64 q.D.rs, .int .i64 q.D.re, .int .i64 q.D.ro, .int .i64 q.n, .slice A' k' c', .int .i64 q.cl, .int .i64 q.sz, .int .i64 q.bf, .int .i64 q.bt, .int .i64 q.bs_, .int .i64 q.bc, .int .i64 q.bd] 36) = w1 at *
  have x0 : w1.cell? ⟨w.heap.size, 0, none⟩ = some (.int .i64 p.dk) := hX.cell 0
  have x1 : w1.cell? ⟨w.heap.size, 1, none⟩ = some (.string (bs p.tx)) := hX.cell 1
  have x2 : w1.cell? ⟨w.heap.size, 2, none⟩ = some (.int .i64 p.D.op) := hX.cell 2
  have x3 : w1.cell? ⟨w.heap.size, 3, none⟩ = some (.int .i64 p.D.kd) := hX.cell 3
  have x4 : w1.cell? ⟨w.heap.size, 4, none⟩ = some (.int .i64 p.D.id) := hX.cell 4
  have x5 : w1.cell? ⟨w.heap.size, 5, none⟩ = some (.int .i64 p.D.fr) := hX.cell 5
  have x6 : w1.cell? ⟨w.heap.size, 6, none⟩ = some (.int .i64 p.D.tn) := hX.cell 6
  have x7 : w1.cell? ⟨w.heap.size, 7, none⟩ = some (.int .i64 p.D.st) := hX.cell 7
  have x8 : w1.cell? ⟨w.heap.size, 8, none⟩ = some (.int .i64 p.D.en) := hX.cell 8
  have x9 : w1.cell? ⟨w.heap.size, 9, none⟩ = some (.int .i64 p.D.rt) := hX.cell 9
  have x10 : w1.cell? ⟨w.heap.size, 10, none⟩ = some (.int .i64 p.D.rf) := hX.cell 10
  have x11 : w1.cell? ⟨w.heap.size, 11, none⟩ = some (.int .i64 p.D.rn) := hX.cell 11
  have x12 : w1.cell? ⟨w.heap.size, 12, none⟩ = some (.int .i64 p.D.rs) := hX.cell 12
  have x13 : w1.cell? ⟨w.heap.size, 13, none⟩ = some (.int .i64 p.D.re) := hX.cell 13
  have x14 : w1.cell? ⟨w.heap.size, 14, none⟩ = some (.int .i64 p.D.ro) := hX.cell 14
  have x15 : w1.cell? ⟨w.heap.size, 15, none⟩ = some (.int .i64 p.n) := hX.cell 15
  have x16 : w1.cell? ⟨w.heap.size, 16, none⟩ = some (.slice A k c) := hX.cell 16
  have x17 : w1.cell? ⟨w.heap.size, 17, none⟩ = some (.int .i64 p.cl) := hX.cell 17
  have x18 : w1.cell? ⟨w.heap.size, 18, none⟩ = some (.int .i64 p.sz) := hX.cell 18
  have x19 : w1.cell? ⟨w.heap.size, 19, none⟩ = some (.int .i64 p.bf) := hX.cell 19
  have x20 : w1.cell? ⟨w.heap.size, 20, none⟩ = some (.int .i64 p.bt) := hX.cell 20
  have x21 : w1.cell? ⟨w.heap.size, 21, none⟩ = some (.int .i64 p.bs_) := hX.cell 21
  have x22 : w1.cell? ⟨w.heap.size, 22, none⟩ = some (.int .i64 p.bc) := hX.cell 22
  have x23 : w1.cell? ⟨w.heap.size, 23, none⟩ = some (.int .i64 p.bd) := hX.cell 23
  have y0 : w1.cell? ⟨w.heap.size + 1, 0, none⟩ = some (.int .i64 q.dk) := hY.cell 0
  have y1 : w1.cell? ⟨w.heap.size + 1, 1, none⟩ = some (.string (bs q.tx)) := hY.cell 1
  have y2 : w1.cell? ⟨w.heap.size + 1, 2, none⟩ = some (.int .i64 q.D.op) := hY.cell 2
  have y3 : w1.cell? ⟨w.heap.size + 1, 3, none⟩ = some (.int .i64 q.D.kd) := hY.cell 3
  have y4 : w1.cell? ⟨w.heap.size + 1, 4, none⟩ = some (.int .i64 q.D.id) := hY.cell 4
  have y5 : w1.cell? ⟨w.heap.size + 1, 5, none⟩ = some (.int .i64 q.D.fr) := hY.cell 5
  have y6 : w1.cell? ⟨w.heap.size + 1, 6, none⟩ = some (.int .i64 q.D.tn) := hY.cell 6
  have y7 : w1.cell? ⟨w.heap.size + 1, 7, none⟩ = some (.int .i64 q.D.st) := hY.cell 7
  have y8 : w1.cell? ⟨w.heap.size + 1, 8, none⟩ = some (.int .i64 q.D.en) := hY.cell 8
  have y9 : w1.cell? ⟨w.heap.size + 1, 9, none⟩ = some (.int .i64 q.D.rt) := hY.cell 9
  have y10 : w1.cell? ⟨w.heap.size + 1, 10, none⟩ = some (.int .i64 q.D.rf) := hY.cell 10
  have y11 : w1.cell? ⟨w.heap.size + 1, 11, none⟩ = some (.int .i64 q.D.rn) := hY.cell 11
  have y12 : w1.cell? ⟨w.heap.size + 1, 12, none⟩ = some (.int .i64 q.D.rs) := hY.cell 12
  have y13 : w1.cell? ⟨w.heap.size + 1, 13, none⟩ = some (.int .i64 q.D.re) := hY.cell 13
  have y14 : w1.cell? ⟨w.heap.size + 1, 14, none⟩ = some (.int .i64 q.D.ro) := hY.cell 14
  have y15 : w1.cell? ⟨w.heap.size + 1, 15, none⟩ = some (.int .i64 q.n) := hY.cell 15
  have y16 : w1.cell? ⟨w.heap.size + 1, 16, none⟩ = some (.slice A' k' c') := hY.cell 16
  have y17 : w1.cell? ⟨w.heap.size + 1, 17, none⟩ = some (.int .i64 q.cl) := hY.cell 17
  have y18 : w1.cell? ⟨w.heap.size + 1, 18, none⟩ = some (.int .i64 q.sz) := hY.cell 18
  have y19 : w1.cell? ⟨w.heap.size + 1, 19, none⟩ = some (.int .i64 q.bf) := hY.cell 19
  have y20 : w1.cell? ⟨w.heap.size + 1, 20, none⟩ = some (.int .i64 q.bt) := hY.cell 20
  have y21 : w1.cell? ⟨w.heap.size + 1, 21, none⟩ = some (.int .i64 q.bs_) := hY.cell 21
  have y22 : w1.cell? ⟨w.heap.size + 1, 22, none⟩ = some (.int .i64 q.bc) := hY.cell 22
  have y23 : w1.cell? ⟨w.heap.size + 1, 23, none⟩ = some (.int .i64 q.bd) := hY.cell 23
  have lt_x := hX.lt
  have lt_y := hY.lt
  have q_x16 := fun d os => cell_regrown x16 d os
  have q_x17 := fun d os => cell_regrown x17 d os
  have q_x18 := fun d os => cell_regrown x18 d os
  have q_x19 := fun d os => cell_regrown x19 d os
  have q_x20 := fun d os => cell_regrown x20 d os
  have q_x21 := fun d os => cell_regrown x21 d os
  have q_x22 := fun d os => cell_regrown x22 d os
  have q_x23 := fun d os => cell_regrown x23 d os
  have q_y16 := fun d os => cell_regrown y16 d os
  have q_y17 := fun d os => cell_regrown y17 d os
  have q_y18 := fun d os => cell_regrown y18 d os
  have q_y19 := fun d os => cell_regrown y19 d os
  have q_y20 := fun d os => cell_regrown y20 d os
  have q_y21 := fun d os => cell_regrown y21 d os
  have q_y22 := fun d os => cell_regrown y22 d os
  have q_y23 := fun d os => cell_regrown y23 d os
  have q_x0 := fun d os => cell_regrown x0 d os
  have q_y0 := fun d os => cell_regrown y0 d os
  have q_x1 := fun d os => cell_regrown x1 d os
  have q_y1 := fun d os => cell_regrown y1 d os
  have q_x2 := fun d os => cell_regrown x2 d os
  have q_y2 := fun d os => cell_regrown y2 d os
  have q_x3 := fun d os => cell_regrown x3 d os
  have q_y3 := fun d os => cell_regrown y3 d os
  have q_x4 := fun d os => cell_regrown x4 d os
  have q_y4 := fun d os => cell_regrown y4 d os
  have q_x5 := fun d os => cell_regrown x5 d os
  have q_y5 := fun d os => cell_regrown y5 d os
  have q_x6 := fun d os => cell_regrown x6 d os
  have q_y6 := fun d os => cell_regrown y6 d os
  have q_x7 := fun d os => cell_regrown x7 d os
  have q_y7 := fun d os => cell_regrown y7 d os
  have q_x8 := fun d os => cell_regrown x8 d os
  have q_y8 := fun d os => cell_regrown y8 d os
  have q_x9 := fun d os => cell_regrown x9 d os
  have q_y9 := fun d os => cell_regrown y9 d os
  have q_x10 := fun d os => cell_regrown x10 d os
  have q_y10 := fun d os => cell_regrown y10 d os
  have q_x11 := fun d os => cell_regrown x11 d os
  have q_y11 := fun d os => cell_regrown y11 d os
  have q_x12 := fun d os => cell_regrown x12 d os
  have q_y12 := fun d os => cell_regrown y12 d os
  have q_x13 := fun d os => cell_regrown x13 d os
  have q_y13 := fun d os => cell_regrown y13 d os
  have q_x14 := fun d os => cell_regrown x14 d os
  have q_y14 := fun d os => cell_regrown y14 d os
  have q_x15 := fun d os => cell_regrown x15 d os
  have q_y15 := fun d os => cell_regrown y15 d os
  try simp only [List.append]
  first | refine wp_region_text_below ?_ | refine wp_region_quiet_below (by kernel_rfl) (by kernel_rfl) ?_
  repeat (go_big_quiet_step (((go_at_call 22; with_reducible exact Calls.regrown_of (equalI_is A A' k c k' c' p.ids q.ids _ g4.out HK.out.1 HK.out.2.1 HK.out.2.2.1 HK.out.2.2.2 (HH.out.up (below_regrown _ _ _)) (HH'.out.up (below_regrown _ _ _)))))))
  refine wpQuiet_nil ?_
  intro _ hqw
  obtain ⟨pq, hqw⟩ := hqw
  subst hqw
  go_wp2
  go_ret
  exact ⟨rfl, hB.trans ((below_regrown _ _ _).mono hs)⟩
end Go.Proofs.YtggdomeeienjbaaDoor

/- Package script: Same's closure, part 8. No condition but on sizes. -/
namespace Go.Proofs.YtggdomeeienjbaaDoor
open Go.ChangeShapes Go.WideShapes Go.ChangeAt Go.RowKit Go.Sort
set_option linter.unusedSimpArgs false
set_option linter.unusedVariables false
set_option maxHeartbeats 8000000 in
set_option maxRecDepth 100000 in
theorem same1_7 (p q : Pa) (A A' : Option Addr) (k c k' c' : Nat) (w : World) (hk : p.ids.length = k) (hk' : q.ids.length = k') (hkm : k ≤ 1000000) (hkm' : k' ≤ 1000000) (h : Sl w w.heap.size 1 A k c (p.ids.map (Value.int .i64))) (h' : Sl w w.heap.size 1 A' k' c' (q.ids.map (Value.int .i64))) (c0 : p.dk = q.dk) (c1 : p.tx = q.tx) (c2 : p.D = q.D) (c3 : p.n = q.n) (c4 : p.ids = q.ids) (c5 : p.cl = q.cl) (c6 : p.sz = q.sz) (c7 : ¬ (eqB p q = true)) :
    Calls Tryd.prog 21 #[.agg #[.int .i64 p.dk, .string (bs p.tx), .int .i64 p.D.op, .int .i64 p.D.kd, .int .i64 p.D.id, .int .i64 p.D.fr, .int .i64 p.D.tn, .int .i64 p.D.st, .int .i64 p.D.en, .int .i64 p.D.rt, .int .i64 p.D.rf, .int .i64 p.D.rn, .int .i64 p.D.rs, .int .i64 p.D.re, .int .i64 p.D.ro, .int .i64 p.n, .slice A k c, .int .i64 p.cl, .int .i64 p.sz, .int .i64 p.bf, .int .i64 p.bt, .int .i64 p.bs_, .int .i64 p.bc, .int .i64 p.bd], .agg #[.int .i64 q.dk, .string (bs q.tx), .int .i64 q.D.op, .int .i64 q.D.kd, .int .i64 q.D.id, .int .i64 q.D.fr, .int .i64 q.D.tn, .int .i64 q.D.st, .int .i64 q.D.en, .int .i64 q.D.rt, .int .i64 q.D.rf, .int .i64 q.D.rn, .int .i64 q.D.rs, .int .i64 q.D.re, .int .i64 q.D.ro, .int .i64 q.n, .slice A' k' c', .int .i64 q.cl, .int .i64 q.sz, .int .i64 q.bf, .int .i64 q.bt, .int .i64 q.bs_, .int .i64 q.bc, .int .i64 q.bd]] w fun e w' => e = .returned (.bool false) ∧ Below w.heap.size w w' := by
  have g0 : (p.dk == q.dk) = true := by simp [c0]
  have g1 : ((bs p.tx).toList == (bs q.tx).toList) = true := by rw [beq_iff_eq]; exact (str_ne _ _).2 c1
  have g2 : ∀ w0, (binOp .eql 31 (.agg #[.int .i64 p.D.op, .int .i64 p.D.kd, .int .i64 p.D.id, .int .i64 p.D.fr, .int .i64 p.D.tn, .int .i64 p.D.st, .int .i64 p.D.en, .int .i64 p.D.rt, .int .i64 p.D.rf, .int .i64 p.D.rn, .int .i64 p.D.rs, .int .i64 p.D.re, .int .i64 p.D.ro]) (.agg #[.int .i64 q.D.op, .int .i64 q.D.kd, .int .i64 q.D.id, .int .i64 q.D.fr, .int .i64 q.D.tn, .int .i64 q.D.st, .int .i64 q.D.en, .int .i64 q.D.rt, .int .i64 q.D.rf, .int .i64 q.D.rn, .int .i64 q.D.rs, .int .i64 q.D.re, .int .i64 q.D.ro])).run Tryd.prog w0 = .ok (.bool true) w0 := fun w0 => by rw [eqlDr]; simp [c2]
  have g3 : (p.n == q.n) = true := by simp [c3]
  have g4 : Hid (decide (p.ids = q.ids) = true) := by show decide (p.ids = q.ids) = true; simp [c4]
  have g5 : (p.cl == q.cl) = true := by simp [c5]
  have g6 : (p.sz == q.sz) = true := by simp [c6]
  have g7 : ∀ w0, (binOp .eql 34 (.agg #[.int .i64 p.bf, .int .i64 p.bt, .int .i64 p.bs_, .int .i64 p.bc, .int .i64 p.bd]) (.agg #[.int .i64 q.bf, .int .i64 q.bt, .int .i64 q.bs_, .int .i64 q.bc, .int .i64 q.bd])).run Tryd.prog w0 = .ok (.bool false) w0 := fun w0 => by rw [eqlBd]; rw [Bool.eq_false_iff.2 c7]
  clear c0 c1 c2 c3 c4 c5 c6 c7
  have hB : Below w.heap.size w ((w.alloc (.cells #[.int .i64 p.dk, .string (bs p.tx), .int .i64 p.D.op, .int .i64 p.D.kd, .int .i64 p.D.id, .int .i64 p.D.fr, .int .i64 p.D.tn, .int .i64 p.D.st, .int .i64 p.D.en, .int .i64 p.D.rt, .int .i64 p.D.rf, .int .i64 p.D.rn, .int .i64 p.D.rs, .int .i64 p.D.re, .int .i64 p.D.ro, .int .i64 p.n, .slice A k c, .int .i64 p.cl, .int .i64 p.sz, .int .i64 p.bf, .int .i64 p.bt, .int .i64 p.bs_, .int .i64 p.bc, .int .i64 p.bd] 36)).alloc (.cells #[.int .i64 q.dk, .string (bs q.tx), .int .i64 q.D.op, .int .i64 q.D.kd, .int .i64 q.D.id, .int .i64 q.D.fr, .int .i64 q.D.tn, .int .i64 q.D.st, .int .i64 q.D.en, .int .i64 q.D.rt, .int .i64 q.D.rf, .int .i64 q.D.rn, .int .i64 q.D.rs, .int .i64 q.D.re, .int .i64 q.D.ro, .int .i64 q.n, .slice A' k' c', .int .i64 q.cl, .int .i64 q.sz, .int .i64 q.bf, .int .i64 q.bt, .int .i64 q.bs_, .int .i64 q.bc, .int .i64 q.bd] 36)) := by (repeat (first | exact Below.refl _ _ | refine Below.alloc ?_ (by first | omega | (simp; done) | (simp; omega)) _ | refine Below.setCell ?_ (by first | omega | (simp; done) | (simp; omega)) _ | refine Below.drew ?_))
  have hX := (Blok.new w 36 #[.int .i64 p.dk, .string (bs p.tx), .int .i64 p.D.op, .int .i64 p.D.kd, .int .i64 p.D.id, .int .i64 p.D.fr, .int .i64 p.D.tn, .int .i64 p.D.st, .int .i64 p.D.en, .int .i64 p.D.rt, .int .i64 p.D.rf, .int .i64 p.D.rn, .int .i64 p.D.rs, .int .i64 p.D.re, .int .i64 p.D.ro, .int .i64 p.n, .slice A k c, .int .i64 p.cl, .int .i64 p.sz, .int .i64 p.bf, .int .i64 p.bt, .int .i64 p.bs_, .int .i64 p.bc, .int .i64 p.bd]).alloc (.cells #[.int .i64 q.dk, .string (bs q.tx), .int .i64 q.D.op, .int .i64 q.D.kd, .int .i64 q.D.id, .int .i64 q.D.fr, .int .i64 q.D.tn, .int .i64 q.D.st, .int .i64 q.D.en, .int .i64 q.D.rt, .int .i64 q.D.rf, .int .i64 q.D.rn, .int .i64 q.D.rs, .int .i64 q.D.re, .int .i64 q.D.ro, .int .i64 q.n, .slice A' k' c', .int .i64 q.cl, .int .i64 q.sz, .int .i64 q.bf, .int .i64 q.bt, .int .i64 q.bs_, .int .i64 q.bc, .int .i64 q.bd] 36)
  have hY := Blok.new (w.alloc (.cells #[.int .i64 p.dk, .string (bs p.tx), .int .i64 p.D.op, .int .i64 p.D.kd, .int .i64 p.D.id, .int .i64 p.D.fr, .int .i64 p.D.tn, .int .i64 p.D.st, .int .i64 p.D.en, .int .i64 p.D.rt, .int .i64 p.D.rf, .int .i64 p.D.rn, .int .i64 p.D.rs, .int .i64 p.D.re, .int .i64 p.D.ro, .int .i64 p.n, .slice A k c, .int .i64 p.cl, .int .i64 p.sz, .int .i64 p.bf, .int .i64 p.bt, .int .i64 p.bs_, .int .i64 p.bc, .int .i64 p.bd] 36)) 36 #[.int .i64 q.dk, .string (bs q.tx), .int .i64 q.D.op, .int .i64 q.D.kd, .int .i64 q.D.id, .int .i64 q.D.fr, .int .i64 q.D.tn, .int .i64 q.D.st, .int .i64 q.D.en, .int .i64 q.D.rt, .int .i64 q.D.rf, .int .i64 q.D.rn, .int .i64 q.D.rs, .int .i64 q.D.re, .int .i64 q.D.ro, .int .i64 q.n, .slice A' k' c', .int .i64 q.cl, .int .i64 q.sz, .int .i64 q.bf, .int .i64 q.bt, .int .i64 q.bs_, .int .i64 q.bc, .int .i64 q.bd]
  rw [World.size_alloc] at hY
  replace h := h.up hB
  replace h' := h'.up hB
  have hs := hB.size
  have HK := Lib.hid (⟨hk, hk', hkm, hkm'⟩ : _ ∧ _ ∧ _ ∧ _)
  have HH := Lib.hid h
  have HH' := Lib.hid h'
  clear hk hk' hkm hkm' h h'
  go_enter Tryd.func21, Tryd.ntmps21
  go_upto_region 1 with fail
  generalize (w.alloc (.cells #[.int .i64 p.dk, .string (bs p.tx), .int .i64 p.D.op, .int .i64 p.D.kd, .int .i64 p.D.id, .int .i64 p.D.fr, .int .i64 p.D.tn, .int .i64 p.D.st, .int .i64 p.D.en, .int .i64 p.D.rt, .int .i64 p.D.rf, .int .i64 p.D.rn, .int .i64 p.D.rs, .int .i64 p.D.re, .int .i64 p.D.ro, .int .i64 p.n, .slice A k c, .int .i64 p.cl, .int .i64 p.sz, .int .i64 p.bf, .int .i64 p.bt, .int .i64 p.bs_, .int .i64 p.bc, .int .i64 p.bd] 36)).alloc (.cells #[.int .i64 q.dk, .string (bs q.tx), .int .i64 q.D.op, .int .i64 q.D.kd, .int .i64 q.D.id, .int .i64 q.D.fr, .int .i64 q.D.tn, .int .i64 q.D.st, .int .i64 q.D.en, .int .i64 q.D.rt, .int .i64 q.D.rf, .int .i64 q.D.rn, .int .i64 q.D.rs, .int .i64 q.D.re, .int .i64 q.D.ro, .int .i64 q.n, .slice A' k' c', .int .i64 q.cl, .int .i64 q.sz, .int .i64 q.bf, .int .i64 q.bt, .int .i64 q.bs_, .int .i64 q.bc, .int .i64 q.bd] 36) = w1 at *
  have x0 : w1.cell? ⟨w.heap.size, 0, none⟩ = some (.int .i64 p.dk) := hX.cell 0
  have x1 : w1.cell? ⟨w.heap.size, 1, none⟩ = some (.string (bs p.tx)) := hX.cell 1
  have x2 : w1.cell? ⟨w.heap.size, 2, none⟩ = some (.int .i64 p.D.op) := hX.cell 2
  have x3 : w1.cell? ⟨w.heap.size, 3, none⟩ = some (.int .i64 p.D.kd) := hX.cell 3
  have x4 : w1.cell? ⟨w.heap.size, 4, none⟩ = some (.int .i64 p.D.id) := hX.cell 4
  have x5 : w1.cell? ⟨w.heap.size, 5, none⟩ = some (.int .i64 p.D.fr) := hX.cell 5
  have x6 : w1.cell? ⟨w.heap.size, 6, none⟩ = some (.int .i64 p.D.tn) := hX.cell 6
  have x7 : w1.cell? ⟨w.heap.size, 7, none⟩ = some (.int .i64 p.D.st) := hX.cell 7
  have x8 : w1.cell? ⟨w.heap.size, 8, none⟩ = some (.int .i64 p.D.en) := hX.cell 8
  have x9 : w1.cell? ⟨w.heap.size, 9, none⟩ = some (.int .i64 p.D.rt) := hX.cell 9
  have x10 : w1.cell? ⟨w.heap.size, 10, none⟩ = some (.int .i64 p.D.rf) := hX.cell 10
  have x11 : w1.cell? ⟨w.heap.size, 11, none⟩ = some (.int .i64 p.D.rn) := hX.cell 11
  have x12 : w1.cell? ⟨w.heap.size, 12, none⟩ = some (.int .i64 p.D.rs) := hX.cell 12
  have x13 : w1.cell? ⟨w.heap.size, 13, none⟩ = some (.int .i64 p.D.re) := hX.cell 13
  have x14 : w1.cell? ⟨w.heap.size, 14, none⟩ = some (.int .i64 p.D.ro) := hX.cell 14
  have x15 : w1.cell? ⟨w.heap.size, 15, none⟩ = some (.int .i64 p.n) := hX.cell 15
  have x16 : w1.cell? ⟨w.heap.size, 16, none⟩ = some (.slice A k c) := hX.cell 16
  have x17 : w1.cell? ⟨w.heap.size, 17, none⟩ = some (.int .i64 p.cl) := hX.cell 17
  have x18 : w1.cell? ⟨w.heap.size, 18, none⟩ = some (.int .i64 p.sz) := hX.cell 18
  have x19 : w1.cell? ⟨w.heap.size, 19, none⟩ = some (.int .i64 p.bf) := hX.cell 19
  have x20 : w1.cell? ⟨w.heap.size, 20, none⟩ = some (.int .i64 p.bt) := hX.cell 20
  have x21 : w1.cell? ⟨w.heap.size, 21, none⟩ = some (.int .i64 p.bs_) := hX.cell 21
  have x22 : w1.cell? ⟨w.heap.size, 22, none⟩ = some (.int .i64 p.bc) := hX.cell 22
  have x23 : w1.cell? ⟨w.heap.size, 23, none⟩ = some (.int .i64 p.bd) := hX.cell 23
  have y0 : w1.cell? ⟨w.heap.size + 1, 0, none⟩ = some (.int .i64 q.dk) := hY.cell 0
  have y1 : w1.cell? ⟨w.heap.size + 1, 1, none⟩ = some (.string (bs q.tx)) := hY.cell 1
  have y2 : w1.cell? ⟨w.heap.size + 1, 2, none⟩ = some (.int .i64 q.D.op) := hY.cell 2
  have y3 : w1.cell? ⟨w.heap.size + 1, 3, none⟩ = some (.int .i64 q.D.kd) := hY.cell 3
  have y4 : w1.cell? ⟨w.heap.size + 1, 4, none⟩ = some (.int .i64 q.D.id) := hY.cell 4
  have y5 : w1.cell? ⟨w.heap.size + 1, 5, none⟩ = some (.int .i64 q.D.fr) := hY.cell 5
  have y6 : w1.cell? ⟨w.heap.size + 1, 6, none⟩ = some (.int .i64 q.D.tn) := hY.cell 6
  have y7 : w1.cell? ⟨w.heap.size + 1, 7, none⟩ = some (.int .i64 q.D.st) := hY.cell 7
  have y8 : w1.cell? ⟨w.heap.size + 1, 8, none⟩ = some (.int .i64 q.D.en) := hY.cell 8
  have y9 : w1.cell? ⟨w.heap.size + 1, 9, none⟩ = some (.int .i64 q.D.rt) := hY.cell 9
  have y10 : w1.cell? ⟨w.heap.size + 1, 10, none⟩ = some (.int .i64 q.D.rf) := hY.cell 10
  have y11 : w1.cell? ⟨w.heap.size + 1, 11, none⟩ = some (.int .i64 q.D.rn) := hY.cell 11
  have y12 : w1.cell? ⟨w.heap.size + 1, 12, none⟩ = some (.int .i64 q.D.rs) := hY.cell 12
  have y13 : w1.cell? ⟨w.heap.size + 1, 13, none⟩ = some (.int .i64 q.D.re) := hY.cell 13
  have y14 : w1.cell? ⟨w.heap.size + 1, 14, none⟩ = some (.int .i64 q.D.ro) := hY.cell 14
  have y15 : w1.cell? ⟨w.heap.size + 1, 15, none⟩ = some (.int .i64 q.n) := hY.cell 15
  have y16 : w1.cell? ⟨w.heap.size + 1, 16, none⟩ = some (.slice A' k' c') := hY.cell 16
  have y17 : w1.cell? ⟨w.heap.size + 1, 17, none⟩ = some (.int .i64 q.cl) := hY.cell 17
  have y18 : w1.cell? ⟨w.heap.size + 1, 18, none⟩ = some (.int .i64 q.sz) := hY.cell 18
  have y19 : w1.cell? ⟨w.heap.size + 1, 19, none⟩ = some (.int .i64 q.bf) := hY.cell 19
  have y20 : w1.cell? ⟨w.heap.size + 1, 20, none⟩ = some (.int .i64 q.bt) := hY.cell 20
  have y21 : w1.cell? ⟨w.heap.size + 1, 21, none⟩ = some (.int .i64 q.bs_) := hY.cell 21
  have y22 : w1.cell? ⟨w.heap.size + 1, 22, none⟩ = some (.int .i64 q.bc) := hY.cell 22
  have y23 : w1.cell? ⟨w.heap.size + 1, 23, none⟩ = some (.int .i64 q.bd) := hY.cell 23
  have lt_x := hX.lt
  have lt_y := hY.lt
  have q_x16 := fun d os => cell_regrown x16 d os
  have q_x17 := fun d os => cell_regrown x17 d os
  have q_x18 := fun d os => cell_regrown x18 d os
  have q_x19 := fun d os => cell_regrown x19 d os
  have q_x20 := fun d os => cell_regrown x20 d os
  have q_x21 := fun d os => cell_regrown x21 d os
  have q_x22 := fun d os => cell_regrown x22 d os
  have q_x23 := fun d os => cell_regrown x23 d os
  have q_y16 := fun d os => cell_regrown y16 d os
  have q_y17 := fun d os => cell_regrown y17 d os
  have q_y18 := fun d os => cell_regrown y18 d os
  have q_y19 := fun d os => cell_regrown y19 d os
  have q_y20 := fun d os => cell_regrown y20 d os
  have q_y21 := fun d os => cell_regrown y21 d os
  have q_y22 := fun d os => cell_regrown y22 d os
  have q_y23 := fun d os => cell_regrown y23 d os
  have q_x0 := fun d os => cell_regrown x0 d os
  have q_y0 := fun d os => cell_regrown y0 d os
  have q_x1 := fun d os => cell_regrown x1 d os
  have q_y1 := fun d os => cell_regrown y1 d os
  have q_x2 := fun d os => cell_regrown x2 d os
  have q_y2 := fun d os => cell_regrown y2 d os
  have q_x3 := fun d os => cell_regrown x3 d os
  have q_y3 := fun d os => cell_regrown y3 d os
  have q_x4 := fun d os => cell_regrown x4 d os
  have q_y4 := fun d os => cell_regrown y4 d os
  have q_x5 := fun d os => cell_regrown x5 d os
  have q_y5 := fun d os => cell_regrown y5 d os
  have q_x6 := fun d os => cell_regrown x6 d os
  have q_y6 := fun d os => cell_regrown y6 d os
  have q_x7 := fun d os => cell_regrown x7 d os
  have q_y7 := fun d os => cell_regrown y7 d os
  have q_x8 := fun d os => cell_regrown x8 d os
  have q_y8 := fun d os => cell_regrown y8 d os
  have q_x9 := fun d os => cell_regrown x9 d os
  have q_y9 := fun d os => cell_regrown y9 d os
  have q_x10 := fun d os => cell_regrown x10 d os
  have q_y10 := fun d os => cell_regrown y10 d os
  have q_x11 := fun d os => cell_regrown x11 d os
  have q_y11 := fun d os => cell_regrown y11 d os
  have q_x12 := fun d os => cell_regrown x12 d os
  have q_y12 := fun d os => cell_regrown y12 d os
  have q_x13 := fun d os => cell_regrown x13 d os
  have q_y13 := fun d os => cell_regrown y13 d os
  have q_x14 := fun d os => cell_regrown x14 d os
  have q_y14 := fun d os => cell_regrown y14 d os
  have q_x15 := fun d os => cell_regrown x15 d os
  have q_y15 := fun d os => cell_regrown y15 d os
  try simp only [List.append]
  first | refine wp_region_text_below ?_ | refine wp_region_quiet_below (by kernel_rfl) (by kernel_rfl) ?_
  repeat (go_big_quiet_step (((go_at_call 22; with_reducible exact Calls.regrown_of (equalI_is A A' k c k' c' p.ids q.ids _ g4.out HK.out.1 HK.out.2.1 HK.out.2.2.1 HK.out.2.2.2 (HH.out.up (below_regrown _ _ _)) (HH'.out.up (below_regrown _ _ _)))))))
  refine wpQuiet_nil ?_
  intro _ hqw
  obtain ⟨pq, hqw⟩ := hqw
  subst hqw
  go_wp2
  go_ret
  exact ⟨rfl, hB.trans ((below_regrown _ _ _).mono hs)⟩
end Go.Proofs.YtggdomeeienjbaaDoor

/- Package script: Same's closure, part 9. No condition but on sizes. -/
namespace Go.Proofs.YtggdomeeienjbaaDoor
open Go.ChangeShapes Go.WideShapes Go.ChangeAt Go.RowKit Go.Sort
set_option linter.unusedSimpArgs false
set_option linter.unusedVariables false
set_option maxHeartbeats 8000000 in
set_option maxRecDepth 100000 in
theorem same1_8 (p q : Pa) (A A' : Option Addr) (k c k' c' : Nat) (w : World) (hk : p.ids.length = k) (hk' : q.ids.length = k') (hkm : k ≤ 1000000) (hkm' : k' ≤ 1000000) (h : Sl w w.heap.size 1 A k c (p.ids.map (Value.int .i64))) (h' : Sl w w.heap.size 1 A' k' c' (q.ids.map (Value.int .i64))) (c0 : p.dk = q.dk) (c1 : p.tx = q.tx) (c2 : p.D = q.D) (c3 : p.n = q.n) (c4 : p.ids = q.ids) (c5 : p.cl = q.cl) (c6 : p.sz = q.sz) (c7 : eqB p q = true) :
    Calls Tryd.prog 21 #[.agg #[.int .i64 p.dk, .string (bs p.tx), .int .i64 p.D.op, .int .i64 p.D.kd, .int .i64 p.D.id, .int .i64 p.D.fr, .int .i64 p.D.tn, .int .i64 p.D.st, .int .i64 p.D.en, .int .i64 p.D.rt, .int .i64 p.D.rf, .int .i64 p.D.rn, .int .i64 p.D.rs, .int .i64 p.D.re, .int .i64 p.D.ro, .int .i64 p.n, .slice A k c, .int .i64 p.cl, .int .i64 p.sz, .int .i64 p.bf, .int .i64 p.bt, .int .i64 p.bs_, .int .i64 p.bc, .int .i64 p.bd], .agg #[.int .i64 q.dk, .string (bs q.tx), .int .i64 q.D.op, .int .i64 q.D.kd, .int .i64 q.D.id, .int .i64 q.D.fr, .int .i64 q.D.tn, .int .i64 q.D.st, .int .i64 q.D.en, .int .i64 q.D.rt, .int .i64 q.D.rf, .int .i64 q.D.rn, .int .i64 q.D.rs, .int .i64 q.D.re, .int .i64 q.D.ro, .int .i64 q.n, .slice A' k' c', .int .i64 q.cl, .int .i64 q.sz, .int .i64 q.bf, .int .i64 q.bt, .int .i64 q.bs_, .int .i64 q.bc, .int .i64 q.bd]] w fun e w' => e = .returned (.bool true) ∧ Below w.heap.size w w' := by
  have g0 : (p.dk == q.dk) = true := by simp [c0]
  have g1 : ((bs p.tx).toList == (bs q.tx).toList) = true := by rw [beq_iff_eq]; exact (str_ne _ _).2 c1
  have g2 : ∀ w0, (binOp .eql 31 (.agg #[.int .i64 p.D.op, .int .i64 p.D.kd, .int .i64 p.D.id, .int .i64 p.D.fr, .int .i64 p.D.tn, .int .i64 p.D.st, .int .i64 p.D.en, .int .i64 p.D.rt, .int .i64 p.D.rf, .int .i64 p.D.rn, .int .i64 p.D.rs, .int .i64 p.D.re, .int .i64 p.D.ro]) (.agg #[.int .i64 q.D.op, .int .i64 q.D.kd, .int .i64 q.D.id, .int .i64 q.D.fr, .int .i64 q.D.tn, .int .i64 q.D.st, .int .i64 q.D.en, .int .i64 q.D.rt, .int .i64 q.D.rf, .int .i64 q.D.rn, .int .i64 q.D.rs, .int .i64 q.D.re, .int .i64 q.D.ro])).run Tryd.prog w0 = .ok (.bool true) w0 := fun w0 => by rw [eqlDr]; simp [c2]
  have g3 : (p.n == q.n) = true := by simp [c3]
  have g4 : Hid (decide (p.ids = q.ids) = true) := by show decide (p.ids = q.ids) = true; simp [c4]
  have g5 : (p.cl == q.cl) = true := by simp [c5]
  have g6 : (p.sz == q.sz) = true := by simp [c6]
  have g7 : ∀ w0, (binOp .eql 34 (.agg #[.int .i64 p.bf, .int .i64 p.bt, .int .i64 p.bs_, .int .i64 p.bc, .int .i64 p.bd]) (.agg #[.int .i64 q.bf, .int .i64 q.bt, .int .i64 q.bs_, .int .i64 q.bc, .int .i64 q.bd])).run Tryd.prog w0 = .ok (.bool true) w0 := fun w0 => by rw [eqlBd]; rw [c7]
  clear c0 c1 c2 c3 c4 c5 c6 c7
  have hB : Below w.heap.size w ((w.alloc (.cells #[.int .i64 p.dk, .string (bs p.tx), .int .i64 p.D.op, .int .i64 p.D.kd, .int .i64 p.D.id, .int .i64 p.D.fr, .int .i64 p.D.tn, .int .i64 p.D.st, .int .i64 p.D.en, .int .i64 p.D.rt, .int .i64 p.D.rf, .int .i64 p.D.rn, .int .i64 p.D.rs, .int .i64 p.D.re, .int .i64 p.D.ro, .int .i64 p.n, .slice A k c, .int .i64 p.cl, .int .i64 p.sz, .int .i64 p.bf, .int .i64 p.bt, .int .i64 p.bs_, .int .i64 p.bc, .int .i64 p.bd] 36)).alloc (.cells #[.int .i64 q.dk, .string (bs q.tx), .int .i64 q.D.op, .int .i64 q.D.kd, .int .i64 q.D.id, .int .i64 q.D.fr, .int .i64 q.D.tn, .int .i64 q.D.st, .int .i64 q.D.en, .int .i64 q.D.rt, .int .i64 q.D.rf, .int .i64 q.D.rn, .int .i64 q.D.rs, .int .i64 q.D.re, .int .i64 q.D.ro, .int .i64 q.n, .slice A' k' c', .int .i64 q.cl, .int .i64 q.sz, .int .i64 q.bf, .int .i64 q.bt, .int .i64 q.bs_, .int .i64 q.bc, .int .i64 q.bd] 36)) := by (repeat (first | exact Below.refl _ _ | refine Below.alloc ?_ (by first | omega | (simp; done) | (simp; omega)) _ | refine Below.setCell ?_ (by first | omega | (simp; done) | (simp; omega)) _ | refine Below.drew ?_))
  have hX := (Blok.new w 36 #[.int .i64 p.dk, .string (bs p.tx), .int .i64 p.D.op, .int .i64 p.D.kd, .int .i64 p.D.id, .int .i64 p.D.fr, .int .i64 p.D.tn, .int .i64 p.D.st, .int .i64 p.D.en, .int .i64 p.D.rt, .int .i64 p.D.rf, .int .i64 p.D.rn, .int .i64 p.D.rs, .int .i64 p.D.re, .int .i64 p.D.ro, .int .i64 p.n, .slice A k c, .int .i64 p.cl, .int .i64 p.sz, .int .i64 p.bf, .int .i64 p.bt, .int .i64 p.bs_, .int .i64 p.bc, .int .i64 p.bd]).alloc (.cells #[.int .i64 q.dk, .string (bs q.tx), .int .i64 q.D.op, .int .i64 q.D.kd, .int .i64 q.D.id, .int .i64 q.D.fr, .int .i64 q.D.tn, .int .i64 q.D.st, .int .i64 q.D.en, .int .i64 q.D.rt, .int .i64 q.D.rf, .int .i64 q.D.rn, .int .i64 q.D.rs, .int .i64 q.D.re, .int .i64 q.D.ro, .int .i64 q.n, .slice A' k' c', .int .i64 q.cl, .int .i64 q.sz, .int .i64 q.bf, .int .i64 q.bt, .int .i64 q.bs_, .int .i64 q.bc, .int .i64 q.bd] 36)
  have hY := Blok.new (w.alloc (.cells #[.int .i64 p.dk, .string (bs p.tx), .int .i64 p.D.op, .int .i64 p.D.kd, .int .i64 p.D.id, .int .i64 p.D.fr, .int .i64 p.D.tn, .int .i64 p.D.st, .int .i64 p.D.en, .int .i64 p.D.rt, .int .i64 p.D.rf, .int .i64 p.D.rn, .int .i64 p.D.rs, .int .i64 p.D.re, .int .i64 p.D.ro, .int .i64 p.n, .slice A k c, .int .i64 p.cl, .int .i64 p.sz, .int .i64 p.bf, .int .i64 p.bt, .int .i64 p.bs_, .int .i64 p.bc, .int .i64 p.bd] 36)) 36 #[.int .i64 q.dk, .string (bs q.tx), .int .i64 q.D.op, .int .i64 q.D.kd, .int .i64 q.D.id, .int .i64 q.D.fr, .int .i64 q.D.tn, .int .i64 q.D.st, .int .i64 q.D.en, .int .i64 q.D.rt, .int .i64 q.D.rf, .int .i64 q.D.rn, .int .i64 q.D.rs, .int .i64 q.D.re, .int .i64 q.D.ro, .int .i64 q.n, .slice A' k' c', .int .i64 q.cl, .int .i64 q.sz, .int .i64 q.bf, .int .i64 q.bt, .int .i64 q.bs_, .int .i64 q.bc, .int .i64 q.bd]
  rw [World.size_alloc] at hY
  replace h := h.up hB
  replace h' := h'.up hB
  have hs := hB.size
  have HK := Lib.hid (⟨hk, hk', hkm, hkm'⟩ : _ ∧ _ ∧ _ ∧ _)
  have HH := Lib.hid h
  have HH' := Lib.hid h'
  clear hk hk' hkm hkm' h h'
  go_enter Tryd.func21, Tryd.ntmps21
  go_upto_region 1 with fail
  generalize (w.alloc (.cells #[.int .i64 p.dk, .string (bs p.tx), .int .i64 p.D.op, .int .i64 p.D.kd, .int .i64 p.D.id, .int .i64 p.D.fr, .int .i64 p.D.tn, .int .i64 p.D.st, .int .i64 p.D.en, .int .i64 p.D.rt, .int .i64 p.D.rf, .int .i64 p.D.rn, .int .i64 p.D.rs, .int .i64 p.D.re, .int .i64 p.D.ro, .int .i64 p.n, .slice A k c, .int .i64 p.cl, .int .i64 p.sz, .int .i64 p.bf, .int .i64 p.bt, .int .i64 p.bs_, .int .i64 p.bc, .int .i64 p.bd] 36)).alloc (.cells #[.int .i64 q.dk, .string (bs q.tx), .int .i64 q.D.op, .int .i64 q.D.kd, .int .i64 q.D.id, .int .i64 q.D.fr, .int .i64 q.D.tn, .int .i64 q.D.st, .int .i64 q.D.en, .int .i64 q.D.rt, .int .i64 q.D.rf, .int .i64 q.D.rn, .int .i64 q.D.rs, .int .i64 q.D.re, .int .i64 q.D.ro, .int .i64 q.n, .slice A' k' c', .int .i64 q.cl, .int .i64 q.sz, .int .i64 q.bf, .int .i64 q.bt, .int .i64 q.bs_, .int .i64 q.bc, .int .i64 q.bd] 36) = w1 at *
  have x0 : w1.cell? ⟨w.heap.size, 0, none⟩ = some (.int .i64 p.dk) := hX.cell 0
  have x1 : w1.cell? ⟨w.heap.size, 1, none⟩ = some (.string (bs p.tx)) := hX.cell 1
  have x2 : w1.cell? ⟨w.heap.size, 2, none⟩ = some (.int .i64 p.D.op) := hX.cell 2
  have x3 : w1.cell? ⟨w.heap.size, 3, none⟩ = some (.int .i64 p.D.kd) := hX.cell 3
  have x4 : w1.cell? ⟨w.heap.size, 4, none⟩ = some (.int .i64 p.D.id) := hX.cell 4
  have x5 : w1.cell? ⟨w.heap.size, 5, none⟩ = some (.int .i64 p.D.fr) := hX.cell 5
  have x6 : w1.cell? ⟨w.heap.size, 6, none⟩ = some (.int .i64 p.D.tn) := hX.cell 6
  have x7 : w1.cell? ⟨w.heap.size, 7, none⟩ = some (.int .i64 p.D.st) := hX.cell 7
  have x8 : w1.cell? ⟨w.heap.size, 8, none⟩ = some (.int .i64 p.D.en) := hX.cell 8
  have x9 : w1.cell? ⟨w.heap.size, 9, none⟩ = some (.int .i64 p.D.rt) := hX.cell 9
  have x10 : w1.cell? ⟨w.heap.size, 10, none⟩ = some (.int .i64 p.D.rf) := hX.cell 10
  have x11 : w1.cell? ⟨w.heap.size, 11, none⟩ = some (.int .i64 p.D.rn) := hX.cell 11
  have x12 : w1.cell? ⟨w.heap.size, 12, none⟩ = some (.int .i64 p.D.rs) := hX.cell 12
  have x13 : w1.cell? ⟨w.heap.size, 13, none⟩ = some (.int .i64 p.D.re) := hX.cell 13
  have x14 : w1.cell? ⟨w.heap.size, 14, none⟩ = some (.int .i64 p.D.ro) := hX.cell 14
  have x15 : w1.cell? ⟨w.heap.size, 15, none⟩ = some (.int .i64 p.n) := hX.cell 15
  have x16 : w1.cell? ⟨w.heap.size, 16, none⟩ = some (.slice A k c) := hX.cell 16
  have x17 : w1.cell? ⟨w.heap.size, 17, none⟩ = some (.int .i64 p.cl) := hX.cell 17
  have x18 : w1.cell? ⟨w.heap.size, 18, none⟩ = some (.int .i64 p.sz) := hX.cell 18
  have x19 : w1.cell? ⟨w.heap.size, 19, none⟩ = some (.int .i64 p.bf) := hX.cell 19
  have x20 : w1.cell? ⟨w.heap.size, 20, none⟩ = some (.int .i64 p.bt) := hX.cell 20
  have x21 : w1.cell? ⟨w.heap.size, 21, none⟩ = some (.int .i64 p.bs_) := hX.cell 21
  have x22 : w1.cell? ⟨w.heap.size, 22, none⟩ = some (.int .i64 p.bc) := hX.cell 22
  have x23 : w1.cell? ⟨w.heap.size, 23, none⟩ = some (.int .i64 p.bd) := hX.cell 23
  have y0 : w1.cell? ⟨w.heap.size + 1, 0, none⟩ = some (.int .i64 q.dk) := hY.cell 0
  have y1 : w1.cell? ⟨w.heap.size + 1, 1, none⟩ = some (.string (bs q.tx)) := hY.cell 1
  have y2 : w1.cell? ⟨w.heap.size + 1, 2, none⟩ = some (.int .i64 q.D.op) := hY.cell 2
  have y3 : w1.cell? ⟨w.heap.size + 1, 3, none⟩ = some (.int .i64 q.D.kd) := hY.cell 3
  have y4 : w1.cell? ⟨w.heap.size + 1, 4, none⟩ = some (.int .i64 q.D.id) := hY.cell 4
  have y5 : w1.cell? ⟨w.heap.size + 1, 5, none⟩ = some (.int .i64 q.D.fr) := hY.cell 5
  have y6 : w1.cell? ⟨w.heap.size + 1, 6, none⟩ = some (.int .i64 q.D.tn) := hY.cell 6
  have y7 : w1.cell? ⟨w.heap.size + 1, 7, none⟩ = some (.int .i64 q.D.st) := hY.cell 7
  have y8 : w1.cell? ⟨w.heap.size + 1, 8, none⟩ = some (.int .i64 q.D.en) := hY.cell 8
  have y9 : w1.cell? ⟨w.heap.size + 1, 9, none⟩ = some (.int .i64 q.D.rt) := hY.cell 9
  have y10 : w1.cell? ⟨w.heap.size + 1, 10, none⟩ = some (.int .i64 q.D.rf) := hY.cell 10
  have y11 : w1.cell? ⟨w.heap.size + 1, 11, none⟩ = some (.int .i64 q.D.rn) := hY.cell 11
  have y12 : w1.cell? ⟨w.heap.size + 1, 12, none⟩ = some (.int .i64 q.D.rs) := hY.cell 12
  have y13 : w1.cell? ⟨w.heap.size + 1, 13, none⟩ = some (.int .i64 q.D.re) := hY.cell 13
  have y14 : w1.cell? ⟨w.heap.size + 1, 14, none⟩ = some (.int .i64 q.D.ro) := hY.cell 14
  have y15 : w1.cell? ⟨w.heap.size + 1, 15, none⟩ = some (.int .i64 q.n) := hY.cell 15
  have y16 : w1.cell? ⟨w.heap.size + 1, 16, none⟩ = some (.slice A' k' c') := hY.cell 16
  have y17 : w1.cell? ⟨w.heap.size + 1, 17, none⟩ = some (.int .i64 q.cl) := hY.cell 17
  have y18 : w1.cell? ⟨w.heap.size + 1, 18, none⟩ = some (.int .i64 q.sz) := hY.cell 18
  have y19 : w1.cell? ⟨w.heap.size + 1, 19, none⟩ = some (.int .i64 q.bf) := hY.cell 19
  have y20 : w1.cell? ⟨w.heap.size + 1, 20, none⟩ = some (.int .i64 q.bt) := hY.cell 20
  have y21 : w1.cell? ⟨w.heap.size + 1, 21, none⟩ = some (.int .i64 q.bs_) := hY.cell 21
  have y22 : w1.cell? ⟨w.heap.size + 1, 22, none⟩ = some (.int .i64 q.bc) := hY.cell 22
  have y23 : w1.cell? ⟨w.heap.size + 1, 23, none⟩ = some (.int .i64 q.bd) := hY.cell 23
  have lt_x := hX.lt
  have lt_y := hY.lt
  have q_x16 := fun d os => cell_regrown x16 d os
  have q_x17 := fun d os => cell_regrown x17 d os
  have q_x18 := fun d os => cell_regrown x18 d os
  have q_x19 := fun d os => cell_regrown x19 d os
  have q_x20 := fun d os => cell_regrown x20 d os
  have q_x21 := fun d os => cell_regrown x21 d os
  have q_x22 := fun d os => cell_regrown x22 d os
  have q_x23 := fun d os => cell_regrown x23 d os
  have q_y16 := fun d os => cell_regrown y16 d os
  have q_y17 := fun d os => cell_regrown y17 d os
  have q_y18 := fun d os => cell_regrown y18 d os
  have q_y19 := fun d os => cell_regrown y19 d os
  have q_y20 := fun d os => cell_regrown y20 d os
  have q_y21 := fun d os => cell_regrown y21 d os
  have q_y22 := fun d os => cell_regrown y22 d os
  have q_y23 := fun d os => cell_regrown y23 d os
  have q_x0 := fun d os => cell_regrown x0 d os
  have q_y0 := fun d os => cell_regrown y0 d os
  have q_x1 := fun d os => cell_regrown x1 d os
  have q_y1 := fun d os => cell_regrown y1 d os
  have q_x2 := fun d os => cell_regrown x2 d os
  have q_y2 := fun d os => cell_regrown y2 d os
  have q_x3 := fun d os => cell_regrown x3 d os
  have q_y3 := fun d os => cell_regrown y3 d os
  have q_x4 := fun d os => cell_regrown x4 d os
  have q_y4 := fun d os => cell_regrown y4 d os
  have q_x5 := fun d os => cell_regrown x5 d os
  have q_y5 := fun d os => cell_regrown y5 d os
  have q_x6 := fun d os => cell_regrown x6 d os
  have q_y6 := fun d os => cell_regrown y6 d os
  have q_x7 := fun d os => cell_regrown x7 d os
  have q_y7 := fun d os => cell_regrown y7 d os
  have q_x8 := fun d os => cell_regrown x8 d os
  have q_y8 := fun d os => cell_regrown y8 d os
  have q_x9 := fun d os => cell_regrown x9 d os
  have q_y9 := fun d os => cell_regrown y9 d os
  have q_x10 := fun d os => cell_regrown x10 d os
  have q_y10 := fun d os => cell_regrown y10 d os
  have q_x11 := fun d os => cell_regrown x11 d os
  have q_y11 := fun d os => cell_regrown y11 d os
  have q_x12 := fun d os => cell_regrown x12 d os
  have q_y12 := fun d os => cell_regrown y12 d os
  have q_x13 := fun d os => cell_regrown x13 d os
  have q_y13 := fun d os => cell_regrown y13 d os
  have q_x14 := fun d os => cell_regrown x14 d os
  have q_y14 := fun d os => cell_regrown y14 d os
  have q_x15 := fun d os => cell_regrown x15 d os
  have q_y15 := fun d os => cell_regrown y15 d os
  try simp only [List.append]
  first | refine wp_region_text_below ?_ | refine wp_region_quiet_below (by kernel_rfl) (by kernel_rfl) ?_
  repeat (go_big_quiet_step (((go_at_call 22; with_reducible exact Calls.regrown_of (equalI_is A A' k c k' c' p.ids q.ids _ g4.out HK.out.1 HK.out.2.1 HK.out.2.2.1 HK.out.2.2.2 (HH.out.up (below_regrown _ _ _)) (HH'.out.up (below_regrown _ _ _)))))))
  refine wpQuiet_nil ?_
  intro _ hqw
  obtain ⟨pq, hqw⟩ := hqw
  subst hqw
  go_wp2
  go_ret
  exact ⟨rfl, hB.trans ((below_regrown _ _ _).mono hs)⟩
end Go.Proofs.YtggdomeeienjbaaDoor

/- Loading a struct of many cells at an address whatever. No condition. -/
namespace Go.Proofs.YtggdomeeienjbaaDoor
open Go.ChangeShapes Go.WideShapes Go.ChangeAt Go.RowKit Go.Sort
set_option linter.unusedSimpArgs false
set_option linter.unusedVariables false
section
variable {P : Program}
theorem run_loadVar_addr (w : World) (ad : Addr) (ty : TypeId) (cs : List Value) (d : TypeDesc) (hc : ∀ j v, cs[j]? = some v → w.cell? (ad.add j) = some v)
    (hu : P.underlying ty = some d) (hd : d.isRow = true) (hi : (P.info? ty).map (·.size) = some cs.length) : (loadVar ty ad).run P w = .ok (.agg cs.toArray) w := by
  have hl : (loadCells ad cs.length).run P w = .ok cs.toArray w := run_loadCells_list (P := P) w ad cs hc
  cases hq : P.info? ty with
  | none => simp [hq] at hi
  | some i =>
    have hs : i.size = cs.length := by simpa [hq] using hi
    have hagg : (isAgg ty).run P w = .ok true w := by
      unfold isAgg
      rw [Sem.run_bind, run_underlying hu w]
      cases d <;> simp_all
    simp [loadVar, Sem.run_bind, hagg, sizeOf, typeInfo, hq, hs, hl]
theorem wp_load_addr {op : Oper} {a : Act} {w : World} {K : Act → World → Prop} {Q : Exit → Act → World → Prop} (ty : TypeId) (x : Operand) (ho : op.op = .load ty x) (ad : Addr) (hx : a.eval x = .pointer (some ad)) (cs : List Value) (d : TypeDesc)
    (hc : ∀ j v, cs[j]? = some v → w.cell? (ad.add j) = some v) (hu : P.underlying ty = some d) (hd : d.isRow = true) (hi : (P.info? ty).map (·.size) = some cs.length) (h : K (a.put op.dst (.agg cs.toArray)) w) : op.wp P a w K Q := by
  unfold Oper.wp execOp
  simp only [ho, hx, Instr.loadAt, Instr.sureAddr, Sem.run_bind, Sem.run_pure, Result.andThen_ok, run_loadVar_addr w ad ty cs d hc hu hd hi]
  exact h
theorem wpList_load_addr {ops : Array Oper} {rest : List Oper} {op : Oper} {a : Act} {w : World} {Q : Exit → Act → World → Prop} (hgd : op.guard = none) (ty : TypeId) (x : Operand) (ho : op.op = .load ty x) (ad : Addr) (hx : a.eval x = .pointer (some ad)) (cs : List Value) (d : TypeDesc)
    (hc : ∀ j v, cs[j]? = some v → w.cell? (ad.add j) = some v) (hu : P.underlying ty = some d) (hd : d.isRow = true) (hi : (P.info? ty).map (·.size) = some cs.length) (h : wpList P ops Q rest (a.put op.dst (.agg cs.toArray)) w) : wpList P ops Q (op :: rest) a w :=
  wpList_plain hgd fun _ hK => wp_load_addr ty x ho ad hx cs d hc hu hd hi (hK _ _ h)
end
theorem axRow {w : World} {ad : Addr} {k : Nat} {x : Ax} (h : ∀ j u, x.cs[j]? = some u → w.cell? (ad.add (k * 24 + j)) = some u) : ∀ j u, x.cs[j]? = some u → w.cell? ((ad.add (k * 24)).add j) = some u := fun j u hu => by
  rw [add_plus]
  exact h j u hu
end Go.Proofs.YtggdomeeienjbaaDoor

/- Package script: Same. No condition but on sizes. -/
namespace Go.Proofs.YtggdomeeienjbaaDoor
open Go.ChangeShapes Go.WideShapes Go.ChangeAt Go.RowKit Go.Sort
set_option linter.unusedSimpArgs false
set_option linter.unusedVariables false
set_option maxRecDepth 100000 in
theorem same1_any (x y : Ax) (w : World) (hx : x.ok w) (hy : y.ok w) (r : Bool) (hr : decide (x.p = y.p) = r) :
    Calls Tryd.prog 21 #[.agg #[.int .i64 x.p.dk, .string (bs x.p.tx), .int .i64 x.p.D.op, .int .i64 x.p.D.kd, .int .i64 x.p.D.id, .int .i64 x.p.D.fr, .int .i64 x.p.D.tn, .int .i64 x.p.D.st, .int .i64 x.p.D.en, .int .i64 x.p.D.rt, .int .i64 x.p.D.rf, .int .i64 x.p.D.rn, .int .i64 x.p.D.rs, .int .i64 x.p.D.re, .int .i64 x.p.D.ro, .int .i64 x.p.n, .slice x.A x.k x.c, .int .i64 x.p.cl, .int .i64 x.p.sz, .int .i64 x.p.bf, .int .i64 x.p.bt, .int .i64 x.p.bs_, .int .i64 x.p.bc, .int .i64 x.p.bd], .agg #[.int .i64 y.p.dk, .string (bs y.p.tx), .int .i64 y.p.D.op, .int .i64 y.p.D.kd, .int .i64 y.p.D.id, .int .i64 y.p.D.fr, .int .i64 y.p.D.tn, .int .i64 y.p.D.st, .int .i64 y.p.D.en, .int .i64 y.p.D.rt, .int .i64 y.p.D.rf, .int .i64 y.p.D.rn, .int .i64 y.p.D.rs, .int .i64 y.p.D.re, .int .i64 y.p.D.ro, .int .i64 y.p.n, .slice y.A y.k y.c, .int .i64 y.p.cl, .int .i64 y.p.sz, .int .i64 y.p.bf, .int .i64 y.p.bt, .int .i64 y.p.bs_, .int .i64 y.p.bc, .int .i64 y.p.bd]] w fun e w' => e = .returned (.bool r) ∧ Below w.heap.size w w' := by
  obtain ⟨p, A, k, c⟩ := x
  obtain ⟨q, A', k', c'⟩ := y
  obtain ⟨a1, a2, a3⟩ := hx
  obtain ⟨b1, b2, b3⟩ := hy
  by_cases c0 : p.dk = q.dk
  case neg =>
    have hf : r = false := by rw [← hr, decide_eq_false_iff_not]; intro e; simp only at e; exact c0 (by rw [e])
    subst hf
    exact same1_0 p q A A' k c k' c' w a1 b1 a2 b2 a3 b3 c0
  case pos =>
    by_cases c1 : p.tx = q.tx
    case neg =>
      have hf : r = false := by rw [← hr, decide_eq_false_iff_not]; intro e; simp only at e; exact c1 (by rw [e])
      subst hf
      exact same1_1 p q A A' k c k' c' w a1 b1 a2 b2 a3 b3 c0 c1
    case pos =>
      by_cases c2 : p.D = q.D
      case neg =>
        have hf : r = false := by rw [← hr, decide_eq_false_iff_not]; intro e; simp only at e; exact c2 (by rw [e])
        subst hf
        exact same1_2 p q A A' k c k' c' w a1 b1 a2 b2 a3 b3 c0 c1 c2
      case pos =>
        by_cases c3 : p.n = q.n
        case neg =>
          have hf : r = false := by rw [← hr, decide_eq_false_iff_not]; intro e; simp only at e; exact c3 (by rw [e])
          subst hf
          exact same1_3 p q A A' k c k' c' w a1 b1 a2 b2 a3 b3 c0 c1 c2 c3
        case pos =>
          by_cases c4 : p.ids = q.ids
          case neg =>
            have hf : r = false := by rw [← hr, decide_eq_false_iff_not]; intro e; simp only at e; exact c4 (by rw [e])
            subst hf
            exact same1_4 p q A A' k c k' c' w a1 b1 a2 b2 a3 b3 c0 c1 c2 c3 c4
          case pos =>
            by_cases c5 : p.cl = q.cl
            case neg =>
              have hf : r = false := by rw [← hr, decide_eq_false_iff_not]; intro e; simp only at e; exact c5 (by rw [e])
              subst hf
              exact same1_5 p q A A' k c k' c' w a1 b1 a2 b2 a3 b3 c0 c1 c2 c3 c4 c5
            case pos =>
              by_cases c6 : p.sz = q.sz
              case neg =>
                have hf : r = false := by rw [← hr, decide_eq_false_iff_not]; intro e; simp only at e; exact c6 (by rw [e])
                subst hf
                exact same1_6 p q A A' k c k' c' w a1 b1 a2 b2 a3 b3 c0 c1 c2 c3 c4 c5 c6
              case pos =>
                by_cases c7 : eqB p q = true
                case neg =>
                  have hf : r = false := by rw [← hr, decide_eq_false_iff_not]; intro e; simp only at e; rw [e] at c7; exact c7 (by simp [eqB])
                  subst hf
                  exact same1_7 p q A A' k c k' c' w a1 b1 a2 b2 a3 b3 c0 c1 c2 c3 c4 c5 c6 c7
                have hf : r = true := by rw [← hr, decide_eq_true_eq]; exact Pa.ext_ c0 c1 c2 c3 c4 c5 c6 c7
                subst hf
                exact same1_8 p q A A' k c k' c' w a1 b1 a2 b2 a3 b3 c0 c1 c2 c3 c4 c5 c6 c7
theorem Lst.axAt {w : World} {B n : Nat} {A : Option Addr} {L : List Ax} (h : Lst w B 24 A n (flatAx L)) (hl : L.length = n) {k : Nat} (hk : k < n) : ∃ ad, A = some ad ∧ ad.block < B ∧ ∀ j u, (gAx L k).cs[j]? = some u → w.cell? (ad.add (k * 24 + j)) = some u := by
  obtain ⟨ad, e, hb, hc⟩ := h.at_ (by omega)
  refine ⟨ad, e, hb, fun j u hu => hc _ _ ?_⟩
  have hj : j < 24 := by
    have := (List.getElem?_eq_some_iff.1 hu).1
    simpa [Ax.cs_len] using this
  rw [flatAx_at L k j (by omega) hj]
  exact hu
theorem add_two (ad : Addr) (a j : Nat) (hj : j ≠ 0) : ad.add (a + j) = ⟨(ad.add a).block, (ad.add a).off + j, none⟩ := by
  unfold Addr.add
  rw [if_neg (by omega)]
  by_cases h : a = 0
  · subst h; simp
  · rw [if_neg h]; simp; omega
def AR (w : World) (L : List Ax) : Prop := ∀ x ∈ L, x.ok w
set_option maxHeartbeats 8000000 in
set_option maxRecDepth 100000 in
theorem equalAx (A A' : Option Addr) (n c n' c' : Nat) (l l' : List Ax) (w : World) (hl : l.length = n) (hl' : l'.length = n') (hn : n ≤ 1000000) (hn' : n' ≤ 1000000) (h : Sl w w.heap.size 24 A n c (flatAx l)) (h' : Sl w w.heap.size 24 A' n' c' (flatAx l')) (hok : ∀ x ∈ l, x.ok w) (hok' : ∀ x ∈ l', x.ok w) (b : Bool) (hb : decide (l.map Ax.p = l'.map Ax.p) = b) :
    Calls Tryd.prog 20 #[.slice A n c, .slice A' n' c', .func (.func 21) #[] #[]] w fun e w' => e = .returned (.bool b) ∧ Below w.heap.size w w' := by
  have HBB := Lib.hid hb
  have HOK := Lib.hid hok
  have HOK' := Lib.hid hok'
  have HL := Lib.hid hl
  have HL' := Lib.hid hl'
  have HS := Lib.hid h
  have HS' := Lib.hid h'
  clear hb hok hok' hl hl' h h'
  by_cases hne : n = n'
  · subst hne
    have hz : ((n : Int) != (n : Int)) = false := by simp
    go_enter Tryd.func20, Tryd.ntmps20
    go_wp2
    go_loopw [17] (fun i wr => ∃ k : Nat, k ≤ n ∧ i = .int .i64 k ∧ Hid (∀ j, j < k → (gAx l j).p = (gAx l' j).p) ∧ Below w.heap.size w wr) (fun i _ => n - (intOf i).toNat)
    case atStart => exact ⟨0, by omega, rfl, (fun j hj => by omega), Below.refl _ _⟩
    case round =>
      obtain ⟨k, hk, rfl, HQ, hB⟩ := hrel
      have hs := hB.size
      by_cases hkn : k < n
      · obtain ⟨ad, rfl, hab, hca⟩ := (HS.out.below hB).lst.axAt HL.out hkn
        obtain ⟨ad', rfl, hab', hcb⟩ := (HS'.out.below hB).lst.axAt HL'.out hkn
        have hxo := (HOK.out _ (gAx_mem (d := l) (i := k) (by have := HL.out; omega))).below hB
        have hyo := (HOK'.out _ (gAx_mem (d := l') (i := k) (by have := HL'.out; omega))).below hB
        obtain ⟨x, hx⟩ : ∃ x, gAx l k = x := ⟨_, rfl⟩
        obtain ⟨y, hy⟩ : ∃ y, gAx l' k = y := ⟨_, rfl⟩
        rw [hx] at hca hxo
        rw [hy] at hcb hyo
        have HX := Lib.hid hx
        have HY := Lib.hid hy
        clear hx hy
        have HXO := Lib.hid hxo
        have HYO := Lib.hid hyo
        have HCB := Lib.hid hcb
        clear hxo hyo hcb
        have hrow := axRow hca
        go_upto_region 6 with (first | (refine wpList_load_addr (by rfl) 36 (.tmp 20) (by rfl) (ad.add (k * 24)) (by rfl) x.cs _ hrow Tryd.underlying36 rfl (by kernel_rfl) ?_) | (refine wpList_store_row (by rfl) 36 (.tmp 8) (.tmp 21) (by rfl) wr.heap.size #[.int .i64 x.p.dk, .string (bs x.p.tx), .int .i64 x.p.D.op, .int .i64 x.p.D.kd, .int .i64 x.p.D.id, .int .i64 x.p.D.fr, .int .i64 x.p.D.tn, .int .i64 x.p.D.st, .int .i64 x.p.D.en, .int .i64 x.p.D.rt, .int .i64 x.p.D.rf, .int .i64 x.p.D.rn, .int .i64 x.p.D.rs, .int .i64 x.p.D.re, .int .i64 x.p.D.ro, .int .i64 x.p.n, .slice x.A x.k x.c, .int .i64 x.p.cl, .int .i64 x.p.sz, .int .i64 x.p.bf, .int .i64 x.p.bt, .int .i64 x.p.bs_, .int .i64 x.p.bc, .int .i64 x.p.bd] (by rfl) (by rfl) 36 #[.int .i64 0, .string ⟨#[]⟩, .int .i64 0, .int .i64 0, .int .i64 0, .int .i64 0, .int .i64 0, .int .i64 0, .int .i64 0, .int .i64 0, .int .i64 0, .int .i64 0, .int .i64 0, .int .i64 0, .int .i64 0, .int .i64 0, .slice none 0 0, .int .i64 0, .int .i64 0, .int .i64 0, .int .i64 0, .int .i64 0, .int .i64 0, .int .i64 0] (heap_alloc_new _ _) (by kernel_rfl) rfl (by simp [Value.oneCell']) ?_; rw [World.setRow_alloc_new]))
        clear hrow
        have hX := Blok.new wr 36 #[.int .i64 x.p.dk, .string (bs x.p.tx), .int .i64 x.p.D.op, .int .i64 x.p.D.kd, .int .i64 x.p.D.id, .int .i64 x.p.D.fr, .int .i64 x.p.D.tn, .int .i64 x.p.D.st, .int .i64 x.p.D.en, .int .i64 x.p.D.rt, .int .i64 x.p.D.rf, .int .i64 x.p.D.rn, .int .i64 x.p.D.rs, .int .i64 x.p.D.re, .int .i64 x.p.D.ro, .int .i64 x.p.n, .slice x.A x.k x.c, .int .i64 x.p.cl, .int .i64 x.p.sz, .int .i64 x.p.bf, .int .i64 x.p.bt, .int .i64 x.p.bs_, .int .i64 x.p.bc, .int .i64 x.p.bd]
        have hb1 : Below wr.heap.size wr (wr.alloc (.cells #[.int .i64 x.p.dk, .string (bs x.p.tx), .int .i64 x.p.D.op, .int .i64 x.p.D.kd, .int .i64 x.p.D.id, .int .i64 x.p.D.fr, .int .i64 x.p.D.tn, .int .i64 x.p.D.st, .int .i64 x.p.D.en, .int .i64 x.p.D.rt, .int .i64 x.p.D.rf, .int .i64 x.p.D.rn, .int .i64 x.p.D.rs, .int .i64 x.p.D.re, .int .i64 x.p.D.ro, .int .i64 x.p.n, .slice x.A x.k x.c, .int .i64 x.p.cl, .int .i64 x.p.sz, .int .i64 x.p.bf, .int .i64 x.p.bt, .int .i64 x.p.bs_, .int .i64 x.p.bc, .int .i64 x.p.bd] 36)) := by (repeat (first | exact Below.refl _ _ | refine Below.alloc ?_ (by first | omega | (simp; done) | (simp; omega)) _ | refine Below.setCell ?_ (by first | omega | (simp; done) | (simp; omega)) _ | refine Below.drew ?_))
        have hcb : ∀ j u, y.cs[j]? = some u → (wr.alloc (.cells #[.int .i64 x.p.dk, .string (bs x.p.tx), .int .i64 x.p.D.op, .int .i64 x.p.D.kd, .int .i64 x.p.D.id, .int .i64 x.p.D.fr, .int .i64 x.p.D.tn, .int .i64 x.p.D.st, .int .i64 x.p.D.en, .int .i64 x.p.D.rt, .int .i64 x.p.D.rf, .int .i64 x.p.D.rn, .int .i64 x.p.D.rs, .int .i64 x.p.D.re, .int .i64 x.p.D.ro, .int .i64 x.p.n, .slice x.A x.k x.c, .int .i64 x.p.cl, .int .i64 x.p.sz, .int .i64 x.p.bf, .int .i64 x.p.bt, .int .i64 x.p.bs_, .int .i64 x.p.bc, .int .i64 x.p.bd] 36)).cell? (ad'.add (k * 24 + j)) = some u := fun j u hu => (hb1.cell (by rw [add_block]; omega)).trans (HCB.out j u hu)
        replace HXO := Lib.hid (HXO.out.below hb1)
        replace HYO := Lib.hid (HYO.out.below hb1)
        have hB1 := hB.trans (hb1.mono hs)
        have hs1 := hB1.size
        clear hb1 HCB hca
        generalize wr.alloc (.cells #[.int .i64 x.p.dk, .string (bs x.p.tx), .int .i64 x.p.D.op, .int .i64 x.p.D.kd, .int .i64 x.p.D.id, .int .i64 x.p.D.fr, .int .i64 x.p.D.tn, .int .i64 x.p.D.st, .int .i64 x.p.D.en, .int .i64 x.p.D.rt, .int .i64 x.p.D.rf, .int .i64 x.p.D.rn, .int .i64 x.p.D.rs, .int .i64 x.p.D.re, .int .i64 x.p.D.ro, .int .i64 x.p.n, .slice x.A x.k x.c, .int .i64 x.p.cl, .int .i64 x.p.sz, .int .i64 x.p.bf, .int .i64 x.p.bt, .int .i64 x.p.bs_, .int .i64 x.p.bc, .int .i64 x.p.bd] 36) = w1 at *
        generalize wr.heap.size = bx at *
        have hrow := axRow hcb
        go_upto_region 7 with (first | (refine wpList_load_addr (by rfl) 36 (.tmp 24) (by rfl) (ad'.add (k * 24)) (by rfl) y.cs _ hrow Tryd.underlying36 rfl (by kernel_rfl) ?_) | (refine wpList_store_row (by rfl) 36 (.tmp 9) (.tmp 25) (by rfl) w1.heap.size #[.int .i64 y.p.dk, .string (bs y.p.tx), .int .i64 y.p.D.op, .int .i64 y.p.D.kd, .int .i64 y.p.D.id, .int .i64 y.p.D.fr, .int .i64 y.p.D.tn, .int .i64 y.p.D.st, .int .i64 y.p.D.en, .int .i64 y.p.D.rt, .int .i64 y.p.D.rf, .int .i64 y.p.D.rn, .int .i64 y.p.D.rs, .int .i64 y.p.D.re, .int .i64 y.p.D.ro, .int .i64 y.p.n, .slice y.A y.k y.c, .int .i64 y.p.cl, .int .i64 y.p.sz, .int .i64 y.p.bf, .int .i64 y.p.bt, .int .i64 y.p.bs_, .int .i64 y.p.bc, .int .i64 y.p.bd] (by rfl) (by rfl) 36 #[.int .i64 0, .string ⟨#[]⟩, .int .i64 0, .int .i64 0, .int .i64 0, .int .i64 0, .int .i64 0, .int .i64 0, .int .i64 0, .int .i64 0, .int .i64 0, .int .i64 0, .int .i64 0, .int .i64 0, .int .i64 0, .int .i64 0, .slice none 0 0, .int .i64 0, .int .i64 0, .int .i64 0, .int .i64 0, .int .i64 0, .int .i64 0, .int .i64 0] (heap_alloc_new _ _) (by kernel_rfl) rfl (by simp [Value.oneCell']) ?_; rw [World.setRow_alloc_new]))
        clear hcb hrow
        have hY := Blok.new w1 36 #[.int .i64 y.p.dk, .string (bs y.p.tx), .int .i64 y.p.D.op, .int .i64 y.p.D.kd, .int .i64 y.p.D.id, .int .i64 y.p.D.fr, .int .i64 y.p.D.tn, .int .i64 y.p.D.st, .int .i64 y.p.D.en, .int .i64 y.p.D.rt, .int .i64 y.p.D.rf, .int .i64 y.p.D.rn, .int .i64 y.p.D.rs, .int .i64 y.p.D.re, .int .i64 y.p.D.ro, .int .i64 y.p.n, .slice y.A y.k y.c, .int .i64 y.p.cl, .int .i64 y.p.sz, .int .i64 y.p.bf, .int .i64 y.p.bt, .int .i64 y.p.bs_, .int .i64 y.p.bc, .int .i64 y.p.bd]
        have hb1 : Below w1.heap.size w1 (w1.alloc (.cells #[.int .i64 y.p.dk, .string (bs y.p.tx), .int .i64 y.p.D.op, .int .i64 y.p.D.kd, .int .i64 y.p.D.id, .int .i64 y.p.D.fr, .int .i64 y.p.D.tn, .int .i64 y.p.D.st, .int .i64 y.p.D.en, .int .i64 y.p.D.rt, .int .i64 y.p.D.rf, .int .i64 y.p.D.rn, .int .i64 y.p.D.rs, .int .i64 y.p.D.re, .int .i64 y.p.D.ro, .int .i64 y.p.n, .slice y.A y.k y.c, .int .i64 y.p.cl, .int .i64 y.p.sz, .int .i64 y.p.bf, .int .i64 y.p.bt, .int .i64 y.p.bs_, .int .i64 y.p.bc, .int .i64 y.p.bd] 36)) := by (repeat (first | exact Below.refl _ _ | refine Below.alloc ?_ (by first | omega | (simp; done) | (simp; omega)) _ | refine Below.setCell ?_ (by first | omega | (simp; done) | (simp; omega)) _ | refine Below.drew ?_))
        replace hX := hX.below hb1 hX.lt
        replace HXO := Lib.hid (HXO.out.below hb1)
        replace HYO := Lib.hid (HYO.out.below hb1)
        have hB2 := hB1.trans (hb1.mono hs1)
        have hs2 := hB2.size
        clear hb1 hB1 hs1
        generalize w1.alloc (.cells #[.int .i64 y.p.dk, .string (bs y.p.tx), .int .i64 y.p.D.op, .int .i64 y.p.D.kd, .int .i64 y.p.D.id, .int .i64 y.p.D.fr, .int .i64 y.p.D.tn, .int .i64 y.p.D.st, .int .i64 y.p.D.en, .int .i64 y.p.D.rt, .int .i64 y.p.D.rf, .int .i64 y.p.D.rn, .int .i64 y.p.D.rs, .int .i64 y.p.D.re, .int .i64 y.p.D.ro, .int .i64 y.p.n, .slice y.A y.k y.c, .int .i64 y.p.cl, .int .i64 y.p.sz, .int .i64 y.p.bf, .int .i64 y.p.bt, .int .i64 y.p.bs_, .int .i64 y.p.bc, .int .i64 y.p.bd] 36) = w2 at *
        generalize w1.heap.size = by_ at *
        obtain ⟨r, hr⟩ : ∃ r, decide (x.p = y.p) = r := ⟨_, rfl⟩
        have HR := Lib.hid hr
        clear hr
        go_wp2_with (first | (refine wpList_load_row (by rfl) 36 (.tmp 8) (by rfl) bx (by rfl) 36 #[.int .i64 x.p.dk, .string (bs x.p.tx), .int .i64 x.p.D.op, .int .i64 x.p.D.kd, .int .i64 x.p.D.id, .int .i64 x.p.D.fr, .int .i64 x.p.D.tn, .int .i64 x.p.D.st, .int .i64 x.p.D.en, .int .i64 x.p.D.rt, .int .i64 x.p.D.rf, .int .i64 x.p.D.rn, .int .i64 x.p.D.rs, .int .i64 x.p.D.re, .int .i64 x.p.D.ro, .int .i64 x.p.n, .slice x.A x.k x.c, .int .i64 x.p.cl, .int .i64 x.p.sz, .int .i64 x.p.bf, .int .i64 x.p.bt, .int .i64 x.p.bs_, .int .i64 x.p.bc, .int .i64 x.p.bd] (0, 0) _ hX Tryd.underlying36 rfl (by kernel_rfl) ?_) | (refine wpList_load_row (by rfl) 36 (.tmp 9) (by rfl) by_ (by rfl) 36 #[.int .i64 y.p.dk, .string (bs y.p.tx), .int .i64 y.p.D.op, .int .i64 y.p.D.kd, .int .i64 y.p.D.id, .int .i64 y.p.D.fr, .int .i64 y.p.D.tn, .int .i64 y.p.D.st, .int .i64 y.p.D.en, .int .i64 y.p.D.rt, .int .i64 y.p.D.rf, .int .i64 y.p.D.rn, .int .i64 y.p.D.rs, .int .i64 y.p.D.re, .int .i64 y.p.D.ro, .int .i64 y.p.n, .slice y.A y.k y.c, .int .i64 y.p.cl, .int .i64 y.p.sz, .int .i64 y.p.bf, .int .i64 y.p.bt, .int .i64 y.p.bs_, .int .i64 y.p.bc, .int .i64 y.p.bd] (0, 0) _ hY Tryd.underlying36 rfl (by kernel_rfl) ?_))
        refine (same1_any x y w2 HXO.out HYO.out r HR.out).mono ?_
        rintro e w4 ⟨rfl, hb4⟩
        have hB4 : Below w.heap.size w w4 := hB2.trans (hb4.mono hs2)
        clear hb4 hX hY hB2 hs2 HXO HYO
        cases r
        · have HF : Hid (b = false) := by
            show b = false
            rw [← HBB.out]
            simp only [decide_eq_false_iff_not]
            intro e
            have h1 : (gAx l k).p = (gAx l' k).p := by
              have h2 : (l.map Ax.p)[k]? = (l'.map Ax.p)[k]? := by rw [e]
              rw [List.getElem?_map, List.getElem?_map, List.getElem?_eq_getElem (by have := HL.out; omega), List.getElem?_eq_getElem (by have := HL'.out; omega)] at h2
              unfold gAx
              rw [List.getD_eq_getElem?_getD, List.getD_eq_getElem?_getD, List.getElem?_eq_getElem (by have := HL.out; omega), List.getElem?_eq_getElem (by have := HL'.out; omega)]
              simpa using h2
            rw [HX.out, HY.out] at h1
            have h3 := HR.out
            rw [h1] at h3
            simp at h3
          go_wp2
          go_ret
          exact ⟨by rw [HF.out]; rfl, hB4⟩
        · have hq : ∀ j, j < k + 1 → (gAx l j).p = (gAx l' j).p := by
            intro j hj
            by_cases e : j = k
            · subst e
              rw [HX.out, HY.out]
              exact of_decide_eq_true HR.out
            · exact HQ.out j (by omega)
          have HQ2 := Lib.hid hq
          clear hq
          go_wp2
          go_roundw
          case rel => exact ⟨k + 1, by omega, by go_num, HQ2, hB4⟩
          case measure => simp [intOf]; omega
      · obtain rfl : k = n := by omega
        have HF : Hid (b = true) := by
          show b = true
          rw [← HBB.out]
          simp only [decide_eq_true_eq]
          refine List.ext_getElem (by simp; rw [HL.out, HL'.out]) fun j h1 h2 => ?_
          have h3 := HQ.out j (by simp [HL.out] at h1; exact h1)
          simp only [List.length_map] at h1 h2
          unfold gAx at h3
          rw [List.getD_eq_getElem?_getD, List.getD_eq_getElem?_getD, List.getElem?_eq_getElem h1, List.getElem?_eq_getElem h2] at h3
          simpa using h3
        go_wp2
        go_ret
        exact ⟨by rw [HF.out]; rfl, hB⟩
  · have hz : ((n : Int) != (n' : Int)) = true := by rw [bne_iff_ne]; omega
    have HF : Hid (b = false) := by
      show b = false
      rw [← HBB.out]
      simp only [decide_eq_false_iff_not]
      intro e
      have := congrArg List.length e
      simp [HL.out, HL'.out] at this
      exact hne this
    go_enter Tryd.func20, Tryd.ntmps20
    go_wp2
    go_ret
    exact ⟨by rw [HF.out]; rfl, Below.refl _ _⟩
set_option maxRecDepth 100000 in
theorem ssame_any (A A' : Option Addr) (n c n' c' : Nat) (l l' : List Ax) (w : World) (hl : l.length = n) (hl' : l'.length = n') (hn : n ≤ 1000000) (hn' : n' ≤ 1000000) (h : Sl w w.heap.size 24 A n c (flatAx l)) (h' : Sl w w.heap.size 24 A' n' c' (flatAx l')) (hok : ∀ x ∈ l, x.ok w) (hok' : ∀ x ∈ l', x.ok w) (b : Bool) (hb : decide (l.map Ax.p = l'.map Ax.p) = b) :
    Calls Tryd.prog 12 #[.slice A n c, .slice A' n' c'] w fun e w' => e = .returned (.bool b) ∧ Below w.heap.size w w' := by
  have HE := Lib.hid (equalAx A A' n c n' c' l l' w hl hl' hn hn' h h' hok hok' b hb)
  clear hl hl' h h' hok hok' hb
  go_enter Tryd.func12, Tryd.ntmps12
  go_wp2_with fail
  refine HE.out.mono ?_
  rintro e w4 ⟨rfl, hb4⟩
  go_wp2_with fail
  go_ret
  exact ⟨rfl, hb4⟩
end Go.Proofs.YtggdomeeienjbaaDoor

/- Package script: Count. No condition but on sizes. -/
namespace Go.Proofs.YtggdomeeienjbaaDoor
open Go.ChangeShapes Go.WideShapes Go.ChangeAt Go.RowKit Go.Sort
set_option linter.unusedSimpArgs false
set_option linter.unusedVariables false
def cntF (l : List Ax) (d : Int) : Nat := (l.filter fun x => x.p.dk == d).length
theorem Lst.axAt8 {w : World} {B n : Nat} {A : Option Addr} {L : List Ax} (h : Lst w B 24 A n (flatAx L)) (hl : L.length = n) {k : Nat} (hk : k < n) : ∃ ad, A = some ad ∧ ad.block < B ∧ ∀ j u, (gAx L k).cs[j]? = some u → w.cell? (ad.add (k * 24 + j)) = some u := by
  obtain ⟨ad, e, hb, hc⟩ := h.at_ (by omega)
  refine ⟨ad, e, hb, fun j u hu => hc _ _ ?_⟩
  have hj : j < 24 := by
    have := (List.getElem?_eq_some_iff.1 hu).1
    simpa [Ax.cs_len] using this
  rw [flatAx_at L k j (by omega) hj]
  exact hu
theorem add_two8 (ad : Addr) (a j : Nat) (hj : j ≠ 0) : ad.add (a + j) = ⟨(ad.add a).block, (ad.add a).off + j, none⟩ := by
  unfold Addr.add
  rw [if_neg (by omega)]
  by_cases h : a = 0
  · subst h; simp
  · rw [if_neg h]; simp; omega
theorem cntF_le (l : List Ax) (d : Int) : cntF l d ≤ l.length := List.length_filter_le _ _
theorem cntF_next (l : List Ax) (d : Int) {k : Nat} (h : k < l.length) : cntF (l.take (k + 1)) d = cntF (l.take k) d + (if (gAx l k).p.dk == d then 1 else 0) := by
  have e : l.take (k + 1) = l.take k ++ [gAx l k] := by
    rw [List.take_succ_eq_append_getElem h]
    unfold gAx
    rw [List.getD_eq_getElem?_getD, List.getElem?_eq_getElem h]
    rfl
  unfold cntF
  rw [e, List.filter_append, List.length_append]
  congr 1
  by_cases hd : ((gAx l k).p.dk == d) = true
  · simp [List.filter, hd]
  · simp [List.filter, Bool.eq_false_iff.2 hd]
set_option maxHeartbeats 8000000 in
set_option maxRecDepth 100000 in
theorem scount_any (A : Option Addr) (n c : Nat) (l : List Ax) (d : Int) (w : World) (hl : l.length = n) (hn : n ≤ 1000000) (h : Sl w w.heap.size 24 A n c (flatAx l)) :
    Calls Tryd.prog 13 #[.slice A n c, .int .i64 d] w fun e w' => e = .returned (.int .i64 (cntF l d : Nat)) ∧ Below w.heap.size w w' := by
  have HL := Lib.hid hl
  have HS := Lib.hid h
  have HN := Lib.hid hn
  clear hl h hn
  go_enter Tryd.func13, Tryd.ntmps13
  go_wp2
  go_loopw [5, 10] (fun nv iv wr => ∃ k m : Nat, iv = .int .i64 k ∧ k ≤ n ∧ nv = .int .i64 m ∧ Hid (m = cntF (l.take k) d) ∧ m ≤ k ∧ Below w.heap.size w wr) (fun _ iv _ => n - (intOf iv).toNat)
  case atStart => exact ⟨0, 0, rfl, by omega, rfl, by simp [Hid, cntF], by omega, Below.refl _ _⟩
  case round =>
    obtain ⟨k, m, rfl, hk, rfl, HM, hmk, hB⟩ := hrel
    have hs := hB.size
    by_cases hkn : k < n
    · obtain ⟨ad, rfl, hab, hca⟩ := (HS.out.below hB).lst.axAt8 HL.out hkn
      have hnx := cntF_next l d (k := k) (by rw [HL.out]; exact hkn)
      obtain ⟨x, hx⟩ : ∃ x, gAx l k = x := ⟨_, rfl⟩
      rw [hx] at hca hnx
      have HNX := Lib.hid hnx
      clear hx hnx
      have hn9 := HN.out
      have hw1 : IntKind.i64.wrap ((m : Int) + 1) = (m : Int) + 1 := IntWalk.i64_in _ (by omega)
      have hrow := axRow hca
      clear hca
      go_upto_region 5 with (first | (refine wpList_load_addr (by rfl) 36 (.tmp 12) (by rfl) (ad.add (k * 24)) (by rfl) x.cs _ hrow Tryd.underlying36 rfl (by kernel_rfl) ?_) | (refine wpList_store_row (by rfl) 36 (.tmp 7) (.tmp 13) (by rfl) wr.heap.size #[.int .i64 x.p.dk, .string (bs x.p.tx), .int .i64 x.p.D.op, .int .i64 x.p.D.kd, .int .i64 x.p.D.id, .int .i64 x.p.D.fr, .int .i64 x.p.D.tn, .int .i64 x.p.D.st, .int .i64 x.p.D.en, .int .i64 x.p.D.rt, .int .i64 x.p.D.rf, .int .i64 x.p.D.rn, .int .i64 x.p.D.rs, .int .i64 x.p.D.re, .int .i64 x.p.D.ro, .int .i64 x.p.n, .slice x.A x.k x.c, .int .i64 x.p.cl, .int .i64 x.p.sz, .int .i64 x.p.bf, .int .i64 x.p.bt, .int .i64 x.p.bs_, .int .i64 x.p.bc, .int .i64 x.p.bd] (by rfl) (by rfl) 36 #[.int .i64 0, .string ⟨#[]⟩, .int .i64 0, .int .i64 0, .int .i64 0, .int .i64 0, .int .i64 0, .int .i64 0, .int .i64 0, .int .i64 0, .int .i64 0, .int .i64 0, .int .i64 0, .int .i64 0, .int .i64 0, .int .i64 0, .slice none 0 0, .int .i64 0, .int .i64 0, .int .i64 0, .int .i64 0, .int .i64 0, .int .i64 0, .int .i64 0] (heap_alloc_new _ _) (by kernel_rfl) rfl (by simp [Value.oneCell']) ?_; rw [World.setRow_alloc_new]))
      clear hrow
      have hX := Blok.new wr 36 #[.int .i64 x.p.dk, .string (bs x.p.tx), .int .i64 x.p.D.op, .int .i64 x.p.D.kd, .int .i64 x.p.D.id, .int .i64 x.p.D.fr, .int .i64 x.p.D.tn, .int .i64 x.p.D.st, .int .i64 x.p.D.en, .int .i64 x.p.D.rt, .int .i64 x.p.D.rf, .int .i64 x.p.D.rn, .int .i64 x.p.D.rs, .int .i64 x.p.D.re, .int .i64 x.p.D.ro, .int .i64 x.p.n, .slice x.A x.k x.c, .int .i64 x.p.cl, .int .i64 x.p.sz, .int .i64 x.p.bf, .int .i64 x.p.bt, .int .i64 x.p.bs_, .int .i64 x.p.bc, .int .i64 x.p.bd]
      have hb1 : Below wr.heap.size wr (wr.alloc (.cells #[.int .i64 x.p.dk, .string (bs x.p.tx), .int .i64 x.p.D.op, .int .i64 x.p.D.kd, .int .i64 x.p.D.id, .int .i64 x.p.D.fr, .int .i64 x.p.D.tn, .int .i64 x.p.D.st, .int .i64 x.p.D.en, .int .i64 x.p.D.rt, .int .i64 x.p.D.rf, .int .i64 x.p.D.rn, .int .i64 x.p.D.rs, .int .i64 x.p.D.re, .int .i64 x.p.D.ro, .int .i64 x.p.n, .slice x.A x.k x.c, .int .i64 x.p.cl, .int .i64 x.p.sz, .int .i64 x.p.bf, .int .i64 x.p.bt, .int .i64 x.p.bs_, .int .i64 x.p.bc, .int .i64 x.p.bd] 36)) := by (repeat (first | exact Below.refl _ _ | refine Below.alloc ?_ (by first | omega | (simp; done) | (simp; omega)) _ | refine Below.setCell ?_ (by first | omega | (simp; done) | (simp; omega)) _ | refine Below.drew ?_))
      have hB1 := hB.trans (hb1.mono hs)
      clear hb1 hB hs
      generalize wr.alloc (.cells #[.int .i64 x.p.dk, .string (bs x.p.tx), .int .i64 x.p.D.op, .int .i64 x.p.D.kd, .int .i64 x.p.D.id, .int .i64 x.p.D.fr, .int .i64 x.p.D.tn, .int .i64 x.p.D.st, .int .i64 x.p.D.en, .int .i64 x.p.D.rt, .int .i64 x.p.D.rf, .int .i64 x.p.D.rn, .int .i64 x.p.D.rs, .int .i64 x.p.D.re, .int .i64 x.p.D.ro, .int .i64 x.p.n, .slice x.A x.k x.c, .int .i64 x.p.cl, .int .i64 x.p.sz, .int .i64 x.p.bf, .int .i64 x.p.bt, .int .i64 x.p.bs_, .int .i64 x.p.bc, .int .i64 x.p.bd] 36) = w1 at *
      generalize wr.heap.size = bx at *
      have x0 : w1.cell? ⟨bx, 0, none⟩ = some (.int .i64 x.p.dk) := hX.cell 0
      have lt_x := hX.lt
      by_cases hd : (x.p.dk == d) = true
      · have hm2 : Hid (m + 1 = cntF (l.take (k + 1)) d) := by show m + 1 = _; rw [HNX.out, ← HM.out, if_pos hd]
        go_wp2
        go_roundw
        case rel => exact ⟨k + 1, m + 1, by go_num, by omega, by go_num, hm2, by omega, hB1⟩
        case measure => simp [intOf]; omega
      · have hd' : (x.p.dk == d) = false := Bool.eq_false_iff.2 hd
        have hm2 : Hid (m = cntF (l.take (k + 1)) d) := by show m = _; rw [HNX.out, ← HM.out, if_neg hd]; rfl
        clear hd
        go_wp2
        go_roundw
        case rel => exact ⟨k + 1, m, by go_num, by omega, rfl, hm2, by omega, hB1⟩
        case measure => simp [intOf]; omega
    · obtain rfl : k = n := by omega
      have hm2 : Hid (m = cntF l d) := by
        show m = cntF l d
        have h := HM.out
        rw [List.take_of_length_le (by rw [HL.out]; exact Nat.le_refl _)] at h
        exact h
      go_wp2
      go_ret
      exact ⟨by rw [← hm2.out]; rfl, hB⟩
end Go.Proofs.YtggdomeeienjbaaDoor

/- Layer 25's small case comes out right. No condition but on the digits' table. -/
namespace Go.Proofs.YtggdomeeienjbaaDoor
open Go.ChangeShapes Go.WideShapes Go.ChangeAt Go.RowKit Go.Sort
set_option linter.unusedSimpArgs false
set_option linter.unusedVariables false
def l32 : List Nat := [2, 20, 0, 0, 0, 0, 0, 0, 0, 0, 10, 3, 4, 5, 7, 9, 0, 0, 0, 0, 0, 4, 6, 0, 0, 0, 0, 2, 1, 0, 5, 5]
def pa1 : Pa := ⟨3, [], zeroDr, 20, [], 0, 0, 0, 0, 0, 0, 0⟩
def pa2 : Pa := ⟨4, [], zeroDr, 0, [4], 3, 9, 0, 0, 0, 0, 0⟩
def pa3 : Pa := ⟨1, [99, 32, 99, 111, 110, 116, 97, 99, 116, 32, 55, 32, 51, 10, 99, 32, 99, 111, 110, 116, 97, 99, 116, 32, 55, 32, 51, 10], zeroDr, 0, [], 0, 0, 0, 0, 0, 0, 0⟩
theorem acts32 : actsF l32 = [pa1, pa2, pa3] := by
  rw [actsF_next (by decide), actsF_next (by decide), actsF_next (by decide), actsF_nil (by decide)]
  decide +kernel
theorem dir25 : dirF 0 1 1 2 70 65 5 = ⟨1, 1, 2, 2, 3, 6, 8, 2, 0, 0, 0, 0, 0⟩ := by decide +kernel
theorem l32_by : ∀ x ∈ l32, x < 256 := by decide +kernel
set_option maxRecDepth 100000 in
theorem bs32 (w : World) : (Instr.buildSlice 22 32 #[(0, .int .u8 2), (1, .int .u8 20), (2, .int .u8 0), (3, .int .u8 0), (4, .int .u8 0), (5, .int .u8 0), (6, .int .u8 0), (7, .int .u8 0), (8, .int .u8 0), (9, .int .u8 0), (10, .int .u8 10), (11, .int .u8 3), (12, .int .u8 4), (13, .int .u8 5), (14, .int .u8 7), (15, .int .u8 9), (16, .int .u8 0), (17, .int .u8 0), (18, .int .u8 0), (19, .int .u8 0), (20, .int .u8 0), (21, .int .u8 4), (22, .int .u8 6), (23, .int .u8 0), (24, .int .u8 0), (25, .int .u8 0), (26, .int .u8 0), (27, .int .u8 2), (28, .int .u8 1), (29, .int .u8 0), (30, .int .u8 5), (31, .int .u8 5)]).run Tryd.prog w = .ok (.slice (some ⟨w.heap.size, 0, none⟩) 32 32) (w.alloc (.cells #[.int .u8 2, .int .u8 20, .int .u8 0, .int .u8 0, .int .u8 0, .int .u8 0, .int .u8 0, .int .u8 0, .int .u8 0, .int .u8 0, .int .u8 10, .int .u8 3, .int .u8 4, .int .u8 5, .int .u8 7, .int .u8 9, .int .u8 0, .int .u8 0, .int .u8 0, .int .u8 0, .int .u8 0, .int .u8 4, .int .u8 6, .int .u8 0, .int .u8 0, .int .u8 0, .int .u8 0, .int .u8 2, .int .u8 1, .int .u8 0, .int .u8 5, .int .u8 5] 5)) := by kernel_rfl
theorem wpList_bs32 {w : World} {ops : Array Oper} {rest : List Oper} {o : Oper} {a : Act} {Q : Exit → Act → World → Prop} (hgd : o.guard = none) (ho : o.op = .buildSlice 22 32 #[(0, .const (.int .u8 2)), (1, .const (.int .u8 20)), (2, .const (.int .u8 0)), (3, .const (.int .u8 0)), (4, .const (.int .u8 0)), (5, .const (.int .u8 0)), (6, .const (.int .u8 0)), (7, .const (.int .u8 0)), (8, .const (.int .u8 0)), (9, .const (.int .u8 0)), (10, .const (.int .u8 10)), (11, .const (.int .u8 3)), (12, .const (.int .u8 4)), (13, .const (.int .u8 5)), (14, .const (.int .u8 7)), (15, .const (.int .u8 9)), (16, .const (.int .u8 0)), (17, .const (.int .u8 0)), (18, .const (.int .u8 0)), (19, .const (.int .u8 0)), (20, .const (.int .u8 0)), (21, .const (.int .u8 4)), (22, .const (.int .u8 6)), (23, .const (.int .u8 0)), (24, .const (.int .u8 0)), (25, .const (.int .u8 0)), (26, .const (.int .u8 0)), (27, .const (.int .u8 2)), (28, .const (.int .u8 1)), (29, .const (.int .u8 0)), (30, .const (.int .u8 5)), (31, .const (.int .u8 5))])
    (h : wpList Tryd.prog ops Q rest (a.put o.dst (.slice (some ⟨w.heap.size, 0, none⟩) 32 32)) (w.alloc (.cells #[.int .u8 2, .int .u8 20, .int .u8 0, .int .u8 0, .int .u8 0, .int .u8 0, .int .u8 0, .int .u8 0, .int .u8 0, .int .u8 0, .int .u8 10, .int .u8 3, .int .u8 4, .int .u8 5, .int .u8 7, .int .u8 9, .int .u8 0, .int .u8 0, .int .u8 0, .int .u8 0, .int .u8 0, .int .u8 4, .int .u8 6, .int .u8 0, .int .u8 0, .int .u8 0, .int .u8 0, .int .u8 2, .int .u8 1, .int .u8 0, .int .u8 5, .int .u8 5] 5))) : wpList Tryd.prog ops Q (o :: rest) a w := by
  refine wpList_op_run hgd (buildSlice_run ho (vals := #[(0, .int .u8 2), (1, .int .u8 20), (2, .int .u8 0), (3, .int .u8 0), (4, .int .u8 0), (5, .int .u8 0), (6, .int .u8 0), (7, .int .u8 0), (8, .int .u8 0), (9, .int .u8 0), (10, .int .u8 10), (11, .int .u8 3), (12, .int .u8 4), (13, .int .u8 5), (14, .int .u8 7), (15, .int .u8 9), (16, .int .u8 0), (17, .int .u8 0), (18, .int .u8 0), (19, .int .u8 0), (20, .int .u8 0), (21, .int .u8 4), (22, .int .u8 6), (23, .int .u8 0), (24, .int .u8 0), (25, .int .u8 0), (26, .int .u8 0), (27, .int .u8 2), (28, .int .u8 1), (29, .int .u8 0), (30, .int .u8 5), (31, .int .u8 5)]) ?_ (bs32 w)) h
  simp [Act.eval]
set_option maxRecDepth 100000 in
theorem bld1 (w : World) : (Instr.build 36 #[(0, .int .i64 3), (3, .int .i64 20)]).run Tryd.prog w = .ok (.agg #[.int .i64 3, .string ⟨#[]⟩, .int .i64 0, .int .i64 0, .int .i64 0, .int .i64 0, .int .i64 0, .int .i64 0, .int .i64 0, .int .i64 0, .int .i64 0, .int .i64 0, .int .i64 0, .int .i64 0, .int .i64 0, .int .i64 20, .slice none 0 0, .int .i64 0, .int .i64 0, .int .i64 0, .int .i64 0, .int .i64 0, .int .i64 0, .int .i64 0]) w := by kernel_rfl
set_option maxRecDepth 100000 in
theorem bld2 (g : Nat) (w : World) : (Instr.build 36 #[(0, .int .i64 4), (4, .slice (some ⟨g, 0, none⟩) 1 1), (5, .int .i64 3), (6, .int .i64 9)]).run Tryd.prog w = .ok (.agg #[.int .i64 4, .string ⟨#[]⟩, .int .i64 0, .int .i64 0, .int .i64 0, .int .i64 0, .int .i64 0, .int .i64 0, .int .i64 0, .int .i64 0, .int .i64 0, .int .i64 0, .int .i64 0, .int .i64 0, .int .i64 0, .int .i64 0, .slice (some ⟨g, 0, none⟩) 1 1, .int .i64 3, .int .i64 9, .int .i64 0, .int .i64 0, .int .i64 0, .int .i64 0, .int .i64 0]) w := by kernel_rfl
set_option maxRecDepth 100000 in
theorem bld3 (w : World) : (Instr.build 36 #[(0, .int .i64 1), (1, .string ⟨#[99, 32, 99, 111, 110, 116, 97, 99, 116, 32, 55, 32, 51, 10, 99, 32, 99, 111, 110, 116, 97, 99, 116, 32, 55, 32, 51, 10]⟩)]).run Tryd.prog w = .ok (.agg #[.int .i64 1, .string ⟨#[99, 32, 99, 111, 110, 116, 97, 99, 116, 32, 55, 32, 51, 10, 99, 32, 99, 111, 110, 116, 97, 99, 116, 32, 55, 32, 51, 10]⟩, .int .i64 0, .int .i64 0, .int .i64 0, .int .i64 0, .int .i64 0, .int .i64 0, .int .i64 0, .int .i64 0, .int .i64 0, .int .i64 0, .int .i64 0, .int .i64 0, .int .i64 0, .int .i64 0, .slice none 0 0, .int .i64 0, .int .i64 0, .int .i64 0, .int .i64 0, .int .i64 0, .int .i64 0, .int .i64 0]) w := by kernel_rfl
set_option maxRecDepth 100000 in
theorem bs72 (g : Nat) (w : World) : (Instr.buildSlice 24 3 #[(0, .agg #[.int .i64 3, .string ⟨#[]⟩, .int .i64 0, .int .i64 0, .int .i64 0, .int .i64 0, .int .i64 0, .int .i64 0, .int .i64 0, .int .i64 0, .int .i64 0, .int .i64 0, .int .i64 0, .int .i64 0, .int .i64 0, .int .i64 20, .slice none 0 0, .int .i64 0, .int .i64 0, .int .i64 0, .int .i64 0, .int .i64 0, .int .i64 0, .int .i64 0]), (1, .agg #[.int .i64 4, .string ⟨#[]⟩, .int .i64 0, .int .i64 0, .int .i64 0, .int .i64 0, .int .i64 0, .int .i64 0, .int .i64 0, .int .i64 0, .int .i64 0, .int .i64 0, .int .i64 0, .int .i64 0, .int .i64 0, .int .i64 0, .slice (some ⟨g, 0, none⟩) 1 1, .int .i64 3, .int .i64 9, .int .i64 0, .int .i64 0, .int .i64 0, .int .i64 0, .int .i64 0]), (2, .agg #[.int .i64 1, .string ⟨#[99, 32, 99, 111, 110, 116, 97, 99, 116, 32, 55, 32, 51, 10, 99, 32, 99, 111, 110, 116, 97, 99, 116, 32, 55, 32, 51, 10]⟩, .int .i64 0, .int .i64 0, .int .i64 0, .int .i64 0, .int .i64 0, .int .i64 0, .int .i64 0, .int .i64 0, .int .i64 0, .int .i64 0, .int .i64 0, .int .i64 0, .int .i64 0, .int .i64 0, .slice none 0 0, .int .i64 0, .int .i64 0, .int .i64 0, .int .i64 0, .int .i64 0, .int .i64 0, .int .i64 0])]).run Tryd.prog w = .ok (.slice (some ⟨w.heap.size, 0, none⟩) 3 3) (w.alloc (.cells #[.int .i64 3, .string ⟨#[]⟩, .int .i64 0, .int .i64 0, .int .i64 0, .int .i64 0, .int .i64 0, .int .i64 0, .int .i64 0, .int .i64 0, .int .i64 0, .int .i64 0, .int .i64 0, .int .i64 0, .int .i64 0, .int .i64 20, .slice none 0 0, .int .i64 0, .int .i64 0, .int .i64 0, .int .i64 0, .int .i64 0, .int .i64 0, .int .i64 0, .int .i64 4, .string ⟨#[]⟩, .int .i64 0, .int .i64 0, .int .i64 0, .int .i64 0, .int .i64 0, .int .i64 0, .int .i64 0, .int .i64 0, .int .i64 0, .int .i64 0, .int .i64 0, .int .i64 0, .int .i64 0, .int .i64 0, .slice (some ⟨g, 0, none⟩) 1 1, .int .i64 3, .int .i64 9, .int .i64 0, .int .i64 0, .int .i64 0, .int .i64 0, .int .i64 0, .int .i64 1, .string ⟨#[99, 32, 99, 111, 110, 116, 97, 99, 116, 32, 55, 32, 51, 10, 99, 32, 99, 111, 110, 116, 97, 99, 116, 32, 55, 32, 51, 10]⟩, .int .i64 0, .int .i64 0, .int .i64 0, .int .i64 0, .int .i64 0, .int .i64 0, .int .i64 0, .int .i64 0, .int .i64 0, .int .i64 0, .int .i64 0, .int .i64 0, .int .i64 0, .int .i64 0, .slice none 0 0, .int .i64 0, .int .i64 0, .int .i64 0, .int .i64 0, .int .i64 0, .int .i64 0, .int .i64 0] 36)) := by kernel_rfl
theorem wpList_bs72 {w : World} {ops : Array Oper} {rest : List Oper} {o : Oper} {a : Act} {Q : Exit → Act → World → Prop} (hgd : o.guard = none) (x y z : Operand) (ho : o.op = .buildSlice 24 3 #[(0, x), (1, y), (2, z)]) (g : Nat)
    (hx : a.eval x = .agg #[.int .i64 3, .string ⟨#[]⟩, .int .i64 0, .int .i64 0, .int .i64 0, .int .i64 0, .int .i64 0, .int .i64 0, .int .i64 0, .int .i64 0, .int .i64 0, .int .i64 0, .int .i64 0, .int .i64 0, .int .i64 0, .int .i64 20, .slice none 0 0, .int .i64 0, .int .i64 0, .int .i64 0, .int .i64 0, .int .i64 0, .int .i64 0, .int .i64 0]) (hy : a.eval y = .agg #[.int .i64 4, .string ⟨#[]⟩, .int .i64 0, .int .i64 0, .int .i64 0, .int .i64 0, .int .i64 0, .int .i64 0, .int .i64 0, .int .i64 0, .int .i64 0, .int .i64 0, .int .i64 0, .int .i64 0, .int .i64 0, .int .i64 0, .slice (some ⟨g, 0, none⟩) 1 1, .int .i64 3, .int .i64 9, .int .i64 0, .int .i64 0, .int .i64 0, .int .i64 0, .int .i64 0]) (hz : a.eval z = .agg #[.int .i64 1, .string ⟨#[99, 32, 99, 111, 110, 116, 97, 99, 116, 32, 55, 32, 51, 10, 99, 32, 99, 111, 110, 116, 97, 99, 116, 32, 55, 32, 51, 10]⟩, .int .i64 0, .int .i64 0, .int .i64 0, .int .i64 0, .int .i64 0, .int .i64 0, .int .i64 0, .int .i64 0, .int .i64 0, .int .i64 0, .int .i64 0, .int .i64 0, .int .i64 0, .int .i64 0, .slice none 0 0, .int .i64 0, .int .i64 0, .int .i64 0, .int .i64 0, .int .i64 0, .int .i64 0, .int .i64 0])
    (h : wpList Tryd.prog ops Q rest (a.put o.dst (.slice (some ⟨w.heap.size, 0, none⟩) 3 3)) (w.alloc (.cells #[.int .i64 3, .string ⟨#[]⟩, .int .i64 0, .int .i64 0, .int .i64 0, .int .i64 0, .int .i64 0, .int .i64 0, .int .i64 0, .int .i64 0, .int .i64 0, .int .i64 0, .int .i64 0, .int .i64 0, .int .i64 0, .int .i64 20, .slice none 0 0, .int .i64 0, .int .i64 0, .int .i64 0, .int .i64 0, .int .i64 0, .int .i64 0, .int .i64 0, .int .i64 4, .string ⟨#[]⟩, .int .i64 0, .int .i64 0, .int .i64 0, .int .i64 0, .int .i64 0, .int .i64 0, .int .i64 0, .int .i64 0, .int .i64 0, .int .i64 0, .int .i64 0, .int .i64 0, .int .i64 0, .int .i64 0, .slice (some ⟨g, 0, none⟩) 1 1, .int .i64 3, .int .i64 9, .int .i64 0, .int .i64 0, .int .i64 0, .int .i64 0, .int .i64 0, .int .i64 1, .string ⟨#[99, 32, 99, 111, 110, 116, 97, 99, 116, 32, 55, 32, 51, 10, 99, 32, 99, 111, 110, 116, 97, 99, 116, 32, 55, 32, 51, 10]⟩, .int .i64 0, .int .i64 0, .int .i64 0, .int .i64 0, .int .i64 0, .int .i64 0, .int .i64 0, .int .i64 0, .int .i64 0, .int .i64 0, .int .i64 0, .int .i64 0, .int .i64 0, .int .i64 0, .slice none 0 0, .int .i64 0, .int .i64 0, .int .i64 0, .int .i64 0, .int .i64 0, .int .i64 0, .int .i64 0] 36))) : wpList Tryd.prog ops Q (o :: rest) a w := by
  refine wpList_op_run hgd (buildSlice_run ho (vals := #[(0, .agg #[.int .i64 3, .string ⟨#[]⟩, .int .i64 0, .int .i64 0, .int .i64 0, .int .i64 0, .int .i64 0, .int .i64 0, .int .i64 0, .int .i64 0, .int .i64 0, .int .i64 0, .int .i64 0, .int .i64 0, .int .i64 0, .int .i64 20, .slice none 0 0, .int .i64 0, .int .i64 0, .int .i64 0, .int .i64 0, .int .i64 0, .int .i64 0, .int .i64 0]), (1, .agg #[.int .i64 4, .string ⟨#[]⟩, .int .i64 0, .int .i64 0, .int .i64 0, .int .i64 0, .int .i64 0, .int .i64 0, .int .i64 0, .int .i64 0, .int .i64 0, .int .i64 0, .int .i64 0, .int .i64 0, .int .i64 0, .int .i64 0, .slice (some ⟨g, 0, none⟩) 1 1, .int .i64 3, .int .i64 9, .int .i64 0, .int .i64 0, .int .i64 0, .int .i64 0, .int .i64 0]), (2, .agg #[.int .i64 1, .string ⟨#[99, 32, 99, 111, 110, 116, 97, 99, 116, 32, 55, 32, 51, 10, 99, 32, 99, 111, 110, 116, 97, 99, 116, 32, 55, 32, 51, 10]⟩, .int .i64 0, .int .i64 0, .int .i64 0, .int .i64 0, .int .i64 0, .int .i64 0, .int .i64 0, .int .i64 0, .int .i64 0, .int .i64 0, .int .i64 0, .int .i64 0, .int .i64 0, .int .i64 0, .slice none 0 0, .int .i64 0, .int .i64 0, .int .i64 0, .int .i64 0, .int .i64 0, .int .i64 0, .int .i64 0])]) ?_ (bs72 g w)) h
  simp [hx, hy, hz]
theorem scount_is (A : Option Addr) (n c : Nat) (l : List Ax) (d K : Int) (w : World) (hl : l.length = n) (hn : n ≤ 1000000) (h : Sl w w.heap.size 24 A n c (flatAx l)) (hK : ((cntF l d : Nat) : Int) = K) :
    Calls Tryd.prog 13 #[.slice A n c, .int .i64 d] w fun e w' => e = .returned (.int .i64 K) ∧ Below w.heap.size w w' := by
  subst hK
  exact scount_any A n c l d w hl hn h
set_option maxHeartbeats 16000000 in
set_option maxRecDepth 100000 in
theorem small25_any (w : World) (ht : TenTab w) : Calls Tryd.prog 6 #[] w fun e w' => e = .returned (.bool true) ∧ Below w.heap.size w w' := by
  have TT := Lib.hid ht
  clear ht
  go_enter Tryd.func6, Tryd.ntmps6
  go_wp2_with (refine wpList_bs32 (by rfl) (by rfl) ?_)
  have hlit := own_lit w 0 5 1 32 #[.int .u8 2, .int .u8 20, .int .u8 0, .int .u8 0, .int .u8 0, .int .u8 0, .int .u8 0, .int .u8 0, .int .u8 0, .int .u8 0, .int .u8 10, .int .u8 3, .int .u8 4, .int .u8 5, .int .u8 7, .int .u8 9, .int .u8 0, .int .u8 0, .int .u8 0, .int .u8 0, .int .u8 0, .int .u8 4, .int .u8 6, .int .u8 0, .int .u8 0, .int .u8 0, .int .u8 0, .int .u8 2, .int .u8 1, .int .u8 0, .int .u8 5, .int .u8 5] (by omega) rfl (by simp [maxLen])
  have hB : Below w.heap.size w (w.alloc (.cells #[.int .u8 2, .int .u8 20, .int .u8 0, .int .u8 0, .int .u8 0, .int .u8 0, .int .u8 0, .int .u8 0, .int .u8 0, .int .u8 0, .int .u8 10, .int .u8 3, .int .u8 4, .int .u8 5, .int .u8 7, .int .u8 9, .int .u8 0, .int .u8 0, .int .u8 0, .int .u8 0, .int .u8 0, .int .u8 4, .int .u8 6, .int .u8 0, .int .u8 0, .int .u8 0, .int .u8 0, .int .u8 2, .int .u8 1, .int .u8 0, .int .u8 5, .int .u8 5] 5)) := by (repeat (first | exact Below.refl _ _ | refine Below.alloc ?_ (by first | omega | (simp; done) | (simp; omega)) _ | refine Below.setCell ?_ (by first | omega | (simp; done) | (simp; omega)) _ | refine Below.drew ?_))
  have hs := hB.size
  generalize w.alloc (.cells #[.int .u8 2, .int .u8 20, .int .u8 0, .int .u8 0, .int .u8 0, .int .u8 0, .int .u8 0, .int .u8 0, .int .u8 0, .int .u8 0, .int .u8 10, .int .u8 3, .int .u8 4, .int .u8 5, .int .u8 7, .int .u8 9, .int .u8 0, .int .u8 0, .int .u8 0, .int .u8 0, .int .u8 0, .int .u8 4, .int .u8 6, .int .u8 0, .int .u8 0, .int .u8 0, .int .u8 0, .int .u8 2, .int .u8 1, .int .u8 0, .int .u8 5, .int .u8 5] 5) = w1 at *
  refine (sacts_any (some ⟨w.heap.size, 0, none⟩) 32 32 l32 rfl (by omega) l32_by w1 (TT.out.below hB) (Sl.of_own hlit)).mono ?_
  rintro e w2 ⟨v, L1, rfl, hI, hb⟩
  rw [acts32, show 32 / 10 = 3 from rfl] at hI
  replace hB := hB.trans (hb.mono hs)
  replace hs := hB.size
  clear hb hlit
  have ho := hI.own
  obtain ⟨A1, c1, rfl⟩ := slice_of_own ho
  clear ho
  have HI := Lib.hid hI
  clear hI
  go_upto_region 2 with fail
  have hint := own_lit w2 0 3 1 1 #[.int .i64 4] (by omega) rfl (by simp [maxLen])
  go_upto_region 3 with (first | (refine wpList_build_run _ (by rfl) 36 #[(0, .const (.int .i64 3)), (3, .const (.int .i64 20))] (by rfl) #[(0, .int .i64 3), (3, .int .i64 20)] (by rfl) (bld1 _) ?_) | (refine wpList_build_run _ (by rfl) 36 #[(0, .const (.int .i64 4)), (4, .tmp 11), (5, .const (.int .i64 3)), (6, .const (.int .i64 9))] (by rfl) #[(0, .int .i64 4), (4, .slice (some ⟨w2.heap.size, 0, none⟩) 1 1), (5, .int .i64 3), (6, .int .i64 9)] (by rfl) (bld2 w2.heap.size _) ?_) | (refine wpList_build_run _ (by rfl) 36 #[(0, .const (.int .i64 1)), (1, .const (.string ⟨#[99, 32, 99, 111, 110, 116, 97, 99, 116, 32, 55, 32, 51, 10, 99, 32, 99, 111, 110, 116, 97, 99, 116, 32, 55, 32, 51, 10]⟩))] (by rfl) #[(0, .int .i64 1), (1, .string ⟨#[99, 32, 99, 111, 110, 116, 97, 99, 116, 32, 55, 32, 51, 10, 99, 32, 99, 111, 110, 116, 97, 99, 116, 32, 55, 32, 51, 10]⟩)] (by rfl) (bld3 _) ?_) | (refine wpList_bs72 (by rfl) (.tmp 10) (.tmp 12) (.tmp 13) (by rfl) w2.heap.size (by rfl) (by rfl) (by rfl) ?_))
  have hbi : Below w2.heap.size w2 (w2.alloc (.cells #[.int .i64 4] 3)) := by (repeat (first | exact Below.refl _ _ | refine Below.alloc ?_ (by first | omega | (simp; done) | (simp; omega)) _ | refine Below.setCell ?_ (by first | omega | (simp; done) | (simp; omega)) _ | refine Below.drew ?_))
  have hrow := own_lit (w2.alloc (.cells #[.int .i64 4] 3)) 0 36 24 3 #[.int .i64 3, .string ⟨#[]⟩, .int .i64 0, .int .i64 0, .int .i64 0, .int .i64 0, .int .i64 0, .int .i64 0, .int .i64 0, .int .i64 0, .int .i64 0, .int .i64 0, .int .i64 0, .int .i64 0, .int .i64 0, .int .i64 20, .slice none 0 0, .int .i64 0, .int .i64 0, .int .i64 0, .int .i64 0, .int .i64 0, .int .i64 0, .int .i64 0, .int .i64 4, .string ⟨#[]⟩, .int .i64 0, .int .i64 0, .int .i64 0, .int .i64 0, .int .i64 0, .int .i64 0, .int .i64 0, .int .i64 0, .int .i64 0, .int .i64 0, .int .i64 0, .int .i64 0, .int .i64 0, .int .i64 0, .slice (some ⟨w2.heap.size, 0, none⟩) 1 1, .int .i64 3, .int .i64 9, .int .i64 0, .int .i64 0, .int .i64 0, .int .i64 0, .int .i64 0, .int .i64 1, .string ⟨#[99, 32, 99, 111, 110, 116, 97, 99, 116, 32, 55, 32, 51, 10, 99, 32, 99, 111, 110, 116, 97, 99, 116, 32, 55, 32, 51, 10]⟩, .int .i64 0, .int .i64 0, .int .i64 0, .int .i64 0, .int .i64 0, .int .i64 0, .int .i64 0, .int .i64 0, .int .i64 0, .int .i64 0, .int .i64 0, .int .i64 0, .int .i64 0, .int .i64 0, .slice none 0 0, .int .i64 0, .int .i64 0, .int .i64 0, .int .i64 0, .int .i64 0, .int .i64 0, .int .i64 0] (by omega) rfl (by simp [maxLen])
  have hbr : Below (w2.alloc (.cells #[.int .i64 4] 3)).heap.size (w2.alloc (.cells #[.int .i64 4] 3)) ((w2.alloc (.cells #[.int .i64 4] 3)).alloc (.cells #[.int .i64 3, .string ⟨#[]⟩, .int .i64 0, .int .i64 0, .int .i64 0, .int .i64 0, .int .i64 0, .int .i64 0, .int .i64 0, .int .i64 0, .int .i64 0, .int .i64 0, .int .i64 0, .int .i64 0, .int .i64 0, .int .i64 20, .slice none 0 0, .int .i64 0, .int .i64 0, .int .i64 0, .int .i64 0, .int .i64 0, .int .i64 0, .int .i64 0, .int .i64 4, .string ⟨#[]⟩, .int .i64 0, .int .i64 0, .int .i64 0, .int .i64 0, .int .i64 0, .int .i64 0, .int .i64 0, .int .i64 0, .int .i64 0, .int .i64 0, .int .i64 0, .int .i64 0, .int .i64 0, .int .i64 0, .slice (some ⟨w2.heap.size, 0, none⟩) 1 1, .int .i64 3, .int .i64 9, .int .i64 0, .int .i64 0, .int .i64 0, .int .i64 0, .int .i64 0, .int .i64 1, .string ⟨#[99, 32, 99, 111, 110, 116, 97, 99, 116, 32, 55, 32, 51, 10, 99, 32, 99, 111, 110, 116, 97, 99, 116, 32, 55, 32, 51, 10]⟩, .int .i64 0, .int .i64 0, .int .i64 0, .int .i64 0, .int .i64 0, .int .i64 0, .int .i64 0, .int .i64 0, .int .i64 0, .int .i64 0, .int .i64 0, .int .i64 0, .int .i64 0, .int .i64 0, .slice none 0 0, .int .i64 0, .int .i64 0, .int .i64 0, .int .i64 0, .int .i64 0, .int .i64 0, .int .i64 0] 36)) := by (repeat (first | exact Below.refl _ _ | refine Below.alloc ?_ (by first | omega | (simp; done) | (simp; omega)) _ | refine Below.setCell ?_ (by first | omega | (simp; done) | (simp; omega)) _ | refine Below.drew ?_))
  have hb2 := hbi.trans (hbr.mono hbi.size)
  have hi2 := (Sl.of_own hint).up hbr
  have hr2 := Sl.of_own hrow
  replace hB := hB.trans (hb2.mono hs)
  replace hs := hB.size
  have HI2 := Lib.hid (HI.out.below hb2)
  clear HI hint hrow hbr hbi hb2
  generalize hg : w2.heap.size = g at *
  have e9 : (w2.alloc (.cells #[.int .i64 4] 3)).heap.size = g + 1 := by rw [World.size_alloc, hg]
  rw [e9] at hr2
  try rw [e9]
  clear e9 hg
  generalize (w2.alloc (.cells #[.int .i64 4] 3)).alloc (.cells #[.int .i64 3, .string ⟨#[]⟩, .int .i64 0, .int .i64 0, .int .i64 0, .int .i64 0, .int .i64 0, .int .i64 0, .int .i64 0, .int .i64 0, .int .i64 0, .int .i64 0, .int .i64 0, .int .i64 0, .int .i64 0, .int .i64 20, .slice none 0 0, .int .i64 0, .int .i64 0, .int .i64 0, .int .i64 0, .int .i64 0, .int .i64 0, .int .i64 0, .int .i64 4, .string ⟨#[]⟩, .int .i64 0, .int .i64 0, .int .i64 0, .int .i64 0, .int .i64 0, .int .i64 0, .int .i64 0, .int .i64 0, .int .i64 0, .int .i64 0, .int .i64 0, .int .i64 0, .int .i64 0, .int .i64 0, .slice (some ⟨g, 0, none⟩) 1 1, .int .i64 3, .int .i64 9, .int .i64 0, .int .i64 0, .int .i64 0, .int .i64 0, .int .i64 0, .int .i64 1, .string ⟨#[99, 32, 99, 111, 110, 116, 97, 99, 116, 32, 55, 32, 51, 10, 99, 32, 99, 111, 110, 116, 97, 99, 116, 32, 55, 32, 51, 10]⟩, .int .i64 0, .int .i64 0, .int .i64 0, .int .i64 0, .int .i64 0, .int .i64 0, .int .i64 0, .int .i64 0, .int .i64 0, .int .i64 0, .int .i64 0, .int .i64 0, .int .i64 0, .int .i64 0, .slice none 0 0, .int .i64 0, .int .i64 0, .int .i64 0, .int .i64 0, .int .i64 0, .int .i64 0, .int .i64 0] 36) = w3 at *
  go_wp2_with fail
  refine (sdir_any 0 0 1 1 2 70 65 5 0 0 w3 (by decide) (by decide) (by decide) (by decide) (by decide) (by decide) (by decide) (by decide) (by decide) (by decide) _ dir25).mono ?_
  rintro e w4 ⟨rfl, hb⟩
  replace hi2 := hi2.up hb
  replace hr2 := hr2.up hb
  replace HI2 := Lib.hid (HI2.out.below hb)
  replace hB := hB.trans (hb.mono hs)
  replace hs := hB.size
  clear hb
  dsimp only
  go_upto_region 4 with fail
  have hD := Blok.new w4 31 #[.int .i64 1, .int .i64 1, .int .i64 2, .int .i64 2, .int .i64 3, .int .i64 6, .int .i64 8, .int .i64 2, .int .i64 0, .int .i64 0, .int .i64 0, .int .i64 0, .int .i64 0]
  have hb : Below w4.heap.size w4 (w4.alloc (.cells #[.int .i64 1, .int .i64 1, .int .i64 2, .int .i64 2, .int .i64 3, .int .i64 6, .int .i64 8, .int .i64 2, .int .i64 0, .int .i64 0, .int .i64 0, .int .i64 0, .int .i64 0] 31)) := by (repeat (first | exact Below.refl _ _ | refine Below.alloc ?_ (by first | omega | (simp; done) | (simp; omega)) _ | refine Below.setCell ?_ (by first | omega | (simp; done) | (simp; omega)) _ | refine Below.drew ?_))
  replace hi2 := hi2.up hb
  replace hr2 := hr2.up hb
  replace HI2 := Lib.hid (HI2.out.below hb)
  replace hB := hB.trans (hb.mono hs)
  replace hs := hB.size
  clear hb
  generalize w4.alloc (.cells #[.int .i64 1, .int .i64 1, .int .i64 2, .int .i64 2, .int .i64 3, .int .i64 6, .int .i64 8, .int .i64 2, .int .i64 0, .int .i64 0, .int .i64 0, .int .i64 0, .int .i64 0] 31) = w5 at *
  generalize w4.heap.size = bD at *
  have HL2 : Hid (∃ L2 : List Ax, L2.length = 3 ∧ L2.map Ax.p = [pa1, pa2, pa3] ∧ Sl w5 w5.heap.size 24 (some ⟨g + 1, 0, none⟩) 3 3 (flatAx L2) ∧ (∀ x ∈ L2, x.ok w5) ∧ Sl w5 w5.heap.size 24 (some ⟨g + 1, 0, none⟩) 2 3 (flatAx (L2.take 2)) ∧ (L2.take 2).map Ax.p = [pa1, pa2]) := by
    refine ⟨[⟨pa1, none, 0, 0⟩, ⟨pa2, some ⟨g, 0, none⟩, 1, 1⟩, ⟨pa3, none, 0, 0⟩], rfl, rfl, hr2, ?_, hr2.upto (m := 2) (by omega), rfl⟩
    intro x hx
    rcases List.mem_cons.1 hx with rfl | hx
    · exact ⟨rfl, by show 0 ≤ 1000000; omega, Sl.nil0 _ _ _⟩
    rcases List.mem_cons.1 hx with rfl | hx
    · exact ⟨rfl, by show 1 ≤ 1000000; omega, hi2⟩
    rcases List.mem_cons.1 hx with rfl | hx
    · exact ⟨rfl, by show 0 ≤ 1000000; omega, Sl.nil0 _ _ _⟩
    cases hx
  clear hr2 hi2
  obtain ⟨L2, k1, k2, k3, k4, k5, k6⟩ := HL2.out
  obtain ⟨i1, i2, i3, i4⟩ := HI2.out
  have q1 : decide (L1.map Ax.p = L2.map Ax.p) = true := by rw [i2, k2]; exact decide_eq_true rfl
  have q2 : decide (L1.map Ax.p = (L2.take 2).map Ax.p) = false := by rw [i2, k6]; exact decide_eq_false (by simp)
  have q3 : ((cntF L1 4 : Nat) : Int) = 1 := by
    have e : cntF L1 4 = ((L1.map Ax.p).filter fun p => p.dk == 4).length := by unfold cntF; rw [List.filter_map, List.length_map]; rfl
    rw [e, i2]
    decide
  have HQ1 := Lib.hid q1
  have HQ2 := Lib.hid q2
  have HQ3 := Lib.hid q3
  have HLN := Lib.hid (⟨i1, k1, by rw [List.length_take, k1]; rfl⟩ : L1.length = 3 ∧ L2.length = 3 ∧ (L2.take 2).length = 2)
  have HA := Lib.hid (fun d os => (Sl.of_own i3).up (below_regrown w5 d os))
  have HB1 := Lib.hid (fun d os => k3.up (below_regrown w5 d os))
  have HB2 := Lib.hid (fun d os => k5.up (below_regrown w5 d os))
  have HKA := Lib.hid (fun d os => fun (x : Ax) hx => (i4 x hx).ok.below (below_regrown w5 d os))
  have HKB := Lib.hid (fun d os => fun (x : Ax) hx => (k4 x hx).below (below_regrown w5 d os))
  have HKC := Lib.hid (fun d os => fun (x : Ax) (hx : x ∈ L2.take 2) => (k4 x (List.mem_of_mem_take hx)).below (below_regrown w5 d os))
  clear HL2 HI2 q1 q2 q3 i1 i2 i3 i4 k1 k2 k3 k4 k5 k6
  have hEQ : ∀ w0 : World, (binOp .eql 31 (.agg #[.int .i64 1, .int .i64 1, .int .i64 2, .int .i64 2, .int .i64 3, .int .i64 6, .int .i64 8, .int .i64 2, .int .i64 0, .int .i64 0, .int .i64 0, .int .i64 0, .int .i64 0]) (.agg #[.int .i64 1, .int .i64 1, .int .i64 2, .int .i64 2, .int .i64 3, .int .i64 6, .int .i64 8, .int .i64 2, .int .i64 0, .int .i64 0, .int .i64 0, .int .i64 0, .int .i64 0])).run Tryd.prog w0 = .ok (.bool true) w0 := fun w0 => by have h := eqlDr ⟨1, 1, 2, 2, 3, 6, 8, 2, 0, 0, 0, 0, 0⟩ ⟨1, 1, 2, 2, 3, 6, 8, 2, 0, 0, 0, 0, 0⟩ w0; simpa using h
  have y0 : w5.cell? ⟨bD, 0, none⟩ = some (.int .i64 1) := hD.cell 0
  have y1 : w5.cell? ⟨bD, 1, none⟩ = some (.int .i64 1) := hD.cell 1
  have y2 : w5.cell? ⟨bD, 2, none⟩ = some (.int .i64 2) := hD.cell 2
  have y3 : w5.cell? ⟨bD, 3, none⟩ = some (.int .i64 2) := hD.cell 3
  have y4 : w5.cell? ⟨bD, 4, none⟩ = some (.int .i64 3) := hD.cell 4
  have y5 : w5.cell? ⟨bD, 5, none⟩ = some (.int .i64 6) := hD.cell 5
  have y6 : w5.cell? ⟨bD, 6, none⟩ = some (.int .i64 8) := hD.cell 6
  have y7 : w5.cell? ⟨bD, 7, none⟩ = some (.int .i64 2) := hD.cell 7
  have y8 : w5.cell? ⟨bD, 8, none⟩ = some (.int .i64 0) := hD.cell 8
  have y9 : w5.cell? ⟨bD, 9, none⟩ = some (.int .i64 0) := hD.cell 9
  have y10 : w5.cell? ⟨bD, 10, none⟩ = some (.int .i64 0) := hD.cell 10
  have y11 : w5.cell? ⟨bD, 11, none⟩ = some (.int .i64 0) := hD.cell 11
  have y12 : w5.cell? ⟨bD, 12, none⟩ = some (.int .i64 0) := hD.cell 12
  have lt_y := hD.lt
  have q_y0 := fun d os => cell_regrown y0 d os
  have q_y1 := fun d os => cell_regrown y1 d os
  have q_y2 := fun d os => cell_regrown y2 d os
  have q_y3 := fun d os => cell_regrown y3 d os
  have q_y4 := fun d os => cell_regrown y4 d os
  have q_y5 := fun d os => cell_regrown y5 d os
  have q_y6 := fun d os => cell_regrown y6 d os
  have q_y7 := fun d os => cell_regrown y7 d os
  have q_y8 := fun d os => cell_regrown y8 d os
  have q_y9 := fun d os => cell_regrown y9 d os
  have q_y10 := fun d os => cell_regrown y10 d os
  have q_y11 := fun d os => cell_regrown y11 d os
  have q_y12 := fun d os => cell_regrown y12 d os
  try simp only [List.append]
  first | refine wp_region_text_below ?_ | refine wp_region_quiet_below (by kernel_rfl) (by kernel_rfl) ?_
  repeat (go_big_quiet_step ((first | (go_at_call 12; first | with_reducible exact Calls.regrown_of (ssame_any A1 (some ⟨g + 1, 0, none⟩) 3 c1 3 3 L1 L2 _ HLN.out.1 HLN.out.2.1 (by omega) (by omega) (HA.out _ _) (HB1.out _ _) (HKA.out _ _) (HKB.out _ _) _ HQ1.out) | with_reducible exact Calls.regrown_of (ssame_any A1 (some ⟨g + 1, 0, none⟩) 3 c1 2 3 L1 (L2.take 2) _ HLN.out.1 HLN.out.2.2 (by omega) (by omega) (HA.out _ _) (HB2.out _ _) (HKA.out _ _) (HKC.out _ _) _ HQ2.out)) | (go_at_call 13; with_reducible exact Calls.regrown_of (scount_is A1 3 c1 L1 4 1 _ HLN.out.1 (by omega) (HA.out _ _) HQ3.out)))))
  refine wpQuiet_nil ?_
  intro _ hqw
  obtain ⟨pq, hqw⟩ := hqw
  subst hqw
  go_wp2
  go_ret
  exact ⟨rfl, hB.trans ((below_regrown _ _ _).mono hs)⟩
end Go.Proofs.YtggdomeeienjbaaDoor

/- From a row's list of package-level variables to the fact that the walks want: the library's table of the powers of ten. -/
namespace Go.Proofs.YtggdomeeienjbaaDoor
open Go.ChangeShapes Go.WideShapes Go.ChangeAt Go.RowKit Go.Sort
set_option linter.unusedSimpArgs false
set_option linter.unusedVariables false

theorem ten_parts {W : World} (h : laidMetH Tryd.prog Rows.scriptPartsRow.laid W) : TenTab W := by
  have h1 := laidMetH.filter (fun x => x.1 == "internal/strconv.uint64pow10") h
  rw [MakeChecks.laidMetH_plain _ _ _ (by kernel_rfl)] at h1
  have h2 : laidMet Tryd.prog [("internal/strconv.uint64pow10", Lib.tabData .u64 Lib.pow10Tab)] W := h1
  exact Lib.tabIs_of_head (g := 1) (t := 105) (e := 98) (n := 20) (by kernel_rfl) (by kernel_rfl) Tryd.underlying105 Tryd.underlying98 (by kernel_rfl) (by kernel_rfl) h2
end Go.Proofs.YtggdomeeienjbaaDoor

/- An argument that is a slice of bytes, opened. No condition. -/
namespace Go.Proofs.YtggdomeeienjbaaDoor
open Go.ChangeShapes Go.WideShapes Go.ChangeAt Go.RowKit Go.Sort
set_option linter.unusedSimpArgs false
set_option linter.unusedVariables false
variable {H : Type} {enc : TypeId × Value → H} {P : Program}
theorem open_bytesS {w : World} {base b0 : Nat} {r : Reach} {spare : Nat → Bool} {held : Bool} {t e : TypeId} {v : Value} {d : DataW H} {p : List MemPlace} (ht : P.underlying t = some (.slice e)) (he : P.underlying e = some (.int .u8)) (hK : P.cellsOf e = 1)
    (hv : Value.okWide P w r b0 t v) (h : DataW.Trod enc P w base spare held t v d p) :
    ∃ (A : Option Addr) (n c : Nat) (ns : List Nat), v = .slice A n c ∧ Sl w w.heap.size 1 A n c (cB ns) ∧ ns.length = n ∧ ∀ m ∈ ns, m < 256 := by
  obtain ⟨A, n, c, rfl⟩ := okWide_slice ht hv
  obtain ⟨fuel, hx⟩ := h
  rcases Go.Deep.open_slice ht hx with ⟨h0, _⟩ | ⟨a, len, cap, m, q', D, Pl, hcs, hb, hl, hm, hmm, _, hi⟩
  · have h0' : Value.slice A n c = .slice none 0 0 := by simpa [Value.cells] using h0
    injection h0' with h1 h2 h3
    subst h1 h2 h3
    exact ⟨none, 0, 0, [], rfl, Sl.nil0 _ _ _, by simp, by simp⟩
  · have h0' : Value.slice A n c = .slice (some a) len cap := by simpa [Value.cells] using hcs
    injection h0' with h1 h2 h3
    subst h1 h2 h3
    have hnm : n ≤ m := by rw [hmm]; split <;> omega
    have key : ∀ i, i ≤ n → ∃ ns : List Nat, ns.length = i ∧ (∀ j u, (cB ns)[j]? = some u → w.cell? (a.add j) = some u) ∧ ∀ m ∈ ns, m < 256 := by
      intro i
      induction i with
      | zero => exact fun _ => ⟨[], by simp, by simp [cB], by simp⟩
      | succ i ih =>
        intro hin
        obtain ⟨ns, n1, n2, n3⟩ := ih (by omega)
        obtain ⟨cs', hc, htr⟩ := hi i (by omega)
        obtain ⟨_, hcl, hat⟩ := World.cells?_some hc
        obtain ⟨x, e1, _, e2⟩ := DataW.trod_int he htr
        have hx : 0 ≤ x ∧ x ≤ 255 := by
          simp [Lit.wf, IntKind.min, IntKind.max, IntKind.signed, IntKind.bits] at e2
          omega
        refine ⟨ns ++ [x.toNat], by simp [n1], fun j u hu => ?_, fun y hy => ?_⟩
        · unfold cB at hu
          rw [List.map_append] at hu
          by_cases hj : j < ns.length
          · rw [List.getElem?_append_left (by simpa using hj)] at hu
            exact n2 j u hu
          · rw [List.getElem?_append_right (by simpa using hj)] at hu
            have hj0 : j = ns.length := by
              have := (List.getElem?_eq_some_iff.1 hu).1
              simp at this
              omega
            subst hj0
            have h4 := hat 0 (by rw [hK]; omega)
            rw [add_plus, hK, Nat.mul_one, Nat.add_zero] at h4
            rw [n1, h4]
            have e3 : cs'[0]? = some (.int .u8 x) := by rw [e1]; rfl
            rw [e3, ← hu]
            simp
            omega
        · rcases List.mem_append.1 hy with hy | hy
          · exact n3 y hy
          · simp at hy; omega
    obtain ⟨ns, n1, n2, n3⟩ := key n (Nat.le_refl _)
    refine ⟨some a, n, c, ns, rfl, ⟨⟨by simp [cB, n1], fun hn => ⟨a, rfl, ?_, n2⟩⟩, hl, hm, fun e => by cases e⟩, n1, n3⟩
    have h0 : 0 < ns.length := by omega
    have := n2 0 _ (cB_at ns 0 h0)
    rw [add_zero_] at this
    exact block_lt_of_cell this
end Go.Proofs.YtggdomeeienjbaaDoor

/- append under a guard: a row behind an owned row. No condition but on sizes. -/
namespace Go.Proofs.YtggdomeeienjbaaDoor
open Go.ChangeShapes Go.WideShapes Go.ChangeAt Go.RowKit Go.Sort
set_option linter.unusedSimpArgs false
set_option linter.unusedVariables false
theorem wpList_append_lst_on {P : Program} (w : World) {ops : Array Oper} {rest : List Oper} {o : Oper} {a : Act} {Q : Exit → Act → World → Prop} (hw : Region.wanted o (yielded ops a.tmps) = true) (s x : Operand) (t : TypeId)
    (ho : o.op = .call { callee := .builtin .append, args := #[s, x], argTypes := #[t, t] })
    (base : Nat) (e : TypeId) (i : TypeInfo) (z : Value) (size bytes : Nat) (ht : P.underlying t = some (.slice e)) (hi : P.info? e = some i) (hz : i.zero = some z)
    (hsize : i.size = size) (hby : i.bytes = bytes) (hzs : z.cells.size = size) (hsz : 0 < size)
    (v : Value) (n : Nat) (xs : List Value) (hs : a.eval s = v) (hown : w.ownsRow base e size v n xs)
    (B : Nat) (A : Option Addr) (m c : Nat) (news : List Value) (hx : a.eval x = .slice A m c) (hr : Lst w B size A m news) (h1 : ∀ u ∈ news, u.oneCell' = true)
    (h63 : n + m ≤ maxLen) (hbytes : (n + m) * bytes ≤ 140737488355328) (hbase : base ≤ w.heap.size)
    (h : ∀ v' w', w'.ownsRow base e size v' (n + m) (xs ++ news) → w.grownBy w' v.ownBlock → (v'.ownBlock = v.ownBlock ∨ v'.ownBlock = some w.heap.size) → wpList P ops Q rest (a.put o.dst v') w') : wpList P ops Q (o :: rest) a w := by
  unfold wpList
  rw [if_pos hw]
  exact .inl (wp_append_lst w s x t ho base e i z size bytes ht hi hz hsize hby hzs hsz v n xs hs hown B A m c news hx hr h1 h63 hbytes hbase h)
end Go.Proofs.YtggdomeeienjbaaDoor

/- An argument that is an array of bytes, opened. No condition. -/
namespace Go.Proofs.YtggdomeeienjbaaDoor
open Go.ChangeShapes Go.WideShapes Go.ChangeAt Go.RowKit Go.Sort
set_option linter.unusedSimpArgs false
set_option linter.unusedVariables false
variable {H : Type} {enc : TypeId × Value → H} {P : Program}
theorem okWide_array {w : World} {r : Reach} {base k : Nat} {t e : TypeId} {v : Value} (ht : P.underlying t = some (.array k e)) (h : Value.okWide P w r base t v) : ∃ cs, v = .agg cs ∧ cs.size = P.cellsOf t := by
  simp only [Value.okWide, ht] at h
  obtain ⟨cs, h1, h2, _⟩ := h
  exact ⟨cs, h1, h2⟩
theorem bytes_of_cells : ∀ {cs : List Value}, (∀ c ∈ cs, ∃ m : Nat, c = .int .u8 (m : Int) ∧ m < 256) → ∃ ns : List Nat, cs = cB ns ∧ ∀ m ∈ ns, m < 256
  | [], _ => ⟨[], rfl, by simp⟩
  | c :: cs, h => by
    obtain ⟨m, rfl, hm⟩ := h c (by simp)
    obtain ⟨ns, rfl, hn⟩ := bytes_of_cells (cs := cs) (fun c hc => h c (by simp [hc]))
    exact ⟨m :: ns, rfl, by simpa [hm] using hn⟩
theorem open_arrB {w : World} {base b0 k : Nat} {r : Reach} {spare : Nat → Bool} {held : Bool} {t e : TypeId} {v : Value} {d : DataW H} {p : List MemPlace} (ht : P.underlying t = some (.array k e)) (he : P.underlying e = some (.int .u8)) (hK : P.cellsOf e = 1) (hC : P.cellsOf t = k)
    (hv : Value.okWide P w r b0 t v) (h : DataW.Trod enc P w base spare held t v d p) :
    ∃ ns : List Nat, v = .agg (cB ns).toArray ∧ ns.length = k ∧ ∀ m ∈ ns, m < 256 := by
  obtain ⟨cs, rfl, hsz⟩ := okWide_array ht hv
  obtain ⟨fuel, hx⟩ := h
  have key : ∀ c ∈ cs.toList, ∃ m : Nat, c = .int .u8 (m : Int) ∧ m < 256 := by
    obtain ⟨xs, m, _, _, hlen, hxl, hf⟩ := DataW.trod_array ht hx
    intro c hc
    obtain ⟨i, hi, rfl⟩ := List.getElem_of_mem hc
    have hik : i < k := by rw [← hC, ← hsz]; simpa using hi
    have h3 := hf i hik
    rw [List.getElem?_eq_getElem (by rw [hxl]; exact hik)] at h3
    obtain ⟨x, e1, _, e2⟩ := DataW.trod_int he h3
    have hx : 0 ≤ x ∧ x ≤ 255 := by
      simp [Lit.wf, IntKind.min, IntKind.max, IntKind.signed, IntKind.bits] at e2
      omega
    have e3 : List.take (P.cellsOf e) (List.drop (i * P.cellsOf e) (Value.agg cs).cells.toList) = [cs.toList[i]] := by
      rw [hK, Nat.mul_one]
      show List.take 1 (List.drop i cs.toList) = _
      rw [List.drop_eq_getElem_cons hi]
      rfl
    rw [e1] at e3
    have e4 : cs.toList[i] = .int .u8 x := by injection e3 with h _; exact h.symm
    exact ⟨x.toNat, by rw [e4, Int.toNat_of_nonneg hx.1], by omega⟩
  obtain ⟨ns, h1, h2⟩ := bytes_of_cells key
  have e : cs = (cB ns).toArray := by rw [← h1]
  refine ⟨ns, by rw [e], ?_, h2⟩
  rw [← hC, ← hsz, e]
  simp [cB_length]
end Go.Proofs.YtggdomeeienjbaaDoor
