
/- Forms by what is done, and to what: as functions of their numbers. No condition. -/
import Derived.Test.YtggdomeeienjbaaDoorDWords3
namespace Go.Proofs.YtggdomeeienjbaaDoor
open Go.ChangeShapes Go.WideShapes Go.ChangeAt Go.RowKit Go.Sort
set_option linter.unusedSimpArgs false
set_option linter.unusedVariables false
def formLen (op kd : Int) : Nat := if op = 1 ∧ kd = 1 then 6 else if op = 2 ∧ kd = 1 then 1 else if op = 3 ∧ kd = 1 then 2 else if op = 1 ∧ kd = 2 then 5 else if op = 2 ∧ kd = 2 then 3 else if op = 3 ∧ kd = 2 then 4 else 0
def gI (ns : List Int) (k : Nat) : Int := ns.getD k 0
/-- The directive of these numbers. -/
def madeD (op kd : Int) (ns : List Int) : Dr :=
  if op = 1 ∧ kd = 1 then ⟨op, kd, gI ns 0, gI ns 1, gI ns 2, gI ns 3, gI ns 4, gI ns 5, 0, 0, 0, 0, 0⟩
  else if op = 2 ∧ kd = 1 then ⟨op, kd, gI ns 0, 0, 0, 0, 0, 0, 0, 0, 0, 0, 0⟩
  else if op = 3 ∧ kd = 1 then ⟨op, kd, gI ns 0, 0, 0, 0, 0, gI ns 1, 0, 0, 0, 0, 0⟩
  else if op = 1 ∧ kd = 2 then ⟨op, kd, 0, 0, 0, 0, 0, 0, gI ns 0, gI ns 1, gI ns 2, gI ns 3, gI ns 4⟩
  else if op = 2 ∧ kd = 2 then ⟨op, kd, 0, 0, 0, 0, 0, 0, gI ns 0, gI ns 1, gI ns 2, 0, 0⟩
  else if op = 3 ∧ kd = 2 then ⟨op, kd, 0, 0, 0, 0, 0, 0, gI ns 0, gI ns 1, gI ns 2, 0, gI ns 3⟩
  else ⟨op, kd, 0, 0, 0, 0, 0, 0, 0, 0, 0, 0, 0⟩
structure Form (op kd : Int) (f1 f2 f3 : FuncId) : Prop where
  fv : formV op kd = some (formOf f1 f2 f3)
  e1 : EnterF f1
  e2 : EnterF f2
  e3 : EnterF f3
  nums : ∀ w, Calls Tryd.prog f1 #[.agg #[.int .i64 0, .int .i64 0, .int .i64 0, .int .i64 0, .int .i64 0, .int .i64 0, .int .i64 0, .int .i64 0, .int .i64 0, .int .i64 0, .int .i64 0, .int .i64 0, .int .i64 0]] w fun e w' => ∃ A c, e = .returned (.slice A (formLen op kd) c) ∧ Below w.heap.size w w'
  fill : ∀ (ns : List Int), ns.length = formLen op kd → ∀ (A : Option Addr) (c : Nat) (w : World), Sl w w.heap.size 1 A (formLen op kd) c (ns.map (Value.int .i64)) → Calls Tryd.prog 40 #[.int .i64 op, .int .i64 kd, .agg #[.func (.func f1) #[] #[], .func (.func f2) #[] #[], .func (.func f3) #[] #[]], .slice A (formLen op kd) c] w fun e w' => e = .returned (.agg #[.int .i64 (madeD op kd ns).op, .int .i64 (madeD op kd ns).kd, .int .i64 (madeD op kd ns).id, .int .i64 (madeD op kd ns).fr, .int .i64 (madeD op kd ns).tn, .int .i64 (madeD op kd ns).st, .int .i64 (madeD op kd ns).en, .int .i64 (madeD op kd ns).rt, .int .i64 (madeD op kd ns).rf, .int .i64 (madeD op kd ns).rn, .int .i64 (madeD op kd ns).rs, .int .i64 (madeD op kd ns).re, .int .i64 (madeD op kd ns).ro]) ∧ Below w.heap.size w w'
  may : ∀ (ns : List Int), ns.length = formLen op kd → ∀ w, Calls Tryd.prog f3 #[.agg #[.int .i64 (madeD op kd ns).op, .int .i64 (madeD op kd ns).kd, .int .i64 (madeD op kd ns).id, .int .i64 (madeD op kd ns).fr, .int .i64 (madeD op kd ns).tn, .int .i64 (madeD op kd ns).st, .int .i64 (madeD op kd ns).en, .int .i64 (madeD op kd ns).rt, .int .i64 (madeD op kd ns).rf, .int .i64 (madeD op kd ns).rn, .int .i64 (madeD op kd ns).rs, .int .i64 (madeD op kd ns).re, .int .i64 (madeD op kd ns).ro]] w fun e w' => e = .returned (.bool (mayD (madeD op kd ns))) ∧ Below w.heap.size w w'
theorem form0 : Form 1 1 41 42 43 where
  fv := rfl
  e1 := (formC0 zeroDr).e1
  e2 := (formC0 zeroDr).e2
  e3 := (formC0 zeroDr).e3
  nums := fun w => ((formC0 zeroDr).nums w).mono fun e w' ⟨v, h1, h2, h3⟩ => by
    obtain ⟨A, c, rfl⟩ := slice_of_own h2
    exact ⟨A, c, h1, h3⟩
  fill := fun ns hn A c w h => by
    match ns, hn, h with
    | [a0, a1, a2, a3, a4, a5], _, h =>
      exact made_any _ _ _ A 6 c [a0, a1, a2, a3, a4, a5] (fill0 (madeD 1 1 [a0, a1, a2, a3, a4, a5])) 1 1 (formC0 zeroDr).e2 (fun w => (formC0 (madeD 1 1 [a0, a1, a2, a3, a4, a5])).fill A c w) w h
  may := fun ns hn w => (formC0 (madeD 1 1 ns)).may w
theorem form1 : Form 2 1 45 46 47 where
  fv := rfl
  e1 := (formC1 zeroDr).e1
  e2 := (formC1 zeroDr).e2
  e3 := (formC1 zeroDr).e3
  nums := fun w => ((formC1 zeroDr).nums w).mono fun e w' ⟨v, h1, h2, h3⟩ => by
    obtain ⟨A, c, rfl⟩ := slice_of_own h2
    exact ⟨A, c, h1, h3⟩
  fill := fun ns hn A c w h => by
    match ns, hn, h with
    | [a0], _, h =>
      exact made_any _ _ _ A 1 c [a0] (fill1 (madeD 2 1 [a0])) 2 1 (formC1 zeroDr).e2 (fun w => (formC1 (madeD 2 1 [a0])).fill A c w) w h
  may := fun ns hn w => (formC1 (madeD 2 1 ns)).may w
theorem form2 : Form 3 1 49 50 51 where
  fv := rfl
  e1 := (formC2 zeroDr).e1
  e2 := (formC2 zeroDr).e2
  e3 := (formC2 zeroDr).e3
  nums := fun w => ((formC2 zeroDr).nums w).mono fun e w' ⟨v, h1, h2, h3⟩ => by
    obtain ⟨A, c, rfl⟩ := slice_of_own h2
    exact ⟨A, c, h1, h3⟩
  fill := fun ns hn A c w h => by
    match ns, hn, h with
    | [a0, a1], _, h =>
      exact made_any _ _ _ A 2 c [a0, a1] (fill2 (madeD 3 1 [a0, a1])) 3 1 (formC2 zeroDr).e2 (fun w => (formC2 (madeD 3 1 [a0, a1])).fill A c w) w h
  may := fun ns hn w => (formC2 (madeD 3 1 ns)).may w
theorem form3 : Form 1 2 53 54 55 where
  fv := rfl
  e1 := (formC3 zeroDr).e1
  e2 := (formC3 zeroDr).e2
  e3 := (formC3 zeroDr).e3
  nums := fun w => ((formC3 zeroDr).nums w).mono fun e w' ⟨v, h1, h2, h3⟩ => by
    obtain ⟨A, c, rfl⟩ := slice_of_own h2
    exact ⟨A, c, h1, h3⟩
  fill := fun ns hn A c w h => by
    match ns, hn, h with
    | [a0, a1, a2, a3, a4], _, h =>
      exact made_any _ _ _ A 5 c [a0, a1, a2, a3, a4] (fill3 (madeD 1 2 [a0, a1, a2, a3, a4])) 1 2 (formC3 zeroDr).e2 (fun w => (formC3 (madeD 1 2 [a0, a1, a2, a3, a4])).fill A c w) w h
  may := fun ns hn w => (formC3 (madeD 1 2 ns)).may w
theorem form4 : Form 2 2 57 58 59 where
  fv := rfl
  e1 := (formC4 zeroDr).e1
  e2 := (formC4 zeroDr).e2
  e3 := (formC4 zeroDr).e3
  nums := fun w => ((formC4 zeroDr).nums w).mono fun e w' ⟨v, h1, h2, h3⟩ => by
    obtain ⟨A, c, rfl⟩ := slice_of_own h2
    exact ⟨A, c, h1, h3⟩
  fill := fun ns hn A c w h => by
    match ns, hn, h with
    | [a0, a1, a2], _, h =>
      exact made_any _ _ _ A 3 c [a0, a1, a2] (fill4 (madeD 2 2 [a0, a1, a2])) 2 2 (formC4 zeroDr).e2 (fun w => (formC4 (madeD 2 2 [a0, a1, a2])).fill A c w) w h
  may := fun ns hn w => (formC4 (madeD 2 2 ns)).may w
theorem form5 : Form 3 2 61 62 63 where
  fv := rfl
  e1 := (formC5 zeroDr).e1
  e2 := (formC5 zeroDr).e2
  e3 := (formC5 zeroDr).e3
  nums := fun w => ((formC5 zeroDr).nums w).mono fun e w' ⟨v, h1, h2, h3⟩ => by
    obtain ⟨A, c, rfl⟩ := slice_of_own h2
    exact ⟨A, c, h1, h3⟩
  fill := fun ns hn A c w h => by
    match ns, hn, h with
    | [a0, a1, a2, a3], _, h =>
      exact made_any _ _ _ A 4 c [a0, a1, a2, a3] (fill5 (madeD 3 2 [a0, a1, a2, a3])) 3 2 (formC5 zeroDr).e2 (fun w => (formC5 (madeD 3 2 [a0, a1, a2, a3])).fill A c w) w h
  may := fun ns hn w => (formC5 (madeD 3 2 ns)).may w
theorem form_of {op kd : Int} (h : (formV op kd).isSome = true) : ∃ f1 f2 f3, Form op kd f1 f2 f3 ∧ (op = 1 ∨ op = 2 ∨ op = 3) ∧ (kd = 1 ∨ kd = 2) := by
  by_cases c0 : op = 1 ∧ kd = 1
  · obtain ⟨rfl, rfl⟩ := c0
    exact ⟨_, _, _, form0, by omega, by omega⟩
  by_cases c1 : op = 2 ∧ kd = 1
  · obtain ⟨rfl, rfl⟩ := c1
    exact ⟨_, _, _, form1, by omega, by omega⟩
  by_cases c2 : op = 3 ∧ kd = 1
  · obtain ⟨rfl, rfl⟩ := c2
    exact ⟨_, _, _, form2, by omega, by omega⟩
  by_cases c3 : op = 1 ∧ kd = 2
  · obtain ⟨rfl, rfl⟩ := c3
    exact ⟨_, _, _, form3, by omega, by omega⟩
  by_cases c4 : op = 2 ∧ kd = 2
  · obtain ⟨rfl, rfl⟩ := c4
    exact ⟨_, _, _, form4, by omega, by omega⟩
  by_cases c5 : op = 3 ∧ kd = 2
  · obtain ⟨rfl, rfl⟩ := c5
    exact ⟨_, _, _, form5, by omega, by omega⟩
  exfalso
  unfold formV at h
  simp [c0, c1, c2, c3, c4, c5] at h
/-- What words say: the directive, and the code. -/
def parseD (l : List Bytes) : Dr × Int :=
  if l.length < 2 then (zeroDr, 2) else
  if (formV (opF (gS l 0)) (kdF (gS l 1))).isSome = false then (zeroDr, 2) else
  match numsF (l.drop 2) with
  | none => (zeroDr, 2)
  | some ns => if ns.length = formLen (opF (gS l 0)) (kdF (gS l 1)) then (if mayD (madeD (opF (gS l 0)) (kdF (gS l 1)) ns) = true then (madeD (opF (gS l 0)) (kdF (gS l 1)) ns, 0) else (zeroDr, 1)) else (zeroDr, 2)
end Go.Proofs.YtggdomeeienjbaaDoor
