/- The generic library's functions at 39-rows: Clone, Equal, Grow, Concat, IndexFunc, ContainsFunc, DeleteFunc. -/
import Derived.Test.YtblihpghalhjoaaTyHp
namespace Go.Proofs.Ytblihpghalhjoaa
open Go.ChangeShapes Go.WideShapes Go.ChangeAt Go.RowKit Go.Sort
set_option linter.unusedSimpArgs false
set_option linter.unusedVariables false
theorem noHitHp {d : List Hp} {p : Hp → Bool} (h : d.any p = false) {j : Nat} (hj : j < d.length) : p (gHp d j) = false := by
  have := List.any_eq_false.1 h _ (gHp_mem hj)
  simpa using this
theorem firstHitHp {d : List Hp} {p : Hp → Bool} (h : d.any p = true) : ∃ q, q < d.length ∧ (∀ j, j < q → p (gHp d j) = false) ∧ p (gHp d q) = true := by
  have hl : d.findIdx p < d.length := List.findIdx_lt_length.2 (by simpa using h)
  refine ⟨d.findIdx p, hl, fun j hj => ?_, ?_⟩
  · rw [gHp_eq (by omega)]
    have := List.not_of_lt_findIdx hj
    simpa using this
  · rw [gHp_eq hl]
    exact List.findIdx_getElem
/-- A function value that tells p, in whatever world that has grown from W but for this block. -/
structure PredHp (g : FuncId) (lb : Array Value) (row : Option Nat) (W : World) (p : Hp → Bool) : Prop where
  run : ∀ vals w, (callFunc g vals).run Try.prog w = .ok (.enter g vals) w
  tells : ∀ w', W.grownBy w' row → ∀ x : Hp, Calls Try.prog g (#[.agg #[.int .i64 x.id, .int .i64 x.se, .int .i64 x.ar]] ++ lb) w' fun e w'' => e = .returned (.bool (p x)) ∧ Below w'.heap.size w' w''
theorem PredHp.next {g : FuncId} {lb : Array Value} {row : Option Nat} {W W' : World} {p : Hp → Bool} (h : PredHp g lb row W p) (hg : W.grownBy W' row) : PredHp g lb row W' p := ⟨h.run, fun w' h' x => h.tells w' (grown_trans hg h') x⟩
theorem PredHp.below {g : FuncId} {lb : Array Value} {row : Option Nat} {W W' : World} {p : Hp → Bool} (h : PredHp g lb row W p) (hb : Below W.heap.size W W') : PredHp g lb row W' p := h.next (grown_of_below hb)
theorem filt_nextHp {d : List Hp} {p : Hp → Bool} {j : Nat} (hj : j < d.length) : (d.take (j + 1)).filter (fun x => !p x) = (d.take j).filter (fun x => !p x) ++ if p (gHp d j) = true then [] else [gHp d j] := by
  rw [take_nextHp hj, List.filter_append]
  congr 1
  cases h : p (gHp d j) <;> simp [List.filter_cons, h]
theorem filt_allHp {d : List Hp} {p : Hp → Bool} : ∀ q, q ≤ d.length → (∀ j, j < q → p (gHp d j) = false) → (d.take q).filter (fun x => !p x) = d.take q
  | 0, _, _ => by simp
  | q + 1, h, hl => by
    rw [filt_nextHp (by omega), filt_allHp q (by omega) (fun j hj => hl j (by omega)), if_neg (by rw [hl q (by omega)]; simp), ← take_nextHp (by omega)]
theorem filt_lenHp {d : List Hp} {p : Hp → Bool} (j : Nat) : ((d.take j).filter (fun x => !p x)).length ≤ j := by
  have h1 := List.length_filter_le (fun x => !p x) (d.take j)
  rw [List.length_take] at h1
  omega
theorem set_stepHp {e d : List Hp} {p : Hp → Bool} {i j n : Nat} (he : e.length = n) (hd : d.length = n) (hij : i < j) (hj : j < n) (h1 : e.take i = (d.take j).filter (fun x => !p x)) (h2 : e.drop j = d.drop j) (hp : p (gHp d j) = false) :
    (e.set i (gHp d j)).take (i + 1) = (d.take (j + 1)).filter (fun x => !p x) ∧ (e.set i (gHp d j)).drop (j + 1) = d.drop (j + 1) := by
  refine ⟨?_, ?_⟩
  · rw [filt_nextHp (by omega), if_neg (by rw [hp]; simp), ← h1]
    rw [List.take_succ_eq_append_getElem (by simp; omega), List.getElem_set_self, List.take_set_of_le (Nat.le_refl _)]
  · rw [List.drop_set_of_lt (by omega), ← List.drop_drop, ← List.drop_drop, h2]
theorem drop_atHp {e d : List Hp} {j : Nat} (he : e.length = d.length) (h : e.drop j = d.drop j) (hj : j < d.length) : gHp e j = gHp d j := by
  rw [gHp_eq (by omega), gHp_eq hj]
  have h1 : (e.drop j)[0]'(by simp; omega) = (d.drop j)[0]'(by simp; omega) := by simp [h]
  simpa using h1
/-- Lists, one behind the other. -/
def catHp (d : Nat → List Hp) : Nat → List Hp
  | 0 => []
  | k + 1 => catHp d k ++ d k
theorem catHp_le (d : Nat → List Hp) : ∀ {k m : Nat}, k ≤ m → (catHp d k).length ≤ (catHp d m).length
  | k, 0, h => by
    obtain rfl : k = 0 := by omega
    exact Nat.le_refl _
  | k, m + 1, h => by
    by_cases e : k = m + 1
    · subst e; exact Nat.le_refl _
    · have := catHp_le d (k := k) (m := m) (by omega)
      simp only [catHp, List.length_append]
      omega
/-- A function value that compares with t, as cf says, in whatever world that has grown from W. -/
structure CmpHp (g : FuncId) (lb : Array Value) (t : Hp) (W : World) (cf : Hp → Int) : Prop where
  run : ∀ vals w, (callFunc g vals).run Try.prog w = .ok (.enter g vals) w
  tells : ∀ w', Below W.heap.size W w' → ∀ x : Hp, Calls Try.prog g (#[.agg #[.int .i64 x.id, .int .i64 x.se, .int .i64 x.ar], .agg #[.int .i64 t.id, .int .i64 t.se, .int .i64 t.ar]] ++ lb) w' fun e w'' => e = .returned (.int .i64 (cf x)) ∧ Below w'.heap.size w' w''
end Go.Proofs.Ytblihpghalhjoaa
