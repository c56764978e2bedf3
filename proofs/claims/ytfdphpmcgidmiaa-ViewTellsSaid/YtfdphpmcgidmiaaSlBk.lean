
/- The generic library's functions at 55-rows: Clone, Equal, Grow, Concat, IndexFunc, ContainsFunc, DeleteFunc. -/
import Derived.Test.YtfdphpmcgidmiaaTyBk
namespace Go.Proofs.Ytfdphpmcgidmiaa
open Go.ChangeShapes Go.WideShapes Go.ChangeAt Go.RowKit Go.Sort
set_option linter.unusedSimpArgs false
set_option linter.unusedVariables false
theorem noHitBk {d : List Bk} {p : Bk → Bool} (h : d.any p = false) {j : Nat} (hj : j < d.length) : p (gBk d j) = false := by
  have := List.any_eq_false.1 h _ (gBk_mem hj)
  simpa using this
theorem firstHitBk {d : List Bk} {p : Bk → Bool} (h : d.any p = true) : ∃ q, q < d.length ∧ (∀ j, j < q → p (gBk d j) = false) ∧ p (gBk d q) = true := by
  have hl : d.findIdx p < d.length := List.findIdx_lt_length.2 (by simpa using h)
  refine ⟨d.findIdx p, hl, fun j hj => ?_, ?_⟩
  · rw [gBk_eq (by omega)]
    have := List.not_of_lt_findIdx hj
    simpa using this
  · rw [gBk_eq hl]
    exact List.findIdx_getElem
/-- A function value that tells p, in whatever world that has grown from W but for this block. -/
structure PredBk (g : FuncId) (lb : Array Value) (row : Option Nat) (W : World) (p : Bk → Bool) : Prop where
  run : ∀ vals w, (callFunc g vals).run Try.prog w = .ok (.enter g vals) w
  tells : ∀ w', W.grownBy w' row → ∀ x : Bk, Calls Try.prog g (#[.agg #[.int .i64 x.id, .int .i64 x.ua, .int .i64 x.ub, .int .i64 x.uc]] ++ lb) w' fun e w'' => e = .returned (.bool (p x)) ∧ Below w'.heap.size w' w''
theorem PredBk.next {g : FuncId} {lb : Array Value} {row : Option Nat} {W W' : World} {p : Bk → Bool} (h : PredBk g lb row W p) (hg : W.grownBy W' row) : PredBk g lb row W' p := ⟨h.run, fun w' h' x => h.tells w' (grown_trans hg h') x⟩
theorem PredBk.below {g : FuncId} {lb : Array Value} {row : Option Nat} {W W' : World} {p : Bk → Bool} (h : PredBk g lb row W p) (hb : Below W.heap.size W W') : PredBk g lb row W' p := h.next (grown_of_below hb)
theorem filt_nextBk {d : List Bk} {p : Bk → Bool} {j : Nat} (hj : j < d.length) : (d.take (j + 1)).filter (fun x => !p x) = (d.take j).filter (fun x => !p x) ++ if p (gBk d j) = true then [] else [gBk d j] := by
  rw [take_nextBk hj, List.filter_append]
  congr 1
  cases h : p (gBk d j) <;> simp [List.filter_cons, h]
theorem filt_allBk {d : List Bk} {p : Bk → Bool} : ∀ q, q ≤ d.length → (∀ j, j < q → p (gBk d j) = false) → (d.take q).filter (fun x => !p x) = d.take q
  | 0, _, _ => by simp
  | q + 1, h, hl => by
    rw [filt_nextBk (by omega), filt_allBk q (by omega) (fun j hj => hl j (by omega)), if_neg (by rw [hl q (by omega)]; simp), ← take_nextBk (by omega)]
theorem filt_lenBk {d : List Bk} {p : Bk → Bool} (j : Nat) : ((d.take j).filter (fun x => !p x)).length ≤ j := by
  have h1 := List.length_filter_le (fun x => !p x) (d.take j)
  rw [List.length_take] at h1
  omega
theorem set_stepBk {e d : List Bk} {p : Bk → Bool} {i j n : Nat} (he : e.length = n) (hd : d.length = n) (hij : i < j) (hj : j < n) (h1 : e.take i = (d.take j).filter (fun x => !p x)) (h2 : e.drop j = d.drop j) (hp : p (gBk d j) = false) :
    (e.set i (gBk d j)).take (i + 1) = (d.take (j + 1)).filter (fun x => !p x) ∧ (e.set i (gBk d j)).drop (j + 1) = d.drop (j + 1) := by
  refine ⟨?_, ?_⟩
  · rw [filt_nextBk (by omega), if_neg (by rw [hp]; simp), ← h1]
    rw [List.take_succ_eq_append_getElem (by simp; omega), List.getElem_set_self, List.take_set_of_le (Nat.le_refl _)]
  · rw [List.drop_set_of_lt (by omega), ← List.drop_drop, ← List.drop_drop, h2]
theorem drop_atBk {e d : List Bk} {j : Nat} (he : e.length = d.length) (h : e.drop j = d.drop j) (hj : j < d.length) : gBk e j = gBk d j := by
  rw [gBk_eq (by omega), gBk_eq hj]
  have h1 : (e.drop j)[0]'(by simp; omega) = (d.drop j)[0]'(by simp; omega) := by simp [h]
  simpa using h1
/-- Lists, one behind the other. -/
def catBk (d : Nat → List Bk) : Nat → List Bk
  | 0 => []
  | k + 1 => catBk d k ++ d k
theorem catBk_le (d : Nat → List Bk) : ∀ {k m : Nat}, k ≤ m → (catBk d k).length ≤ (catBk d m).length
  | k, 0, h => by
    obtain rfl : k = 0 := by omega
    exact Nat.le_refl _
  | k, m + 1, h => by
    by_cases e : k = m + 1
    · subst e; exact Nat.le_refl _
    · have := catBk_le d (k := k) (m := m) (by omega)
      simp only [catBk, List.length_append]
      omega
/-- A function value that compares with t, as cf says, in whatever world that has grown from W. -/
structure CmpBk (g : FuncId) (lb : Array Value) (t : Bk) (W : World) (cf : Bk → Int) : Prop where
  run : ∀ vals w, (callFunc g vals).run Try.prog w = .ok (.enter g vals) w
  tells : ∀ w', Below W.heap.size W w' → ∀ x : Bk, Calls Try.prog g (#[.agg #[.int .i64 x.id, .int .i64 x.ua, .int .i64 x.ub, .int .i64 x.uc], .agg #[.int .i64 t.id, .int .i64 t.ua, .int .i64 t.ub, .int .i64 t.uc]] ++ lb) w' fun e w'' => e = .returned (.int .i64 (cf x)) ∧ Below w'.heap.size w' w''
end Go.Proofs.Ytfdphpmcgidmiaa
