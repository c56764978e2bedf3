/- A map from int to bool that the call made: what it tells at a key, a store, its laws in a walk. No condition. -/
import Derived.Test.YtmibgfenobekjaaChecked
import Derived.Test.YtmibgfenobekjaaGQ22
import Derived.Maps.OwnOps
import Derived.Maps.Views
namespace Go.Proofs.Ytmibgfenobekjaa
open Go.ChangeShapes Go.WideShapes Go.ChangeAt Go.RowKit Go.Sort
set_option linter.unusedSimpArgs false
set_option linter.unusedVariables false
open Go.Maps (Keyed)
theorem keyedI : Keyed Try.prog 3 := Maps.int_keyed Try.underlying3
theorem zeroB (w : World) : (zeroValue 4).run Try.prog w = .ok (.bool false) w := by kernel_rfl
/-- Block b is a map that the call made, and tells S of each int. -/
def SetW (w : World) (b n : Nat) (S : Int → Bool) : Prop :=
  ∃ D : DataW Unit, w.ownsMap Try.prog 3 (plainElem Try.prog 4) b n D ∧ Maps.IsMap D ∧ ∀ k, (Lit.int .i64 k).wf = true → D.atKey (.int .i64 k) (.lit (.bool false)) = .lit (.bool (S k))
theorem wfI {k : Int} (h : -9223372036854775808 ≤ k ∧ k ≤ 9223372036854775807) : (Lit.int .i64 k).wf = true := by
  simp [Lit.wf, IntKind.min, IntKind.max, IntKind.signed, IntKind.bits]; omega
theorem plainElem_bool_inv {P : Program} {e : TypeId} (he : P.underlying e = some .bool) {v : Value} {z : DataW Unit × List MemPlace} (h : plainElem P e v = some z) : ∃ x, v = .bool x ∧ z = (.lit (.bool x), []) := by
  unfold plainElem at h
  rw [he] at h
  cases v <;> simp at h
  rename_i x
  exact ⟨x, rfl, h.symm⟩
theorem SetW.made (w : World) : SetW (w.alloc (.map #[] 0)) w.heap.size 0 (fun _ => false) :=
  ⟨.map [], World.ownsMap_made _ _ _ _, ⟨[], rfl⟩, fun k _ => rfl⟩
theorem SetW.lt {w : World} {b n : Nat} {S : Int → Bool} (h : SetW w b n S) : b < w.heap.size := let ⟨_, h, _⟩ := h; h.lt
theorem SetW.kept {w w' : World} {b n : Nat} {S : Int → Bool} {row : Option Nat} (h : SetW w b n S) (hg : w.grownBy w' row) (hne : some b ≠ row) : SetW w' b n S := let ⟨D, h1, h2⟩ := h; ⟨D, h1.kept hg hne, h2⟩
theorem SetW.below {w w' : World} {b n : Nat} {S : Int → Bool} (h : SetW w b n S) (hb : Below w.heap.size w w') : SetW w' b n S := h.kept (grown_of_below (row := none) hb) (by simp)
theorem SetW.alloc {w : World} {b n : Nat} {S : Int → Bool} (h : SetW w b n S) (o : Obj) : SetW (w.alloc o) b n S := let ⟨D, h1, h2⟩ := h; ⟨D, h1.alloc o, h2⟩
theorem SetW.drew {w : World} {b n : Nat} {S : Int → Bool} (h : SetW w b n S) : SetW w.drew b n S := h
theorem SetW.congr {w : World} {b n : Nat} {S S' : Int → Bool} (h : SetW w b n S) (e : ∀ k, (Lit.int .i64 k).wf = true → S k = S' k) : SetW w b n S' := let ⟨D, h1, h2, h3⟩ := h; ⟨D, h1, h2, fun k hk => by rw [h3 k hk, e k hk]⟩
theorem SetW.look {w : World} {b n : Nat} {S : Int → Bool} (h : SetW w b n S) {k : Int} (hk : (Lit.int .i64 k).wf = true) : (Instr.lookup 67 (.map (some b)) (.int .i64 k) false).run Try.prog w = .ok (.bool (S k)) w := by
  obtain ⟨D, h1, h2, h3⟩ := h
  obtain ⟨v, ps, hrun, hv⟩ := h1.lookup keyedI Try.underlying67 (zeroB w) (plainElem_bool Try.underlying4 false) (Maps.keyOf_int_mk Try.underlying3 hk)
  obtain ⟨x, rfl, hx⟩ := plainElem_bool_inv Try.underlying4 hv
  rw [h3 k hk] at hx
  simp only [Prod.mk.injEq, DataW.lit.injEq, Lit.bool.injEq] at hx
  rw [hrun, hx.1]
theorem SetW.put {w : World} {b n : Nat} {S : Int → Bool} (h : SetW w b n S) (hn : n < maxLen) {k : Int} (hk : (Lit.int .i64 k).wf = true) (v : Bool) :
    ∃ w', (Instr.mapUpdate 67 (.map (some b)) (.int .i64 k) (.bool v)).run Try.prog w = .ok () w' ∧ SetW w' b (n + 1) (fun j => if j = k then v else S j) ∧ w.grownBy w' (some b) := by
  obtain ⟨D, h1, h2, h3⟩ := h
  obtain ⟨w', hrun, hown, hg⟩ := h1.update keyedI Try.underlying67 hn (Maps.keyOf_int_mk Try.underlying3 hk) (plainElem_bool Try.underlying4 v)
  refine ⟨w', hrun, ⟨_, hown, h2.put _ _, fun j hj => ?_⟩, hg⟩
  by_cases e : j = k
  · subst e
    rw [Maps.atKey_put_same h2 (by simp [WideAt.IsKeyLit])]; simp
  · rw [Maps.atKey_put_other (by intro e2; injection e2 with _ e3; exact e e3), h3 j hj]; simp [e]
/-- A look-up, at the operation. -/
theorem wpList_look_set {ops : Array Oper} {rest : List Oper} {o : Oper} {a : Act} {w : World} {Q : Exit → Act → World → Prop} (hg : o.guard = none) (m x : Operand) (hop : o.op = Op.lookup 67 m x false) (b n : Nat) (S : Int → Bool) (k : Int)
    (hm : a.eval m = .map (some b)) (h : SetW w b n S) (hx : a.eval x = .int .i64 k) (hk : (Lit.int .i64 k).wf = true)
    (hK : wpList Try.prog ops Q rest (a.put o.dst (.bool (S k))) w) : wpList Try.prog ops Q (o :: rest) a w := by
  refine wpList_plain hg fun K' hK' => ?_
  unfold Oper.wp
  simp [execOp, hop, hm, hx, h.look hk, Result.andThen]
  exact hK' _ _ hK
/-- A store, at the operation. -/
theorem wpList_put_set {ops : Array Oper} {rest : List Oper} {o : Oper} {a : Act} {w : World} {Q : Exit → Act → World → Prop} (hg : o.guard = none) (m x v : Operand) (hop : o.op = Op.mapUpdate 67 m x v) (b n : Nat) (S : Int → Bool) (k : Int) (vb : Bool)
    (hm : a.eval m = .map (some b)) (h : SetW w b n S) (hn : n < maxLen) (hx : a.eval x = .int .i64 k) (hk : (Lit.int .i64 k).wf = true) (hv : a.eval v = .bool vb)
    (hK : ∀ w', SetW w' b (n + 1) (fun j => if j = k then vb else S j) → w.grownBy w' (some b) → wpList Try.prog ops Q rest (a.put o.dst undef) w') : wpList Try.prog ops Q (o :: rest) a w := by
  refine wpList_plain hg fun K' hK' => ?_
  obtain ⟨w', hrun, h1, h2⟩ := h.put hn hk vb
  unfold Oper.wp
  simp [execOp, hop, hm, hx, hv, hrun, Result.andThen]
  exact hK' _ _ (hK w' h1 h2)
end Go.Proofs.Ytmibgfenobekjaa
