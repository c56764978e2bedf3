/- Several texts of mine in one: MapV, MapIB. No condition. -/
import Derived.Test.YtjkcjbcbnnpmfaaChecked
import Derived.Test.YtjkcjbcbnnpmfaaSlLib
import Derived.Maps.OwnOps
import Derived.Maps.OwnSet
import Derived.Maps.Views

/- A map that the call made, whatever its elements are: what it holds at each key, look-ups, stores. No condition. -/
namespace Go.Proofs.Ytjkcjbcbnnpmfaa
open Go.ChangeShapes Go.WideShapes Go.ChangeAt Go.RowKit Go.Sort
set_option linter.unusedSimpArgs false
set_option linter.unusedVariables false
open Go.Maps (Keyed)
set_option maxRecDepth 100000
def heldV (v : Value) : Option (DataW Value × List MemPlace) := some (.held v, [])
noncomputable def setS (S : Lit → Option Value) (kl : Lit) (v : Value) : Lit → Option Value := fun j => @ite _ (j = kl) (Classical.propDecidable _) (some v) (S j)
theorem setS_same (S : Lit → Option Value) (kl : Lit) (v : Value) : setS S kl v kl = some v := if_pos rfl
theorem setS_other (S : Lit → Option Value) {kl j : Lit} (v : Value) (h : j ≠ kl) : setS S kl v j = S j := if_neg h
/-- Block b is a map that the call made, of at most n stores, and holds S at each key. -/
def MapV (w : World) (k : TypeId) (b n : Nat) (S : Lit → Option Value) : Prop :=
  ∃ D : DataW Value, w.ownsMap Try.prog k heldV b n D ∧ ∀ kl, WideAt.IsKeyLit kl → Maps.has D kl = (S kl).isSome ∧ ∀ v, S kl = some v → ∀ z, D.atKey kl z = .held v
theorem MapV.made (w : World) (k : TypeId) : MapV (w.alloc (.map #[] 0)) k w.heap.size 0 (fun _ => none) :=
  ⟨.map [], World.ownsMap_made _ _ _ _, fun kl _ => ⟨rfl, fun v h => by cases h⟩⟩
theorem MapV.lt {w : World} {k : TypeId} {b n : Nat} {S : Lit → Option Value} (h : MapV w k b n S) : b < w.heap.size := let ⟨_, h, _⟩ := h; h.lt
theorem MapV.kept {w w' : World} {k : TypeId} {b n : Nat} {S : Lit → Option Value} {row : Option Nat} (h : MapV w k b n S) (hg : w.grownBy w' row) (hne : some b ≠ row) : MapV w' k b n S := let ⟨D, h1, h2⟩ := h; ⟨D, h1.kept hg hne, h2⟩
theorem MapV.below {w w' : World} {k : TypeId} {b n : Nat} {S : Lit → Option Value} (h : MapV w k b n S) (hb : Below w.heap.size w w') : MapV w' k b n S := h.kept (grown_of_below (row := none) hb) (by simp)
theorem MapV.alloc {w : World} {k : TypeId} {b n : Nat} {S : Lit → Option Value} (h : MapV w k b n S) (o : Obj) : MapV (w.alloc o) k b n S := let ⟨D, h1, h2⟩ := h; ⟨D, h1.alloc o, h2⟩
theorem MapV.drew {w : World} {k : TypeId} {b n : Nat} {S : Lit → Option Value} (h : MapV w k b n S) : MapV w.drew k b n S := h
theorem MapV.congr {w : World} {k : TypeId} {b n : Nat} {S S' : Lit → Option Value} (h : MapV w k b n S) (e : ∀ kl, S kl = S' kl) : MapV w k b n S' := by
  have : S = S' := funext e
  rw [← this]; exact h
theorem MapV.look {w : World} {k t e : TypeId} {b n : Nat} {S : Lit → Option Value} (h : MapV w k b n S) (K : Keyed Try.prog k) (ht : Try.prog.underlying t = some (.map k e)) {z : Value} (hz : (zeroValue e).run Try.prog w = .ok z w) {key : Value} {kl : Lit} (hkey : keyOf Try.prog k key = some kl) (hl : WideAt.IsKeyLit kl) :
    (Instr.lookup t (.map (some b)) key false).run Try.prog w = .ok ((S kl).getD z) w := by
  obtain ⟨D, h1, h2⟩ := h
  obtain ⟨v, ps, hrun, hv⟩ := h1.lookup K ht hz (z := z) (zd := .held z) (zp := []) rfl hkey
  obtain ⟨g1, g2⟩ := h2 kl hl
  simp only [heldV, Option.some.injEq, Prod.mk.injEq] at hv
  rw [hrun]
  cases hs : S kl with
  | none =>
    rw [hs] at g1
    rw [Maps.atKey_of_not_has g1] at hv
    injection hv.1 with hv
    rw [hv]; rfl
  | some x =>
    rw [g2 x hs] at hv
    injection hv.1 with hv
    rw [hv]; rfl
theorem MapV.look_ok {w : World} {k t e : TypeId} {b n : Nat} {S : Lit → Option Value} (h : MapV w k b n S) (K : Keyed Try.prog k) (ht : Try.prog.underlying t = some (.map k e)) {z : Value} (hz : (zeroValue e).run Try.prog w = .ok z w) {key : Value} {kl : Lit} (hkey : keyOf Try.prog k key = some kl) (hl : WideAt.IsKeyLit kl) :
    (Instr.lookup t (.map (some b)) key true).run Try.prog w = .ok (.tuple #[(S kl).getD z, .bool (S kl).isSome]) w := by
  obtain ⟨D, h1, h2⟩ := h
  obtain ⟨v, ps, hrun, hv⟩ := h1.look_ok K ht hz (z := z) (zd := .held z) (zp := []) rfl hkey
  obtain ⟨g1, g2⟩ := h2 kl hl
  simp only [heldV, Option.some.injEq, Prod.mk.injEq] at hv
  rw [hrun, g1]
  cases hs : S kl with
  | none =>
    rw [hs] at g1
    rw [Maps.atKey_of_not_has g1] at hv
    injection hv.1 with hv
    rw [hv]; rfl
  | some x =>
    rw [g2 x hs] at hv
    injection hv.1 with hv
    rw [hv]; rfl
theorem MapV.put {w : World} {k t e : TypeId} {b n : Nat} {S : Lit → Option Value} (h : MapV w k b n S) (K : Keyed Try.prog k) (ht : Try.prog.underlying t = some (.map k e)) (hn : n < maxLen) {key : Value} {kl : Lit} (hkey : keyOf Try.prog k key = some kl) (hl : WideAt.IsKeyLit kl) (v : Value) :
    ∃ w', (Instr.mapUpdate t (.map (some b)) key v).run Try.prog w = .ok () w' ∧ MapV w' k b (n + 1) (setS S kl v) ∧ w.grownBy w' (some b) := by
  obtain ⟨D, h1, h2⟩ := h
  have hm := h1.isMap
  obtain ⟨w', hrun, hown, ht2⟩ := h1.store K ht hn hkey (val := v) (d := .held v) (ps := []) rfl
  refine ⟨w', hrun, ⟨_, hown, fun j hj => ?_⟩, ht2.grown⟩
  by_cases e : j = kl
  · subst e
    rw [Maps.has_put_same hm hj]
    rw [setS_same]
    refine ⟨by simp, fun x hx z => ?_⟩
    rw [Maps.atKey_put_same hm hj]
    simp only [Option.some.injEq] at hx
    rw [hx]
  · rw [Maps.has_put_other e]
    rw [setS_other _ _ e]
    refine ⟨(h2 j hj).1, fun x hx z => ?_⟩
    rw [Maps.atKey_put_other e]
    exact (h2 j hj).2 x hx z
theorem MapV.len {w : World} {k t e : TypeId} {b n : Nat} {S : Lit → Option Value} (h : MapV w k b n S) (ht : Try.prog.underlying t = some (.map k e)) (ty : TypeId) :
    ∃ q : Nat, (Builtin.len_ #[t] ty #[.map (some b)]).run Try.prog w = .ok (.int .i64 q) w ∧ q ≤ n ∧ ∀ kl, WideAt.IsKeyLit kl → (S kl).isSome = true → 0 < q := by
  obtain ⟨D, h1, h2⟩ := h
  refine ⟨_, h1.len ht ty, h1.size_le, fun kl hl hs => ?_⟩
  rw [← (h2 kl hl).1] at hs
  obtain ⟨es, rfl⟩ := h1.isMap
  rw [Maps.has_eq] at hs
  rw [Maps.size_eq]
  cases es with
  | nil => simp at hs
  | cons x r => simp
theorem keyI (k : Int) (hk : (Lit.int .i64 k).wf = true) : keyOf Try.prog 3 (.int .i64 k) = some (.int .i64 k) := Maps.keyOf_int_mk Try.underlying3 hk
theorem keyedV : Keyed Try.prog 3 := Maps.int_keyed Try.underlying3
theorem isKeyI (k : Int) : WideAt.IsKeyLit (.int .i64 k) := by simp [WideAt.IsKeyLit]
/-- 'make(map)', with a hint or without: the run. -/
theorem wpList_look_map {ops : Array Oper} {rest : List Oper} {o : Oper} {a : Act} {w : World} {Q : Exit → Act → World → Prop} (hg : o.guard = none) (m x : Operand) (t : TypeId) (hop : o.op = Op.lookup t m x false) (k e : TypeId) (b n : Nat) (S : Lit → Option Value)
    (hm : a.eval m = .map (some b)) (h : MapV w k b n S) (K : Keyed Try.prog k) (ht : Try.prog.underlying t = some (.map k e)) {z : Value} (hz : (zeroValue e).run Try.prog w = .ok z w) (key : Value) (kl : Lit) (hx : a.eval x = key) (hkey : keyOf Try.prog k key = some kl) (hl : WideAt.IsKeyLit kl)
    (v : Value) (hv : (S kl).getD z = v) (hK : wpList Try.prog ops Q rest (a.put o.dst v) w) : wpList Try.prog ops Q (o :: rest) a w := by
  refine wpList_plain hg fun K' hK' => ?_
  subst hv
  unfold Oper.wp
  simp [execOp, hop, hm, hx, h.look K ht hz hkey hl, Result.andThen]
  exact hK' _ _ hK
theorem wpList_lookok_map {ops : Array Oper} {rest : List Oper} {o : Oper} {a : Act} {w : World} {Q : Exit → Act → World → Prop} (hg : o.guard = none) (m x : Operand) (t : TypeId) (hop : o.op = Op.lookup t m x true) (k e : TypeId) (b n : Nat) (S : Lit → Option Value)
    (hm : a.eval m = .map (some b)) (h : MapV w k b n S) (K : Keyed Try.prog k) (ht : Try.prog.underlying t = some (.map k e)) {z : Value} (hz : (zeroValue e).run Try.prog w = .ok z w) (key : Value) (kl : Lit) (hx : a.eval x = key) (hkey : keyOf Try.prog k key = some kl) (hl : WideAt.IsKeyLit kl)
    (v : Value) (hv : (S kl).getD z = v) (c : Bool) (hc : (S kl).isSome = c) (hK : wpList Try.prog ops Q rest (a.put o.dst (.tuple #[v, .bool c])) w) : wpList Try.prog ops Q (o :: rest) a w := by
  refine wpList_plain hg fun K' hK' => ?_
  subst hv
  subst hc
  unfold Oper.wp
  simp [execOp, hop, hm, hx, h.look_ok K ht hz hkey hl, Result.andThen]
  exact hK' _ _ hK
theorem wpList_put_map {ops : Array Oper} {rest : List Oper} {o : Oper} {a : Act} {w : World} {Q : Exit → Act → World → Prop} (hg : o.guard = none) (m x y : Operand) (t : TypeId) (hop : o.op = Op.mapUpdate t m x y) (k e : TypeId) (b n : Nat) (S : Lit → Option Value)
    (hm : a.eval m = .map (some b)) (h : MapV w k b n S) (K : Keyed Try.prog k) (ht : Try.prog.underlying t = some (.map k e)) (hn : n < maxLen) (key : Value) (kl : Lit) (hx : a.eval x = key) (hkey : keyOf Try.prog k key = some kl) (hl : WideAt.IsKeyLit kl)
    (v : Value) (hy : a.eval y = v)
    (hK : ∀ w', MapV w' k b (n + 1) (setS S kl v) → w.grownBy w' (some b) → wpList Try.prog ops Q rest (a.put o.dst undef) w') : wpList Try.prog ops Q (o :: rest) a w := by
  refine wpList_plain hg fun K' hK' => ?_
  obtain ⟨w', hrun, h1, h2⟩ := h.put K ht hn hkey hl v
  unfold Oper.wp
  simp [execOp, hop, hm, hx, hy, hrun, Result.andThen]
  exact hK' _ _ (hK w' h1 h2)
end Go.Proofs.Ytjkcjbcbnnpmfaa

/- A map from int to bool that the call made: what it tells at a key, a store, its laws in a walk. No condition. -/
namespace Go.Proofs.Ytjkcjbcbnnpmfaa
open Go.ChangeShapes Go.WideShapes Go.ChangeAt Go.RowKit Go.Sort
set_option linter.unusedSimpArgs false
set_option linter.unusedVariables false
open Go.Maps (Keyed)
theorem keyedI : Keyed Try.prog 3 := Maps.int_keyed Try.underlying3
theorem zeroB (w : World) : (zeroValue 4).run Try.prog w = .ok (.bool false) w := by kernel_rfl
/-- Block b is a map that the call made, and tells S of each int. -/
def SetW (w : World) (b n : Nat) (S : Int → Bool) : Prop :=
  ∃ D : DataW Unit, w.ownsMap Try.prog 3 (plainElem Try.prog 4) b n D ∧ Maps.IsMap D ∧ ∀ k, (Lit.int .i64 k).wf = true → D.atKey (.int .i64 k) (.lit (.bool false)) = .lit (.bool (S k))
theorem wfI {k : Int} (h : -9223372036854775808 ≤ k ∧ k ≤ 9223372036854775807) : (Lit.int .i64 k).wf = true := by
  simp [Lit.wf, IntKind.min, IntKind.max, IntKind.signed, IntKind.bits]; omega
theorem plainElem_bool_inv {P : Program} {e : TypeId} (he : P.underlying e = some .bool) {v : Value} {z : DataW Unit × List MemPlace} (h : plainElem P e v = some z) : ∃ x, v = .bool x ∧ z = (.lit (.bool x), []) := by
  unfold plainElem at h
  rw [he] at h
  cases v <;> simp at h
  rename_i x
  exact ⟨x, rfl, h.symm⟩
theorem SetW.made (w : World) : SetW (w.alloc (.map #[] 0)) w.heap.size 0 (fun _ => false) :=
  ⟨.map [], World.ownsMap_made _ _ _ _, ⟨[], rfl⟩, fun k _ => rfl⟩
theorem SetW.lt {w : World} {b n : Nat} {S : Int → Bool} (h : SetW w b n S) : b < w.heap.size := let ⟨_, h, _⟩ := h; h.lt
theorem SetW.kept {w w' : World} {b n : Nat} {S : Int → Bool} {row : Option Nat} (h : SetW w b n S) (hg : w.grownBy w' row) (hne : some b ≠ row) : SetW w' b n S := let ⟨D, h1, h2⟩ := h; ⟨D, h1.kept hg hne, h2⟩
theorem SetW.below {w w' : World} {b n : Nat} {S : Int → Bool} (h : SetW w b n S) (hb : Below w.heap.size w w') : SetW w' b n S := h.kept (grown_of_below (row := none) hb) (by simp)
theorem SetW.alloc {w : World} {b n : Nat} {S : Int → Bool} (h : SetW w b n S) (o : Obj) : SetW (w.alloc o) b n S := let ⟨D, h1, h2⟩ := h; ⟨D, h1.alloc o, h2⟩
theorem SetW.drew {w : World} {b n : Nat} {S : Int → Bool} (h : SetW w b n S) : SetW w.drew b n S := h
theorem SetW.congr {w : World} {b n : Nat} {S S' : Int → Bool} (h : SetW w b n S) (e : ∀ k, (Lit.int .i64 k).wf = true → S k = S' k) : SetW w b n S' := let ⟨D, h1, h2, h3⟩ := h; ⟨D, h1, h2, fun k hk => by rw [h3 k hk, e k hk]⟩
theorem SetW.look {w : World} {b n : Nat} {S : Int → Bool} (h : SetW w b n S) {k : Int} (hk : (Lit.int .i64 k).wf = true) : (Instr.lookup 65 (.map (some b)) (.int .i64 k) false).run Try.prog w = .ok (.bool (S k)) w := by
  obtain ⟨D, h1, h2, h3⟩ := h
  obtain ⟨v, ps, hrun, hv⟩ := h1.lookup keyedI Try.underlying65 (zeroB w) (plainElem_bool Try.underlying4 false) (Maps.keyOf_int_mk Try.underlying3 hk)
  obtain ⟨x, rfl, hx⟩ := plainElem_bool_inv Try.underlying4 hv
  rw [h3 k hk] at hx
  simp only [Prod.mk.injEq, DataW.lit.injEq, Lit.bool.injEq] at hx
  rw [hrun, hx.1]
theorem SetW.put {w : World} {b n : Nat} {S : Int → Bool} (h : SetW w b n S) (hn : n < maxLen) {k : Int} (hk : (Lit.int .i64 k).wf = true) (v : Bool) :
    ∃ w', (Instr.mapUpdate 65 (.map (some b)) (.int .i64 k) (.bool v)).run Try.prog w = .ok () w' ∧ SetW w' b (n + 1) (fun j => if j = k then v else S j) ∧ w.grownBy w' (some b) := by
  obtain ⟨D, h1, h2, h3⟩ := h
  obtain ⟨w', hrun, hown, hg⟩ := h1.update keyedI Try.underlying65 hn (Maps.keyOf_int_mk Try.underlying3 hk) (plainElem_bool Try.underlying4 v)
  refine ⟨w', hrun, ⟨_, hown, h2.put _ _, fun j hj => ?_⟩, hg⟩
  by_cases e : j = k
  · subst e
    rw [Maps.atKey_put_same h2 (by simp [WideAt.IsKeyLit])]; simp
  · rw [Maps.atKey_put_other (by intro e2; injection e2 with _ e3; exact e e3), h3 j hj]; simp [e]
/-- A look-up, at the operation. -/
theorem wpList_look_set {ops : Array Oper} {rest : List Oper} {o : Oper} {a : Act} {w : World} {Q : Exit → Act → World → Prop} (hg : o.guard = none) (m x : Operand) (hop : o.op = Op.lookup 65 m x false) (b n : Nat) (S : Int → Bool) (k : Int)
    (hm : a.eval m = .map (some b)) (h : SetW w b n S) (hx : a.eval x = .int .i64 k) (hk : (Lit.int .i64 k).wf = true)
    (hK : wpList Try.prog ops Q rest (a.put o.dst (.bool (S k))) w) : wpList Try.prog ops Q (o :: rest) a w := by
  refine wpList_plain hg fun K' hK' => ?_
  unfold Oper.wp
  simp [execOp, hop, hm, hx, h.look hk, Result.andThen]
  exact hK' _ _ hK
/-- A store, at the operation. -/
theorem wpList_put_set {ops : Array Oper} {rest : List Oper} {o : Oper} {a : Act} {w : World} {Q : Exit → Act → World → Prop} (hg : o.guard = none) (m x v : Operand) (hop : o.op = Op.mapUpdate 65 m x v) (b n : Nat) (S : Int → Bool) (k : Int) (vb : Bool)
    (hm : a.eval m = .map (some b)) (h : SetW w b n S) (hn : n < maxLen) (hx : a.eval x = .int .i64 k) (hk : (Lit.int .i64 k).wf = true) (hv : a.eval v = .bool vb)
    (hK : ∀ w', SetW w' b (n + 1) (fun j => if j = k then vb else S j) → w.grownBy w' (some b) → wpList Try.prog ops Q rest (a.put o.dst undef) w') : wpList Try.prog ops Q (o :: rest) a w := by
  refine wpList_plain hg fun K' hK' => ?_
  obtain ⟨w', hrun, h1, h2⟩ := h.put hn hk vb
  unfold Oper.wp
  simp [execOp, hop, hm, hx, hv, hrun, Result.andThen]
  exact hK' _ _ (hK w' h1 h2)
end Go.Proofs.Ytjkcjbcbnnpmfaa
