/- Several texts of mine in one: MapV, MapR. No condition. -/
import Derived.Test.YtmibgfenobekjaaChecked
import Derived.Test.YtmibgfenobekjaaGQ19
import Derived.Maps.OwnOps
import Derived.Maps.OwnSet
import Derived.Maps.Views
import Derived.Maps.RangeWalk

/- A map that the call made, whatever its elements are: what it holds at each key, look-ups, stores. No condition. -/
namespace Go.Proofs.Ytmibgfenobekjaa
open Go.ChangeShapes Go.WideShapes Go.ChangeAt Go.RowKit Go.Sort
set_option linter.unusedSimpArgs false
set_option linter.unusedVariables false
open Go.Maps (Keyed)
set_option maxRecDepth 100000
def heldV (v : Value) : Option (DataW Value × List MemPlace) := some (.held v, [])
noncomputable def setS (S : Lit → Option Value) (kl : Lit) (v : Value) : Lit → Option Value := fun j => @ite _ (j = kl) (Classical.propDecidable _) (some v) (S j)
theorem setS_same (S : Lit → Option Value) (kl : Lit) (v : Value) : setS S kl v kl = some v := if_pos rfl
theorem setS_other (S : Lit → Option Value) {kl j : Lit} (v : Value) (h : j ≠ kl) : setS S kl v j = S j := if_neg h
/-- Block b is a map that the call made, of at most n stores, and holds S at each key. -/
def MapV (w : World) (k : TypeId) (b n : Nat) (S : Lit → Option Value) : Prop :=
  ∃ D : DataW Value, w.ownsMap Try.prog k heldV b n D ∧ ∀ kl, WideAt.IsKeyLit kl → Maps.has D kl = (S kl).isSome ∧ ∀ v, S kl = some v → ∀ z, D.atKey kl z = .held v
theorem MapV.made (w : World) (k : TypeId) : MapV (w.alloc (.map #[] 0)) k w.heap.size 0 (fun _ => none) :=
  ⟨.map [], World.ownsMap_made _ _ _ _, fun kl _ => ⟨rfl, fun v h => by cases h⟩⟩
theorem MapV.lt {w : World} {k : TypeId} {b n : Nat} {S : Lit → Option Value} (h : MapV w k b n S) : b < w.heap.size := let ⟨_, h, _⟩ := h; h.lt
theorem MapV.kept {w w' : World} {k : TypeId} {b n : Nat} {S : Lit → Option Value} {row : Option Nat} (h : MapV w k b n S) (hg : w.grownBy w' row) (hne : some b ≠ row) : MapV w' k b n S := let ⟨D, h1, h2⟩ := h; ⟨D, h1.kept hg hne, h2⟩
theorem MapV.below {w w' : World} {k : TypeId} {b n : Nat} {S : Lit → Option Value} (h : MapV w k b n S) (hb : Below w.heap.size w w') : MapV w' k b n S := h.kept (grown_of_below (row := none) hb) (by simp)
theorem MapV.alloc {w : World} {k : TypeId} {b n : Nat} {S : Lit → Option Value} (h : MapV w k b n S) (o : Obj) : MapV (w.alloc o) k b n S := let ⟨D, h1, h2⟩ := h; ⟨D, h1.alloc o, h2⟩
theorem MapV.drew {w : World} {k : TypeId} {b n : Nat} {S : Lit → Option Value} (h : MapV w k b n S) : MapV w.drew k b n S := h
theorem MapV.congr {w : World} {k : TypeId} {b n : Nat} {S S' : Lit → Option Value} (h : MapV w k b n S) (e : ∀ kl, S kl = S' kl) : MapV w k b n S' := by
  have : S = S' := funext e
  rw [← this]; exact h
theorem MapV.look {w : World} {k t e : TypeId} {b n : Nat} {S : Lit → Option Value} (h : MapV w k b n S) (K : Keyed Try.prog k) (ht : Try.prog.underlying t = some (.map k e)) {z : Value} (hz : (zeroValue e).run Try.prog w = .ok z w) {key : Value} {kl : Lit} (hkey : keyOf Try.prog k key = some kl) (hl : WideAt.IsKeyLit kl) :
    (Instr.lookup t (.map (some b)) key false).run Try.prog w = .ok ((S kl).getD z) w := by
  obtain ⟨D, h1, h2⟩ := h
  obtain ⟨v, ps, hrun, hv⟩ := h1.lookup K ht hz (z := z) (zd := .held z) (zp := []) rfl hkey
  obtain ⟨g1, g2⟩ := h2 kl hl
  simp only [heldV, Option.some.injEq, Prod.mk.injEq] at hv
  rw [hrun]
  cases hs : S kl with
  | none =>
    rw [hs] at g1
    rw [Maps.atKey_of_not_has g1] at hv
    injection hv.1 with hv
    rw [hv]; rfl
  | some x =>
    rw [g2 x hs] at hv
    injection hv.1 with hv
    rw [hv]; rfl
theorem MapV.look_ok {w : World} {k t e : TypeId} {b n : Nat} {S : Lit → Option Value} (h : MapV w k b n S) (K : Keyed Try.prog k) (ht : Try.prog.underlying t = some (.map k e)) {z : Value} (hz : (zeroValue e).run Try.prog w = .ok z w) {key : Value} {kl : Lit} (hkey : keyOf Try.prog k key = some kl) (hl : WideAt.IsKeyLit kl) :
    (Instr.lookup t (.map (some b)) key true).run Try.prog w = .ok (.tuple #[(S kl).getD z, .bool (S kl).isSome]) w := by
  obtain ⟨D, h1, h2⟩ := h
  obtain ⟨v, ps, hrun, hv⟩ := h1.look_ok K ht hz (z := z) (zd := .held z) (zp := []) rfl hkey
  obtain ⟨g1, g2⟩ := h2 kl hl
  simp only [heldV, Option.some.injEq, Prod.mk.injEq] at hv
  rw [hrun, g1]
  cases hs : S kl with
  | none =>
    rw [hs] at g1
    rw [Maps.atKey_of_not_has g1] at hv
    injection hv.1 with hv
    rw [hv]; rfl
  | some x =>
    rw [g2 x hs] at hv
    injection hv.1 with hv
    rw [hv]; rfl
theorem MapV.put {w : World} {k t e : TypeId} {b n : Nat} {S : Lit → Option Value} (h : MapV w k b n S) (K : Keyed Try.prog k) (ht : Try.prog.underlying t = some (.map k e)) (hn : n < maxLen) {key : Value} {kl : Lit} (hkey : keyOf Try.prog k key = some kl) (hl : WideAt.IsKeyLit kl) (v : Value) :
    ∃ w', (Instr.mapUpdate t (.map (some b)) key v).run Try.prog w = .ok () w' ∧ MapV w' k b (n + 1) (setS S kl v) ∧ w.grownBy w' (some b) := by
  obtain ⟨D, h1, h2⟩ := h
  have hm := h1.isMap
  obtain ⟨w', hrun, hown, ht2⟩ := h1.store K ht hn hkey (val := v) (d := .held v) (ps := []) rfl
  refine ⟨w', hrun, ⟨_, hown, fun j hj => ?_⟩, ht2.grown⟩
  by_cases e : j = kl
  · subst e
    rw [Maps.has_put_same hm hj]
    rw [setS_same]
    refine ⟨by simp, fun x hx z => ?_⟩
    rw [Maps.atKey_put_same hm hj]
    simp only [Option.some.injEq] at hx
    rw [hx]
  · rw [Maps.has_put_other e]
    rw [setS_other _ _ e]
    refine ⟨(h2 j hj).1, fun x hx z => ?_⟩
    rw [Maps.atKey_put_other e]
    exact (h2 j hj).2 x hx z
theorem MapV.len {w : World} {k t e : TypeId} {b n : Nat} {S : Lit → Option Value} (h : MapV w k b n S) (ht : Try.prog.underlying t = some (.map k e)) (ty : TypeId) :
    ∃ q : Nat, (Builtin.len_ #[t] ty #[.map (some b)]).run Try.prog w = .ok (.int .i64 q) w ∧ q ≤ n ∧ ∀ kl, WideAt.IsKeyLit kl → (S kl).isSome = true → 0 < q := by
  obtain ⟨D, h1, h2⟩ := h
  refine ⟨_, h1.len ht ty, h1.size_le, fun kl hl hs => ?_⟩
  rw [← (h2 kl hl).1] at hs
  obtain ⟨es, rfl⟩ := h1.isMap
  rw [Maps.has_eq] at hs
  rw [Maps.size_eq]
  cases es with
  | nil => simp at hs
  | cons x r => simp
theorem keyI (k : Int) (hk : (Lit.int .i64 k).wf = true) : keyOf Try.prog 3 (.int .i64 k) = some (.int .i64 k) := Maps.keyOf_int_mk Try.underlying3 hk
theorem keyedV : Keyed Try.prog 3 := Maps.int_keyed Try.underlying3
theorem isKeyI (k : Int) : WideAt.IsKeyLit (.int .i64 k) := by simp [WideAt.IsKeyLit]
/-- 'make(map)', with a hint or without: the run. -/
theorem wpList_look_map {ops : Array Oper} {rest : List Oper} {o : Oper} {a : Act} {w : World} {Q : Exit → Act → World → Prop} (hg : o.guard = none) (m x : Operand) (t : TypeId) (hop : o.op = Op.lookup t m x false) (k e : TypeId) (b n : Nat) (S : Lit → Option Value)
    (hm : a.eval m = .map (some b)) (h : MapV w k b n S) (K : Keyed Try.prog k) (ht : Try.prog.underlying t = some (.map k e)) {z : Value} (hz : (zeroValue e).run Try.prog w = .ok z w) (key : Value) (kl : Lit) (hx : a.eval x = key) (hkey : keyOf Try.prog k key = some kl) (hl : WideAt.IsKeyLit kl)
    (v : Value) (hv : (S kl).getD z = v) (hK : wpList Try.prog ops Q rest (a.put o.dst v) w) : wpList Try.prog ops Q (o :: rest) a w := by
  refine wpList_plain hg fun K' hK' => ?_
  subst hv
  unfold Oper.wp
  simp [execOp, hop, hm, hx, h.look K ht hz hkey hl, Result.andThen]
  exact hK' _ _ hK
theorem wpList_lookok_map {ops : Array Oper} {rest : List Oper} {o : Oper} {a : Act} {w : World} {Q : Exit → Act → World → Prop} (hg : o.guard = none) (m x : Operand) (t : TypeId) (hop : o.op = Op.lookup t m x true) (k e : TypeId) (b n : Nat) (S : Lit → Option Value)
    (hm : a.eval m = .map (some b)) (h : MapV w k b n S) (K : Keyed Try.prog k) (ht : Try.prog.underlying t = some (.map k e)) {z : Value} (hz : (zeroValue e).run Try.prog w = .ok z w) (key : Value) (kl : Lit) (hx : a.eval x = key) (hkey : keyOf Try.prog k key = some kl) (hl : WideAt.IsKeyLit kl)
    (v : Value) (hv : (S kl).getD z = v) (c : Bool) (hc : (S kl).isSome = c) (hK : wpList Try.prog ops Q rest (a.put o.dst (.tuple #[v, .bool c])) w) : wpList Try.prog ops Q (o :: rest) a w := by
  refine wpList_plain hg fun K' hK' => ?_
  subst hv
  subst hc
  unfold Oper.wp
  simp [execOp, hop, hm, hx, h.look_ok K ht hz hkey hl, Result.andThen]
  exact hK' _ _ hK
theorem wpList_put_map {ops : Array Oper} {rest : List Oper} {o : Oper} {a : Act} {w : World} {Q : Exit → Act → World → Prop} (hg : o.guard = none) (m x y : Operand) (t : TypeId) (hop : o.op = Op.mapUpdate t m x y) (k e : TypeId) (b n : Nat) (S : Lit → Option Value)
    (hm : a.eval m = .map (some b)) (h : MapV w k b n S) (K : Keyed Try.prog k) (ht : Try.prog.underlying t = some (.map k e)) (hn : n < maxLen) (key : Value) (kl : Lit) (hx : a.eval x = key) (hkey : keyOf Try.prog k key = some kl) (hl : WideAt.IsKeyLit kl)
    (v : Value) (hy : a.eval y = v)
    (hK : ∀ w', MapV w' k b (n + 1) (setS S kl v) → w.grownBy w' (some b) → wpList Try.prog ops Q rest (a.put o.dst undef) w') : wpList Try.prog ops Q (o :: rest) a w := by
  refine wpList_plain hg fun K' hK' => ?_
  obtain ⟨w', hrun, h1, h2⟩ := h.put K ht hn hkey hl v
  unfold Oper.wp
  simp [execOp, hop, hm, hx, hy, hrun, Result.andThen]
  exact hK' _ _ (hK w' h1 h2)
end Go.Proofs.Ytmibgfenobekjaa

/- 'for k, v := range m' over a map of ints to values of any type, while other memory is written or made. -/
namespace Go.Proofs.Ytmibgfenobekjaa
open Go.ChangeShapes Go.WideShapes Go.ChangeAt Go.RowKit Go.Sort Go.Maps Go.ChangeMaps
set_option linter.unusedSimpArgs false
set_option linter.unusedVariables false
/-- Under way: what is left are the keys of which lf says so. -/
def RngV (w : World) (b r nm : Nat) (S : Lit → Option Value) (lf : Lit → Bool) (cnt : Nat) : Prop :=
  ∃ D : DataW Value, w.ranges Try.prog 3 heldV b r nm D lf cnt ∧ ∀ kl, WideAt.IsKeyLit kl → Maps.has D kl = (S kl).isSome ∧ ∀ v, S kl = some v → ∀ z, D.atKey kl z = .held v
theorem RngV.map {w : World} {b r nm cnt : Nat} {S : Lit → Option Value} {lf : Lit → Bool} (h : RngV w b r nm S lf cnt) : MapV w 3 b nm S := let ⟨D, h1, h2⟩ := h; ⟨D, h1.owns, h2⟩
theorem RngV.lt {w : World} {b r nm cnt : Nat} {S : Lit → Option Value} {lf : Lit → Bool} (h : RngV w b r nm S lf cnt) : r < w.heap.size := let ⟨_, h1, _⟩ := h; h1.lt
theorem RngV.left_eq {w : World} {b r nm cnt : Nat} {S : Lit → Option Value} {lf : Lit → Bool} (h : RngV w b r nm S lf cnt) : w.rangeLeft b r = cnt := let ⟨_, h1, _⟩ := h; h1.left_eq
theorem RngV.kept {w w' : World} {b r nm cnt : Nat} {S : Lit → Option Value} {lf : Lit → Bool} {row : Option Nat} (h : RngV w b r nm S lf cnt) (hg : w.grownBy w' row) (h1 : some b ≠ row) (h2 : some r ≠ row) : RngV w' b r nm S lf cnt := let ⟨D, g1, g2⟩ := h; ⟨D, g1.kept hg h1 h2, g2⟩
theorem RngV.below {w w' : World} {b r nm cnt : Nat} {S : Lit → Option Value} {lf : Lit → Bool} (h : RngV w b r nm S lf cnt) (hb : Below w.heap.size w w') : RngV w' b r nm S lf cnt := h.kept (grown_of_below (row := none) hb) (by simp) (by simp)
theorem RngV.keptS {Z : Nat → Prop} {w w' : World} {b r nm cnt : Nat} {S : Lit → Option Value} {lf : Lit → Bool} (h : RngV w b r nm S lf cnt) (hk : Kept Z w w') (h1 : ¬ Z b) (h2 : ¬ Z r) : RngV w' b r nm S lf cnt := by
  obtain ⟨D, ⟨es, clock, since, seen, c0, hb, F, hs, hD, hr, rest⟩, g2⟩ := h
  exact ⟨D, ⟨es, clock, since, seen, c0, (hk.block b (lt_of_block hb) h1).trans hb, F, hs, hD, (hk.block r (lt_of_block hr) h2).trans hr, rest⟩, g2⟩
theorem RngV.blocks {w : World} {b r nm cnt : Nat} {S : Lit → Option Value} {lf : Lit → Bool} (h : RngV w b r nm S lf cnt) : (∃ es clock, w.heap[b]? = some (.map es clock)) ∧ ∃ s seen c0, w.heap[r]? = some (.mapIter (some b) s seen c0) := by
  obtain ⟨D, ⟨es, clock, since, seen, c0, hb, F, hs, hD, hr, rest⟩, g2⟩ := h
  exact ⟨⟨es, clock, hb⟩, since, seen, c0, hr⟩
set_option maxRecDepth 100000 in
theorem ranges_has {w : World} {b r nm cnt : Nat} {D : DataW Value} {lf : Lit → Bool} (h : w.ranges Try.prog 3 heldV b r nm D lf cnt) {kl : Lit} (hl : lf kl = true) (hk : WideAt.IsKeyLit kl) : Maps.has D kl = true := by
  obtain ⟨es, clock, since, seen, c0, hb, F, hs, rfl, hr, _, _, _, h2, _⟩ := h
  obtain ⟨x, hx, he⟩ := h2 kl hl
  exact List.any_eq_true.2 ⟨Go.WideElems.rg Try.prog 3 heldV x, mem_sorted.2 (List.mem_map.2 ⟨x, hx, rfl⟩), by rw [he]; exact WideAt.sameKey_self hk⟩
theorem wpList_range_mapV {ops : Array Oper} {rest : List Oper} {o : Oper} {a : Act} {w : World} {Q : Exit → Act → World → Prop} (hg : o.guard = none) (m : Operand) (t : TypeId) (hop : o.op = Op.range t m) (e : TypeId) (ht : Try.prog.underlying t = some (.map 3 e)) (b nm : Nat) (S : Lit → Option Value)
    (hm : a.eval m = .map (some b)) (h : MapV w 3 b nm S)
    (hK : ∀ w' lf cnt, RngV w' b w.heap.size nm S lf cnt → (∀ kl, WideAt.IsKeyLit kl → lf kl = (S kl).isSome) → w.grownBy w' none → w'.heap.size = w.heap.size + 1 → wpList Try.prog ops Q rest (a.put o.dst (.pointer (some ⟨w.heap.size, 0, none⟩))) w') : wpList Try.prog ops Q (o :: rest) a w := by
  obtain ⟨D, h1, h2⟩ := h
  exact wpList_range_own w hg m t hop 3 e keyedV ht heldV b nm D hm h1 fun w' g1 g2 g3 => hK w' _ _ ⟨D, g1, h2⟩ (fun kl hk => (h2 kl hk).1) g2 g3
theorem wpList_next_mapV {ops : Array Oper} {rest : List Oper} {o : Oper} {a : Act} {w : World} {Q : Exit → Act → World → Prop} (hg : o.guard = none) (it : Operand) (hop : o.op = Op.next it false) (b r nm : Nat) (S : Lit → Option Value) (lf : Lit → Bool) (cnt : Nat)
    (hit : a.eval it = .pointer (some ⟨r, 0, none⟩)) (h : RngV w b r nm S lf cnt)
    (hDone : (∀ kl, lf kl = false) → wpList Try.prog ops Q rest (a.put o.dst (.tuple #[.bool false])) w)
    (hMore : ∀ (x : Int) (v : Value) (w' : World) (cnt' : Nat), (Lit.int .i64 x).wf = true → lf (.int .i64 x) = true → S (.int .i64 x) = some v → RngV w' b r nm S (fun z => lf z && !z.sameKey (.int .i64 x)) cnt' → cnt' < cnt →
      w.grownBy w' (some r) → w'.heap.size = w.heap.size → (Instr.entry (.pointer (some ⟨r, 0, none⟩))).run Try.prog w' = .ok (.tuple #[.int .i64 x, v]) w' → wpList Try.prog ops Q rest (a.put o.dst (.tuple #[.bool true, .int .i64 x, v])) w') : wpList Try.prog ops Q (o :: rest) a w := by
  obtain ⟨D, h1, h2⟩ := h
  refine wpList_next_ranges w hg it hop 3 keyedV heldV (Value.int .i64) (fun v : Value => v) (fun key kl hkey => by obtain ⟨x, rfl, _⟩ := Maps.keyOf_int_inv Try.underlying3 hkey; exact ⟨x, rfl⟩) (fun v y hv => ⟨v, rfl⟩) b r nm D lf cnt hit h1 (fun _ hl => hDone hl) ?_
  intro x v kl y w' cnt' hkey hlk hv hat hrg hlt hgr hsz hen
  obtain ⟨x', ex, rfl, hwx⟩ := Maps.keyOf_int_inv Try.underlying3 hkey
  cases ex
  have h3 := ranges_has h1 hlk (isKeyI x)
  rw [(h2 _ (isKeyI x)).1] at h3
  obtain ⟨u, hu⟩ := Option.isSome_iff_exists.1 h3
  have h4 := (h2 _ (isKeyI x)).2 u hu (.held v)
  have h5 := hat (.held v)
  rw [h4] at h5
  simp only [heldV, Option.some.injEq] at hv
  rw [← hv] at h5
  have h6 : u = v := by simpa using h5
  subst h6
  exact hMore x u w' cnt' hwx hlk hu ⟨D, hrg, h2⟩ hlt hgr hsz hen
/-- How many there are: none, just if no key is held. -/
theorem MapV.len2 {w : World} {t e : TypeId} {b n : Nat} {S : Lit → Option Value} (h : MapV w 3 b n S) (ht : Try.prog.underlying t = some (.map 3 e)) :
    ∃ q : Nat, (∀ ty, (Builtin.len_ #[t] ty #[.map (some b)]).run Try.prog w = .ok (.int .i64 q) w) ∧ (0 < q ↔ ∃ kl, WideAt.IsKeyLit kl ∧ (S kl).isSome = true) := by
  obtain ⟨D, h1, h2⟩ := h
  refine ⟨_, fun ty => h1.len ht ty, ?_⟩
  obtain ⟨es, rfl, hpw, hkl⟩ := h1.entries keyedV
  constructor
  · intro hq
    rw [Maps.size_eq] at hq
    cases es with
    | nil => simp at hq
    | cons p r =>
      have hp := hkl p (List.mem_cons_self ..)
      refine ⟨p.1, hp, ?_⟩
      rw [← (h2 p.1 hp).1, Maps.has_eq]
      exact List.any_eq_true.2 ⟨p, List.mem_cons_self .., WideAt.sameKey_self hp⟩
  · rintro ⟨kl, hk, hs⟩
    rw [← (h2 kl hk).1, Maps.has_eq] at hs
    rw [Maps.size_eq]
    cases es with
    | nil => simp at hs
    | cons p r => simp
end Go.Proofs.Ytmibgfenobekjaa
