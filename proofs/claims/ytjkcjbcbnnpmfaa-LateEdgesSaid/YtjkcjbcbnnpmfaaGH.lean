/- Several texts of mine in one: DueMem, MapR. No condition. -/
import Derived.Test.YtjkcjbcbnnpmfaaGO
import Derived.Test.YtjkcjbcbnnpmfaaGQ
import Derived.Maps.RangeWalk

/- Package due: what becomes of a table's memory while hops are counted. Plain facts of worlds. -/
namespace Go.Proofs.Ytjkcjbcbnnpmfaa
open Go.ChangeShapes Go.WideShapes Go.ChangeAt Go.RowKit Go.Sort Go.Maps Hp
set_option linter.unusedSimpArgs false
set_option linter.unusedVariables false
section
variable {w1 w w' : World} {tb pb ub : Nat} {A : Option Addr} {n c : Nat} {q size : Int} {h sb nm : Nat} {P : Int → List (Int × Int)} {cs : Int → Value} {vf : Value} {F : List Int}
theorem own_not_map {base g : Nat} {e : TypeId} {size n : Nat} {v : Value} {xs : List Value} {es : Array MapEntry} {clock : Nat} (h : w.ownsRow base e size v n xs) (hg : w.heap[g]? = some (.map es clock)) : v.ownBlock ≠ some g := by
  rcases h.2 with ⟨rfl, _⟩ | ⟨g', cap, cur, rfl, _, hc, _⟩
  · simp [Value.ownBlock]
  · intro e
    simp [Value.ownBlock] at e
    subst e
    rw [hg] at hc
    cases hc
theorem own_not_iter {base g : Nat} {e : TypeId} {size n : Nat} {v : Value} {xs : List Value} {b : Option Nat} {s : Nat} {seen : Array Nat} {c0 : Nat} (h : w.ownsRow base e size v n xs) (hg : w.heap[g]? = some (.mapIter b s seen c0)) : v.ownBlock ≠ some g := by
  rcases h.2 with ⟨rfl, _⟩ | ⟨g', cap, cur, rfl, _, hc, _⟩
  · simp [Value.ownBlock]
  · intro e
    simp [Value.ownBlock] at e
    subst e
    rw [hg] at hc
    cases hc
theorem TB.keptS {S : Nat → Prop} (t : TB w1 w tb pb ub A n c q size h sb nm P cs vf F) (hk : Kept S w w') (h0 : ∀ k, k ≤ tb → ¬ S k) (h1 : ¬ S sb) (h2 : ∀ x k, (cs x).ownBlock = some k → ¬ S k) (h3 : ∀ k, vf.ownBlock = some k → ¬ S k) : TB w1 w' tb pb ub A n c q size h sb nm P cs vf F :=
  ⟨hk.blok t.box (h0 tb (Nat.le_refl _)), t.sm.keptS hk h1 h2, row_keptS t.fr hk h3, t.fs, t.fm, hk.below_of t.bl (Nat.le_of_lt t.box.lt) (fun k hk => h0 k (by omega))⟩
/-- One hop more is counted, nothing is new. -/
theorem TB.count (t : TB w1 w tb pb ub A n c q size h sb nm P cs vf F) (v : Value) (hv : v = .int .i64 ((h + 1 : Nat) : Int)) : TB w1 ((w.setCell ⟨tb, 5, none⟩ v).setCell ⟨tb, 7, none⟩ (.slice none 0 0)) tb pb ub A n c q size (h + 1) sb nm P cs (.slice none 0 0) [] := by
  subst hv
  have hk : Kept (fun k => k = tb) w ((w.setCell ⟨tb, 5, none⟩ (.int .i64 ((h + 1 : Nat) : Int))).setCell ⟨tb, 7, none⟩ (.slice none 0 0)) := Kept.set (S := fun k => k = tb) (Kept.set (S := fun k => k = tb) (Kept.refl _ _) (fun _ => rfl) 5 _) (fun _ => rfl) 7 _
  refine ⟨(t.box.set_ 5 _).set_ 7 _, t.sm.keptS hk (by have := t.sm.low; omega) (fun x k hx e => by have := ((t.sm.row x).lt k hx).1; omega), World.ownsRow_nil _ _ _ _, fun x => .inl rfl, by simp [Value.ownBlock], (t.bl.setCell (by simp) _).setCell (by simp) _⟩
/-- A step is laid behind the row of x. -/
theorem TB.put {W wA w2 : World} {x a b : Int} {v1 : Value} {T : Lit → Option Value} (t : TB w1 w tb pb ub A n c q size h sb nm P cs vf F) (hw : Below w.heap.size w W) (hg : W.grownBy wA (cs x).ownBlock)
    (hown : wA.ownsRow (tb + 1) 70 2 v1 ((P x).length + 1) (flat2 (P x) ++ [.int .i64 a, .int .i64 b])) (hbl : v1.ownBlock = (cs x).ownBlock ∨ ∃ k, w.heap.size ≤ k ∧ v1.ownBlock = some k)
    (hmap : MapV w2 3 sb (nm + 1) T) (hT : ∀ kl, setS (rowsS P cs) (.int .i64 x) v1 kl = T kl) (hg2 : wA.grownBy w2 (some sb)) :
    TB w1 w2 tb pb ub A n c q size h sb (nm + 1) (updP P x (P x ++ [(a, b)])) (updC cs x v1) vf F := by
  have hlow := t.sm.low
  have hb := t.box.lt
  have hxl : ∀ k, (cs x).ownBlock = some k → tb + 1 ≤ k := fun k hk => ((t.sm.row x).lt k hk).1
  refine ⟨?_, t.sm.put (by omega) hw hg hown hbl hmap hT hg2, ?_, fun y => ?_, t.fm, ?_⟩
  · exact (Blok.over t.box hg (fun e => by have := hxl tb e; omega) hw).grown hg2 (fun e => by injection e with e; omega)
  · have h1 := own_belowJ t.fr hw
    exact (h1.kept hg (t.fs x)).kept hg2 (.inr t.fm)
  · by_cases e : y = x
    · subst e
      rw [updC_same]
      rcases hbl with e | ⟨k, hk, e⟩
      · rw [e]; exact t.fs y
      · cases ho : vf.ownBlock with
        | none => exact .inl rfl
        | some z =>
          refine .inr fun e2 => ?_
          rw [e] at e2
          injection e2 with e2
          have := (t.fr.lt z ho).2
          omega
    · rw [updC_ne _ _ e]; exact t.fs y
  · have hs := hw.size
    exact ((t.bl.trans (hw.mono (by omega))).grown hg (by omega) (fun k hk => by have := hxl k hk; omega)).grown hg2 (by have := hg.size; omega) (fun k hk => by injection hk with hk; omega)
/-- A node is new. -/
theorem TB.fresh {W wA : World} {x : Int} {v1 : Value} (t : TB w1 w tb pb ub A n c q size h sb nm P cs vf F) (hw : Below w.heap.size w W) (hg : W.grownBy wA vf.ownBlock)
    (hown : wA.ownsRow (tb + 1) 3 1 v1 (F.length + 1) (F.map (Value.int .i64) ++ [.int .i64 x])) (hbl : v1.ownBlock = vf.ownBlock ∨ ∃ k, w.heap.size ≤ k ∧ v1.ownBlock = some k) :
    TB w1 (wA.setCell ⟨tb, 7, none⟩ v1) tb pb ub A n c q size h sb nm P cs v1 (F ++ [x]) := by
  have hlow := t.sm.low
  have hb := t.box.lt
  have hsb := MapV.lt t.sm.map
  have hvl : ∀ k, vf.ownBlock = some k → tb + 1 ≤ k := fun k hk => (t.fr.lt k hk).1
  have hrl : ∀ y k, (cs y).ownBlock = some k → tb + 1 ≤ k ∧ k < w.heap.size := fun y k hk => (t.sm.row y).lt k hk
  have hkw : Kept (fun k => vf.ownBlock = some k) W wA := Kept.of_grown hg (fun k hk _ => hk)
  have hk : Kept (fun k => vf.ownBlock = some k ∨ k = tb) w (wA.setCell ⟨tb, 7, none⟩ v1) := by
    refine Kept.set ?_ (fun _ => .inr rfl) 7 v1
    exact (Kept.of_below hw).trans hkw (fun i _ hi => .inl hi)
  refine ⟨?_, t.sm.keptS hk (fun e => ?_) (fun y k hy e => ?_), ?_, fun y => ?_, ?_, ?_⟩
  · exact (Blok.over t.box hg (fun e => by have := hvl tb e; omega) hw).set_ 7 v1
  · rcases e with e | e
    · exact t.fm e
    · omega
  · have := hrl y k hy
    rcases e with e | e
    · rcases t.fs y with h1 | h1
      · rw [h1] at e; cases e
      · exact h1 (e.trans hy.symm)
    · omega
  · rw [List.length_append, List.map_append]
    exact row_keptS hown (Kept.set (Kept.refl (fun k => k = tb) wA) (fun _ => rfl) 7 v1) (fun k hk e => by have := (hown.lt k hk).1; omega)
  · rcases hbl with e | ⟨k, hk, e⟩
    · rw [e]; exact t.fs y
    · refine .inr fun e2 => ?_
      rw [e] at e2
      have := (hrl y k e2.symm).2
      omega
  · rcases hbl with e | ⟨k, hk, e⟩
    · rw [e]; exact t.fm
    · rw [e]; intro e2; injection e2 with e2; omega
  · have hs := hw.size
    exact ((t.bl.trans (hw.mono (by omega))).grown hg (by omega) (fun k hk => by have := hvl k hk; omega)).setCell (by simp) _
end
theorem atS_top : ∀ {r : List (Int × Int)} {k k' : Int}, (∀ s ∈ r, s.1 ≤ k) → k ≤ k' → atS r k' = atS r k := by
  intro r k k' h hk
  rcases List.eq_nil_or_concat r with rfl | ⟨r0, s, rfl⟩
  · rfl
  · rw [List.concat_eq_append] at h ⊢
    have h1 := h s (by simp)
    rw [atS_snoc, atS_snoc, if_pos h1, if_pos (by omega)]
theorem steps_next {P P' : Int → List (Int × Int)} {F : Nat → Int → Option Int} {h : Nat} {L : Int → Option Int} (hS : Steps P F h) (hF : F (h + 1) = overT (F h) L) (hP : ∀ x, P' x = match L x with | some a => P x ++ [((h : Int) + 1, a)] | none => P x) : Steps P' F (h + 1) := by
  obtain ⟨h1, h2, h3⟩ := hS
  refine ⟨fun x s hs => ?_, fun x k hk => ?_, fun x => ?_⟩
  · rw [hP x] at hs
    cases hL : L x with
    | none => rw [hL] at hs; have := h1 x s hs; omega
    | some a =>
      rw [hL] at hs
      rcases List.mem_append.1 hs with h4 | h4
      · have := h1 x s h4; omega
      · rw [List.mem_singleton.1 h4]; simp only; omega
  · rw [hP x]
    by_cases e : k = h + 1
    · subst e
      rw [hF]
      cases hL : L x with
      | none =>
        rw [overT_none hL, ← h2 x h (Nat.le_refl _)]
        exact atS_top (fun s hs => (h1 x s hs).2) (by omega)
      | some a =>
        rw [overT_some hL]
        simp only
        rw [atS_snoc, if_pos (by simp only; omega)]
    · have hk' : k ≤ h := by omega
      cases hL : L x with
      | none => exact h2 x k hk'
      | some a =>
        simp only
        rw [atS_snoc, if_neg (by simp only; omega)]
        exact h2 x k hk'
  · rw [hP x, hF]
    cases hL : L x with
    | none => rw [overT_none hL]; exact h3 x
    | some a => rw [overT_some hL]; simp
theorem few_nodes {F : List Int} (hn : F.Nodup) (hr : ∀ x ∈ F, 1 ≤ x ∧ x ≤ 255) : F.length ≤ 255 := by
  have h := nodup_len_int (l := (List.range 255).map (fun (i : Nat) => (i : Int) + 1)) hn (fun x hx => by
    have := hr x hx
    exact List.mem_map.2 ⟨(x - 1).toNat, List.mem_range.2 (by omega), by omega⟩)
  simpa using h
end Go.Proofs.Ytjkcjbcbnnpmfaa

/- 'for k, v := range m' over a map of ints to values of any type, while other memory is written or made. -/
namespace Go.Proofs.Ytjkcjbcbnnpmfaa
open Go.ChangeShapes Go.WideShapes Go.ChangeAt Go.RowKit Go.Sort Go.Maps Go.ChangeMaps
set_option linter.unusedSimpArgs false
set_option linter.unusedVariables false
/-- Under way: what is left are the keys of which lf says so. -/
def RngV (w : World) (b r nm : Nat) (S : Lit → Option Value) (lf : Lit → Bool) (cnt : Nat) : Prop :=
  ∃ D : DataW Value, w.ranges Try.prog 3 heldV b r nm D lf cnt ∧ ∀ kl, WideAt.IsKeyLit kl → Maps.has D kl = (S kl).isSome ∧ ∀ v, S kl = some v → ∀ z, D.atKey kl z = .held v
theorem RngV.map {w : World} {b r nm cnt : Nat} {S : Lit → Option Value} {lf : Lit → Bool} (h : RngV w b r nm S lf cnt) : MapV w 3 b nm S := let ⟨D, h1, h2⟩ := h; ⟨D, h1.owns, h2⟩
theorem RngV.lt {w : World} {b r nm cnt : Nat} {S : Lit → Option Value} {lf : Lit → Bool} (h : RngV w b r nm S lf cnt) : r < w.heap.size := let ⟨_, h1, _⟩ := h; h1.lt
theorem RngV.left_eq {w : World} {b r nm cnt : Nat} {S : Lit → Option Value} {lf : Lit → Bool} (h : RngV w b r nm S lf cnt) : w.rangeLeft b r = cnt := let ⟨_, h1, _⟩ := h; h1.left_eq
theorem RngV.kept {w w' : World} {b r nm cnt : Nat} {S : Lit → Option Value} {lf : Lit → Bool} {row : Option Nat} (h : RngV w b r nm S lf cnt) (hg : w.grownBy w' row) (h1 : some b ≠ row) (h2 : some r ≠ row) : RngV w' b r nm S lf cnt := let ⟨D, g1, g2⟩ := h; ⟨D, g1.kept hg h1 h2, g2⟩
theorem RngV.below {w w' : World} {b r nm cnt : Nat} {S : Lit → Option Value} {lf : Lit → Bool} (h : RngV w b r nm S lf cnt) (hb : Below w.heap.size w w') : RngV w' b r nm S lf cnt := h.kept (grown_of_below (row := none) hb) (by simp) (by simp)
theorem RngV.keptS {Z : Nat → Prop} {w w' : World} {b r nm cnt : Nat} {S : Lit → Option Value} {lf : Lit → Bool} (h : RngV w b r nm S lf cnt) (hk : Kept Z w w') (h1 : ¬ Z b) (h2 : ¬ Z r) : RngV w' b r nm S lf cnt := by
  obtain ⟨D, ⟨es, clock, since, seen, c0, hb, F, hs, hD, hr, rest⟩, g2⟩ := h
  exact ⟨D, ⟨es, clock, since, seen, c0, (hk.block b (lt_of_block hb) h1).trans hb, F, hs, hD, (hk.block r (lt_of_block hr) h2).trans hr, rest⟩, g2⟩
theorem RngV.blocks {w : World} {b r nm cnt : Nat} {S : Lit → Option Value} {lf : Lit → Bool} (h : RngV w b r nm S lf cnt) : (∃ es clock, w.heap[b]? = some (.map es clock)) ∧ ∃ s seen c0, w.heap[r]? = some (.mapIter (some b) s seen c0) := by
  obtain ⟨D, ⟨es, clock, since, seen, c0, hb, F, hs, hD, hr, rest⟩, g2⟩ := h
  exact ⟨⟨es, clock, hb⟩, since, seen, c0, hr⟩
set_option maxRecDepth 100000 in
theorem ranges_has {w : World} {b r nm cnt : Nat} {D : DataW Value} {lf : Lit → Bool} (h : w.ranges Try.prog 3 heldV b r nm D lf cnt) {kl : Lit} (hl : lf kl = true) (hk : WideAt.IsKeyLit kl) : Maps.has D kl = true := by
  obtain ⟨es, clock, since, seen, c0, hb, F, hs, rfl, hr, _, _, _, h2, _⟩ := h
  obtain ⟨x, hx, he⟩ := h2 kl hl
  exact List.any_eq_true.2 ⟨Go.WideElems.rg Try.prog 3 heldV x, mem_sorted.2 (List.mem_map.2 ⟨x, hx, rfl⟩), by rw [he]; exact WideAt.sameKey_self hk⟩
theorem wpList_range_mapV {ops : Array Oper} {rest : List Oper} {o : Oper} {a : Act} {w : World} {Q : Exit → Act → World → Prop} (hg : o.guard = none) (m : Operand) (t : TypeId) (hop : o.op = Op.range t m) (e : TypeId) (ht : Try.prog.underlying t = some (.map 3 e)) (b nm : Nat) (S : Lit → Option Value)
    (hm : a.eval m = .map (some b)) (h : MapV w 3 b nm S)
    (hK : ∀ w' lf cnt, RngV w' b w.heap.size nm S lf cnt → (∀ kl, WideAt.IsKeyLit kl → lf kl = (S kl).isSome) → w.grownBy w' none → w'.heap.size = w.heap.size + 1 → wpList Try.prog ops Q rest (a.put o.dst (.pointer (some ⟨w.heap.size, 0, none⟩))) w') : wpList Try.prog ops Q (o :: rest) a w := by
  obtain ⟨D, h1, h2⟩ := h
  exact wpList_range_own w hg m t hop 3 e keyedV ht heldV b nm D hm h1 fun w' g1 g2 g3 => hK w' _ _ ⟨D, g1, h2⟩ (fun kl hk => (h2 kl hk).1) g2 g3
theorem wpList_next_mapV {ops : Array Oper} {rest : List Oper} {o : Oper} {a : Act} {w : World} {Q : Exit → Act → World → Prop} (hg : o.guard = none) (it : Operand) (hop : o.op = Op.next it false) (b r nm : Nat) (S : Lit → Option Value) (lf : Lit → Bool) (cnt : Nat)
    (hit : a.eval it = .pointer (some ⟨r, 0, none⟩)) (h : RngV w b r nm S lf cnt)
    (hDone : (∀ kl, lf kl = false) → wpList Try.prog ops Q rest (a.put o.dst (.tuple #[.bool false])) w)
    (hMore : ∀ (x : Int) (v : Value) (w' : World) (cnt' : Nat), (Lit.int .i64 x).wf = true → lf (.int .i64 x) = true → S (.int .i64 x) = some v → RngV w' b r nm S (fun z => lf z && !z.sameKey (.int .i64 x)) cnt' → cnt' < cnt →
      w.grownBy w' (some r) → w'.heap.size = w.heap.size → (Instr.entry (.pointer (some ⟨r, 0, none⟩))).run Try.prog w' = .ok (.tuple #[.int .i64 x, v]) w' → wpList Try.prog ops Q rest (a.put o.dst (.tuple #[.bool true, .int .i64 x, v])) w') : wpList Try.prog ops Q (o :: rest) a w := by
  obtain ⟨D, h1, h2⟩ := h
  refine wpList_next_ranges w hg it hop 3 keyedV heldV (Value.int .i64) (fun v : Value => v) (fun key kl hkey => by obtain ⟨x, rfl, _⟩ := Maps.keyOf_int_inv Try.underlying3 hkey; exact ⟨x, rfl⟩) (fun v y hv => ⟨v, rfl⟩) b r nm D lf cnt hit h1 (fun _ hl => hDone hl) ?_
  intro x v kl y w' cnt' hkey hlk hv hat hrg hlt hgr hsz hen
  obtain ⟨x', ex, rfl, hwx⟩ := Maps.keyOf_int_inv Try.underlying3 hkey
  cases ex
  have h3 := ranges_has h1 hlk (isKeyI x)
  rw [(h2 _ (isKeyI x)).1] at h3
  obtain ⟨u, hu⟩ := Option.isSome_iff_exists.1 h3
  have h4 := (h2 _ (isKeyI x)).2 u hu (.held v)
  have h5 := hat (.held v)
  rw [h4] at h5
  simp only [heldV, Option.some.injEq] at hv
  rw [← hv] at h5
  have h6 : u = v := by simpa using h5
  subst h6
  exact hMore x u w' cnt' hwx hlk hu ⟨D, hrg, h2⟩ hlt hgr hsz hen
/-- How many there are: none, just if no key is held. -/
theorem MapV.len2 {w : World} {t e : TypeId} {b n : Nat} {S : Lit → Option Value} (h : MapV w 3 b n S) (ht : Try.prog.underlying t = some (.map 3 e)) :
    ∃ q : Nat, (∀ ty, (Builtin.len_ #[t] ty #[.map (some b)]).run Try.prog w = .ok (.int .i64 q) w) ∧ (0 < q ↔ ∃ kl, WideAt.IsKeyLit kl ∧ (S kl).isSome = true) := by
  obtain ⟨D, h1, h2⟩ := h
  refine ⟨_, fun ty => h1.len ht ty, ?_⟩
  obtain ⟨es, rfl, hpw, hkl⟩ := h1.entries keyedV
  constructor
  · intro hq
    rw [Maps.size_eq] at hq
    cases es with
    | nil => simp at hq
    | cons p r =>
      have hp := hkl p (List.mem_cons_self ..)
      refine ⟨p.1, hp, ?_⟩
      rw [← (h2 p.1 hp).1, Maps.has_eq]
      exact List.any_eq_true.2 ⟨p, List.mem_cons_self .., WideAt.sameKey_self hp⟩
  · rintro ⟨kl, hk, hs⟩
    rw [← (h2 kl hk).1, Maps.has_eq] at hs
    rw [Maps.size_eq]
    cases es with
    | nil => simp at hs
    | cons p r => simp
end Go.Proofs.Ytjkcjbcbnnpmfaa
