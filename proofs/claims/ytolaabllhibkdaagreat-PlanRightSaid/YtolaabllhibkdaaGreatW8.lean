/- Contracts and plain facts, several texts of mine in one: QTail2, Forced, Small08, PlanMath2, PlanTo. No condition. -/
import Derived.Test.YtolaabllhibkdaaGreatW7
import Derived.Deep.DeepMust

/- A region that draws its order, taken in pieces: a piece that is quiet up to a gate, from wherever one stands; a step that is forced. No condition. -/
namespace Go.Proofs.YtolaabllhibkdaaGreat
open Go.Sort Go.RowKit
set_option linter.unusedSimpArgs false
set_option linter.unusedVariables false
section
variable {P : Program} {ops : Array Oper} {md : Region.Mode} {C : World → Prop}
theorem lexFin_add : ∀ (a b k : Nat) (l : Array Bool), lexFin (a + b) k l = lexFin b (k + a) (lexFin a k l)
  | 0, b, k, l => by rw [Nat.zero_add]; rfl
  | a + 1, b, k, l => by
    rw [show a + 1 + b = (a + b) + 1 by omega, lexFin, lexFin_add a b (k + 1), lexFin, show k + 1 + a = k + (a + 1) by omega]
theorem lexFin_size : ∀ (a k : Nat) (l : Array Bool), (lexFin a k l).size = l.size
  | 0, _, _ => rfl
  | a + 1, k, l => by rw [lexFin, lexFin_size a]; simp
def closedB (md : Region.Mode) (ops : Array Oper) (listed : Array Bool) : Bool :=
  (List.range ops.size).all fun j => !listed.getD j false || match ops[j]? with
    | some o => o.after.all fun e => !Region.binds md e || listed.getD e.on false
    | none => true
theorem closedB_spec {listed : Array Bool} (h : closedB md ops listed = true) : ∀ j oj, ops[j]? = some oj → listed.getD j false = true → ∀ e ∈ oj.after, Region.binds md e = true → listed.getD e.on false = true := by
  intro j oj hj hl e he hb
  have hlt : j < ops.size := (Array.getElem?_eq_some_iff.1 hj).1
  have h1 := List.all_eq_true.1 h j (List.mem_range.2 hlt)
  simp only [hl, Bool.not_true, Bool.false_or, hj] at h1
  have h2 := Array.all_eq_true'.1 h1 e he
  simp only [hb, Bool.not_true, Bool.false_or] at h2
  exact h2
def tailB (ops : Array Oper) (n : Nat) (listed : Array Bool) : Bool := (List.range ops.size).all fun t => decide (t < n) || !listed.getD t true
def gatedFrom (md : Region.Mode) (ops : Array Oper) (p m : Nat) : Bool :=
  Region.noSelect ops && decide (p ≤ m) && decide (m + 1 ≤ ops.size) && Region.sinkB md ops m && gateB md ops (m + 1) && lexTo md ops (m + 1 - p) p (lexFin p 0 (Array.replicate ops.size false)) &&
    (Region.ready md ops (lexFin (m + 1) 0 (Array.replicate ops.size false))).all (fun j => decide (m + 1 ≤ j)) && closedB md ops (lexFin p 0 (Array.replicate ops.size false)) && tailB ops (m + 1) (lexFin p 0 (Array.replicate ops.size false))
/-- From where the first p operations have come up: those up to m in one quiet walk; what follows in whatever order. -/
theorem wpAny_gate_from {Q : Exit → Act → World → Prop} {a : Act} {w : World} {l : List Oper} (p m : Nat) (hB : gatedFrom .any l.toArray p m = true)
    (h : wpQuiet P l.toArray (fun w' => ∃ p : Regrown, w' = grow (redrawn w p.d) p.os) (fun a' => ∀ w', (∃ p : Regrown, w' = grow (redrawn w p.d) p.os) → wpAny P .any l.toArray Q (l.length - (m + 1)) (lexFin (m + 1) 0 (Array.replicate l.length false)) a' w') ((l.drop p).take (m + 1 - p)) a) : wpAny P .any l.toArray Q (l.length - p) (lexFin p 0 (Array.replicate l.length false)) a w := by
  simp only [gatedFrom, Bool.and_eq_true, decide_eq_true_eq] at hB
  obtain ⟨⟨⟨⟨⟨⟨⟨⟨hsel, hpm⟩, hn⟩, hs⟩, hg⟩, hlex⟩, hfin⟩, hcl⟩, htail⟩ := hB
  have hn' : m + 1 ≤ l.length := by simpa using hn
  have htl : ((l.drop p).take (m + 1 - p)).length = m + 1 - p := by simp; omega
  have hsz : l.toArray.size = l.length := by simp
  rw [hsz] at hlex hfin hcl htail
  have inv0 : HeadInv .any l.toArray (m + 1) (lexFin p 0 (Array.replicate l.length false)) :=
    ⟨by rw [lexFin_size]; simp, closedB_spec hcl, fun t ht hlt => by
      have h1 := List.all_eq_true.1 htail t (List.mem_range.2 hlt)
      simp only [Bool.or_eq_true, decide_eq_true_eq, Bool.not_eq_true'] at h1
      rcases h1 with h1 | h1
      · omega
      · exact h1⟩
  have hfe : lexFin (m + 1 - p) p (lexFin p 0 (Array.replicate l.length false)) = lexFin (m + 1) 0 (Array.replicate l.length false) := by
    have := lexFin_add p (m + 1 - p) 0 (Array.replicate l.length false)
    rw [show p + (m + 1 - p) = m + 1 by omega, Nat.zero_add] at this
    exact this.symm
  have H := wpAnyLQ_lexg (C := fun w' => ∃ p : Regrown, w' = grow (redrawn w p.d) p.os) (md := .any) (fin := lexFin (m + 1) 0 (Array.replicate l.length false)) hsel (fun _ inv => gate_waits hs hg inv) hfin ((l.drop p).take (m + 1 - p)) p _ a (fun j hj => by
    have hj' : j < m + 1 - p := by rw [htl] at hj; exact hj
    simp [hj', List.getElem?_take, List.getElem?_drop]) (by rw [htl]; omega) inv0 (by rw [htl]; exact hlex) (by rw [htl]; exact hfe) h
  have := wpAny_of_headQ (C := fun w' => ∃ p : Regrown, w' = grow (redrawn w p.d) p.os) (Q' := Q) (g := l.length - (m + 1)) (fun listed a' w' hw' hL => by
    rw [hL.1]
    exact hL.2 w' hw') _ _ _ w ⟨⟨w.drawn, #[]⟩, by rw [grow_empty]; rfl⟩ H
  rw [htl, show m + 1 - p + (l.length - (m + 1)) = l.length - p by omega] at this
  exact this
/-- One that is forced. -/
theorem wpAny_forced {Q : Exit → Act → World → Prop} {l : List Oper} {n p f : Nat} {a : Act} {w : World} (hr : Region.ready .any l.toArray (lexFin p 0 (Array.replicate n false)) = [p])
    (h : wpOp P l.toArray Q p (fun a' w' => wpAny P .any l.toArray Q f (lexFin (p + 1) 0 (Array.replicate n false)) a' w') a w) : wpAny P .any l.toArray Q (f + 1) (lexFin p 0 (Array.replicate n false)) a w := by
  refine ⟨fun h0 => (by rw [hr] at h0; cases h0), fun i hi => ?_⟩
  rw [hr] at hi
  have hip : i = p := by simpa using hi
  subst hip
  have e : (lexFin i 0 (Array.replicate n false)).setIfInBounds i true = lexFin (i + 1) 0 (Array.replicate n false) := by
    have := lexFin_add i 1 0 (Array.replicate n false)
    rw [this, Nat.zero_add]; rfl
  rw [e]
  exact h
/-- One that yields in whatever world, ahead of the others. -/
theorem wpAny_taken {Q : Exit → Act → World → Prop} {l : List Oper} {n p f : Nat} {a : Act} {w : World} {o : Oper} {v : Value} (hi : l.toArray[p]? = some o) (hs : Region.noSelect l.toArray = true) (hf : Region.free .any l.toArray (lexFin p 0 (Array.replicate n false)) p = true) (hr : (Region.ready .any l.toArray (lexFin p 0 (Array.replicate n false))).contains p = true)
    (hQ : ∀ c a w, Q (.panic c) (a.put o.dst v) w → Q (.panic c) a w) (hy : Yields P l.toArray o v a)
    (h : wpAny P .any l.toArray Q f (lexFin (p + 1) 0 (Array.replicate n false)) (a.put o.dst v) w) : wpAny P .any l.toArray Q (f + 1) (lexFin p 0 (Array.replicate n false)) a w := by
  refine wpAny_take hi hs hf hr hQ hy ?_
  have e : (lexFin p 0 (Array.replicate n false)).setIfInBounds p true = lexFin (p + 1) 0 (Array.replicate n false) := by
    have := lexFin_add p 1 0 (Array.replicate n false)
    rw [this, Nat.zero_add]; rfl
  rw [e]
  exact h
/-- Q, but for what follows in the normal way. -/
def Qn (Q : Exit → Act → World → Prop) (N : Act → World → Prop) : Exit → Act → World → Prop := fun e a w => match e with
  | .normal => N a w
  | e => Q e a w
theorem wp_qn {Q : Exit → Act → World → Prop} {N : Act → World → Prop} {o : Oper} {a : Act} {w : World} {K : Act → World → Prop} (hh : o.wp P a w K (Qn Q N)) : o.wp P a w K Q := by
  unfold Oper.wp at *
  generalize (execOp a.eval o).run P w = r at *
  cases r with
  | ok n w' =>
    cases n <;> simp only [Oper.upon] at hh ⊢ <;>
      first
        | exact hh
        | exact Calls.mono hh (fun e w'' he => by cases e <;> exact he)
  | halt x w' => cases x <;> simp only [Oper.upon] at hh ⊢ <;> exact hh
theorem wpList_qn {Q : Exit → Act → World → Prop} {N : Act → World → Prop} {i : Nat} {o : Oper} {rest : List Oper} {a : Act} {w : World} (ho : ops[i]? = some o) (h : wpList P ops (Qn Q N) (o :: rest) a w) : wpOp P ops Q i (wpList P ops (Qn Q N) rest) a w := by
  unfold wpOp
  rw [wpList] at h
  simp only [ho]
  split
  · rename_i hw
    simp only [hw, if_true] at h
    exact h.imp wp_qn id
  · rename_i hw
    simp only [hw] at h
    exact h
def forcedB (md : Region.Mode) (ops : Array Oper) (p j : Nat) : Bool := (List.range j).all fun i => decide (Region.ready md ops (lexFin (p + i) 0 (Array.replicate ops.size false)) = [p + i])
/-- j operations that are forced, in the order of the text. -/
theorem wpAny_forced_list {Q : Exit → Act → World → Prop} {l : List Oper} {f : Nat} : ∀ (j p : Nat) (a : Act) (w : World), forcedB .any l.toArray p j = true →
    wpList P l.toArray (Qn Q (fun a' w' => wpAny P .any l.toArray Q f (lexFin (p + j) 0 (Array.replicate l.length false)) a' w')) ((l.drop p).take j) a w → p + j ≤ l.length → wpAny P .any l.toArray Q (j + f) (lexFin p 0 (Array.replicate l.length false)) a w
  | 0, p, a, w, _, h, _ => by
    rw [Nat.zero_add]
    exact h
  | j + 1, p, a, w, hB, h, hl => by
    have hlt : p < l.length := by omega
    have hsz : l.toArray.size = l.length := by simp
    have hr : Region.ready .any l.toArray (lexFin p 0 (Array.replicate l.length false)) = [p] := by
      have := List.all_eq_true.1 hB 0 (List.mem_range.2 (by omega))
      rw [hsz] at this
      simpa using this
    rw [show j + 1 + f = (j + f) + 1 by omega]
    refine wpAny_forced hr ?_
    have hd : (l.drop p).take (j + 1) = l[p] :: (l.drop (p + 1)).take j := by rw [List.drop_eq_getElem_cons hlt, List.take_succ_cons]
    rw [hd] at h
    refine wpOp_mono (fun a' w' h' => wpAny_forced_list j (p + 1) a' w' ?_ ?_ (by omega)) (wpList_qn (by simp [hlt]) h)
    · refine List.all_eq_true.2 fun i hi => ?_
      have := List.all_eq_true.1 hB (i + 1) (List.mem_range.2 (by have := List.mem_range.1 hi; omega))
      rw [show p + (i + 1) = p + 1 + i by omega] at this
      exact this
    · rw [show p + 1 + j = p + (j + 1) by omega]
      exact h'
theorem wpOp_list {Q : Exit → Act → World → Prop} {i : Nat} {o : Oper} {K : Act → World → Prop} {a : Act} {w : World} (ho : ops[i]? = some o) (h : ∀ N : Act → World → Prop, (∀ a' w', K a' w' → N a' w') → wpList P ops (Qn Q N) [o] a w) : wpOp P ops Q i K a w :=
  wpOp_mono (fun _ _ h' => h') (wpList_qn ho (h K (fun _ _ h => h)))
/-- as wpAny_forced_list, what follows kept behind a letter -/
theorem wpAny_forcedK {Q : Exit → Act → World → Prop} {l : List Oper} {f : Nat} (j p : Nat) {a : Act} {w : World} (hB : forcedB .any l.toArray p j = true) (hl : p + j ≤ l.length)
    (h : ∀ N : Act → World → Prop, (∀ a' w', wpAny P .any l.toArray Q f (lexFin (p + j) 0 (Array.replicate l.length false)) a' w' → N a' w') → wpList P l.toArray (Qn Q N) ((l.drop p).take j) a w) : wpAny P .any l.toArray Q (j + f) (lexFin p 0 (Array.replicate l.length false)) a w :=
  wpAny_forced_list j p a w hB (h _ (fun _ _ h => h)) hl
/-! the same with the numbers written out -/
theorem wp_region_gateN {id : Nat} {Q : Exit → Act → World → Prop} {a : Act} {w : World} {l : List Oper} (m f n : Nat) (hm : P.follows .mixedOrders = true) (hB : gated .any l.toArray m = true) (hn : l.length = n) (hf : n - (m + 1) = f)
    (h : wpQuiet P l.toArray (fun w' => ∃ p : Regrown, w' = grow (redrawn w p.d) p.os) (fun a' => ∀ w', (∃ p : Regrown, w' = grow (redrawn w p.d) p.os) → wpAny P .any l.toArray Q f (lexFin (m + 1) 0 (Array.replicate n false)) a' w') (l.take (m + 1)) a) : (Code.region id l.toArray true).wp P Q a w := by
  subst hn hf
  exact wp_region_gate m hm hB h
theorem wpAny_gateN {Q : Exit → Act → World → Prop} {a : Act} {w : World} {l : List Oper} {f0 : Nat} (p m f n : Nat) (hB : gatedFrom .any l.toArray p m = true) (hn : l.length = n) (hf0 : n - p = f0) (hf : n - (m + 1) = f)
    (h : wpQuiet P l.toArray (fun w' => ∃ p : Regrown, w' = grow (redrawn w p.d) p.os) (fun a' => ∀ w', (∃ p : Regrown, w' = grow (redrawn w p.d) p.os) → wpAny P .any l.toArray Q f (lexFin (m + 1) 0 (Array.replicate n false)) a' w') ((l.drop p).take (m + 1 - p)) a) : wpAny P .any l.toArray Q f0 (lexFin p 0 (Array.replicate n false)) a w := by
  subst hn hf hf0
  exact wpAny_gate_from p m hB h
theorem wpAny_forcedN {Q : Exit → Act → World → Prop} {l : List Oper} {g : Nat} (j p f n : Nat) {a : Act} {w : World} (hB : forcedB .any l.toArray p j = true) (hn : l.length = n) (hl : p + j ≤ n) (hg : j + f = g)
    (h : ∀ N : Act → World → Prop, (∀ a' w', wpAny P .any l.toArray Q f (lexFin (p + j) 0 (Array.replicate n false)) a' w' → N a' w') → wpList P l.toArray (Qn Q N) ((l.drop p).take j) a w) : wpAny P .any l.toArray Q g (lexFin p 0 (Array.replicate n false)) a w := by
  subst hn hg
  exact wpAny_forcedK j p hB hl h
end
end Go.Proofs.YtolaabllhibkdaaGreat

/- A region that draws its order and is nearly forced (a chain of '&&'): piece by piece, by cheap looks at what each operation waits for. No condition. -/
namespace Go.Proofs.YtolaabllhibkdaaGreat
open Go.Sort Go.RowKit
set_option linter.unusedSimpArgs false
set_option linter.unusedVariables false
section
variable {P : Program} {C : World → Prop} {Q : Exit → Act → World → Prop}
/-- What an operation waits for, whatever the order. -/
def onsOf (o : Oper) : List Nat := (o.after.toList.filter (Region.binds .any)).map (·.on)
def lowB (q : Nat) (os : List Nat) : Bool := os.all fun e => Nat.blt e q
def hiB (q : Nat) (os : List Nat) : Bool := os.any fun e => Nat.ble q e
def segB : List (List Nat) → Nat → Nat → Bool
  | _, _, 0 => true
  | [], _, _ + 1 => false
  | x :: r, q, j + 1 => lowB q x && r.all (hiB q) && segB r (q + 1) j
theorem lexFin_get : ∀ (q n i : Nat) (d : Bool), i < n → (lexFin q 0 (Array.replicate n false)).getD i d = decide (i < q)
  | 0, n, i, d, h => by
    show (Array.replicate n false).getD i d = _
    simp [h]
  | q + 1, n, i, d, h => by
    have e : lexFin (q + 1) 0 (Array.replicate n false) = (lexFin q 0 (Array.replicate n false)).setIfInBounds q true := by
      have := lexFin_add q 1 0 (Array.replicate n false)
      rw [this, Nat.zero_add]; rfl
    rw [e]
    by_cases hi : q = i
    · subst hi
      have hs : q < (lexFin q 0 (Array.replicate n false)).size := by rw [lexFin_size]; simpa using h
      simp [hs]
    · rw [getD_set_ne d hi, lexFin_get q n i d h]
      have : (i < q) ↔ (i < q + 1) := by omega
      simp [this]
theorem mem_ons {o : Oper} {e : Nat} (h : e ∈ onsOf o) : ∃ x ∈ o.after, Region.binds .any x = true ∧ x.on = e := by
  unfold onsOf at h
  obtain ⟨x, hx, rfl⟩ := List.mem_map.1 h
  obtain ⟨h1, h2⟩ := List.mem_filter.1 hx
  exact ⟨x, by simpa using h1, h2, rfl⟩
theorem ons_mem {o : Oper} {x : Edge} (h : x ∈ o.after) (hb : Region.binds .any x = true) : x.on ∈ onsOf o :=
  List.mem_map.2 ⟨x, List.mem_filter.2 ⟨by simpa using h, hb⟩, rfl⟩
/-- Which ones are ready, by what they wait for: 'listed' is known by its look-ups. -/
theorem ready_iff {l : List Oper} {listed : Array Bool} {i : Nat} : i ∈ Region.ready .any l.toArray listed ↔ listed.getD i true = false ∧ ∃ o, l[i]? = some o ∧ ∀ e ∈ onsOf o, listed.getD e false = true := by
  rw [mem_ready]
  constructor
  · rintro ⟨h1, o, ho, h2⟩
    refine ⟨h1, o, by simpa using ho, fun e he => ?_⟩
    obtain ⟨x, hx, hb, rfl⟩ := mem_ons he
    exact h2 x hx hb
  · rintro ⟨h1, o, ho, h2⟩
    exact ⟨h1, o, by simpa using ho, fun x hx hb => h2 _ (ons_mem hx hb)⟩
theorem lowB_spec {q : Nat} {os : List Nat} (h : lowB q os = true) : ∀ e ∈ os, e < q := fun e he => by
  have := List.all_eq_true.1 h e he
  simpa using this
theorem hiB_spec {q : Nat} {os : List Nat} (h : hiB q os = true) : ∃ e ∈ os, q ≤ e := by
  obtain ⟨e, he, h2⟩ := List.any_eq_true.1 h
  exact ⟨e, he, by simpa using h2⟩
theorem getD_false_lt {V : Array Bool} {i : Nat} (h : V.getD i false = true) : i < V.size := by
  rcases Nat.lt_or_ge i V.size with h1 | h1
  · exact h1
  · simp [Array.getD, Nat.not_lt.2 h1] at h
theorem ready_one {l : List Oper} {q : Nat} {x : List Nat} {r : List (List Nat)} (hl : (l.drop q).map onsOf = x :: r) (h1 : lowB q x = true) (h2 : r.all (hiB q) = true) :
    q ∈ Region.ready .any l.toArray (lexFin q 0 (Array.replicate l.length false)) ∧ ∀ i ∈ Region.ready .any l.toArray (lexFin q 0 (Array.replicate l.length false)), i = q := by
  have hlt : q < l.length := by
    rcases Nat.lt_or_ge q l.length with h | h
    · exact h
    · rw [List.drop_eq_nil_of_le h] at hl; simp at hl
  have hd : l.drop q = l[q] :: l.drop (q + 1) := List.drop_eq_getElem_cons hlt
  rw [hd, List.map_cons] at hl
  have hx : onsOf l[q] = x := by injection hl
  have hr : (l.drop (q + 1)).map onsOf = r := by injection hl
  constructor
  · rw [ready_iff]
    refine ⟨by rw [lexFin_get _ _ _ _ hlt]; simp, l[q], by simp [hlt], fun e he => ?_⟩
    rw [hx] at he
    have := lowB_spec h1 e he
    rw [lexFin_get _ _ _ _ (by omega)]
    simpa using this
  · intro i hi
    obtain ⟨hu, o, ho, hall⟩ := ready_iff.1 hi
    have hil : i < l.length := (List.getElem?_eq_some_iff.1 ho).1
    rw [lexFin_get _ _ _ _ hil] at hu
    have hqi : q ≤ i := by simpa using hu
    rcases Nat.lt_or_ge q i with h | h
    · exfalso
      have hm : onsOf o ∈ r := by
        rw [← hr]
        refine List.mem_map.2 ⟨o, ?_, rfl⟩
        refine List.mem_iff_getElem?.2 ⟨i - (q + 1), ?_⟩
        rw [List.getElem?_drop, show q + 1 + (i - (q + 1)) = i by omega]
        exact ho
      obtain ⟨e, he, hqe⟩ := hiB_spec (List.all_eq_true.1 h2 _ hm)
      have h3 := hall e he
      have hes := getD_false_lt h3
      rw [lexFin_size] at hes
      rw [lexFin_get _ _ _ _ (by simpa using hes)] at h3
      have : e < q := by simpa using h3
      omega
    · omega
theorem lexFin_set (q n : Nat) : (lexFin q 0 (Array.replicate n false)).setIfInBounds q true = lexFin (q + 1) 0 (Array.replicate n false) := by
  have := lexFin_add q 1 0 (Array.replicate n false)
  rw [this, Nat.zero_add]; rfl
theorem wpAny_segs {l : List Oper} {f : Nat} {Lq : Act → Prop} : ∀ (j p : Nat) (a : Act) (w : World), segB ((l.drop p).map onsOf) p j = true → C w → wpQuiet P l.toArray C Lq ((l.drop p).take j) a →
    (∀ a' w', C w' → Lq a' → wpAny P .any l.toArray Q f (lexFin (p + j) 0 (Array.replicate l.length false)) a' w') → wpAny P .any l.toArray Q (j + f) (lexFin p 0 (Array.replicate l.length false)) a w
  | 0, p, a, w, _, hC, h, hL => by
    rw [Nat.zero_add]
    exact hL a w hC h
  | j + 1, p, a, w, hB, hC, h, hL => by
    cases hl : (l.drop p).map onsOf with
    | nil => rw [hl] at hB; simp [segB] at hB
    | cons x r =>
      rw [hl] at hB
      simp only [segB, Bool.and_eq_true] at hB
      obtain ⟨⟨h1, h2⟩, h3⟩ := hB
      obtain ⟨hm, hu⟩ := ready_one hl h1 h2
      have hlt : p < l.length := by
        rcases Nat.lt_or_ge p l.length with h | h
        · exact h
        · rw [List.drop_eq_nil_of_le h] at hl; simp at hl
      have hd : l.drop p = l[p] :: l.drop (p + 1) := List.drop_eq_getElem_cons hlt
      have hr : (l.drop (p + 1)).map onsOf = r := by rw [hd, List.map_cons] at hl; injection hl
      rw [hd, List.take_succ_cons] at h
      have hq : qOp P l.toArray C p (wpQuiet P l.toArray C Lq ((l.drop (p + 1)).take j)) a := by
        unfold qOp
        have : l.toArray[p]? = some l[p] := by simp [hlt]
        simp only [this]
        exact h
      rw [show j + 1 + f = (j + f) + 1 by omega]
      refine ⟨fun h0 => (by rw [h0] at hm; cases hm), fun i hi => ?_⟩
      obtain rfl := hu i hi
      rw [lexFin_set]
      exact wpOp_of_qOp hC (fun a' w' hC' h' => wpAny_segs j (i + 1) a' w' (by rw [hr]; exact h3) hC' h' (by rw [show i + 1 + j = i + (j + 1) by omega]; exact hL)) hq
/-- A quiet piece, forced. -/
theorem wpAny_segN {l : List Oper} {g : Nat} {a : Act} {w : World} (j p f n : Nat) (hB : segB ((l.drop p).map onsOf) p j = true) (hn : l.length = n) (hg : j + f = g)
    (h : wpQuiet P l.toArray (fun w' => ∃ p : Regrown, w' = grow (redrawn w p.d) p.os) (fun a' => ∀ w', (∃ p : Regrown, w' = grow (redrawn w p.d) p.os) → wpAny P .any l.toArray Q f (lexFin (p + j) 0 (Array.replicate n false)) a' w') ((l.drop p).take j) a) : wpAny P .any l.toArray Q g (lexFin p 0 (Array.replicate n false)) a w := by
  subst hn hg
  exact wpAny_segs (C := fun w' => ∃ p : Regrown, w' = grow (redrawn w p.d) p.os) j p a w hB ⟨⟨w.drawn, #[]⟩, by rw [grow_empty]; rfl⟩ h (fun a' w' hC hL => hL w' hC)
/-- The head of a region, forced, quiet. -/
theorem wp_region_segN {id : Nat} {a : Act} {w : World} {l : List Oper} (j f n : Nat) (hm : P.follows .mixedOrders = true) (hB : segB (l.map onsOf) 0 j = true) (hn : l.length = n) (hg : j + f = n)
    (h : wpQuiet P l.toArray (fun w' => ∃ p : Regrown, w' = grow (redrawn w p.d) p.os) (fun a' => ∀ w', (∃ p : Regrown, w' = grow (redrawn w p.d) p.os) → wpAny P .any l.toArray Q f (lexFin j 0 (Array.replicate n false)) a' w') (l.take j) a) : (Code.region id l.toArray true).wp P Q a w := by
  subst hn
  refine wp_region_any hm ?_
  have h2 := wpAny_segs (P := P) (Q := Q) (l := l) (f := f) (C := fun w' => ∃ p : Regrown, w' = grow (redrawn w p.d) p.os) j 0 a w.drew hB ⟨⟨w.drawn + 1, #[]⟩, by rw [grow_empty]; rfl⟩ h (fun a' w' hC hL => by rw [Nat.zero_add]; exact hL w' hC)
  rw [hg] at h2
  exact h2
/-- Two that are quiet, in either order. -/
def fPairB (os : List (List Nat)) (p : Nat) : Bool := match os with
  | x :: y :: r => lowB p x && lowB p y && r.all fun z => hiB (p + 1) z && z.any fun e => Nat.ble p e && !(e == p + 1)
  | _ => false
theorem wpAny_pairs {l : List Oper} {f p : Nat} {Lq : Act → Prop} {a : Act} {w : World} {o1 o2 : Oper} (hB : fPairB ((l.drop p).map onsOf) p = true) (h1 : l[p]? = some o1) (h2 : l[p + 1]? = some o2) (hap : o1.apart l.toArray o2 = true) (hsel : Region.noSelect l.toArray = true) (hC : C w) (h : wpQuiet P l.toArray C Lq [o1, o2] a)
    (hL : ∀ a' w', C w' → Lq a' → wpAny P .any l.toArray Q f (lexFin (p + 2) 0 (Array.replicate l.length false)) a' w') : wpAny P .any l.toArray Q (f + 2) (lexFin p 0 (Array.replicate l.length false)) a w := by
  have hlt : p + 1 < l.length := (List.getElem?_eq_some_iff.1 h2).1
  have e1 : l[p] = o1 := (List.getElem?_eq_some_iff.1 h1).2
  have e2 : l[p + 1] = o2 := (List.getElem?_eq_some_iff.1 h2).2
  have hd : l.drop p = o1 :: o2 :: l.drop (p + 2) := by rw [List.drop_eq_getElem_cons (show p < l.length by omega), List.drop_eq_getElem_cons hlt, e1, e2]
  rw [hd] at hB
  simp only [List.map_cons, fPairB, Bool.and_eq_true] at hB
  obtain ⟨⟨b1, b2⟩, b3⟩ := hB
  have hrest : ∀ i o, p + 2 ≤ i → l[i]? = some o → (∃ e ∈ onsOf o, p + 1 ≤ e) ∧ ∃ e ∈ onsOf o, p ≤ e ∧ e ≠ p + 1 := by
    intro i o hi ho
    have hm : onsOf o ∈ (l.drop (p + 2)).map onsOf := by
      refine List.mem_map.2 ⟨o, ?_, rfl⟩
      refine List.mem_iff_getElem?.2 ⟨i - (p + 2), ?_⟩
      rw [List.getElem?_drop, show p + 2 + (i - (p + 2)) = i by omega]
      exact ho
    have := List.all_eq_true.1 b3 _ hm
    simp only [Bool.and_eq_true] at this
    refine ⟨hiB_spec this.1, ?_⟩
    obtain ⟨e, he, h3⟩ := List.any_eq_true.1 this.2
    simp only [Bool.and_eq_true, Bool.not_eq_true', beq_eq_false_iff_ne, ne_eq] at h3
    exact ⟨e, he, by simpa using h3.1, h3.2⟩
  have low1 : ∀ e ∈ onsOf o1, e < p := lowB_spec b1
  have low2 : ∀ e ∈ onsOf o2, e < p := lowB_spec b2
  let V0 := lexFin p 0 (Array.replicate l.length false)
  have g0 : ∀ i d, i < l.length → V0.getD i d = decide (i < p) := fun i d hi => lexFin_get p l.length i d hi
  have z0 : V0.size = l.length := by show (lexFin p 0 _).size = _; rw [lexFin_size]; simp
  have a1 : l.toArray[p]? = some o1 := by simpa using h1
  have a2 : l.toArray[p + 1]? = some o2 := by simpa using h2
  have hs1 := fun cs b => Region.noSelect_spec hsel p o1 cs b a1
  have hs2 := fun cs b => Region.noSelect_spec hsel (p + 1) o2 cs b a2
  have hq1 : qOp P l.toArray C p (wpQuiet P l.toArray C Lq [o2]) a := by unfold qOp; simp only [a1]; exact h
  obtain ⟨v, hy, hK⟩ := yieldsIn_of_qOp a1 hq1
  have hq2 : qOp P l.toArray C (p + 1) Lq (a.put o1.dst v) := by unfold qOp; simp only [a2]; exact hK
  have hq3 := qOp_put a2 hap hs1 hs2 hy hq2
  have eV : (V0.setIfInBounds p true).setIfInBounds (p + 1) true = lexFin (p + 2) 0 (Array.replicate l.length false) := by
    show ((lexFin p 0 _).setIfInBounds p true).setIfInBounds (p + 1) true = _
    rw [lexFin_set, lexFin_set]
  have hmem1 : p ∈ Region.ready .any l.toArray V0 := ready_iff.2 ⟨by rw [g0 _ _ (by omega)]; simp, o1, h1, fun e he => by rw [g0 _ _ (by have := low1 e he; omega)]; simpa using low1 e he⟩
  show wpAny P .any l.toArray Q (f + 2) V0 a w
  refine ⟨fun h0 => (by rw [h0] at hmem1; cases hmem1), fun i hi => ?_⟩
  obtain ⟨hu, o, ho, hall⟩ := ready_iff.1 hi
  have hil : i < l.length := (List.getElem?_eq_some_iff.1 ho).1
  rw [g0 _ _ hil] at hu
  have hpi : p ≤ i := by simpa using hu
  have hcase : i = p ∨ i = p + 1 := by
    rcases Nat.lt_or_ge i (p + 2) with h | h
    · omega
    · obtain ⟨⟨e, he, hpe⟩, _⟩ := hrest i o h ho
      have h3 := hall e he
      have hes := getD_false_lt h3
      rw [z0] at hes
      rw [g0 _ _ hes] at h3
      have : e < p := by simpa using h3
      omega
  rcases hcase with rfl | rfl
  · refine wpOp_of_qOp hC (fun a' w' hC' h' => ?_) hq1
    have hV : V0.setIfInBounds i true = lexFin (i + 1) 0 (Array.replicate l.length false) := lexFin_set _ _
    rw [hV]
    have hr1 := ready_one (l := l) (q := i + 1) (x := onsOf o2) (r := (l.drop (i + 2)).map onsOf) (by rw [List.drop_eq_getElem_cons hlt, List.map_cons, e2]) (List.all_eq_true.2 fun e he => by have := low2 e he; simp; omega) (List.all_eq_true.2 fun z hz => by
      have := List.all_eq_true.1 b3 z hz
      simp only [Bool.and_eq_true] at this
      exact this.1)
    refine ⟨fun h0 => (by have := hr1.1; rw [h0] at this; cases this), fun k hk => ?_⟩
    obtain rfl := hr1.2 k hk
    rw [lexFin_set]
    have hq : qOp P l.toArray C (i + 1) Lq a' := by unfold qOp; simp only [a2]; exact h'
    exact wpOp_of_qOp hC' (fun a'' w'' hC'' h'' => hL a'' w'' hC'' h'') hq
  · refine wpOp_of_qOp hC (fun a' w' hC' h' => ?_) hq3
    obtain ⟨hy', hLq⟩ := h'
    have hun : (V0.setIfInBounds (p + 1) true).getD p true = false := by
      rw [getD_set_ne true (by omega), g0 _ _ (by omega)]
      simp
    have hmem : p ∈ Region.ready .any l.toArray (V0.setIfInBounds (p + 1) true) := ready_iff.2 ⟨hun, o1, h1, fun e he => by
      have := low1 e he
      rw [getD_set_ne false (by omega), g0 _ _ (by omega)]
      simpa using this⟩
    refine ⟨fun h0 => (by rw [h0] at hmem; cases hmem), fun k hk => ?_⟩
    obtain ⟨hu2, ok, hok, hall2⟩ := ready_iff.1 hk
    have hkl : k < l.length := (List.getElem?_eq_some_iff.1 hok).1
    have hkp : k = p := by
      rcases Nat.lt_or_ge k (p + 2) with h | h
      · by_cases hk1 : k = p + 1
        · subst hk1
          have hs : p + 1 < V0.size := by rw [z0]; exact hlt
          simp [hs] at hu2
        · rw [getD_set_ne true (by omega), g0 _ _ hkl] at hu2
          have : p ≤ k := by simpa using hu2
          omega
      · obtain ⟨_, e, he, hpe, hne⟩ := hrest k ok h hok
        have h3 := hall2 e he
        rw [getD_set_ne false (by omega)] at h3
        have hes := getD_false_lt h3
        rw [z0] at hes
        rw [g0 _ _ hes] at h3
        have : e < p := by simpa using h3
        omega
    subst hkp
    have eV2 : (V0.setIfInBounds (k + 1) true).setIfInBounds k true = lexFin (k + 2) 0 (Array.replicate l.length false) := by
      rw [Array.setIfInBounds_comm _ _ (by omega)]
      exact eV
    rw [eV2]
    exact wpOp_of_qOp hC' (fun a'' w'' hC'' h'' => hL a'' w'' hC'' h'') (hy'.qOp a1 hLq)
theorem wpAny_pairN {l : List Oper} {g : Nat} {a : Act} {w : World} (p f n : Nat) {o1 o2 : Oper} (hB : fPairB ((l.drop p).map onsOf) p = true) (h1 : l[p]? = some o1) (h2 : l[p + 1]? = some o2) (hap : o1.apart l.toArray o2 = true) (hsel : Region.noSelect l.toArray = true) (hn : l.length = n) (hg : f + 2 = g)
    (h : wpQuiet P l.toArray (fun w' => ∃ p : Regrown, w' = grow (redrawn w p.d) p.os) (fun a' => ∀ w', (∃ p : Regrown, w' = grow (redrawn w p.d) p.os) → wpAny P .any l.toArray Q f (lexFin (p + 2) 0 (Array.replicate n false)) a' w') [o1, o2] a) : wpAny P .any l.toArray Q g (lexFin p 0 (Array.replicate n false)) a w := by
  subst hn hg
  exact wpAny_pairs (C := fun w' => ∃ p : Regrown, w' = grow (redrawn w p.d) p.os) hB h1 h2 hap hsel ⟨⟨w.drawn, #[]⟩, by rw [grow_empty]; rfl⟩ h (fun a' w' hC hL => hL w' hC)
/-- Some that are forced, as a list; what follows behind a letter. -/
theorem wpAny_forcedS {l : List Oper} {f : Nat} : ∀ (j p : Nat) (a : Act) (w : World), segB ((l.drop p).map onsOf) p j = true →
    wpList P l.toArray (Qn Q (fun a' w' => wpAny P .any l.toArray Q f (lexFin (p + j) 0 (Array.replicate l.length false)) a' w')) ((l.drop p).take j) a w → wpAny P .any l.toArray Q (j + f) (lexFin p 0 (Array.replicate l.length false)) a w
  | 0, p, a, w, _, h => by
    rw [Nat.zero_add]
    exact h
  | j + 1, p, a, w, hB, h => by
    cases hl : (l.drop p).map onsOf with
    | nil => rw [hl] at hB; simp [segB] at hB
    | cons x r =>
      rw [hl] at hB
      simp only [segB, Bool.and_eq_true] at hB
      obtain ⟨⟨h1, h2⟩, h3⟩ := hB
      obtain ⟨hm, hu⟩ := ready_one hl h1 h2
      have hlt : p < l.length := by
        rcases Nat.lt_or_ge p l.length with h | h
        · exact h
        · rw [List.drop_eq_nil_of_le h] at hl; simp at hl
      have hd : l.drop p = l[p] :: l.drop (p + 1) := List.drop_eq_getElem_cons hlt
      have hr : (l.drop (p + 1)).map onsOf = r := by rw [hd, List.map_cons] at hl; injection hl
      rw [hd, List.take_succ_cons] at h
      rw [show j + 1 + f = (j + f) + 1 by omega]
      refine ⟨fun h0 => (by rw [h0] at hm; cases hm), fun i hi => ?_⟩
      obtain rfl := hu i hi
      rw [lexFin_set]
      refine wpOp_mono (fun a' w' h' => wpAny_forcedS j (i + 1) a' w' (by rw [hr]; exact h3) ?_) (wpList_qn (by simp [hlt]) h)
      rw [show i + 1 + j = i + (j + 1) by omega]
      exact h'
theorem wpAny_forcedSN {l : List Oper} {g : Nat} (j p f n : Nat) {a : Act} {w : World} (hB : segB ((l.drop p).map onsOf) p j = true) (hn : l.length = n) (hg : j + f = g)
    (h : ∀ N : Act → World → Prop, (∀ a' w', wpAny P .any l.toArray Q f (lexFin (p + j) 0 (Array.replicate n false)) a' w' → N a' w') → wpList P l.toArray (Qn Q N) ((l.drop p).take j) a w) : wpAny P .any l.toArray Q g (lexFin p 0 (Array.replicate n false)) a w := by
  subst hn hg
  exact wpAny_forcedS j p a w hB (h _ (fun _ _ h => h))
end
end Go.Proofs.YtolaabllhibkdaaGreat

/- Layer 8's small case comes out right. No condition. -/
namespace Go.Proofs.YtolaabllhibkdaaGreat
open Go.ChangeShapes Go.WideShapes Go.ChangeAt Go.RowKit Go.Sort
set_option linter.unusedSimpArgs false
set_option linter.unusedVariables false
theorem s08_ew : ∀ j, j < 2 → (Lit.int .i64 (gDr s08_e j).op).wf = true ∧ (Lit.int .i64 (gDr s08_e j).kd).wf = true := by decide +kernel
theorem s08_dw : ∀ j, j < 3 → (Lit.int .i64 (gDr s08_d j).op).wf = true ∧ (Lit.int .i64 (gDr s08_d j).kd).wf = true := by decide +kernel
set_option maxHeartbeats 16000000 in
set_option maxRecDepth 100000 in
theorem small08_any (w : World) : Calls Tryz.prog 10 #[] w fun e w' => e = .returned (.bool true) ∧ Below w.heap.size w w' := by
  go_enter Tryz.func10, Tryz.ntmps10
  go_wp2_with fail
  refine (pnew_any w).mono ?_
  rintro e w1 ⟨rfl, hB⟩
  have hs := hB.size
  go_wp2_with fail
  refine (lspan_any 90 w1).mono ?_
  rintro e w2 ⟨rfl, hb⟩
  replace hB := hB.trans (hb.mono hs)
  replace hs := hB.size
  clear hb
  go_wp2_with fail
  refine (lcontact_any 7 20 15 w2 (by decide)).mono ?_
  rintro e w3 ⟨rfl, hb⟩
  replace hB := hB.trans (hb.mono hs)
  replace hs := hB.size
  clear hb
  go_wp2_with fail
  refine (lcontact_any 8 30 25 w3 (by decide)).mono ?_
  rintro e w4 ⟨rfl, hb⟩
  replace hB := hB.trans (hb.mono hs)
  replace hs := hB.size
  clear hb
  have ho := own_lit w4 0 37 13 3 #[.int .i64 1, .int .i64 2, .int .i64 0, .int .i64 0, .int .i64 0, .int .i64 0, .int .i64 0, .int .i64 0, .int .i64 1, .int .i64 2, .int .i64 0, .int .i64 90, .int .i64 4, .int .i64 1, .int .i64 1, .int .i64 7, .int .i64 1, .int .i64 2, .int .i64 15, .int .i64 20, .int .i64 3, .int .i64 0, .int .i64 0, .int .i64 0, .int .i64 0, .int .i64 0, .int .i64 1, .int .i64 1, .int .i64 8, .int .i64 1, .int .i64 2, .int .i64 25, .int .i64 30, .int .i64 3, .int .i64 0, .int .i64 0, .int .i64 0, .int .i64 0, .int .i64 0] (by omega) rfl (by simp [maxLen])
  have hb : Below w4.heap.size w4 (w4.alloc (.cells #[.int .i64 1, .int .i64 2, .int .i64 0, .int .i64 0, .int .i64 0, .int .i64 0, .int .i64 0, .int .i64 0, .int .i64 1, .int .i64 2, .int .i64 0, .int .i64 90, .int .i64 4, .int .i64 1, .int .i64 1, .int .i64 7, .int .i64 1, .int .i64 2, .int .i64 15, .int .i64 20, .int .i64 3, .int .i64 0, .int .i64 0, .int .i64 0, .int .i64 0, .int .i64 0, .int .i64 1, .int .i64 1, .int .i64 8, .int .i64 1, .int .i64 2, .int .i64 25, .int .i64 30, .int .i64 3, .int .i64 0, .int .i64 0, .int .i64 0, .int .i64 0, .int .i64 0] 37)) := by (repeat (first | exact Below.refl _ _ | refine Below.alloc ?_ (by first | omega | (simp; done) | (simp; omega)) _ | refine Below.setCell ?_ (by first | omega | (simp; done) | (simp; omega)) _ | refine Below.drew ?_))
  replace hB := hB.trans (hb.mono hs)
  replace hs := hB.size
  clear hb
  go_wp2_with fail
  generalize w4.alloc (.cells #[.int .i64 1, .int .i64 2, .int .i64 0, .int .i64 0, .int .i64 0, .int .i64 0, .int .i64 0, .int .i64 0, .int .i64 1, .int .i64 2, .int .i64 0, .int .i64 90, .int .i64 4, .int .i64 1, .int .i64 1, .int .i64 7, .int .i64 1, .int .i64 2, .int .i64 15, .int .i64 20, .int .i64 3, .int .i64 0, .int .i64 0, .int .i64 0, .int .i64 0, .int .i64 0, .int .i64 1, .int .i64 1, .int .i64 8, .int .i64 1, .int .i64 2, .int .i64 25, .int .i64 30, .int .i64 3, .int .i64 0, .int .i64 0, .int .i64 0, .int .i64 0, .int .i64 0] 37) = w5 at *
  refine (pall_any none 0 0 none 0 0 s08_0 (some ⟨w4.heap.size, 0, none⟩) 3 3 s08_d w5 rfl (by omega) s08_dw ⟨rfl, rfl, by omega, by omega, Sl.nil0 _ _ _, Sl.nil0 _ _ _⟩ (Sl.of_own ho) s08_r0).mono ?_
  rintro e w6 hret
  obtain ⟨A1, c1, A2, c2, rfl, fp, hb⟩ := allRet_is s08_p 0 3 3 0 3 2 1 hret s08_q1 rfl s08_p1 rfl rfl rfl rfl
  clear hret ho
  replace hB := hB.trans (hb.mono hs)
  replace hs := hB.size
  clear hb
  go_upto_region 2 with fail
  have bp := Blok.new w6 25 #[.slice A1 2 c1, .slice A2 1 c2, .int .i64 0, .int .i64 3]
  have hb : Below w6.heap.size w6 (w6.alloc (.cells #[.slice A1 2 c1, .slice A2 1 c2, .int .i64 0, .int .i64 3] 25)) := by (repeat (first | exact Below.refl _ _ | refine Below.alloc ?_ (by first | omega | (simp; done) | (simp; omega)) _ | refine Below.setCell ?_ (by first | omega | (simp; done) | (simp; omega)) _ | refine Below.drew ?_))
  replace fp := fp.up hb
  replace hB := hB.trans (hb.mono hs)
  replace hs := hB.size
  clear hb
  generalize w6.alloc (.cells #[.slice A1 2 c1, .slice A2 1 c2, .int .i64 0, .int .i64 3] 25) = w6v at *
  generalize w6.heap.size = Bp at *
  have n_0 : w6v.cell? ⟨Bp, 0, none⟩ = some (.slice A1 2 c1) := bp.cell 0
  have nf_0 := bp.free 0
  have n_1 : w6v.cell? ⟨Bp, 1, none⟩ = some (.slice A2 1 c2) := bp.cell 1
  have nf_1 := bp.free 1
  have n_2 : w6v.cell? ⟨Bp, 2, none⟩ = some (.int .i64 0) := bp.cell 2
  have nf_2 := bp.free 2
  have n_3 : w6v.cell? ⟨Bp, 3, none⟩ = some (.int .i64 3) := bp.cell 3
  have nf_3 := bp.free 3
  have lt_n_ := bp.lt
  go_wp2_with fail
  clear n_0 n_1 n_2 n_3 nf_0 nf_1 nf_2 nf_3 lt_n_
  refine (padv_any A1 2 c1 A2 1 c2 s08_p 20 w6v fp (by decide) (by decide)).mono ?_
  rintro e w7 hret
  obtain ⟨A3, c3, A4, c4, A5, c5, rfl, fq, fg, hb⟩ := advRet_is s08_q [7] 0 20 4 1 1 1 hret s08_q2 s08_p2 s08_g2 rfl rfl rfl rfl rfl
  clear hret
  replace fp := fp.up hb
  replace bp := bp.below hb bp.lt
  replace hB := hB.trans (hb.mono hs)
  replace hs := hB.size
  clear hb
  go_upto_region 3 with fail
  have bq := Blok.new w7 25 #[.slice A3 1 c3, .slice A4 1 c4, .int .i64 20, .int .i64 4]
  have hb : Below w7.heap.size w7 (w7.alloc (.cells #[.slice A3 1 c3, .slice A4 1 c4, .int .i64 20, .int .i64 4] 25)) := by (repeat (first | exact Below.refl _ _ | refine Below.alloc ?_ (by first | omega | (simp; done) | (simp; omega)) _ | refine Below.setCell ?_ (by first | omega | (simp; done) | (simp; omega)) _ | refine Below.drew ?_))
  replace fp := fp.up hb
  replace fq := fq.up hb
  replace fg := fg.up hb
  replace bp := bp.below hb bp.lt
  replace hB := hB.trans (hb.mono hs)
  replace hs := hB.size
  clear hb
  generalize w7.alloc (.cells #[.slice A3 1 c3, .slice A4 1 c4, .int .i64 20, .int .i64 4] 25) = w7v at *
  generalize w7.heap.size = Bq at *
  have hq0 := bq.lt
  refine gen_frame ?_
  intro a0 ha0
  try simp only [List.append]
  refine wp_region_frames rfl (by kernel_rfl) (by kernel_rfl) (fun V x w' => Below w7v.heap.size w7v w' ∧ (V.getD 0 true = true → x 0 = .agg #[.slice A3 1 c3, .slice A4 1 c4, .int .i64 20, .int .i64 4]) ∧ (V.getD 1 true = true → x 1 = .agg #[.int .i64 1, .int .i64 1, .int .i64 9, .int .i64 1, .int .i64 2, .int .i64 15, .int .i64 20, .int .i64 3, .int .i64 0, .int .i64 0, .int .i64 0, .int .i64 0, .int .i64 0]) ∧ (V.getD 2 true = true → ∃ cs : Array Value, cs.size = 4 ∧ cs.all (·.oneCell') = true ∧ x 2 = .tuple #[.agg cs, .int .i64 7]) ∧ (V.getD 3 true = true → ∃ cs : Array Value, cs.size = 4 ∧ cs.all (·.oneCell') = true ∧ x 3 = .tuple #[.agg cs, .int .i64 7]) ∧ (V.getD 4 true = true → ∃ cs : Array Value, cs.size = 4 ∧ cs.all (·.oneCell') = true ∧ x 4 = .agg cs) ∧ (V.getD 5 true = true → x 5 = .int .i64 7) ∧ (V.getD 6 true = true → ∃ b cs, cs.size = 4 ∧ w7v.heap.size ≤ b ∧ x 6 = .pointer (some ⟨b, 0, none⟩) ∧ Blok w' b 25 cs) ∧ (V.getD 8 true = true → x 8 = .int .i64 7)) ?_ ?_ ?_
  · intro x
    refine ⟨(Below.refl _ _).drew, ?_, ?_, ?_, ?_, ?_, ?_, ?_, ?_⟩ <;> exact fun h => by simp at h
  · intro V x b w' hbq hsz hF i hi hun haf hcl
    obtain ⟨hBw, f0, f1, f2, f3, f4, f5, f6, f8⟩ := hF
    have hbe : b = putAll a0 [some 36, some 37, some 38, some 35, some 39, some 40, some 7, none, some 8] x 0 := hbq
    have hz0 : a0.tmps.size = 168 := by rw [ha0]; rfl
    have e4 : b.eval (.tmp 4) = .pointer (some ⟨Bq, 0, none⟩) := by rw [hbe, eval_out _ _ _ (by decide), ha0]; rfl
    have t4 : b.tmps[4]?.getD undef = .pointer (some ⟨Bq, 0, none⟩) := by simpa [Act.eval] using e4
    clear hbq
    have hi' : i < 9 := hi
    clear hi
    obtain rfl | rfl | rfl | rfl | rfl | rfl | rfl | rfl | rfl : i = 0 ∨ i = 1 ∨ i = 2 ∨ i = 3 ∨ i = 4 ∨ i = 5 ∨ i = 6 ∨ i = 7 ∨ i = 8 := by omega
    · have bq2 := bq.below hBw bq.lt
      have n_0 : w'.cell? ⟨Bq, 0, none⟩ = some (.slice A3 1 c3) := bq2.cell 0
      have nf_0 := bq2.free 0
      have n_1 : w'.cell? ⟨Bq, 1, none⟩ = some (.slice A4 1 c4) := bq2.cell 1
      have nf_1 := bq2.free 1
      have n_2 : w'.cell? ⟨Bq, 2, none⟩ = some (.int .i64 20) := bq2.cell 2
      have nf_2 := bq2.free 2
      have n_3 : w'.cell? ⟨Bq, 3, none⟩ = some (.int .i64 4) := bq2.cell 3
      have nf_3 := bq2.free 3
      have lt_n_ := bq2.lt
      refine wpOp_run (v := .agg #[.slice A3 1 c3, .slice A4 1 c4, .int .i64 20, .int .i64 4]) rfl rfl (by simp [execOp, go_sem, t4, n_0, n_1, n_2, n_3, nf_0, nf_1, nf_2, nf_3, lt_n_]) ⟨_, _, rfl, rfl, ⟨hBw, fun _ => upd_same _ _ _, fun h => by rw [upd_ne x _ (by decide)]; exact f1 (by rw [← getD_set_ne true (show 0 ≠ 1 by decide)]; exact h), fun h => by rw [upd_ne x _ (by decide)]; exact f2 (by rw [← getD_set_ne true (show 0 ≠ 2 by decide)]; exact h), fun h => by rw [upd_ne x _ (by decide)]; exact f3 (by rw [← getD_set_ne true (show 0 ≠ 3 by decide)]; exact h), fun h => by rw [upd_ne x _ (by decide)]; exact f4 (by rw [← getD_set_ne true (show 0 ≠ 4 by decide)]; exact h), fun h => by rw [upd_ne x _ (by decide)]; exact f5 (by rw [← getD_set_ne true (show 0 ≠ 5 by decide)]; exact h), fun h => by rw [upd_ne x _ (by decide)]; exact f6 (by rw [← getD_set_ne true (show 0 ≠ 6 by decide)]; exact h), fun h => by rw [upd_ne x _ (by decide)]; exact f8 (by rw [← getD_set_ne true (show 0 ≠ 8 by decide)]; exact h)⟩⟩
    · refine wpOp_of rfl ?_
      refine step_call rfl 33 #[.const (.int .i64 9), .const (.int .i64 20)] _ rfl #[.int .i64 9, .int .i64 20] (by simp [Act.eval]) Tryz.func33 rfl rfl ?_
      refine (lcontact_any 9 20 15 _ (by decide)).mono ?_
      rintro e w'' ⟨rfl, hb⟩
      exact ⟨_, rfl, _, _, rfl, rfl, ⟨hBw.trans (hb.mono hBw.size), fun h => by rw [upd_ne x _ (by decide)]; exact f0 (by rw [← getD_set_ne true (show 1 ≠ 0 by decide)]; exact h), fun _ => upd_same _ _ _, fun h => by rw [upd_ne x _ (by decide)]; exact f2 (by rw [← getD_set_ne true (show 1 ≠ 2 by decide)]; exact h), fun h => by rw [upd_ne x _ (by decide)]; exact f3 (by rw [← getD_set_ne true (show 1 ≠ 3 by decide)]; exact h), fun h => by rw [upd_ne x _ (by decide)]; exact f4 (by rw [← getD_set_ne true (show 1 ≠ 4 by decide)]; exact h), fun h => by rw [upd_ne x _ (by decide)]; exact f5 (by rw [← getD_set_ne true (show 1 ≠ 5 by decide)]; exact h), fun h => by obtain ⟨b6, cs6, hz6, hl6, hx6, hk6⟩ := f6 (by rw [← getD_set_ne true (show 1 ≠ 6 by decide)]; exact h); exact ⟨b6, cs6, hz6, hl6, by rw [upd_ne x _ (by decide)]; exact hx6, hk6.below hb hk6.lt⟩, fun h => by rw [upd_ne x _ (by decide)]; exact f8 (by rw [← getD_set_ne true (show 1 ≠ 8 by decide)]; exact h)⟩⟩
    · have d0 := getD_ft (haf _ rfl ⟨0, .data⟩ (by simp) rfl)
      have d1 := getD_ft (haf _ rfl ⟨1, .data⟩ (by simp) rfl)
      have e36 : b.eval (.tmp 36) = .agg #[.slice A3 1 c3, .slice A4 1 c4, .int .i64 20, .int .i64 4] := by rw [hbe, eval_in _ _ _ 0 (by decide) rfl (by rw [hz0]; decide)]; exact f0 d0
      have e37 : b.eval (.tmp 37) = .agg #[.int .i64 1, .int .i64 1, .int .i64 9, .int .i64 1, .int .i64 2, .int .i64 15, .int .i64 20, .int .i64 3, .int .i64 0, .int .i64 0, .int .i64 0, .int .i64 0, .int .i64 0] := by rw [hbe, eval_in _ _ _ 1 (by decide) rfl (by rw [hz0]; decide)]; exact f1 d1
      refine wpOp_of rfl ?_
      refine step_call rfl 23 #[.tmp 36, .tmp 37] _ rfl #[.agg #[.slice A3 1 c3, .slice A4 1 c4, .int .i64 20, .int .i64 4], .agg #[.int .i64 1, .int .i64 1, .int .i64 9, .int .i64 1, .int .i64 2, .int .i64 15, .int .i64 20, .int .i64 3, .int .i64 0, .int .i64 0, .int .i64 0, .int .i64 0, .int .i64 0]] (by simp [e36, e37]) Tryz.func23 rfl rfl ?_
      refine (papply_any A3 1 c3 A4 1 c4 s08_q ⟨1, 1, 9, 1, 2, 15, 20, 3, 0, 0, 0, 0, 0⟩ w' (by decide) (by decide) (fq.up hBw) s08_rq).mono ?_
      rintro e w'' hret
      obtain ⟨A6, c6, A7, c7, rfl, _, hb⟩ := applyRet_is s08_q 7 20 4 1 1 hret s08_q3 (stepP_no s08_q3 (by decide)) rfl rfl rfl rfl
      exact ⟨_, rfl, _, _, rfl, rfl, ⟨hBw.trans (hb.mono hBw.size), fun h => by rw [upd_ne x _ (by decide)]; exact f0 (by rw [← getD_set_ne true (show 2 ≠ 0 by decide)]; exact h), fun h => by rw [upd_ne x _ (by decide)]; exact f1 (by rw [← getD_set_ne true (show 2 ≠ 1 by decide)]; exact h), fun _ => ⟨#[.slice A6 1 c6, .slice A7 1 c7, .int .i64 20, .int .i64 4], rfl, by simp [Value.oneCell'], upd_same _ _ _⟩, fun h => by rw [upd_ne x _ (by decide)]; exact f3 (by rw [← getD_set_ne true (show 2 ≠ 3 by decide)]; exact h), fun h => by rw [upd_ne x _ (by decide)]; exact f4 (by rw [← getD_set_ne true (show 2 ≠ 4 by decide)]; exact h), fun h => by rw [upd_ne x _ (by decide)]; exact f5 (by rw [← getD_set_ne true (show 2 ≠ 5 by decide)]; exact h), fun h => by obtain ⟨b6, cs6, hz6, hl6, hx6, hk6⟩ := f6 (by rw [← getD_set_ne true (show 2 ≠ 6 by decide)]; exact h); exact ⟨b6, cs6, hz6, hl6, by rw [upd_ne x _ (by decide)]; exact hx6, hk6.below hb hk6.lt⟩, fun h => by rw [upd_ne x _ (by decide)]; exact f8 (by rw [← getD_set_ne true (show 2 ≠ 8 by decide)]; exact h)⟩⟩
    · have d2 := getD_ft (haf _ rfl ⟨2, .data⟩ (by simp) rfl)
      obtain ⟨cs, hz, h1, hx⟩ := f2 d2
      have ev : b.eval (.tmp 38) = .tuple #[.agg cs, .int .i64 7] := by rw [hbe, eval_in _ _ _ 2 (by decide) rfl (by rw [hz0]; decide)]; exact hx
      refine wpOp_run (v := .tuple #[.agg cs, .int .i64 7]) rfl rfl (by have tv := ev; simp only [Act.eval, Array.getD_eq_getD_getElem?] at tv; simp [execOp, go_sem, tv]) ⟨_, _, rfl, rfl, ⟨hBw, fun h => by rw [upd_ne x _ (by decide)]; exact f0 (by rw [← getD_set_ne true (show 3 ≠ 0 by decide)]; exact h), fun h => by rw [upd_ne x _ (by decide)]; exact f1 (by rw [← getD_set_ne true (show 3 ≠ 1 by decide)]; exact h), fun h => by rw [upd_ne x _ (by decide)]; exact f2 (by rw [← getD_set_ne true (show 3 ≠ 2 by decide)]; exact h), fun _ => ⟨cs, hz, h1, upd_same _ _ _⟩, fun h => by rw [upd_ne x _ (by decide)]; exact f4 (by rw [← getD_set_ne true (show 3 ≠ 4 by decide)]; exact h), fun h => by rw [upd_ne x _ (by decide)]; exact f5 (by rw [← getD_set_ne true (show 3 ≠ 5 by decide)]; exact h), fun h => by rw [upd_ne x _ (by decide)]; exact f6 (by rw [← getD_set_ne true (show 3 ≠ 6 by decide)]; exact h), fun h => by rw [upd_ne x _ (by decide)]; exact f8 (by rw [← getD_set_ne true (show 3 ≠ 8 by decide)]; exact h)⟩⟩
    · have d3 := getD_ft (haf _ rfl ⟨3, .data⟩ (by simp) rfl)
      obtain ⟨cs, hz, h1, hx⟩ := f3 d3
      have ev : b.eval (.tmp 35) = .tuple #[.agg cs, .int .i64 7] := by rw [hbe, eval_in _ _ _ 3 (by decide) rfl (by rw [hz0]; decide)]; exact hx
      refine wpOp_run (v := .agg cs) rfl rfl (by have tv := ev; simp only [Act.eval, Array.getD_eq_getD_getElem?] at tv; simp [execOp, go_sem, tv]) ⟨_, _, rfl, rfl, ⟨hBw, fun h => by rw [upd_ne x _ (by decide)]; exact f0 (by rw [← getD_set_ne true (show 4 ≠ 0 by decide)]; exact h), fun h => by rw [upd_ne x _ (by decide)]; exact f1 (by rw [← getD_set_ne true (show 4 ≠ 1 by decide)]; exact h), fun h => by rw [upd_ne x _ (by decide)]; exact f2 (by rw [← getD_set_ne true (show 4 ≠ 2 by decide)]; exact h), fun h => by rw [upd_ne x _ (by decide)]; exact f3 (by rw [← getD_set_ne true (show 4 ≠ 3 by decide)]; exact h), fun _ => ⟨cs, hz, h1, upd_same _ _ _⟩, fun h => by rw [upd_ne x _ (by decide)]; exact f5 (by rw [← getD_set_ne true (show 4 ≠ 5 by decide)]; exact h), fun h => by rw [upd_ne x _ (by decide)]; exact f6 (by rw [← getD_set_ne true (show 4 ≠ 6 by decide)]; exact h), fun h => by rw [upd_ne x _ (by decide)]; exact f8 (by rw [← getD_set_ne true (show 4 ≠ 8 by decide)]; exact h)⟩⟩
    · have d3 := getD_ft (haf _ rfl ⟨3, .data⟩ (by simp) rfl)
      obtain ⟨cs, hz, h1, hx⟩ := f3 d3
      have ev : b.eval (.tmp 35) = .tuple #[.agg cs, .int .i64 7] := by rw [hbe, eval_in _ _ _ 3 (by decide) rfl (by rw [hz0]; decide)]; exact hx
      refine wpOp_run (v := .int .i64 7) rfl rfl (by have tv := ev; simp only [Act.eval, Array.getD_eq_getD_getElem?] at tv; simp [execOp, go_sem, tv]) ⟨_, _, rfl, rfl, ⟨hBw, fun h => by rw [upd_ne x _ (by decide)]; exact f0 (by rw [← getD_set_ne true (show 5 ≠ 0 by decide)]; exact h), fun h => by rw [upd_ne x _ (by decide)]; exact f1 (by rw [← getD_set_ne true (show 5 ≠ 1 by decide)]; exact h), fun h => by rw [upd_ne x _ (by decide)]; exact f2 (by rw [← getD_set_ne true (show 5 ≠ 2 by decide)]; exact h), fun h => by rw [upd_ne x _ (by decide)]; exact f3 (by rw [← getD_set_ne true (show 5 ≠ 3 by decide)]; exact h), fun h => by rw [upd_ne x _ (by decide)]; exact f4 (by rw [← getD_set_ne true (show 5 ≠ 4 by decide)]; exact h), fun _ => upd_same _ _ _, fun h => by rw [upd_ne x _ (by decide)]; exact f6 (by rw [← getD_set_ne true (show 5 ≠ 6 by decide)]; exact h), fun h => by rw [upd_ne x _ (by decide)]; exact f8 (by rw [← getD_set_ne true (show 5 ≠ 8 by decide)]; exact h)⟩⟩
    · have hb : Below w'.heap.size w' (w'.alloc (.cells #[.slice none 0 0, .slice none 0 0, .int .i64 0, .int .i64 0] 25)) := by (repeat (first | exact Below.refl _ _ | refine Below.alloc ?_ (by first | omega | (simp; done) | (simp; omega)) _ | refine Below.setCell ?_ (by first | omega | (simp; done) | (simp; omega)) _ | refine Below.drew ?_))
      refine wpOp_run (v := .pointer (some ⟨w'.heap.size, 0, none⟩)) (w' := w'.alloc (.cells #[.slice none 0 0, .slice none 0 0, .int .i64 0, .int .i64 0] 25)) rfl rfl (by simp [execOp, go_sem]) ⟨_, _, rfl, rfl, ⟨hBw.trans (hb.mono hBw.size), fun h => by rw [upd_ne x _ (by decide)]; exact f0 (by rw [← getD_set_ne true (show 6 ≠ 0 by decide)]; exact h), fun h => by rw [upd_ne x _ (by decide)]; exact f1 (by rw [← getD_set_ne true (show 6 ≠ 1 by decide)]; exact h), fun h => by rw [upd_ne x _ (by decide)]; exact f2 (by rw [← getD_set_ne true (show 6 ≠ 2 by decide)]; exact h), fun h => by rw [upd_ne x _ (by decide)]; exact f3 (by rw [← getD_set_ne true (show 6 ≠ 3 by decide)]; exact h), fun h => by rw [upd_ne x _ (by decide)]; exact f4 (by rw [← getD_set_ne true (show 6 ≠ 4 by decide)]; exact h), fun h => by rw [upd_ne x _ (by decide)]; exact f5 (by rw [← getD_set_ne true (show 6 ≠ 5 by decide)]; exact h), fun _ => ⟨w'.heap.size, #[.slice none 0 0, .slice none 0 0, .int .i64 0, .int .i64 0], rfl, hBw.size, upd_same _ _ _, Blok.new _ _ _⟩, fun h => by rw [upd_ne x _ (by decide)]; exact f8 (by rw [← getD_set_ne true (show 6 ≠ 8 by decide)]; exact h)⟩⟩
    · have d6 := getD_ft (haf _ rfl ⟨6, .data⟩ (by simp) rfl)
      have d4 := getD_ft (haf _ rfl ⟨4, .data⟩ (by simp) rfl)
      obtain ⟨b6, c6, hz6, hl6, hx6, hk6⟩ := f6 d6
      obtain ⟨cs, hz, h1, hx⟩ := f4 d4
      have e7 : b.eval (.tmp 7) = .pointer (some ⟨b6, 0, none⟩) := by rw [hbe, eval_in _ _ _ 6 (by decide) rfl (by rw [hz0]; decide)]; exact hx6
      have e39 : b.eval (.tmp 39) = .agg cs := by rw [hbe, eval_in _ _ _ 4 (by decide) rfl (by rw [hz0]; decide)]; exact hx
      refine wpOp_of rfl ?_
      rw [if_pos (by simp [Region.wanted])]
      refine wp_store_mid 25 (.tmp 7) (.tmp 39) rfl b6 0 cs e7 e39 ?_ (by rw [hz]; kernel_rfl) h1 ?_
      · intro j hj
        rw [Nat.zero_add]
        refine ⟨?_, hk6.free j⟩
        rw [hk6.cell j]
        have : j < c6.size := by omega
        simp [this]
      · refine ⟨_, _, rfl, rfl, ⟨set_below b6 hl6 _ _ hBw, fun h => by rw [upd_ne x _ (by decide)]; exact f0 (by rw [← getD_set_ne true (show 7 ≠ 0 by decide)]; exact h), fun h => by rw [upd_ne x _ (by decide)]; exact f1 (by rw [← getD_set_ne true (show 7 ≠ 1 by decide)]; exact h), fun h => by rw [upd_ne x _ (by decide)]; exact f2 (by rw [← getD_set_ne true (show 7 ≠ 2 by decide)]; exact h), fun h => by rw [upd_ne x _ (by decide)]; exact f3 (by rw [← getD_set_ne true (show 7 ≠ 3 by decide)]; exact h), fun h => by rw [upd_ne x _ (by decide)]; exact f4 (by rw [← getD_set_ne true (show 7 ≠ 4 by decide)]; exact h), fun h => by rw [upd_ne x _ (by decide)]; exact f5 (by rw [← getD_set_ne true (show 7 ≠ 5 by decide)]; exact h), fun h => ⟨b6, cs, hz, hl6, by rw [upd_ne x _ (by decide)]; exact hx6, set_whole hk6 (by rw [hz, hz6])⟩, fun h => by rw [upd_ne x _ (by decide)]; exact f8 (by rw [← getD_set_ne true (show 7 ≠ 8 by decide)]; exact h)⟩⟩
    · have d5 := getD_ft (haf _ rfl ⟨5, .data⟩ (by simp) rfl)
      have ev : b.eval (.tmp 40) = .int .i64 7 := by rw [hbe, eval_in _ _ _ 5 (by decide) rfl (by rw [hz0]; decide)]; exact f5 d5
      refine wpOp_run (v := .int .i64 7) rfl rfl (by have tv := ev; simp only [Act.eval, Array.getD_eq_getD_getElem?] at tv; simp [execOp, go_sem, tv]) ⟨_, _, rfl, rfl, ⟨hBw, fun h => by rw [upd_ne x _ (by decide)]; exact f0 (by rw [← getD_set_ne true (show 8 ≠ 0 by decide)]; exact h), fun h => by rw [upd_ne x _ (by decide)]; exact f1 (by rw [← getD_set_ne true (show 8 ≠ 1 by decide)]; exact h), fun h => by rw [upd_ne x _ (by decide)]; exact f2 (by rw [← getD_set_ne true (show 8 ≠ 2 by decide)]; exact h), fun h => by rw [upd_ne x _ (by decide)]; exact f3 (by rw [← getD_set_ne true (show 8 ≠ 3 by decide)]; exact h), fun h => by rw [upd_ne x _ (by decide)]; exact f4 (by rw [← getD_set_ne true (show 8 ≠ 4 by decide)]; exact h), fun h => by rw [upd_ne x _ (by decide)]; exact f5 (by rw [← getD_set_ne true (show 8 ≠ 5 by decide)]; exact h), fun h => by rw [upd_ne x _ (by decide)]; exact f6 (by rw [← getD_set_ne true (show 8 ≠ 6 by decide)]; exact h), fun _ => upd_same _ _ _⟩⟩
  intro V x w' hall hF
  have h8 := hF.2.2.2.2.2.2.2.2 (hall 8 (by decide))
  have hb := hF.1
  clear hF hall hq0
  subst ha0
  replace fp := fp.up hb
  replace fq := fq.up hb
  replace fg := fg.up hb
  replace bp := bp.below hb bp.lt
  replace bq := bq.below hb bq.lt
  replace hB := hB.trans (hb.mono hs)
  replace hs := hB.size
  clear hb
  simp only [List.map_cons, List.map_nil, putAll, h8]
  clear h8
  go_simp
  have n_0 : w'.cell? ⟨Bq, 0, none⟩ = some (.slice A3 1 c3) := bq.cell 0
  have nf_0 := bq.free 0
  have n_1 : w'.cell? ⟨Bq, 1, none⟩ = some (.slice A4 1 c4) := bq.cell 1
  have nf_1 := bq.free 1
  have n_2 : w'.cell? ⟨Bq, 2, none⟩ = some (.int .i64 20) := bq.cell 2
  have nf_2 := bq.free 2
  have n_3 : w'.cell? ⟨Bq, 3, none⟩ = some (.int .i64 4) := bq.cell 3
  have nf_3 := bq.free 3
  have lt_n_ := bq.lt
  go_wp2_with fail
  clear n_0 n_1 n_2 n_3 nf_0 nf_1 nf_2 nf_3 lt_n_
  refine (padv_any A3 1 c3 A4 1 c4 s08_q 19 w' fq (by decide) (by decide)).mono ?_
  rintro e w8 hret
  obtain ⟨A6, c6, A7, c7, A8, c8, rfl, _, _, hb⟩ := advRet_is s08_q [] 7 20 4 1 1 0 hret s08_q4 (by unfold advP; rw [if_neg (by decide +kernel)]) (by unfold advG; rw [if_neg (by decide +kernel)]) rfl rfl rfl rfl rfl
  clear hret
  replace fp := fp.up hb
  replace fq := fq.up hb
  replace fg := fg.up hb
  replace bp := bp.below hb bp.lt
  replace bq := bq.below hb bq.lt
  replace hB := hB.trans (hb.mono hs)
  replace hs := hB.size
  clear hb
  go_upto_region 5 with fail
  have bd := Blok.new w8 25 #[.slice A6 1 c6, .slice A7 1 c7, .int .i64 20, .int .i64 4]
  have hb : Below w8.heap.size w8 (w8.alloc (.cells #[.slice A6 1 c6, .slice A7 1 c7, .int .i64 20, .int .i64 4] 25)) := by (repeat (first | exact Below.refl _ _ | refine Below.alloc ?_ (by first | omega | (simp; done) | (simp; omega)) _ | refine Below.setCell ?_ (by first | omega | (simp; done) | (simp; omega)) _ | refine Below.drew ?_))
  replace fp := fp.up hb
  replace fq := fq.up hb
  replace fg := fg.up hb
  replace bp := bp.below hb bp.lt
  replace bq := bq.below hb bq.lt
  replace hB := hB.trans (hb.mono hs)
  replace hs := hB.size
  clear hb
  generalize w8.alloc (.cells #[.slice A6 1 c6, .slice A7 1 c7, .int .i64 20, .int .i64 4] 25) = w8v at *
  generalize w8.heap.size = Bd at *
  clear bd
  have n_0 : w8v.cell? ⟨Bq, 0, none⟩ = some (.slice A3 1 c3) := bq.cell 0
  have nf_0 := bq.free 0
  have n_1 : w8v.cell? ⟨Bq, 1, none⟩ = some (.slice A4 1 c4) := bq.cell 1
  have nf_1 := bq.free 1
  have n_2 : w8v.cell? ⟨Bq, 2, none⟩ = some (.int .i64 20) := bq.cell 2
  have nf_2 := bq.free 2
  have n_3 : w8v.cell? ⟨Bq, 3, none⟩ = some (.int .i64 4) := bq.cell 3
  have nf_3 := bq.free 3
  have lt_n_ := bq.lt
  go_wp2_with fail
  clear n_0 n_1 n_2 n_3 nf_0 nf_1 nf_2 nf_3 lt_n_
  refine (papply_any A3 1 c3 A4 1 c4 s08_q s08_h w8v (by decide) (by decide) fq s08_rq).mono ?_
  rintro e w9 hret
  obtain ⟨Ar, cr, As, cs, rfl, fr, hb⟩ := applyRet_is s08_r 0 20 5 1 1 hret s08_q5 s08_p5 rfl rfl rfl rfl
  clear hret
  replace fp := fp.up hb
  replace fq := fq.up hb
  replace fg := fg.up hb
  replace bp := bp.below hb bp.lt
  replace bq := bq.below hb bq.lt
  replace hB := hB.trans (hb.mono hs)
  replace hs := hB.size
  clear hb
  go_upto_region 6 with fail
  have br := Blok.new w9 25 #[.slice Ar 1 cr, .slice As 1 cs, .int .i64 20, .int .i64 5]
  have hb : Below w9.heap.size w9 (w9.alloc (.cells #[.slice Ar 1 cr, .slice As 1 cs, .int .i64 20, .int .i64 5] 25)) := by (repeat (first | exact Below.refl _ _ | refine Below.alloc ?_ (by first | omega | (simp; done) | (simp; omega)) _ | refine Below.setCell ?_ (by first | omega | (simp; done) | (simp; omega)) _ | refine Below.drew ?_))
  replace fp := fp.up hb
  replace fq := fq.up hb
  replace fg := fg.up hb
  replace fr := fr.up hb
  replace bp := bp.below hb bp.lt
  replace bq := bq.below hb bq.lt
  replace hB := hB.trans (hb.mono hs)
  replace hs := hB.size
  clear hb
  generalize w9.alloc (.cells #[.slice Ar 1 cr, .slice As 1 cs, .int .i64 20, .int .i64 5] 25) = w9v at *
  generalize w9.heap.size = Br at *
  refine gen_frame ?_
  intro a0 ha0
  try simp only [List.append]
  have hr0 := br.lt
  refine wp_region_frames rfl (by kernel_rfl) (by kernel_rfl) (fun V x w' => Below w9v.heap.size w9v w' ∧ (V.getD 0 true = true → x 0 = .agg #[.slice A3 1 c3, .slice A4 1 c4, .int .i64 20, .int .i64 4]) ∧ (V.getD 1 true = true → x 1 = .agg #[.int .i64 1, .int .i64 1, .int .i64 9, .int .i64 1, .int .i64 2, .int .i64 35, .int .i64 40, .int .i64 3, .int .i64 0, .int .i64 0, .int .i64 0, .int .i64 0, .int .i64 0]) ∧ (V.getD 2 true = true → x 2 = .agg #[.int .i64 1, .int .i64 1, .int .i64 8, .int .i64 1, .int .i64 2, .int .i64 45, .int .i64 50, .int .i64 3, .int .i64 0, .int .i64 0, .int .i64 0, .int .i64 0, .int .i64 0]) ∧ (V.getD 3 true = true → (V.getD 10 true = false → ∃ g, x 3 = .slice (some ⟨g, 0, none⟩) 2 2 ∧ w'.ownsRow w9v.heap.size 37 13 (.slice (some ⟨g, 0, none⟩) 2 2) 2 (flatDr s08_e))) ∧ (V.getD 4 true = true → ∃ A c A' c', x 4 = .tuple #[.agg #[.slice A 1 c, .slice A' 1 c', .int .i64 20, .int .i64 4], .int .i64 1, .int .i64 4] ∧ PlAt w' A 1 c A' 1 c' s08_q ∧ (V.getD 9 true = true → ∀ b, x 9 = .pointer (some ⟨b, 0, none⟩) → Apart b A 1 A' 1)) ∧ (V.getD 5 true = true → (V.getD 4 true = true ∧ x 5 = x 4)) ∧ (V.getD 6 true = true → (V.getD 4 true = true ∧ x 6 = tpl (x 4) 0)) ∧ (V.getD 7 true = true → x 7 = .int .i64 1) ∧ (V.getD 8 true = true → x 8 = .int .i64 4) ∧ (V.getD 9 true = true → ∃ b cs, cs.size = 4 ∧ w9v.heap.size ≤ b ∧ x 9 = .pointer (some ⟨b, 0, none⟩) ∧ Blok w' b 25 cs ∧ (V.getD 10 true = true → x 6 = .agg cs)) ∧ (V.getD 11 true = true → x 11 = .int .i64 1) ∧ (V.getD 12 true = true → x 12 = .int .i64 4)) ?_ ?_ ?_
  · intro x
    refine ⟨(Below.refl _ _).drew, ?_, ?_, ?_, ?_, ?_, ?_, ?_, ?_, ?_, ?_, ?_, ?_⟩ <;> exact fun h => by simp at h
  · intro V x b w' hbq hsz hF i hi hun haf hcl
    obtain ⟨hBw, f0, f1, f2, f3, f4, f5, f6, f7, f8, f9, f11, f12⟩ := hF
    have hbe : b = putAll a0 [some 55, some 56, some 57, some 58, some 59, some 54, some 60, some 61, some 62, some 14, none, some 15, some 16] x 0 := hbq
    have hz0 : a0.tmps.size = 168 := by rw [ha0]; rfl
    have e4 : b.eval (.tmp 4) = .pointer (some ⟨Bq, 0, none⟩) := by rw [hbe, eval_out _ _ _ (by decide), ha0]; rfl
    have t4 : b.tmps[4]?.getD undef = .pointer (some ⟨Bq, 0, none⟩) := by simpa [Act.eval] using e4
    clear hbq
    have hi' : i < 13 := hi
    clear hi
    obtain rfl | rfl | rfl | rfl | rfl | rfl | rfl | rfl | rfl | rfl | rfl | rfl | rfl : i = 0 ∨ i = 1 ∨ i = 2 ∨ i = 3 ∨ i = 4 ∨ i = 5 ∨ i = 6 ∨ i = 7 ∨ i = 8 ∨ i = 9 ∨ i = 10 ∨ i = 11 ∨ i = 12 := by omega
    · have bq2 := bq.below hBw bq.lt
      have n_0 : w'.cell? ⟨Bq, 0, none⟩ = some (.slice A3 1 c3) := bq2.cell 0
      have nf_0 := bq2.free 0
      have n_1 : w'.cell? ⟨Bq, 1, none⟩ = some (.slice A4 1 c4) := bq2.cell 1
      have nf_1 := bq2.free 1
      have n_2 : w'.cell? ⟨Bq, 2, none⟩ = some (.int .i64 20) := bq2.cell 2
      have nf_2 := bq2.free 2
      have n_3 : w'.cell? ⟨Bq, 3, none⟩ = some (.int .i64 4) := bq2.cell 3
      have nf_3 := bq2.free 3
      have lt_n_ := bq2.lt
      refine wpOp_run (v := .agg #[.slice A3 1 c3, .slice A4 1 c4, .int .i64 20, .int .i64 4]) rfl rfl (by simp [execOp, go_sem, t4, n_0, n_1, n_2, n_3, nf_0, nf_1, nf_2, nf_3, lt_n_]) ⟨_, _, rfl, rfl, ⟨hBw, fun _ => upd_same _ _ _, fun h => by rw [upd_ne x _ (by decide)]; exact f1 (by rw [← getD_set_ne true (show 0 ≠ 1 by decide)]; exact h), fun h => by rw [upd_ne x _ (by decide)]; exact f2 (by rw [← getD_set_ne true (show 0 ≠ 2 by decide)]; exact h), fun h h10 => by obtain ⟨g, hx, ho⟩ := f3 (by rw [← getD_set_ne true (show 0 ≠ 3 by decide)]; exact h) (by rw [← getD_set_ne true (show 0 ≠ 10 by decide)]; exact h10); exact ⟨g, by rw [upd_ne x _ (by decide)]; exact hx, ho⟩, fun h => by obtain ⟨A, c, A', c', hx, hp, ha⟩ := f4 (by rw [← getD_set_ne true (show 0 ≠ 4 by decide)]; exact h); exact ⟨A, c, A', c', by rw [upd_ne x _ (by decide)]; exact hx, hp, fun h9 b hx9 => by rw [upd_ne x _ (by decide)] at hx9; exact ha (by rw [← getD_set_ne true (show 0 ≠ 9 by decide)]; exact h9) b hx9⟩, fun h => ⟨getD_mono (f5 (by rw [← getD_set_ne true (show 0 ≠ 5 by decide)]; exact h)).1, by rw [upd_ne x _ (by decide), upd_ne x _ (by decide)]; exact (f5 (by rw [← getD_set_ne true (show 0 ≠ 5 by decide)]; exact h)).2⟩, fun h => ⟨getD_mono (f6 (by rw [← getD_set_ne true (show 0 ≠ 6 by decide)]; exact h)).1, by rw [upd_ne x _ (by decide), upd_ne x _ (by decide)]; exact (f6 (by rw [← getD_set_ne true (show 0 ≠ 6 by decide)]; exact h)).2⟩, fun h => by rw [upd_ne x _ (by decide)]; exact f7 (by rw [← getD_set_ne true (show 0 ≠ 7 by decide)]; exact h), fun h => by rw [upd_ne x _ (by decide)]; exact f8 (by rw [← getD_set_ne true (show 0 ≠ 8 by decide)]; exact h), fun h => by obtain ⟨b9, cs9, hz9, hl9, hx9, hk9, h6⟩ := f9 (by rw [← getD_set_ne true (show 0 ≠ 9 by decide)]; exact h); exact ⟨b9, cs9, hz9, hl9, by rw [upd_ne x _ (by decide)]; exact hx9, hk9, fun h10 => by rw [upd_ne x _ (by decide)]; exact h6 (by rw [← getD_set_ne true (show 0 ≠ 10 by decide)]; exact h10)⟩, fun h => by rw [upd_ne x _ (by decide)]; exact f11 (by rw [← getD_set_ne true (show 0 ≠ 11 by decide)]; exact h), fun h => by rw [upd_ne x _ (by decide)]; exact f12 (by rw [← getD_set_ne true (show 0 ≠ 12 by decide)]; exact h)⟩⟩
    · refine wpOp_of rfl ?_
      refine step_call rfl 33 #[.const (.int .i64 9), .const (.int .i64 40)] _ rfl #[.int .i64 9, .int .i64 40] (by simp [Act.eval]) Tryz.func33 rfl rfl ?_
      refine (lcontact_any 9 40 35 _ (by decide)).mono ?_
      rintro e w'' ⟨rfl, hb⟩
      exact ⟨_, rfl, _, _, rfl, rfl, ⟨hBw.trans (hb.mono hBw.size), fun h => by rw [upd_ne x _ (by decide)]; exact f0 (by rw [← getD_set_ne true (show 1 ≠ 0 by decide)]; exact h), fun _ => upd_same _ _ _, fun h => by rw [upd_ne x _ (by decide)]; exact f2 (by rw [← getD_set_ne true (show 1 ≠ 2 by decide)]; exact h), fun h h10 => by obtain ⟨g, hx, ho⟩ := f3 (by rw [← getD_set_ne true (show 1 ≠ 3 by decide)]; exact h) (by rw [← getD_set_ne true (show 1 ≠ 10 by decide)]; exact h10); exact ⟨g, by rw [upd_ne x _ (by decide)]; exact hx, own_below ho hb⟩, fun h => by obtain ⟨A, c, A', c', hx, hp, ha⟩ := f4 (by rw [← getD_set_ne true (show 1 ≠ 4 by decide)]; exact h); exact ⟨A, c, A', c', by rw [upd_ne x _ (by decide)]; exact hx, hp.up hb, fun h9 b hx9 => by rw [upd_ne x _ (by decide)] at hx9; exact ha (by rw [← getD_set_ne true (show 1 ≠ 9 by decide)]; exact h9) b hx9⟩, fun h => ⟨getD_mono (f5 (by rw [← getD_set_ne true (show 1 ≠ 5 by decide)]; exact h)).1, by rw [upd_ne x _ (by decide), upd_ne x _ (by decide)]; exact (f5 (by rw [← getD_set_ne true (show 1 ≠ 5 by decide)]; exact h)).2⟩, fun h => ⟨getD_mono (f6 (by rw [← getD_set_ne true (show 1 ≠ 6 by decide)]; exact h)).1, by rw [upd_ne x _ (by decide), upd_ne x _ (by decide)]; exact (f6 (by rw [← getD_set_ne true (show 1 ≠ 6 by decide)]; exact h)).2⟩, fun h => by rw [upd_ne x _ (by decide)]; exact f7 (by rw [← getD_set_ne true (show 1 ≠ 7 by decide)]; exact h), fun h => by rw [upd_ne x _ (by decide)]; exact f8 (by rw [← getD_set_ne true (show 1 ≠ 8 by decide)]; exact h), fun h => by obtain ⟨b9, cs9, hz9, hl9, hx9, hk9, h6⟩ := f9 (by rw [← getD_set_ne true (show 1 ≠ 9 by decide)]; exact h); exact ⟨b9, cs9, hz9, hl9, by rw [upd_ne x _ (by decide)]; exact hx9, hk9.below hb hk9.lt, fun h10 => by rw [upd_ne x _ (by decide)]; exact h6 (by rw [← getD_set_ne true (show 1 ≠ 10 by decide)]; exact h10)⟩, fun h => by rw [upd_ne x _ (by decide)]; exact f11 (by rw [← getD_set_ne true (show 1 ≠ 11 by decide)]; exact h), fun h => by rw [upd_ne x _ (by decide)]; exact f12 (by rw [← getD_set_ne true (show 1 ≠ 12 by decide)]; exact h)⟩⟩
    · refine wpOp_of rfl ?_
      refine step_call rfl 33 #[.const (.int .i64 8), .const (.int .i64 50)] _ rfl #[.int .i64 8, .int .i64 50] (by simp [Act.eval]) Tryz.func33 rfl rfl ?_
      refine (lcontact_any 8 50 45 _ (by decide)).mono ?_
      rintro e w'' ⟨rfl, hb⟩
      exact ⟨_, rfl, _, _, rfl, rfl, ⟨hBw.trans (hb.mono hBw.size), fun h => by rw [upd_ne x _ (by decide)]; exact f0 (by rw [← getD_set_ne true (show 2 ≠ 0 by decide)]; exact h), fun h => by rw [upd_ne x _ (by decide)]; exact f1 (by rw [← getD_set_ne true (show 2 ≠ 1 by decide)]; exact h), fun _ => upd_same _ _ _, fun h h10 => by obtain ⟨g, hx, ho⟩ := f3 (by rw [← getD_set_ne true (show 2 ≠ 3 by decide)]; exact h) (by rw [← getD_set_ne true (show 2 ≠ 10 by decide)]; exact h10); exact ⟨g, by rw [upd_ne x _ (by decide)]; exact hx, own_below ho hb⟩, fun h => by obtain ⟨A, c, A', c', hx, hp, ha⟩ := f4 (by rw [← getD_set_ne true (show 2 ≠ 4 by decide)]; exact h); exact ⟨A, c, A', c', by rw [upd_ne x _ (by decide)]; exact hx, hp.up hb, fun h9 b hx9 => by rw [upd_ne x _ (by decide)] at hx9; exact ha (by rw [← getD_set_ne true (show 2 ≠ 9 by decide)]; exact h9) b hx9⟩, fun h => ⟨getD_mono (f5 (by rw [← getD_set_ne true (show 2 ≠ 5 by decide)]; exact h)).1, by rw [upd_ne x _ (by decide), upd_ne x _ (by decide)]; exact (f5 (by rw [← getD_set_ne true (show 2 ≠ 5 by decide)]; exact h)).2⟩, fun h => ⟨getD_mono (f6 (by rw [← getD_set_ne true (show 2 ≠ 6 by decide)]; exact h)).1, by rw [upd_ne x _ (by decide), upd_ne x _ (by decide)]; exact (f6 (by rw [← getD_set_ne true (show 2 ≠ 6 by decide)]; exact h)).2⟩, fun h => by rw [upd_ne x _ (by decide)]; exact f7 (by rw [← getD_set_ne true (show 2 ≠ 7 by decide)]; exact h), fun h => by rw [upd_ne x _ (by decide)]; exact f8 (by rw [← getD_set_ne true (show 2 ≠ 8 by decide)]; exact h), fun h => by obtain ⟨b9, cs9, hz9, hl9, hx9, hk9, h6⟩ := f9 (by rw [← getD_set_ne true (show 2 ≠ 9 by decide)]; exact h); exact ⟨b9, cs9, hz9, hl9, by rw [upd_ne x _ (by decide)]; exact hx9, hk9.below hb hk9.lt, fun h10 => by rw [upd_ne x _ (by decide)]; exact h6 (by rw [← getD_set_ne true (show 2 ≠ 10 by decide)]; exact h10)⟩, fun h => by rw [upd_ne x _ (by decide)]; exact f11 (by rw [← getD_set_ne true (show 2 ≠ 11 by decide)]; exact h), fun h => by rw [upd_ne x _ (by decide)]; exact f12 (by rw [← getD_set_ne true (show 2 ≠ 12 by decide)]; exact h)⟩⟩
    · have d1 := getD_ft (haf _ rfl ⟨1, .data⟩ (by simp) rfl)
      have d2 := getD_ft (haf _ rfl ⟨2, .data⟩ (by simp) rfl)
      have e56 : b.eval (.tmp 56) = .agg #[.int .i64 1, .int .i64 1, .int .i64 9, .int .i64 1, .int .i64 2, .int .i64 35, .int .i64 40, .int .i64 3, .int .i64 0, .int .i64 0, .int .i64 0, .int .i64 0, .int .i64 0] := by rw [hbe, eval_in _ _ _ 1 (by decide) rfl (by rw [hz0]; decide)]; exact f1 d1
      have t56 : b.tmps[56]?.getD undef = .agg #[.int .i64 1, .int .i64 1, .int .i64 9, .int .i64 1, .int .i64 2, .int .i64 35, .int .i64 40, .int .i64 3, .int .i64 0, .int .i64 0, .int .i64 0, .int .i64 0, .int .i64 0] := by have tv := e56; simpa only [Act.eval, Array.getD_eq_getD_getElem?] using tv
      have e57 : b.eval (.tmp 57) = .agg #[.int .i64 1, .int .i64 1, .int .i64 8, .int .i64 1, .int .i64 2, .int .i64 45, .int .i64 50, .int .i64 3, .int .i64 0, .int .i64 0, .int .i64 0, .int .i64 0, .int .i64 0] := by rw [hbe, eval_in _ _ _ 2 (by decide) rfl (by rw [hz0]; decide)]; exact f2 d2
      have t57 : b.tmps[57]?.getD undef = .agg #[.int .i64 1, .int .i64 1, .int .i64 8, .int .i64 1, .int .i64 2, .int .i64 45, .int .i64 50, .int .i64 3, .int .i64 0, .int .i64 0, .int .i64 0, .int .i64 0, .int .i64 0] := by have tv := e57; simpa only [Act.eval, Array.getD_eq_getD_getElem?] using tv
      have hb : Below w'.heap.size w' (w'.alloc (.cells #[.int .i64 1, .int .i64 1, .int .i64 9, .int .i64 1, .int .i64 2, .int .i64 35, .int .i64 40, .int .i64 3, .int .i64 0, .int .i64 0, .int .i64 0, .int .i64 0, .int .i64 0, .int .i64 1, .int .i64 1, .int .i64 8, .int .i64 1, .int .i64 2, .int .i64 45, .int .i64 50, .int .i64 3, .int .i64 0, .int .i64 0, .int .i64 0, .int .i64 0, .int .i64 0] 37)) := by (repeat (first | exact Below.refl _ _ | refine Below.alloc ?_ (by first | omega | (simp; done) | (simp; omega)) _ | refine Below.setCell ?_ (by first | omega | (simp; done) | (simp; omega)) _ | refine Below.drew ?_))
      refine wpOp_run (v := .slice (some ⟨w'.heap.size, 0, none⟩) 2 2) (w' := w'.alloc (.cells #[.int .i64 1, .int .i64 1, .int .i64 9, .int .i64 1, .int .i64 2, .int .i64 35, .int .i64 40, .int .i64 3, .int .i64 0, .int .i64 0, .int .i64 0, .int .i64 0, .int .i64 0, .int .i64 1, .int .i64 1, .int .i64 8, .int .i64 1, .int .i64 2, .int .i64 45, .int .i64 50, .int .i64 3, .int .i64 0, .int .i64 0, .int .i64 0, .int .i64 0, .int .i64 0] 37)) rfl rfl (by simp [execOp, go_sem, t56, t57]) ⟨_, _, rfl, rfl, ⟨hBw.trans (hb.mono hBw.size), fun h => by rw [upd_ne x _ (by decide)]; exact f0 (by rw [← getD_set_ne true (show 3 ≠ 0 by decide)]; exact h), fun h => by rw [upd_ne x _ (by decide)]; exact f1 (by rw [← getD_set_ne true (show 3 ≠ 1 by decide)]; exact h), fun h => by rw [upd_ne x _ (by decide)]; exact f2 (by rw [← getD_set_ne true (show 3 ≠ 2 by decide)]; exact h), fun _ => fun _ => ⟨w'.heap.size, upd_same _ _ _, own_lit w' _ 37 13 2 #[.int .i64 1, .int .i64 1, .int .i64 9, .int .i64 1, .int .i64 2, .int .i64 35, .int .i64 40, .int .i64 3, .int .i64 0, .int .i64 0, .int .i64 0, .int .i64 0, .int .i64 0, .int .i64 1, .int .i64 1, .int .i64 8, .int .i64 1, .int .i64 2, .int .i64 45, .int .i64 50, .int .i64 3, .int .i64 0, .int .i64 0, .int .i64 0, .int .i64 0, .int .i64 0] hBw.size rfl (by simp [maxLen])⟩, fun h => by obtain ⟨A, c, A', c', hx, hp, ha⟩ := f4 (by rw [← getD_set_ne true (show 3 ≠ 4 by decide)]; exact h); exact ⟨A, c, A', c', by rw [upd_ne x _ (by decide)]; exact hx, hp.up hb, fun h9 b hx9 => by rw [upd_ne x _ (by decide)] at hx9; exact ha (by rw [← getD_set_ne true (show 3 ≠ 9 by decide)]; exact h9) b hx9⟩, fun h => ⟨getD_mono (f5 (by rw [← getD_set_ne true (show 3 ≠ 5 by decide)]; exact h)).1, by rw [upd_ne x _ (by decide), upd_ne x _ (by decide)]; exact (f5 (by rw [← getD_set_ne true (show 3 ≠ 5 by decide)]; exact h)).2⟩, fun h => ⟨getD_mono (f6 (by rw [← getD_set_ne true (show 3 ≠ 6 by decide)]; exact h)).1, by rw [upd_ne x _ (by decide), upd_ne x _ (by decide)]; exact (f6 (by rw [← getD_set_ne true (show 3 ≠ 6 by decide)]; exact h)).2⟩, fun h => by rw [upd_ne x _ (by decide)]; exact f7 (by rw [← getD_set_ne true (show 3 ≠ 7 by decide)]; exact h), fun h => by rw [upd_ne x _ (by decide)]; exact f8 (by rw [← getD_set_ne true (show 3 ≠ 8 by decide)]; exact h), fun h => by obtain ⟨b9, cs9, hz9, hl9, hx9, hk9, h6⟩ := f9 (by rw [← getD_set_ne true (show 3 ≠ 9 by decide)]; exact h); exact ⟨b9, cs9, hz9, hl9, by rw [upd_ne x _ (by decide)]; exact hx9, hk9.below hb hk9.lt, fun h10 => by rw [upd_ne x _ (by decide)]; exact h6 (by rw [← getD_set_ne true (show 3 ≠ 10 by decide)]; exact h10)⟩, fun h => by rw [upd_ne x _ (by decide)]; exact f11 (by rw [← getD_set_ne true (show 3 ≠ 11 by decide)]; exact h), fun h => by rw [upd_ne x _ (by decide)]; exact f12 (by rw [← getD_set_ne true (show 3 ≠ 12 by decide)]; exact h)⟩⟩
    · have d0 := getD_ft (haf _ rfl ⟨0, .data⟩ (by simp) rfl)
      have d3 := getD_ft (haf _ rfl ⟨3, .data⟩ (by simp) rfl)
      have e55 : b.eval (.tmp 55) = .agg #[.slice A3 1 c3, .slice A4 1 c4, .int .i64 20, .int .i64 4] := by rw [hbe, eval_in _ _ _ 0 (by decide) rfl (by rw [hz0]; decide)]; exact f0 d0
      have t55 : b.tmps[55]?.getD undef = .agg #[.slice A3 1 c3, .slice A4 1 c4, .int .i64 20, .int .i64 4] := by have tv := e55; simpa only [Act.eval, Array.getD_eq_getD_getElem?] using tv
      have h10 : V.getD 10 true = false := by
        cases h : V.getD 10 true with
        | false => rfl
        | true =>
          have := getD_ft (hcl 10 _ rfl h ⟨4, .chain⟩ (by simp) rfl)
          rw [hun] at this
          cases this
      obtain ⟨g, hx3, ho⟩ := f3 d3 h10
      have e58 : b.eval (.tmp 58) = .slice (some ⟨g, 0, none⟩) 2 2 := by rw [hbe, eval_in _ _ _ 3 (by decide) rfl (by rw [hz0]; decide)]; exact hx3
      have t58 : b.tmps[58]?.getD undef = .slice (some ⟨g, 0, none⟩) 2 2 := by have tv := e58; simpa only [Act.eval, Array.getD_eq_getD_getElem?] using tv
      refine wpOp_of rfl ?_
      refine step_call rfl 17 #[.tmp 55, .tmp 58] _ rfl #[.agg #[.slice A3 1 c3, .slice A4 1 c4, .int .i64 20, .int .i64 4], .slice (some ⟨g, 0, none⟩) 2 2] (by simp [e55, e58]) Tryz.func17 rfl rfl ?_
      refine (pall_any A3 1 c3 A4 1 c4 s08_q (some ⟨g, 0, none⟩) 2 2 s08_e w' rfl (by omega) s08_ew (fq.up hBw) (Sl.of_own ho) s08_rq).mono ?_
      rintro e w'' hret
      have hown := hret
      obtain ⟨A, c, A', c', rfl, hp, hb⟩ := allRet_is s08_q 4 1 1 20 4 1 1 hret s08_q6 rfl s08_p6 rfl rfl rfl rfl
      have hap : ∀ b, b < w'.heap.size → Apart b A 1 A' 1 := by
        obtain ⟨A2, n2, c2, A3', n3, c3', he, ho2, _⟩ := hown
        rw [s08_q6, s08_p6] at he
        rw [s08_p6] at ho2
        have en : n2 = 1 := ho2.l1.symm.trans rfl
        have en3 : n3 = 1 := ho2.l.symm.trans rfl
        subst en en3
        simp only [Ending.returned.injEq, Value.tuple.injEq, Array.mk.injEq, List.cons.injEq, Value.agg.injEq, Value.slice.injEq] at he
        intro b hlt
        obtain ⟨⟨⟨e1, _⟩, ⟨e2, _⟩, _⟩, _⟩ := he
        rw [e1, e2]
        exact ⟨apart_own ho2.o1 hlt, apart_own ho2.o hlt⟩
      exact ⟨_, rfl, _, _, rfl, rfl, ⟨hBw.trans (hb.mono hBw.size), fun h => by rw [upd_ne x _ (by decide)]; exact f0 (by rw [← getD_set_ne true (show 4 ≠ 0 by decide)]; exact h), fun h => by rw [upd_ne x _ (by decide)]; exact f1 (by rw [← getD_set_ne true (show 4 ≠ 1 by decide)]; exact h), fun h => by rw [upd_ne x _ (by decide)]; exact f2 (by rw [← getD_set_ne true (show 4 ≠ 2 by decide)]; exact h), fun h h10 => by obtain ⟨g, hx, ho⟩ := f3 (by rw [← getD_set_ne true (show 4 ≠ 3 by decide)]; exact h) (by rw [← getD_set_ne true (show 4 ≠ 10 by decide)]; exact h10); exact ⟨g, by rw [upd_ne x _ (by decide)]; exact hx, own_below ho hb⟩, fun _ => ⟨A, c, A', c', upd_same _ _ _, hp, fun h9 b hx9 => by rw [upd_ne x _ (by decide)] at hx9; obtain ⟨b9, cs9, hz9, hl9, hx9', hk9, _⟩ := f9 (by rw [← getD_set_ne true (show 4 ≠ 9 by decide)]; exact h9); rw [hx9'] at hx9; injection hx9 with e1; injection e1 with e2; injection e2 with e3; subst e3; exact hap _ hk9.lt⟩, fun h => absurd (f5 (by rw [← getD_set_ne true (show 4 ≠ 5 by decide)]; exact h)).1 (by rw [hun]; decide), fun h => absurd (f6 (by rw [← getD_set_ne true (show 4 ≠ 6 by decide)]; exact h)).1 (by rw [hun]; decide), fun h => by rw [upd_ne x _ (by decide)]; exact f7 (by rw [← getD_set_ne true (show 4 ≠ 7 by decide)]; exact h), fun h => by rw [upd_ne x _ (by decide)]; exact f8 (by rw [← getD_set_ne true (show 4 ≠ 8 by decide)]; exact h), fun h => by obtain ⟨b9, cs9, hz9, hl9, hx9, hk9, h6⟩ := f9 (by rw [← getD_set_ne true (show 4 ≠ 9 by decide)]; exact h); exact ⟨b9, cs9, hz9, hl9, by rw [upd_ne x _ (by decide)]; exact hx9, hk9.below hb hk9.lt, fun h10 => by rw [upd_ne x _ (by decide)]; exact h6 (by rw [← getD_set_ne true (show 4 ≠ 10 by decide)]; exact h10)⟩, fun h => by rw [upd_ne x _ (by decide)]; exact f11 (by rw [← getD_set_ne true (show 4 ≠ 11 by decide)]; exact h), fun h => by rw [upd_ne x _ (by decide)]; exact f12 (by rw [← getD_set_ne true (show 4 ≠ 12 by decide)]; exact h)⟩⟩
    · have d4 := getD_ft (haf _ rfl ⟨4, .data⟩ (by simp) rfl)
      obtain ⟨A, c, A', c', hx4, hp4, ha4⟩ := f4 d4
      have e59 : b.eval (.tmp 59) = x 4 := by rw [hbe, eval_in _ _ _ 4 (by decide) rfl (by rw [hz0]; decide)]
      have t59 : b.tmps[59]?.getD undef = x 4 := by have tv := e59; simpa only [Act.eval, Array.getD_eq_getD_getElem?] using tv
      refine wpOp_run (v := x 4) rfl rfl (by simp [execOp, go_sem, t59]) ⟨_, _, rfl, rfl, ⟨hBw, fun h => by rw [upd_ne x _ (by decide)]; exact f0 (by rw [← getD_set_ne true (show 5 ≠ 0 by decide)]; exact h), fun h => by rw [upd_ne x _ (by decide)]; exact f1 (by rw [← getD_set_ne true (show 5 ≠ 1 by decide)]; exact h), fun h => by rw [upd_ne x _ (by decide)]; exact f2 (by rw [← getD_set_ne true (show 5 ≠ 2 by decide)]; exact h), fun h h10 => by obtain ⟨g, hx, ho⟩ := f3 (by rw [← getD_set_ne true (show 5 ≠ 3 by decide)]; exact h) (by rw [← getD_set_ne true (show 5 ≠ 10 by decide)]; exact h10); exact ⟨g, by rw [upd_ne x _ (by decide)]; exact hx, ho⟩, fun h => by obtain ⟨A, c, A', c', hx, hp, ha⟩ := f4 (by rw [← getD_set_ne true (show 5 ≠ 4 by decide)]; exact h); exact ⟨A, c, A', c', by rw [upd_ne x _ (by decide)]; exact hx, hp, fun h9 b hx9 => by rw [upd_ne x _ (by decide)] at hx9; exact ha (by rw [← getD_set_ne true (show 5 ≠ 9 by decide)]; exact h9) b hx9⟩, fun _ => ⟨getD_mono d4, by rw [upd_same, upd_ne x _ (by decide)]⟩, fun h => ⟨getD_mono (f6 (by rw [← getD_set_ne true (show 5 ≠ 6 by decide)]; exact h)).1, by rw [upd_ne x _ (by decide), upd_ne x _ (by decide)]; exact (f6 (by rw [← getD_set_ne true (show 5 ≠ 6 by decide)]; exact h)).2⟩, fun h => by rw [upd_ne x _ (by decide)]; exact f7 (by rw [← getD_set_ne true (show 5 ≠ 7 by decide)]; exact h), fun h => by rw [upd_ne x _ (by decide)]; exact f8 (by rw [← getD_set_ne true (show 5 ≠ 8 by decide)]; exact h), fun h => by obtain ⟨b9, cs9, hz9, hl9, hx9, hk9, h6⟩ := f9 (by rw [← getD_set_ne true (show 5 ≠ 9 by decide)]; exact h); exact ⟨b9, cs9, hz9, hl9, by rw [upd_ne x _ (by decide)]; exact hx9, hk9, fun h10 => by rw [upd_ne x _ (by decide)]; exact h6 (by rw [← getD_set_ne true (show 5 ≠ 10 by decide)]; exact h10)⟩, fun h => by rw [upd_ne x _ (by decide)]; exact f11 (by rw [← getD_set_ne true (show 5 ≠ 11 by decide)]; exact h), fun h => by rw [upd_ne x _ (by decide)]; exact f12 (by rw [← getD_set_ne true (show 5 ≠ 12 by decide)]; exact h)⟩⟩
    · have d5 := getD_ft (haf _ rfl ⟨5, .data⟩ (by simp) rfl)
      obtain ⟨A, c, A', c', hx4, hp4, ha4⟩ := f4 (f5 d5).1
      have e54 : b.eval (.tmp 54) = .tuple #[.agg #[.slice A 1 c, .slice A' 1 c', .int .i64 20, .int .i64 4], .int .i64 1, .int .i64 4] := by rw [hbe, eval_in _ _ _ 5 (by decide) rfl (by rw [hz0]; decide)]; exact (f5 d5).2.trans hx4
      have t54 : b.tmps[54]?.getD undef = .tuple #[.agg #[.slice A 1 c, .slice A' 1 c', .int .i64 20, .int .i64 4], .int .i64 1, .int .i64 4] := by have tv := e54; simpa only [Act.eval, Array.getD_eq_getD_getElem?] using tv
      have haf10 : V.getD 10 true = true → V.getD 6 true = true := fun h => getD_ft (hcl 10 _ rfl h ⟨6, .data⟩ (by simp) rfl)
      refine wpOp_run (v := .agg #[.slice A 1 c, .slice A' 1 c', .int .i64 20, .int .i64 4]) rfl rfl (by simp [execOp, go_sem, t54]) ⟨_, _, rfl, rfl, ⟨hBw, fun h => by rw [upd_ne x _ (by decide)]; exact f0 (by rw [← getD_set_ne true (show 6 ≠ 0 by decide)]; exact h), fun h => by rw [upd_ne x _ (by decide)]; exact f1 (by rw [← getD_set_ne true (show 6 ≠ 1 by decide)]; exact h), fun h => by rw [upd_ne x _ (by decide)]; exact f2 (by rw [← getD_set_ne true (show 6 ≠ 2 by decide)]; exact h), fun h h10 => by obtain ⟨g, hx, ho⟩ := f3 (by rw [← getD_set_ne true (show 6 ≠ 3 by decide)]; exact h) (by rw [← getD_set_ne true (show 6 ≠ 10 by decide)]; exact h10); exact ⟨g, by rw [upd_ne x _ (by decide)]; exact hx, ho⟩, fun h => by obtain ⟨A, c, A', c', hx, hp, ha⟩ := f4 (by rw [← getD_set_ne true (show 6 ≠ 4 by decide)]; exact h); exact ⟨A, c, A', c', by rw [upd_ne x _ (by decide)]; exact hx, hp, fun h9 b hx9 => by rw [upd_ne x _ (by decide)] at hx9; exact ha (by rw [← getD_set_ne true (show 6 ≠ 9 by decide)]; exact h9) b hx9⟩, fun h => ⟨getD_mono (f5 (by rw [← getD_set_ne true (show 6 ≠ 5 by decide)]; exact h)).1, by rw [upd_ne x _ (by decide), upd_ne x _ (by decide)]; exact (f5 (by rw [← getD_set_ne true (show 6 ≠ 5 by decide)]; exact h)).2⟩, fun _ => ⟨getD_mono (f5 d5).1, by rw [upd_same, upd_ne x _ (by decide), hx4]; rfl⟩, fun h => by rw [upd_ne x _ (by decide)]; exact f7 (by rw [← getD_set_ne true (show 6 ≠ 7 by decide)]; exact h), fun h => by rw [upd_ne x _ (by decide)]; exact f8 (by rw [← getD_set_ne true (show 6 ≠ 8 by decide)]; exact h), fun h => by obtain ⟨b9, cs9, hz9, hl9, hx9, hk9, h6⟩ := f9 (by rw [← getD_set_ne true (show 6 ≠ 9 by decide)]; exact h); exact ⟨b9, cs9, hz9, hl9, by rw [upd_ne x _ (by decide)]; exact hx9, hk9, fun h10 => by exact absurd (haf10 (by rw [← getD_set_ne true (show 6 ≠ 10 by decide)]; exact h10)) (by rw [hun]; decide)⟩, fun h => by rw [upd_ne x _ (by decide)]; exact f11 (by rw [← getD_set_ne true (show 6 ≠ 11 by decide)]; exact h), fun h => by rw [upd_ne x _ (by decide)]; exact f12 (by rw [← getD_set_ne true (show 6 ≠ 12 by decide)]; exact h)⟩⟩
    · have d5 := getD_ft (haf _ rfl ⟨5, .data⟩ (by simp) rfl)
      obtain ⟨A, c, A', c', hx4, hp4, ha4⟩ := f4 (f5 d5).1
      have e54 : b.eval (.tmp 54) = .tuple #[.agg #[.slice A 1 c, .slice A' 1 c', .int .i64 20, .int .i64 4], .int .i64 1, .int .i64 4] := by rw [hbe, eval_in _ _ _ 5 (by decide) rfl (by rw [hz0]; decide)]; exact (f5 d5).2.trans hx4
      have t54 : b.tmps[54]?.getD undef = .tuple #[.agg #[.slice A 1 c, .slice A' 1 c', .int .i64 20, .int .i64 4], .int .i64 1, .int .i64 4] := by have tv := e54; simpa only [Act.eval, Array.getD_eq_getD_getElem?] using tv
      refine wpOp_run (v := .int .i64 1) rfl rfl (by simp [execOp, go_sem, t54]) ⟨_, _, rfl, rfl, ⟨hBw, fun h => by rw [upd_ne x _ (by decide)]; exact f0 (by rw [← getD_set_ne true (show 7 ≠ 0 by decide)]; exact h), fun h => by rw [upd_ne x _ (by decide)]; exact f1 (by rw [← getD_set_ne true (show 7 ≠ 1 by decide)]; exact h), fun h => by rw [upd_ne x _ (by decide)]; exact f2 (by rw [← getD_set_ne true (show 7 ≠ 2 by decide)]; exact h), fun h h10 => by obtain ⟨g, hx, ho⟩ := f3 (by rw [← getD_set_ne true (show 7 ≠ 3 by decide)]; exact h) (by rw [← getD_set_ne true (show 7 ≠ 10 by decide)]; exact h10); exact ⟨g, by rw [upd_ne x _ (by decide)]; exact hx, ho⟩, fun h => by obtain ⟨A, c, A', c', hx, hp, ha⟩ := f4 (by rw [← getD_set_ne true (show 7 ≠ 4 by decide)]; exact h); exact ⟨A, c, A', c', by rw [upd_ne x _ (by decide)]; exact hx, hp, fun h9 b hx9 => by rw [upd_ne x _ (by decide)] at hx9; exact ha (by rw [← getD_set_ne true (show 7 ≠ 9 by decide)]; exact h9) b hx9⟩, fun h => ⟨getD_mono (f5 (by rw [← getD_set_ne true (show 7 ≠ 5 by decide)]; exact h)).1, by rw [upd_ne x _ (by decide), upd_ne x _ (by decide)]; exact (f5 (by rw [← getD_set_ne true (show 7 ≠ 5 by decide)]; exact h)).2⟩, fun h => ⟨getD_mono (f6 (by rw [← getD_set_ne true (show 7 ≠ 6 by decide)]; exact h)).1, by rw [upd_ne x _ (by decide), upd_ne x _ (by decide)]; exact (f6 (by rw [← getD_set_ne true (show 7 ≠ 6 by decide)]; exact h)).2⟩, fun _ => upd_same _ _ _, fun h => by rw [upd_ne x _ (by decide)]; exact f8 (by rw [← getD_set_ne true (show 7 ≠ 8 by decide)]; exact h), fun h => by obtain ⟨b9, cs9, hz9, hl9, hx9, hk9, h6⟩ := f9 (by rw [← getD_set_ne true (show 7 ≠ 9 by decide)]; exact h); exact ⟨b9, cs9, hz9, hl9, by rw [upd_ne x _ (by decide)]; exact hx9, hk9, fun h10 => by rw [upd_ne x _ (by decide)]; exact h6 (by rw [← getD_set_ne true (show 7 ≠ 10 by decide)]; exact h10)⟩, fun h => by rw [upd_ne x _ (by decide)]; exact f11 (by rw [← getD_set_ne true (show 7 ≠ 11 by decide)]; exact h), fun h => by rw [upd_ne x _ (by decide)]; exact f12 (by rw [← getD_set_ne true (show 7 ≠ 12 by decide)]; exact h)⟩⟩
    · have d5 := getD_ft (haf _ rfl ⟨5, .data⟩ (by simp) rfl)
      obtain ⟨A, c, A', c', hx4, hp4, ha4⟩ := f4 (f5 d5).1
      have e54 : b.eval (.tmp 54) = .tuple #[.agg #[.slice A 1 c, .slice A' 1 c', .int .i64 20, .int .i64 4], .int .i64 1, .int .i64 4] := by rw [hbe, eval_in _ _ _ 5 (by decide) rfl (by rw [hz0]; decide)]; exact (f5 d5).2.trans hx4
      have t54 : b.tmps[54]?.getD undef = .tuple #[.agg #[.slice A 1 c, .slice A' 1 c', .int .i64 20, .int .i64 4], .int .i64 1, .int .i64 4] := by have tv := e54; simpa only [Act.eval, Array.getD_eq_getD_getElem?] using tv
      refine wpOp_run (v := .int .i64 4) rfl rfl (by simp [execOp, go_sem, t54]) ⟨_, _, rfl, rfl, ⟨hBw, fun h => by rw [upd_ne x _ (by decide)]; exact f0 (by rw [← getD_set_ne true (show 8 ≠ 0 by decide)]; exact h), fun h => by rw [upd_ne x _ (by decide)]; exact f1 (by rw [← getD_set_ne true (show 8 ≠ 1 by decide)]; exact h), fun h => by rw [upd_ne x _ (by decide)]; exact f2 (by rw [← getD_set_ne true (show 8 ≠ 2 by decide)]; exact h), fun h h10 => by obtain ⟨g, hx, ho⟩ := f3 (by rw [← getD_set_ne true (show 8 ≠ 3 by decide)]; exact h) (by rw [← getD_set_ne true (show 8 ≠ 10 by decide)]; exact h10); exact ⟨g, by rw [upd_ne x _ (by decide)]; exact hx, ho⟩, fun h => by obtain ⟨A, c, A', c', hx, hp, ha⟩ := f4 (by rw [← getD_set_ne true (show 8 ≠ 4 by decide)]; exact h); exact ⟨A, c, A', c', by rw [upd_ne x _ (by decide)]; exact hx, hp, fun h9 b hx9 => by rw [upd_ne x _ (by decide)] at hx9; exact ha (by rw [← getD_set_ne true (show 8 ≠ 9 by decide)]; exact h9) b hx9⟩, fun h => ⟨getD_mono (f5 (by rw [← getD_set_ne true (show 8 ≠ 5 by decide)]; exact h)).1, by rw [upd_ne x _ (by decide), upd_ne x _ (by decide)]; exact (f5 (by rw [← getD_set_ne true (show 8 ≠ 5 by decide)]; exact h)).2⟩, fun h => ⟨getD_mono (f6 (by rw [← getD_set_ne true (show 8 ≠ 6 by decide)]; exact h)).1, by rw [upd_ne x _ (by decide), upd_ne x _ (by decide)]; exact (f6 (by rw [← getD_set_ne true (show 8 ≠ 6 by decide)]; exact h)).2⟩, fun h => by rw [upd_ne x _ (by decide)]; exact f7 (by rw [← getD_set_ne true (show 8 ≠ 7 by decide)]; exact h), fun _ => upd_same _ _ _, fun h => by obtain ⟨b9, cs9, hz9, hl9, hx9, hk9, h6⟩ := f9 (by rw [← getD_set_ne true (show 8 ≠ 9 by decide)]; exact h); exact ⟨b9, cs9, hz9, hl9, by rw [upd_ne x _ (by decide)]; exact hx9, hk9, fun h10 => by rw [upd_ne x _ (by decide)]; exact h6 (by rw [← getD_set_ne true (show 8 ≠ 10 by decide)]; exact h10)⟩, fun h => by rw [upd_ne x _ (by decide)]; exact f11 (by rw [← getD_set_ne true (show 8 ≠ 11 by decide)]; exact h), fun h => by rw [upd_ne x _ (by decide)]; exact f12 (by rw [← getD_set_ne true (show 8 ≠ 12 by decide)]; exact h)⟩⟩
    · have hb : Below w'.heap.size w' (w'.alloc (.cells #[.slice none 0 0, .slice none 0 0, .int .i64 0, .int .i64 0] 25)) := by (repeat (first | exact Below.refl _ _ | refine Below.alloc ?_ (by first | omega | (simp; done) | (simp; omega)) _ | refine Below.setCell ?_ (by first | omega | (simp; done) | (simp; omega)) _ | refine Below.drew ?_))
      have h10 : V.getD 10 true = false := by
        cases h : V.getD 10 true with
        | false => rfl
        | true =>
          have := getD_ft (hcl 10 _ rfl h ⟨9, .data⟩ (by simp) rfl)
          rw [hun] at this
          cases this
      refine wpOp_run (v := .pointer (some ⟨w'.heap.size, 0, none⟩)) (w' := w'.alloc (.cells #[.slice none 0 0, .slice none 0 0, .int .i64 0, .int .i64 0] 25)) rfl rfl (by simp [execOp, go_sem]) ⟨_, _, rfl, rfl, ⟨hBw.trans (hb.mono hBw.size), fun h => by rw [upd_ne x _ (by decide)]; exact f0 (by rw [← getD_set_ne true (show 9 ≠ 0 by decide)]; exact h), fun h => by rw [upd_ne x _ (by decide)]; exact f1 (by rw [← getD_set_ne true (show 9 ≠ 1 by decide)]; exact h), fun h => by rw [upd_ne x _ (by decide)]; exact f2 (by rw [← getD_set_ne true (show 9 ≠ 2 by decide)]; exact h), fun h h10 => by obtain ⟨g, hx, ho⟩ := f3 (by rw [← getD_set_ne true (show 9 ≠ 3 by decide)]; exact h) (by rw [← getD_set_ne true (show 9 ≠ 10 by decide)]; exact h10); exact ⟨g, by rw [upd_ne x _ (by decide)]; exact hx, own_below ho hb⟩, fun h => by obtain ⟨A, c, A', c', hx, hp, ha⟩ := f4 (by rw [← getD_set_ne true (show 9 ≠ 4 by decide)]; exact h); exact ⟨A, c, A', c', by rw [upd_ne x _ (by decide)]; exact hx, hp.up hb, fun _ b hx9 => by rw [upd_same] at hx9; injection hx9 with e1; injection e1 with e2; injection e2 with e3; subst e3; exact hp.apart (Nat.le_refl _)⟩, fun h => ⟨getD_mono (f5 (by rw [← getD_set_ne true (show 9 ≠ 5 by decide)]; exact h)).1, by rw [upd_ne x _ (by decide), upd_ne x _ (by decide)]; exact (f5 (by rw [← getD_set_ne true (show 9 ≠ 5 by decide)]; exact h)).2⟩, fun h => ⟨getD_mono (f6 (by rw [← getD_set_ne true (show 9 ≠ 6 by decide)]; exact h)).1, by rw [upd_ne x _ (by decide), upd_ne x _ (by decide)]; exact (f6 (by rw [← getD_set_ne true (show 9 ≠ 6 by decide)]; exact h)).2⟩, fun h => by rw [upd_ne x _ (by decide)]; exact f7 (by rw [← getD_set_ne true (show 9 ≠ 7 by decide)]; exact h), fun h => by rw [upd_ne x _ (by decide)]; exact f8 (by rw [← getD_set_ne true (show 9 ≠ 8 by decide)]; exact h), fun _ => ⟨w'.heap.size, #[.slice none 0 0, .slice none 0 0, .int .i64 0, .int .i64 0], rfl, hBw.size, upd_same _ _ _, Blok.new _ _ _, fun h => by rw [getD_set_ne true (show 9 ≠ 10 by decide), h10] at h; cases h⟩, fun h => by rw [upd_ne x _ (by decide)]; exact f11 (by rw [← getD_set_ne true (show 9 ≠ 11 by decide)]; exact h), fun h => by rw [upd_ne x _ (by decide)]; exact f12 (by rw [← getD_set_ne true (show 9 ≠ 12 by decide)]; exact h)⟩⟩
    · have d9 := getD_ft (haf _ rfl ⟨9, .data⟩ (by simp) rfl)
      have d6 := getD_ft (haf _ rfl ⟨6, .data⟩ (by simp) rfl)
      obtain ⟨b9, cs9, hz9, hl9, hx9, hk9, _⟩ := f9 d9
      obtain ⟨A, c, A', c', hx4, hp4, ha4⟩ := f4 (f6 d6).1
      have hx6 : x 6 = .agg #[.slice A 1 c, .slice A' 1 c', .int .i64 20, .int .i64 4] := by rw [(f6 d6).2, hx4]; rfl
      have e14 : b.eval (.tmp 14) = .pointer (some ⟨b9, 0, none⟩) := by rw [hbe, eval_in _ _ _ 9 (by decide) rfl (by rw [hz0]; decide)]; exact hx9
      have t14 : b.tmps[14]?.getD undef = .pointer (some ⟨b9, 0, none⟩) := by have tv := e14; simpa only [Act.eval, Array.getD_eq_getD_getElem?] using tv
      have e60 : b.eval (.tmp 60) = .agg #[.slice A 1 c, .slice A' 1 c', .int .i64 20, .int .i64 4] := by rw [hbe, eval_in _ _ _ 6 (by decide) rfl (by rw [hz0]; decide)]; exact hx6
      have t60 : b.tmps[60]?.getD undef = .agg #[.slice A 1 c, .slice A' 1 c', .int .i64 20, .int .i64 4] := by have tv := e60; simpa only [Act.eval, Array.getD_eq_getD_getElem?] using tv
      refine wpOp_of rfl ?_
      rw [if_pos (by simp [Region.wanted])]
      refine wp_store_mid 25 (.tmp 14) (.tmp 60) rfl b9 0 #[.slice A 1 c, .slice A' 1 c', .int .i64 20, .int .i64 4] e14 e60 ?_ (by kernel_rfl) (by simp [Value.oneCell']) ?_
      · intro j hj
        rw [Nat.zero_add]
        refine ⟨?_, hk9.free j⟩
        rw [hk9.cell j]
        have : j < cs9.size := by rw [hz9]; exact hj
        simp [this]
      · refine ⟨_, _, rfl, rfl, ⟨set_below b9 hl9 _ _ hBw, fun h => by rw [upd_ne x _ (by decide)]; exact f0 (by rw [← getD_set_ne true (show 10 ≠ 0 by decide)]; exact h), fun h => by rw [upd_ne x _ (by decide)]; exact f1 (by rw [← getD_set_ne true (show 10 ≠ 1 by decide)]; exact h), fun h => by rw [upd_ne x _ (by decide)]; exact f2 (by rw [← getD_set_ne true (show 10 ≠ 2 by decide)]; exact h), fun h h10 => absurd h10 (by simp [hsz]), fun h => by obtain ⟨A, c, A', c', hx, hp, ha⟩ := f4 (by rw [← getD_set_ne true (show 10 ≠ 4 by decide)]; exact h); exact ⟨A, c, A', c', by rw [upd_ne x _ (by decide)]; exact hx, hp.kept1 (grown_sets _ _ _) (ha d9 _ hx9), fun _ b hx9' => by rw [upd_ne x _ (by decide)] at hx9'; exact ha d9 b hx9'⟩, fun h => ⟨getD_mono (f5 (by rw [← getD_set_ne true (show 10 ≠ 5 by decide)]; exact h)).1, by rw [upd_ne x _ (by decide), upd_ne x _ (by decide)]; exact (f5 (by rw [← getD_set_ne true (show 10 ≠ 5 by decide)]; exact h)).2⟩, fun h => ⟨getD_mono (f6 (by rw [← getD_set_ne true (show 10 ≠ 6 by decide)]; exact h)).1, by rw [upd_ne x _ (by decide), upd_ne x _ (by decide)]; exact (f6 (by rw [← getD_set_ne true (show 10 ≠ 6 by decide)]; exact h)).2⟩, fun h => by rw [upd_ne x _ (by decide)]; exact f7 (by rw [← getD_set_ne true (show 10 ≠ 7 by decide)]; exact h), fun h => by rw [upd_ne x _ (by decide)]; exact f8 (by rw [← getD_set_ne true (show 10 ≠ 8 by decide)]; exact h), fun h => ⟨b9, #[.slice A 1 c, .slice A' 1 c', .int .i64 20, .int .i64 4], rfl, hl9, by rw [upd_ne x _ (by decide)]; exact hx9, set_whole hk9 (by rw [hz9]; rfl), fun _ => by rw [upd_ne x _ (by decide)]; exact hx6⟩, fun h => by rw [upd_ne x _ (by decide)]; exact f11 (by rw [← getD_set_ne true (show 10 ≠ 11 by decide)]; exact h), fun h => by rw [upd_ne x _ (by decide)]; exact f12 (by rw [← getD_set_ne true (show 10 ≠ 12 by decide)]; exact h)⟩⟩
    · have d7 := getD_ft (haf _ rfl ⟨7, .data⟩ (by simp) rfl)
      have e61 : b.eval (.tmp 61) = .int .i64 1 := by rw [hbe, eval_in _ _ _ 7 (by decide) rfl (by rw [hz0]; decide)]; exact f7 d7
      have t61 : b.tmps[61]?.getD undef = .int .i64 1 := by have tv := e61; simpa only [Act.eval, Array.getD_eq_getD_getElem?] using tv
      refine wpOp_run (v := .int .i64 1) rfl rfl (by simp [execOp, go_sem, t61]) ⟨_, _, rfl, rfl, ⟨hBw, fun h => by rw [upd_ne x _ (by decide)]; exact f0 (by rw [← getD_set_ne true (show 11 ≠ 0 by decide)]; exact h), fun h => by rw [upd_ne x _ (by decide)]; exact f1 (by rw [← getD_set_ne true (show 11 ≠ 1 by decide)]; exact h), fun h => by rw [upd_ne x _ (by decide)]; exact f2 (by rw [← getD_set_ne true (show 11 ≠ 2 by decide)]; exact h), fun h h10 => by obtain ⟨g, hx, ho⟩ := f3 (by rw [← getD_set_ne true (show 11 ≠ 3 by decide)]; exact h) (by rw [← getD_set_ne true (show 11 ≠ 10 by decide)]; exact h10); exact ⟨g, by rw [upd_ne x _ (by decide)]; exact hx, ho⟩, fun h => by obtain ⟨A, c, A', c', hx, hp, ha⟩ := f4 (by rw [← getD_set_ne true (show 11 ≠ 4 by decide)]; exact h); exact ⟨A, c, A', c', by rw [upd_ne x _ (by decide)]; exact hx, hp, fun h9 b hx9 => by rw [upd_ne x _ (by decide)] at hx9; exact ha (by rw [← getD_set_ne true (show 11 ≠ 9 by decide)]; exact h9) b hx9⟩, fun h => ⟨getD_mono (f5 (by rw [← getD_set_ne true (show 11 ≠ 5 by decide)]; exact h)).1, by rw [upd_ne x _ (by decide), upd_ne x _ (by decide)]; exact (f5 (by rw [← getD_set_ne true (show 11 ≠ 5 by decide)]; exact h)).2⟩, fun h => ⟨getD_mono (f6 (by rw [← getD_set_ne true (show 11 ≠ 6 by decide)]; exact h)).1, by rw [upd_ne x _ (by decide), upd_ne x _ (by decide)]; exact (f6 (by rw [← getD_set_ne true (show 11 ≠ 6 by decide)]; exact h)).2⟩, fun h => by rw [upd_ne x _ (by decide)]; exact f7 (by rw [← getD_set_ne true (show 11 ≠ 7 by decide)]; exact h), fun h => by rw [upd_ne x _ (by decide)]; exact f8 (by rw [← getD_set_ne true (show 11 ≠ 8 by decide)]; exact h), fun h => by obtain ⟨b9, cs9, hz9, hl9, hx9, hk9, h6⟩ := f9 (by rw [← getD_set_ne true (show 11 ≠ 9 by decide)]; exact h); exact ⟨b9, cs9, hz9, hl9, by rw [upd_ne x _ (by decide)]; exact hx9, hk9, fun h10 => by rw [upd_ne x _ (by decide)]; exact h6 (by rw [← getD_set_ne true (show 11 ≠ 10 by decide)]; exact h10)⟩, fun _ => upd_same _ _ _, fun h => by rw [upd_ne x _ (by decide)]; exact f12 (by rw [← getD_set_ne true (show 11 ≠ 12 by decide)]; exact h)⟩⟩
    · have d8 := getD_ft (haf _ rfl ⟨8, .data⟩ (by simp) rfl)
      have e62 : b.eval (.tmp 62) = .int .i64 4 := by rw [hbe, eval_in _ _ _ 8 (by decide) rfl (by rw [hz0]; decide)]; exact f8 d8
      have t62 : b.tmps[62]?.getD undef = .int .i64 4 := by have tv := e62; simpa only [Act.eval, Array.getD_eq_getD_getElem?] using tv
      refine wpOp_run (v := .int .i64 4) rfl rfl (by simp [execOp, go_sem, t62]) ⟨_, _, rfl, rfl, ⟨hBw, fun h => by rw [upd_ne x _ (by decide)]; exact f0 (by rw [← getD_set_ne true (show 12 ≠ 0 by decide)]; exact h), fun h => by rw [upd_ne x _ (by decide)]; exact f1 (by rw [← getD_set_ne true (show 12 ≠ 1 by decide)]; exact h), fun h => by rw [upd_ne x _ (by decide)]; exact f2 (by rw [← getD_set_ne true (show 12 ≠ 2 by decide)]; exact h), fun h h10 => by obtain ⟨g, hx, ho⟩ := f3 (by rw [← getD_set_ne true (show 12 ≠ 3 by decide)]; exact h) (by rw [← getD_set_ne true (show 12 ≠ 10 by decide)]; exact h10); exact ⟨g, by rw [upd_ne x _ (by decide)]; exact hx, ho⟩, fun h => by obtain ⟨A, c, A', c', hx, hp, ha⟩ := f4 (by rw [← getD_set_ne true (show 12 ≠ 4 by decide)]; exact h); exact ⟨A, c, A', c', by rw [upd_ne x _ (by decide)]; exact hx, hp, fun h9 b hx9 => by rw [upd_ne x _ (by decide)] at hx9; exact ha (by rw [← getD_set_ne true (show 12 ≠ 9 by decide)]; exact h9) b hx9⟩, fun h => ⟨getD_mono (f5 (by rw [← getD_set_ne true (show 12 ≠ 5 by decide)]; exact h)).1, by rw [upd_ne x _ (by decide), upd_ne x _ (by decide)]; exact (f5 (by rw [← getD_set_ne true (show 12 ≠ 5 by decide)]; exact h)).2⟩, fun h => ⟨getD_mono (f6 (by rw [← getD_set_ne true (show 12 ≠ 6 by decide)]; exact h)).1, by rw [upd_ne x _ (by decide), upd_ne x _ (by decide)]; exact (f6 (by rw [← getD_set_ne true (show 12 ≠ 6 by decide)]; exact h)).2⟩, fun h => by rw [upd_ne x _ (by decide)]; exact f7 (by rw [← getD_set_ne true (show 12 ≠ 7 by decide)]; exact h), fun h => by rw [upd_ne x _ (by decide)]; exact f8 (by rw [← getD_set_ne true (show 12 ≠ 8 by decide)]; exact h), fun h => by obtain ⟨b9, cs9, hz9, hl9, hx9, hk9, h6⟩ := f9 (by rw [← getD_set_ne true (show 12 ≠ 9 by decide)]; exact h); exact ⟨b9, cs9, hz9, hl9, by rw [upd_ne x _ (by decide)]; exact hx9, hk9, fun h10 => by rw [upd_ne x _ (by decide)]; exact h6 (by rw [← getD_set_ne true (show 12 ≠ 10 by decide)]; exact h10)⟩, fun h => by rw [upd_ne x _ (by decide)]; exact f11 (by rw [← getD_set_ne true (show 12 ≠ 11 by decide)]; exact h), fun _ => upd_same _ _ _⟩⟩
  intro V x w' hall hF
  obtain ⟨hb, f0, f1, f2, f3, f4, f5, f6, f7, f8, f9, f11, f12⟩ := hF
  obtain ⟨b9, cs9, hz9, hl9, hx9, hk9, hcs⟩ := f9 (hall 9 (by decide))
  obtain ⟨A6, c6, A7, c7, hx4, fs, _⟩ := f4 (hall 4 (by decide))
  have hx6 := (f6 (hall 6 (by decide))).2
  rw [hx4, hcs (hall 10 (by decide))] at hx6
  have hcs2 : cs9 = #[.slice A6 1 c6, .slice A7 1 c7, .int .i64 20, .int .i64 4] := by
    have := hx6
    simp only [tpl] at this
    injection this
  subst hcs2
  have h11 := f11 (hall 11 (by decide))
  have h12 := f12 (hall 12 (by decide))
  clear f0 f1 f2 f3 f4 f5 f6 f7 f8 f9 f11 f12 hall hr0 hx4 hx6 hcs hz9
  subst ha0
  replace fp := fp.up hb
  replace fq := fq.up hb
  replace fg := fg.up hb
  replace fr := fr.up hb
  replace bp := bp.below hb bp.lt
  replace bq := bq.below hb bq.lt
  replace br := br.below hb br.lt
  replace hB := hB.trans (hb.mono hs)
  replace hs := hB.size
  clear hb
  simp only [List.map_cons, List.map_nil, putAll, h11, h12, hx9]
  clear h11 h12 hx9
  go_simp
  have n_0 : w'.cell? ⟨Bq, 0, none⟩ = some (.slice A3 1 c3) := bq.cell 0
  have nf_0 := bq.free 0
  have n_1 : w'.cell? ⟨Bq, 1, none⟩ = some (.slice A4 1 c4) := bq.cell 1
  have nf_1 := bq.free 1
  have n_2 : w'.cell? ⟨Bq, 2, none⟩ = some (.int .i64 20) := bq.cell 2
  have nf_2 := bq.free 2
  have n_3 : w'.cell? ⟨Bq, 3, none⟩ = some (.int .i64 4) := bq.cell 3
  have nf_3 := bq.free 3
  have lt_n_ := bq.lt
  go_wp2_with fail
  clear n_0 n_1 n_2 n_3 nf_0 nf_1 nf_2 nf_3 lt_n_
  refine (papply_any A3 1 c3 A4 1 c4 s08_q s08_z w' (by decide) (by decide) fq s08_rq).mono ?_
  rintro e w10 hret
  obtain ⟨A8, c8, A9, c9, rfl, _, hb⟩ := applyRet_is s08_q 1 20 4 1 1 hret s08_q7 (stepP_no s08_q7 (by decide)) rfl rfl rfl rfl
  clear hret
  replace fp := fp.up hb
  replace fq := fq.up hb
  replace fg := fg.up hb
  replace fr := fr.up hb
  replace fs := fs.up hb
  replace bp := bp.below hb bp.lt
  replace bq := bq.below hb bq.lt
  replace br := br.below hb br.lt
  replace hk9 := hk9.below hb hk9.lt
  replace hB := hB.trans (hb.mono hs)
  replace hs := hB.size
  clear hb
  go_upto_region 8 with fail
  have bg := Blok.new w10 25 #[.slice A8 1 c8, .slice A9 1 c9, .int .i64 20, .int .i64 4]
  have hb : Below w10.heap.size w10 (w10.alloc (.cells #[.slice A8 1 c8, .slice A9 1 c9, .int .i64 20, .int .i64 4] 25)) := by (repeat (first | exact Below.refl _ _ | refine Below.alloc ?_ (by first | omega | (simp; done) | (simp; omega)) _ | refine Below.setCell ?_ (by first | omega | (simp; done) | (simp; omega)) _ | refine Below.drew ?_))
  replace fp := fp.up hb
  replace fq := fq.up hb
  replace fg := fg.up hb
  replace fr := fr.up hb
  replace fs := fs.up hb
  replace bp := bp.below hb bp.lt
  replace bq := bq.below hb bq.lt
  replace br := br.below hb br.lt
  replace hk9 := hk9.below hb hk9.lt
  replace hB := hB.trans (hb.mono hs)
  replace hs := hB.size
  clear hb
  generalize w10.alloc (.cells #[.slice A8 1 c8, .slice A9 1 c9, .int .i64 20, .int .i64 4] 25) = w10v at *
  generalize w10.heap.size = Bg at *
  clear bg
  have r_0 : w10v.cell? ⟨Br, 0, none⟩ = some (.slice Ar 1 cr) := br.cell 0
  have lt_r := br.lt
  go_upto_region 10 with fail
  clear r_0 lt_r
  obtain ⟨ar, rfl, har, _, _, _, _, _, rc⟩ := fr.s1.lst.atCo fr.l1 (show 0 < 1 by decide)
  have rc : w10v.cell? ⟨ar.block, ar.off + 5, none⟩ = some (.int .i64 9) := by
    have h := rc
    simp only [Nat.zero_mul, Addr.add_zero'] at h
    exact h
  have u_p3 : w10v.cell? ⟨Bp, 3, none⟩ = some (.int .i64 3) := bp.cell 3
  have u_q3 : w10v.cell? ⟨Bq, 3, none⟩ = some (.int .i64 4) := bq.cell 3
  have u_q2 : w10v.cell? ⟨Bq, 2, none⟩ = some (.int .i64 20) := bq.cell 2
  have lt_p := bp.lt
  have lt_q := bq.lt
  have lt_s := hk9.lt
  have lt_r := br.lt
  clear rc
  have q_u_p3 := fun d os => cell_regrown u_p3 d os
  have q_u_q3 := fun d os => cell_regrown u_q3 d os
  have q_u_q2 := fun d os => cell_regrown u_q2 d os
  try simp only [List.append]
  refine wp_region_segN 26 70 96 (by kernel_rfl) (by kernel_rfl) (by kernel_rfl) (by decide) ?_
  simp only [Nat.reduceAdd, List.take_succ_cons, List.take_zero]
  repeat (go_big_quiet_step ((fail)))
  refine wpQuiet_nil ?_
  intro _ hqw
  obtain ⟨pq, hqw⟩ := hqw
  subst hqw
  clear q_u_p3 q_u_q3 q_u_q2
  clear u_p3 u_q3 u_q2
  have hb := below_regrown w10v pq.d pq.os
  replace fp := fp.up hb
  replace fq := fq.up hb
  replace fg := fg.up hb
  replace fr := fr.up hb
  replace fs := fs.up hb
  replace bp := bp.below hb bp.lt
  replace bq := bq.below hb bq.lt
  replace br := br.below hb br.lt
  replace hk9 := hk9.below hb hk9.lt
  replace hB := hB.trans (hb.mono hs)
  replace hs := hB.size
  clear hb
  generalize grow (redrawn w10v pq.d) pq.os = x1 at *
  clear lt_p lt_q lt_s lt_r
  refine wpAny_taken (p := 26) (v := ?_) rfl (by kernel_rfl) (by kernel_rfl) (by kernel_rfl) (fun _ _ _ h => h) (Or.inl ⟨by rfl, ?_⟩) ?_
  rotate_left
  · (intro w; go_simp; try with_reducible rfl)
  refine wpAny_forcedSN 2 27 67 96 (by kernel_rfl) (by kernel_rfl) (by decide) ?_
  intro N hN
  simp only [List.drop_succ_cons, List.drop_zero, List.take_succ_cons, List.take_zero]
  go_wp2_with fail
  have hO := own_lit x1 0 3 1 1 #[.int .i64 7] (by omega) rfl (by simp [maxLen])
  have hb : Below x1.heap.size x1 (x1.alloc (.cells #[.int .i64 7] 3)) := by (repeat (first | exact Below.refl _ _ | refine Below.alloc ?_ (by first | omega | (simp; done) | (simp; omega)) _ | refine Below.setCell ?_ (by first | omega | (simp; done) | (simp; omega)) _ | refine Below.drew ?_))
  replace fp := fp.up hb
  replace fq := fq.up hb
  replace fg := fg.up hb
  replace fr := fr.up hb
  replace fs := fs.up hb
  replace bp := bp.below hb bp.lt
  replace bq := bq.below hb bq.lt
  replace br := br.below hb br.lt
  replace hk9 := hk9.below hb hk9.lt
  replace hB := hB.trans (hb.mono hs)
  replace hs := hB.size
  clear hb
  generalize x1.alloc (.cells #[.int .i64 7] 3) = x2 at *
  refine (ints_refl A5 (some ⟨x1.heap.size, 0, none⟩) 1 c5 1 [7] x2 i7_len (by omega) fg (Sl.of_own hO)).mono ?_
  rintro e x3 ⟨rfl, hb⟩
  clear hO
  replace fp := fp.up hb
  replace fq := fq.up hb
  replace fg := fg.up hb
  replace fr := fr.up hb
  replace fs := fs.up hb
  replace bp := bp.below hb bp.lt
  replace bq := bq.below hb bq.lt
  replace br := br.below hb br.lt
  replace hk9 := hk9.below hb hk9.lt
  replace hB := hB.trans (hb.mono hs)
  replace hs := hB.size
  clear hb
  go_wp2_with fail
  refine hN _ _ ?_
  clear hN N
  have rc : x3.cell? ⟨ar.block, ar.off + 5, none⟩ = some (.int .i64 9) := by
    obtain ⟨ar', e, _, _, _, _, _, _, h⟩ := fr.s1.lst.atCo fr.l1 (show 0 < 1 by decide)
    injection e with e
    subst e
    simp only [Nat.zero_mul, Addr.add_zero'] at h
    exact h
  have u_q0 : x3.cell? ⟨Bq, 0, none⟩ = some (.slice A3 1 c3) := bq.cell 0
  have u_q1 : x3.cell? ⟨Bq, 1, none⟩ = some (.slice A4 1 c4) := bq.cell 1
  have u_r0 : x3.cell? ⟨Br, 0, none⟩ = some (.slice (some ar) 1 cr) := br.cell 0
  have lt_p := bp.lt
  have lt_q := bq.lt
  have lt_s := hk9.lt
  have lt_r := br.lt
  refine wpAny_segN 42 29 25 96 (by kernel_rfl) (by kernel_rfl) (by decide) ?_
  have q_u_q0 := fun d os => cell_regrown u_q0 d os
  have q_u_q1 := fun d os => cell_regrown u_q1 d os
  have q_u_r0 := fun d os => cell_regrown u_r0 d os
  have q_rc := fun d os => cell_regrown rc d os
  simp only [Nat.reduceAdd, Nat.reduceSub, List.drop_succ_cons, List.drop_zero, List.take_succ_cons, List.take_zero]
  repeat (go_big_quiet_step ((fail)))
  refine wpQuiet_nil ?_
  intro _ hqw
  obtain ⟨pq, hqw⟩ := hqw
  subst hqw
  clear q_u_q0 q_u_q1 q_u_r0 q_rc
  clear u_q0 u_q1 u_r0 rc
  have hb := below_regrown x3 pq.d pq.os
  replace fp := fp.up hb
  replace fq := fq.up hb
  replace fg := fg.up hb
  replace fr := fr.up hb
  replace fs := fs.up hb
  replace bp := bp.below hb bp.lt
  replace bq := bq.below hb bq.lt
  replace br := br.below hb br.lt
  replace hk9 := hk9.below hb hk9.lt
  replace hB := hB.trans (hb.mono hs)
  replace hs := hB.size
  clear hb
  generalize grow (redrawn x3 pq.d) pq.os = y1 at *
  clear lt_p lt_q lt_s lt_r
  have u_q0 : y1.cell? ⟨Bq, 0, none⟩ = some (.slice A3 1 c3) := bq.cell 0
  have u_q1 : y1.cell? ⟨Bq, 1, none⟩ = some (.slice A4 1 c4) := bq.cell 1
  have u_q2 : y1.cell? ⟨Bq, 2, none⟩ = some (.int .i64 20) := bq.cell 2
  have u_q3 : y1.cell? ⟨Bq, 3, none⟩ = some (.int .i64 4) := bq.cell 3
  have u_s0 : y1.cell? ⟨b9, 0, none⟩ = some (.slice A6 1 c6) := hk9.cell 0
  have u_s1 : y1.cell? ⟨b9, 1, none⟩ = some (.slice A7 1 c7) := hk9.cell 1
  have u_s2 : y1.cell? ⟨b9, 2, none⟩ = some (.int .i64 20) := hk9.cell 2
  have u_s3 : y1.cell? ⟨b9, 3, none⟩ = some (.int .i64 4) := hk9.cell 3
  have lt_p := bp.lt
  have lt_q := bq.lt
  have lt_s := hk9.lt
  have lt_r := br.lt
  refine wpAny_pairN 71 23 96 (by kernel_rfl) rfl rfl (by kernel_rfl) (by kernel_rfl) (by kernel_rfl) (by decide) ?_
  have q_u_q0 := fun d os => cell_regrown u_q0 d os
  have q_u_q1 := fun d os => cell_regrown u_q1 d os
  have q_u_q2 := fun d os => cell_regrown u_q2 d os
  have q_u_q3 := fun d os => cell_regrown u_q3 d os
  have q_u_s0 := fun d os => cell_regrown u_s0 d os
  have q_u_s1 := fun d os => cell_regrown u_s1 d os
  have q_u_s2 := fun d os => cell_regrown u_s2 d os
  have q_u_s3 := fun d os => cell_regrown u_s3 d os
  repeat (go_big_quiet_step ((fail)))
  refine wpQuiet_nil ?_
  intro _ hqw
  obtain ⟨pq, hqw⟩ := hqw
  subst hqw
  clear q_u_q0 q_u_q1 q_u_q2 q_u_q3 q_u_s0 q_u_s1 q_u_s2 q_u_s3
  clear u_q0 u_q1 u_q2 u_q3 u_s0 u_s1 u_s2 u_s3
  have hb := below_regrown y1 pq.d pq.os
  replace fp := fp.up hb
  replace fq := fq.up hb
  replace fg := fg.up hb
  replace fr := fr.up hb
  replace fs := fs.up hb
  replace bp := bp.below hb bp.lt
  replace bq := bq.below hb bq.lt
  replace br := br.below hb br.lt
  replace hk9 := hk9.below hb hk9.lt
  replace hB := hB.trans (hb.mono hs)
  replace hs := hB.size
  clear hb
  generalize grow (redrawn y1 pq.d) pq.os = y2 at *
  clear lt_p lt_q lt_s lt_r
  have HQ := Lib.hid (fun d os => fq.up (below_regrown y2 d os))
  have HS := Lib.hid (fun d os => fs.up (below_regrown y2 d os))
  refine wpAny_segN 7 73 16 96 (by kernel_rfl) (by kernel_rfl) (by decide) ?_
  simp only [Nat.reduceAdd, Nat.reduceSub, List.drop_succ_cons, List.drop_zero, List.take_succ_cons, List.take_zero]
  repeat (go_big_quiet_step ((first
    | (go_at_call 14; with_reducible exact Calls.regrown_of (psame_q A6 c6 A7 c7 A3 c3 A4 c4 _ (HS.out _ _) (HQ.out _ _))))))
  clear HQ HS
  refine wpQuiet_nil ?_
  intro _ hqw
  obtain ⟨pq, hqw⟩ := hqw
  subst hqw
  have hb := below_regrown y2 pq.d pq.os
  replace fp := fp.up hb
  replace fq := fq.up hb
  replace fg := fg.up hb
  replace fr := fr.up hb
  replace fs := fs.up hb
  replace bp := bp.below hb bp.lt
  replace bq := bq.below hb bq.lt
  replace br := br.below hb br.lt
  replace hk9 := hk9.below hb hk9.lt
  replace hB := hB.trans (hb.mono hs)
  replace hs := hB.size
  clear hb
  generalize grow (redrawn y2 pq.d) pq.os = x4 at *
  have u_p0 : x4.cell? ⟨Bp, 0, none⟩ = some (.slice A1 2 c1) := bp.cell 0
  have u_p1 : x4.cell? ⟨Bp, 1, none⟩ = some (.slice A2 1 c2) := bp.cell 1
  have u_p2 : x4.cell? ⟨Bp, 2, none⟩ = some (.int .i64 0) := bp.cell 2
  have u_p3 : x4.cell? ⟨Bp, 3, none⟩ = some (.int .i64 3) := bp.cell 3
  have lt_p := bp.lt
  have lt_q := bq.lt
  have lt_s := hk9.lt
  have lt_r := br.lt
  refine wpAny_forcedSN 10 80 6 96 (by kernel_rfl) (by kernel_rfl) (by decide) ?_
  intro N hN
  simp only [List.drop_succ_cons, List.drop_zero, List.take_succ_cons, List.take_zero]
  go_wp2_with fail
  clear u_p0 u_p1 u_p2 u_p3
  clear lt_p lt_q lt_s lt_r
  refine (plist_3 A1 c1 A2 c2 x4 fp).mono ?_
  rintro e x5 ⟨Al, cl, rfl, hb⟩
  replace fp := fp.up hb
  replace fq := fq.up hb
  replace fg := fg.up hb
  replace fr := fr.up hb
  replace fs := fs.up hb
  replace bp := bp.below hb bp.lt
  replace bq := bq.below hb bq.lt
  replace br := br.below hb br.lt
  replace hk9 := hk9.below hb hk9.lt
  replace hB := hB.trans (hb.mono hs)
  replace hs := hB.size
  clear hb
  have u_q0 : x5.cell? ⟨Bq, 0, none⟩ = some (.slice A3 1 c3) := bq.cell 0
  have u_q1 : x5.cell? ⟨Bq, 1, none⟩ = some (.slice A4 1 c4) := bq.cell 1
  have u_q2 : x5.cell? ⟨Bq, 2, none⟩ = some (.int .i64 20) := bq.cell 2
  have u_q3 : x5.cell? ⟨Bq, 3, none⟩ = some (.int .i64 4) := bq.cell 3
  have lt_p := bp.lt
  have lt_q := bq.lt
  have lt_s := hk9.lt
  have lt_r := br.lt
  go_wp2_with fail
  clear u_q0 u_q1 u_q2 u_q3
  clear lt_p lt_q lt_s lt_r
  refine (pright_q A3 c3 A4 c4 x5 fq).mono ?_
  rintro e x6 ⟨rfl, hb⟩
  replace fp := fp.up hb
  replace fq := fq.up hb
  replace fg := fg.up hb
  replace fr := fr.up hb
  replace fs := fs.up hb
  replace bp := bp.below hb bp.lt
  replace bq := bq.below hb bq.lt
  replace br := br.below hb br.lt
  replace hk9 := hk9.below hb hk9.lt
  replace hB := hB.trans (hb.mono hs)
  replace hs := hB.size
  clear hb
  go_wp2_with fail
  refine hN _ _ ?_
  clear hN N
  clear fp fg fr fs bp br hk9
  refine wpAny_all (rs := [90, 92]) (by kernel_rfl) (by decide) ?_
  intro i hi
  simp only [List.mem_cons, List.not_mem_nil, or_false] at hi
  rcases hi with rfl | rfl
  · skip
    have u_q0 : x6.cell? ⟨Bq, 0, none⟩ = some (.slice A3 1 c3) := bq.cell 0
    have u_q1 : x6.cell? ⟨Bq, 1, none⟩ = some (.slice A4 1 c4) := bq.cell 1
    have u_q2 : x6.cell? ⟨Bq, 2, none⟩ = some (.int .i64 20) := bq.cell 2
    have u_q3 : x6.cell? ⟨Bq, 3, none⟩ = some (.int .i64 4) := bq.cell 3
    have lt_q := bq.lt
    refine wpOp_list rfl ?_
    intro N hN
    go_wp2_with fail
    refine hN _ _ ?_
    clear hN N
    clear u_q0 u_q1 u_q2 u_q3 lt_q
    refine wpAny_all (rs := [91, 92]) (by kernel_rfl) (by decide) ?_
    intro i hi
    simp only [List.mem_cons, List.not_mem_nil, or_false] at hi
    rcases hi with rfl | rfl
    · skip
      refine wpOp_list rfl ?_
      intro N hN
      go_wp2_with fail
      refine (pcopy_q A3 c3 A4 c4 x6 fq).mono ?_
      rintro e x7 ⟨Ay, cy, Az, cz, rfl, fy, hb⟩
      replace fq := fq.up hb
      replace bq := bq.below hb bq.lt
      replace hB := hB.trans (hb.mono hs)
      replace hs := hB.size
      clear hb
      go_wp2_with fail
      refine hN _ _ ?_
      clear hN N
      have u_q0 : x7.cell? ⟨Bq, 0, none⟩ = some (.slice A3 1 c3) := bq.cell 0
      have u_q1 : x7.cell? ⟨Bq, 1, none⟩ = some (.slice A4 1 c4) := bq.cell 1
      have u_q2 : x7.cell? ⟨Bq, 2, none⟩ = some (.int .i64 20) := bq.cell 2
      have u_q3 : x7.cell? ⟨Bq, 3, none⟩ = some (.int .i64 4) := bq.cell 3
      have lt_q := bq.lt
      refine wpAny_of_idx [92, 93, 94, 95] _ _ _ (by kernel_rfl) ?_
      simp only [pickL, List.flatMap_cons, List.flatMap_nil, List.drop_succ_cons, List.drop_zero, List.take_succ_cons, List.take_zero, List.append_nil, List.cons_append, List.nil_append]
      go_wp2_with fail
      clear u_q0 u_q1 u_q2 u_q3 lt_q
      refine (psame_q Ay cy Az cz A3 c3 A4 c4 x7 fy fq).mono ?_
      rintro e x8 ⟨rfl, hb⟩
      replace fq := fq.up hb
      replace bq := bq.below hb bq.lt
      replace hB := hB.trans (hb.mono hs)
      replace hs := hB.size
      clear hb
      go_wp2
      go_ret
      exact ⟨rfl, hB⟩
    · skip
      have u_q0 : x6.cell? ⟨Bq, 0, none⟩ = some (.slice A3 1 c3) := bq.cell 0
      have u_q1 : x6.cell? ⟨Bq, 1, none⟩ = some (.slice A4 1 c4) := bq.cell 1
      have u_q2 : x6.cell? ⟨Bq, 2, none⟩ = some (.int .i64 20) := bq.cell 2
      have u_q3 : x6.cell? ⟨Bq, 3, none⟩ = some (.int .i64 4) := bq.cell 3
      have lt_q := bq.lt
      refine wpOp_list rfl ?_
      intro N hN
      go_wp2_with fail
      refine hN _ _ ?_
      clear hN N
      clear u_q0 u_q1 u_q2 u_q3 lt_q
      refine wpAny_of_idx [91, 93, 94, 95] _ _ _ (by kernel_rfl) ?_
      simp only [pickL, List.flatMap_cons, List.flatMap_nil, List.drop_succ_cons, List.drop_zero, List.take_succ_cons, List.take_zero, List.append_nil, List.cons_append, List.nil_append]
      go_wp2_with fail
      refine (pcopy_q A3 c3 A4 c4 x6 fq).mono ?_
      rintro e x7 ⟨Ay, cy, Az, cz, rfl, fy, hb⟩
      replace fq := fq.up hb
      replace bq := bq.below hb bq.lt
      replace hB := hB.trans (hb.mono hs)
      replace hs := hB.size
      clear hb
      go_wp2_with fail
      refine (psame_q Ay cy Az cz A3 c3 A4 c4 x7 fy fq).mono ?_
      rintro e x8 ⟨rfl, hb⟩
      replace fq := fq.up hb
      replace bq := bq.below hb bq.lt
      replace hB := hB.trans (hb.mono hs)
      replace hs := hB.size
      clear hb
      go_wp2
      go_ret
      exact ⟨rfl, hB⟩
  · skip
    have u_q0 : x6.cell? ⟨Bq, 0, none⟩ = some (.slice A3 1 c3) := bq.cell 0
    have u_q1 : x6.cell? ⟨Bq, 1, none⟩ = some (.slice A4 1 c4) := bq.cell 1
    have u_q2 : x6.cell? ⟨Bq, 2, none⟩ = some (.int .i64 20) := bq.cell 2
    have u_q3 : x6.cell? ⟨Bq, 3, none⟩ = some (.int .i64 4) := bq.cell 3
    have lt_q := bq.lt
    refine wpOp_list rfl ?_
    intro N hN
    go_wp2_with fail
    refine hN _ _ ?_
    clear hN N
    refine wpAny_of_idx [90, 91, 93, 94, 95] _ _ _ (by kernel_rfl) ?_
    simp only [pickL, List.flatMap_cons, List.flatMap_nil, List.drop_succ_cons, List.drop_zero, List.take_succ_cons, List.take_zero, List.append_nil, List.cons_append, List.nil_append]
    go_wp2_with fail
    clear u_q0 u_q1 u_q2 u_q3 lt_q
    refine (pcopy_q A3 c3 A4 c4 x6 fq).mono ?_
    rintro e x7 ⟨Ay, cy, Az, cz, rfl, fy, hb⟩
    replace fq := fq.up hb
    replace bq := bq.below hb bq.lt
    replace hB := hB.trans (hb.mono hs)
    replace hs := hB.size
    clear hb
    go_wp2_with fail
    refine (psame_q Ay cy Az cz A3 c3 A4 c4 x7 fy fq).mono ?_
    rintro e x8 ⟨rfl, hb⟩
    replace fq := fq.up hb
    replace bq := bq.below hb bq.lt
    replace hB := hB.trans (hb.mono hs)
    replace hs := hB.size
    clear hb
    go_wp2
    go_ret
    exact ⟨rfl, hB⟩
end Go.Proofs.YtolaabllhibkdaaGreat

/- Plain facts on plans: time that goes on once, or twice; what is left behind a step of time; what was added and deleted. No condition. -/
namespace Go.Proofs.YtolaabllhibkdaaGreat
open Go.ChangeShapes Go.WideShapes Go.ChangeAt Go.RowKit Go.Sort
set_option linter.unusedSimpArgs false
set_option linter.unusedVariables false
theorem leftC_leftC {d : List Co} {a b : Int} (h : a ≤ b) : Kc.leftC (Kc.leftC d a) b = Kc.leftC d b := by
  unfold Kc.leftC
  rw [List.filter_filter]
  refine List.filter_congr fun x _ => ?_
  unfold Kc.overE
  by_cases h1 : x.en ≤ a
  · have : x.en ≤ b := by omega
    simp [h1, this]
  · simp [h1]
theorem leftR_leftR {d : List Rg} {a b : Int} (h : a ≤ b) : (d.filter (fun x => !decide (x.en ≤ a))).filter (fun x => !decide (x.en ≤ b)) = d.filter (fun x => !decide (x.en ≤ b)) := by
  rw [List.filter_filter]
  refine List.filter_congr fun x _ => ?_
  by_cases h1 : x.en ≤ a
  · have : x.en ≤ b := by omega
    simp [h1, this]
  · simp [h1]
theorem goneC_sum (d : List Co) {a b : Int} (h : a ≤ b) : (Kc.goneL d a).length + (Kc.goneL (Kc.leftC d a) b).length = (Kc.goneL d b).length := by
  unfold Kc.goneL Kc.leftC
  simp only [List.length_map]
  induction d with
  | nil => rfl
  | cons x d ih =>
    simp only [List.filter_cons]
    unfold Kc.overE at *
    by_cases h1 : x.en ≤ a
    · have h2 : x.en ≤ b := by omega
      simp [h1, h2] at ih ⊢
      omega
    · by_cases h2 : x.en ≤ b
      · simp [h1, h2] at ih ⊢
        omega
      · simp [h1, h2] at ih ⊢
        omega
theorem leftC_gone (d : List Co) (b : Int) : (Kc.leftC d b).length + (Kc.goneL d b).length = d.length := by
  unfold Kc.goneL Kc.leftC
  simp only [List.length_map]
  induction d with
  | nil => rfl
  | cons x d ih =>
    simp only [List.filter_cons]
    unfold Kc.overE at *
    by_cases h2 : x.en ≤ b
    · simp [h2] at ih ⊢
      omega
    · simp [h2] at ih ⊢
      omega
theorem sortI_len (l : List Int) : (sortI l).length = l.length := by unfold sortI; exact List.length_mergeSort l
theorem advQ_yes {p : Pl} {now : Int} (h0 : p.clk ≤ now) (h1 : now ≤ 2147483647) : inB now p.clk 2147483647 = true := by unfold inB; simp [h0, h1]
theorem advQ_no {p : Pl} {now : Int} (h : inB now p.clk 2147483647 = false) : now < p.clk ∨ 2147483647 < now := by
  unfold inB at h
  rw [decide_eq_false_iff_not] at h
  omega
/-- behind a step of time -/
structure Adv (p q : Pl) (now : Int) : Prop where
  cs : q.cs = Kc.leftC p.cs now
  rs : q.rs = p.rs.filter (fun x => !decide (x.en ≤ now))
  clk : q.clk = now
  v0 : 0 ≤ q.ver
  v1 : q.ver ≤ 1099511627776
  q0 : advQ p now = 0
  g : advG p now = sortI (Kc.goneL p.cs now)
  ver : q.ver = if now = p.clk then p.ver else min (p.ver + 1) 1099511627776
theorem adv_at {p : Pl} {now : Int} (h0 : p.clk ≤ now) (h1 : now ≤ 2147483647) (v0 : 0 ≤ p.ver) (v1 : p.ver ≤ 1099511627776) : Adv p (advP p now) now := by
  have hi := advQ_yes h0 h1
  have e : advP p now = ⟨Kc.leftC p.cs now, p.rs.filter (fun x => !decide (x.en ≤ now)), now, if now = p.clk then p.ver else min (p.ver + 1) 1099511627776⟩ := by unfold advP; rw [if_pos hi]
  refine ⟨by rw [e], by rw [e], by rw [e], ?_, ?_, by unfold advQ; rw [if_pos hi], by unfold advG; rw [if_pos hi], by rw [e]⟩
  · rw [e]
    show 0 ≤ if now = p.clk then p.ver else min (p.ver + 1) 1099511627776
    split <;> omega
  · rw [e]
    show (if now = p.clk then p.ver else min (p.ver + 1) 1099511627776) ≤ 1099511627776
    split <;> omega
structure Skips (p : Pl) (now later : Int) : Prop where
  a : Adv p (advP p now) now
  b : Adv (advP p now) (advP (advP p now) later) later
  c : Adv p (advP p later) later
  cs : (advP (advP p now) later).cs = (advP p later).cs
  rs : (advP (advP p now) later).rs = (advP p later).rs
  len : (advG p now).length + (advG (advP p now) later).length = (advG p later).length
  l1 : (advG p now).length ≤ p.cs.length
  l2 : (advG (advP p now) later).length ≤ p.cs.length
theorem skips_at {p : Pl} {now later : Int} (hr : RightP p.cs p.rs p.clk p.ver) (h0 : p.clk ≤ now) (h1 : now ≤ later) (h2 : later ≤ 2147483647) : Skips p now later := by
  have a := adv_at h0 (by omega) hr.v0 hr.v1
  have b := adv_at (p := advP p now) (now := later) (by rw [a.clk]; exact h1) h2 a.v0 a.v1
  have c := adv_at (p := p) (now := later) (by omega) h2 hr.v0 hr.v1
  have hg := goneC_sum p.cs h1
  refine ⟨a, b, c, by rw [b.cs, c.cs, a.cs, leftC_leftC h1], by rw [b.rs, c.rs, a.rs, leftR_leftR h1], ?_, ?_, ?_⟩
  · rw [a.g, b.g, c.g, sortI_len, sortI_len, sortI_len, a.cs]; exact hg
  · rw [a.g, sortI_len]
    have := leftC_gone p.cs now
    omega
  · rw [b.g, sortI_len, a.cs]
    have := leftC_gone p.cs later
    omega
structure SkipsR (p a b z : Pl) (gx gy gz : List Int) (now later : Int) : Prop where
  av0 : 0 ≤ a.ver
  av1 : a.ver ≤ 1099511627776
  aq : advQ p now = 0
  bq : advQ a later = 0
  zq : advQ p later = 0
  bclk : b.clk = later
  zclk : z.clk = later
  cs : b.cs = z.cs
  rs : b.rs = z.rs
  len : gx.length + gy.length = gz.length
  l1 : gx.length ≤ p.cs.length
  l2 : gy.length ≤ p.cs.length
theorem skips_r {p a b z : Pl} {gx gy gz : List Int} {now later : Int} (h : Skips p now later) (ha : advP p now = a) (hb : advP a later = b) (hz : advP p later = z) (hgx : advG p now = gx) (hgy : advG a later = gy) (hgz : advG p later = gz) : SkipsR p a b z gx gy gz now later := by
  subst ha hb hz hgx hgy hgz
  exact ⟨h.a.v0, h.a.v1, h.a.q0, h.b.q0, h.c.q0, h.b.clk, h.c.clk, h.cs, h.rs, h.len, h.l1, h.l2⟩
theorem leftC_sub {d : List Co} {now : Int} {x : Co} (h : x ∈ Kc.leftC d now) : x ∈ d ∧ now < x.en := by
  unfold Kc.leftC at h
  obtain ⟨h1, h2⟩ := List.mem_filter.1 h
  refine ⟨h1, ?_⟩
  unfold Kc.overE at h2
  simp only [Bool.not_eq_true', decide_eq_false_iff_not] at h2
  omega
theorem ids_one {d : List Co} (h : Kc.rightC d = true) {x y : Co} (hx : x ∈ d) (hy : y ∈ d) (e : x.id = y.id) : x = y := by
  obtain ⟨i, hi, rfl⟩ := Kc.mem_gCo hx
  obtain ⟨j, hj, rfl⟩ := Kc.mem_gCo hy
  by_cases hij : i < j
  · exact absurd e (Kc.right_ids h hij hj)
  · by_cases hji : j < i
    · exact absurd e.symm (Kc.right_ids h hji hi)
    · have : i = j := by omega
      rw [this]
/-- each contact is found behind a step of time just if it does not end up to it -/
theorem left_found {d : List Co} (h : Kc.rightC d = true) {now : Int} {c : Co} (hc : c ∈ d) : Kc.idIn (Kc.leftC d now) c.id = decide (now < c.en) ∧ (now < c.en → Kc.foundC (Kc.leftC d now) c.id = c) := by
  have key : ∀ x ∈ Kc.leftC d now, x.id = c.id → x = c := fun x hx e => ids_one h (leftC_sub hx).1 hc e
  have hin : now < c.en → c ∈ Kc.leftC d now := fun hlt => by
    unfold Kc.leftC
    refine List.mem_filter.2 ⟨hc, ?_⟩
    unfold Kc.overE
    simp; omega
  constructor
  · unfold Kc.idIn
    by_cases hlt : now < c.en
    · rw [decide_eq_true hlt]
      exact List.any_eq_true.2 ⟨c, hin hlt, by simp⟩
    · rw [decide_eq_false hlt, List.any_eq_false]
      intro x hx e
      have e' : x.id = c.id := by simpa using e
      have := key x hx e'
      subst this
      exact hlt (leftC_sub hx).2
  · intro hlt
    unfold Kc.foundC
    cases hf : (Kc.leftC d now).find? (fun x => x.id == c.id) with
    | none =>
      have := List.find?_eq_none.1 hf c (hin hlt)
      simp at this
    | some x =>
      have h1 := List.mem_of_find?_eq_some hf
      have h2 : x.id = c.id := by have := List.find?_some hf; simpa using this
      show x = c
      exact key x h1 h2
theorem leftR_next (d : List Rg) (now : Int) {k : Nat} (hk : k < d.length) : ((d.take (k + 1)).filter (fun x => !decide (x.en ≤ now))).length = ((d.take k).filter (fun x => !decide (x.en ≤ now))).length + (if now < (gRg d k).en then 1 else 0) := by
  have e : d.take (k + 1) = d.take k ++ [gRg d k] := by
    rw [List.take_succ_eq_append_getElem hk]
    rw [show gRg d k = d[k] by unfold gRg; simp [hk]]
  rw [e, List.filter_append, List.length_append]
  by_cases h : now < (gRg d k).en
  · rw [if_pos h]
    have : ¬ (gRg d k).en ≤ now := by omega
    simp [List.filter_cons, this]
  · rw [if_neg h]
    have : (gRg d k).en ≤ now := by omega
    simp [List.filter_cons, this]
theorem leftR_len (d : List Rg) (now : Int) (k : Nat) : ((d.take k).filter (fun x => !decide (x.en ≤ now))).length ≤ k := by
  have h1 := List.length_filter_le (fun x : Rg => !decide (x.en ≤ now)) (d.take k)
  have h2 := List.length_take_le k d
  omega
theorem leftC_right {d : List Co} {now : Int} (h : Kc.rightC d = true) : Kc.rightC (Kc.leftC d now) = true := Kc.right_filter h _
theorem advP_right {p : Pl} {now : Int} (h : RightP p.cs p.rs p.clk p.ver) : RightP (advP p now).cs (advP p now).rs (advP p now).clk (advP p now).ver := by
  by_cases hin : inB now p.clk 2147483647 = true
  · have hin2 := hin
    unfold inB at hin2
    rw [decide_eq_true_eq] at hin2
    have a := adv_at hin2.1 hin2.2 h.v0 h.v1
    have hc0 := h.c0
    refine ⟨by rw [a.cs]; exact leftC_right h.co, by rw [a.rs]; exact Kr.right_filter h.rg _, by rw [a.clk]; omega, by rw [a.clk]; exact hin2.2, a.v0, a.v1, ?_, ?_⟩
    · intro x hx
      rw [a.cs] at hx
      rw [a.clk]
      exact (leftC_sub hx).2
    · intro x hx
      rw [a.rs] at hx
      rw [a.clk]
      have h2 := (List.mem_filter.1 hx).2
      simp only [Bool.not_eq_true', decide_eq_false_iff_not] at h2
      omega
  · have e : advP p now = p := by unfold advP; rw [if_neg hin]
    rw [e]; exact h
theorem delT_addT {d : List Co} {r : Co} (hr : Kc.rightC d = true) (hm : Kc.mayC d r = 0) : delT (addT d r) r.id = d ∧ (addT d r).length = d.length + 1 := by
  have hid : ∀ x ∈ d, x.id ≠ r.id := by
    intro x hx e
    have : d.any (fun o => o.id == r.id) = true := List.any_eq_true.2 ⟨x, hx, by simp [e]⟩
    unfold Kc.mayC at hm
    rw [this] at hm
    revert hm
    repeat' split
    all_goals simp_all
  obtain ⟨i, hi, he, _, _⟩ := addT_at hr hm
  rw [he]
  unfold Kc.insC delT
  constructor
  · have h1 : (d.take i).filter (fun x => !(x.id == r.id)) = d.take i := List.filter_eq_self.2 fun x hx => by simpa using hid x (List.mem_of_mem_take hx)
    have h2 : (d.drop i).filter (fun x => !(x.id == r.id)) = d.drop i := List.filter_eq_self.2 fun x hx => by simpa using hid x (List.mem_of_mem_drop hx)
    rw [List.filter_append, List.filter_append, h1, h2]
    simp [List.filter_cons]
  · simp
    omega
def addD (c : Co) : Dr := ⟨1, 1, c.id, c.fr, c.tn, c.st, c.en, c.rt, 0, 0, 0, 0, 0⟩
def delD (id : Int) : Dr := ⟨2, 1, id, 0, 0, 0, 0, 0, 0, 0, 0, 0, 0⟩
structure Twice (p : Pl) (c : Co) : Prop where
  right : (stepP p (addD c)).right = true
  clk : (stepP p (addD c)).clk = p.clk
  q0 : stepQ (stepP p (addD c)) (delD c.id) = 0
  cs : (stepP (stepP p (addD c)) (delD c.id)).cs = p.cs
  rs : (stepP (stepP p (addD c)) (delD c.id)).rs = p.rs
  clk2 : (stepP (stepP p (addD c)) (delD c.id)).clk = p.clk
  past : p.clk < c.en
theorem twice_at {p : Pl} {c : Co} (hr : p.right = true) (h : stepQ p (addD c) = 0) : Twice p c := by
  have hR := Pl.right_spec.1 hr
  have hq := h
  unfold stepQ at hq
  have hrd : rightD (addD c) = true := by
    cases hd : rightD (addD c) with
    | true => rfl
    | false => rw [if_pos hd] at hq; omega
  rw [if_neg (by rw [hrd]; simp)] at hq
  have hpast : ¬ ((addD c).op = 1 ∧ endD (addD c) ≤ p.clk) := fun hc => by rw [if_pos hc] at hq; omega
  rw [if_neg hpast, if_pos (show (addD c).kd = 1 from rfl)] at hq
  have hend : p.clk < c.en := by
    have : ¬ (endD (addD c) ≤ p.clk) := fun hc => hpast ⟨rfl, hc⟩
    have e : endD (addD c) = c.en := rfl
    rw [e] at this
    omega
  have hm : Kc.mayC p.cs c = 0 := hq
  have hid : inB c.id 1 1048576 = true := by
    have hok : Kc.okC c = true := by
      cases ho : Kc.okC c with
      | true => rfl
      | false => unfold Kc.mayC at hm; rw [if_pos ho] at hm; omega
    unfold Kc.okC contactB at hok
    simp only [Bool.and_eq_true] at hok
    exact hok.1.1.1
  have e1 : stepP p (addD c) = ⟨addT p.cs c, p.rs, p.clk, min (p.ver + 1) 1099511627776⟩ := by
    unfold stepP
    rw [if_pos h, if_pos (show (addD c).kd = 1 from rfl)]
    rfl
  obtain ⟨hdel, hlen⟩ := delT_addT hR.co hm
  have hq2 : stepQ ⟨addT p.cs c, p.rs, p.clk, min (p.ver + 1) 1099511627776⟩ (delD c.id) = 0 := by
    have hr2 : rightD (delD c.id) = true := by
      unfold rightD
      have k1 : knownD (delD c.id) = true := rfl
      have k2 : mayD (delD c.id) = true := hid
      have k3 : delD c.id = keepD (delD c.id) := rfl
      rw [k1, k2, ← k3]
      simp
    unfold stepQ
    rw [if_neg (by rw [hr2]; simp), if_neg (by intro hc; exact absurd (show (2 : Int) = 1 from hc.1) (by decide)), if_pos (show (delD c.id).kd = 1 from rfl)]
    show delTq (addT p.cs c) c.id = 0
    unfold delTq
    rw [hdel, hlen, if_neg (by omega)]
  have e2 : stepP ⟨addT p.cs c, p.rs, p.clk, min (p.ver + 1) 1099511627776⟩ (delD c.id) = ⟨p.cs, p.rs, p.clk, min (min (p.ver + 1) 1099511627776 + 1) 1099511627776⟩ := by
    unfold stepP
    rw [if_pos hq2, if_pos (show (delD c.id).kd = 1 from rfl)]
    show (⟨delT (addT p.cs c) c.id, p.rs, p.clk, _⟩ : Pl) = _
    rw [hdel]
  exact ⟨stepP_right hr, by rw [e1], by rw [e1]; exact hq2, by rw [e1, e2], by rw [e1, e2], by rw [e1, e2], hend⟩
structure TwiceQ (p q r : Pl) (k : Co) : Prop where
  right : q.right = true
  clk : q.clk = p.clk
  q0 : stepQ q (delD k.id) = 0
  cs : r.cs = p.cs
  rs : r.rs = p.rs
  rclk : r.clk = p.clk
  past : p.clk < k.en
theorem twice_q {p q r : Pl} {k : Co} (h : Twice p k) (hq : stepP p (addD k) = q) (hr : stepP q (delD k.id) = r) : TwiceQ p q r k := by
  subst hq hr
  exact ⟨h.right, h.clk, h.q0, h.cs, h.rs, h.clk2, h.past⟩
theorem stepP_same {p : Pl} {d : Dr} (h : stepQ p d ≠ 0) : stepP p d = p := by unfold stepP; rw [if_neg h]
end Go.Proofs.YtolaabllhibkdaaGreat

/- Contracts of a plan's calls, by what comes of them. They make new memory alone. -/
namespace Go.Proofs.YtolaabllhibkdaaGreat
open Go.ChangeShapes Go.WideShapes Go.ChangeAt Go.RowKit Go.Sort
set_option linter.unusedSimpArgs false
set_option linter.unusedVariables false
/-- time goes on, by what comes of it -/
def AdvTo (a : Pl) (q : Int) (g : List Int) (w : World) (e : Ending) (w' : World) : Prop :=
  ∃ A2 n2 c2 A3 n3 c3 A4 n4 c4, e = .returned (.tuple #[.agg #[.slice A2 n2 c2, .slice A3 n3 c3, .int .i64 a.clk, .int .i64 a.ver], .slice A4 n4 c4, .int .i64 q]) ∧ PlOwn w' w.heap.size A2 n2 c2 A3 n3 c3 a ∧
    g.length = n4 ∧ Sl w' w'.heap.size 1 A4 n4 c4 (g.map (Value.int .i64)) ∧ Below w.heap.size w w'
theorem padv_to (A1 : Option Addr) (n1 c1 : Nat) (A : Option Addr) (n c : Nat) (p : Pl) (now : Int) (w : World) (h : PlAt w A1 n1 c1 A n c p) (hv0 : 0 ≤ p.ver) (hv1 : p.ver ≤ 1099511627776) (clk ver : Int) (hclk : p.clk = clk) (hver : p.ver = ver) (a : Pl) (q : Int) (g : List Int) (ha : advP p now = a) (hq : advQ p now = q) (hg : advG p now = g) :
    Calls Tryz.prog 25 #[.agg #[.slice A1 n1 c1, .slice A n c, .int .i64 clk, .int .i64 ver], .int .i64 now] w (AdvTo a q g w) := by
  subst ha hq hg hclk hver
  exact padv_any A1 n1 c1 A n c p now w h hv0 hv1
theorem csame_yes (A A' : Option Addr) (n c n' c' : Nat) (d d' : List Co) (w : World) (hd : d.length = n) (hd' : d'.length = n') (hn : n ≤ 1000000) (hn' : n' ≤ 1000000) (h : Sl w w.heap.size 6 A n c (flatCo d)) (h' : Sl w w.heap.size 6 A' n' c' (flatCo d')) (e : d = d') :
    Calls Tryz.prog 29 #[.slice A n c, .slice A' n' c'] w fun e w' => e = .returned (.bool true) ∧ Below w.heap.size w w' := by
  have := Kc.same_any A A' n c n' c' d d' w hd hd' hn hn' h h'
  rw [decide_eq_true e] at this
  exact this
theorem rsame_yes (A A' : Option Addr) (n c n' c' : Nat) (d d' : List Rg) (w : World) (hd : d.length = n) (hd' : d'.length = n') (hn : n ≤ 1000000) (hn' : n' ≤ 1000000) (h : Sl w w.heap.size 5 A n c (flatRg d)) (h' : Sl w w.heap.size 5 A' n' c' (flatRg d')) (e : d = d') :
    Calls Tryz.prog 30 #[.slice A n c, .slice A' n' c'] w fun e w' => e = .returned (.bool true) ∧ Below w.heap.size w w' := by
  have := Kr.same_any A A' n c n' c' d d' w hd hd' hn hn' h h'
  rw [decide_eq_true e] at this
  exact this
/-- a directive, by what comes of it -/
def AppTo (a : Pl) (q : Int) (w : World) (e : Ending) (w' : World) : Prop :=
  ∃ A2 n2 c2 A3 n3 c3, e = .returned (.tuple #[.agg #[.slice A2 n2 c2, .slice A3 n3 c3, .int .i64 a.clk, .int .i64 a.ver], .int .i64 q]) ∧ PlOwn w' w.heap.size A2 n2 c2 A3 n3 c3 a ∧ Below w.heap.size w w'
theorem papp_to (A1 : Option Addr) (n1 c1 : Nat) (A : Option Addr) (n c : Nat) (p : Pl) (d : Dr) (w : World) (hw0 : (Lit.int .i64 d.op).wf = true) (hw1 : (Lit.int .i64 d.kd).wf = true) (h : PlAt w A1 n1 c1 A n c p) (hr : p.right = true) (a : Pl) (q : Int) (ha : stepP p d = a) (hq : stepQ p d = q) :
    Calls Tryz.prog 23 #[.agg #[.slice A1 n1 c1, .slice A n c, .int .i64 p.clk, .int .i64 p.ver], .agg #[.int .i64 d.op, .int .i64 d.kd, .int .i64 d.id, .int .i64 d.fr, .int .i64 d.tn, .int .i64 d.st, .int .i64 d.en, .int .i64 d.rt, .int .i64 d.rf, .int .i64 d.rn, .int .i64 d.rs, .int .i64 d.re, .int .i64 d.ro]] w (AppTo a q w) := by
  subst ha hq
  exact papply_any A1 n1 c1 A n c p d w hw0 hw1 h hr
theorem papp_to' (A1 : Option Addr) (n1 c1 : Nat) (A : Option Addr) (n c : Nat) (p : Pl) (d : Dr) (w : World) (hw0 : (Lit.int .i64 d.op).wf = true) (hw1 : (Lit.int .i64 d.kd).wf = true) (h : PlAt w A1 n1 c1 A n c p) (hr : p.right = true) (a : Pl) (q : Int) (ha : stepP p d = a) (hq : stepQ p d = q) (clk ver : Int) (hclk : p.clk = clk) (hver : p.ver = ver) :
    Calls Tryz.prog 23 #[.agg #[.slice A1 n1 c1, .slice A n c, .int .i64 clk, .int .i64 ver], .agg #[.int .i64 d.op, .int .i64 d.kd, .int .i64 d.id, .int .i64 d.fr, .int .i64 d.tn, .int .i64 d.st, .int .i64 d.en, .int .i64 d.rt, .int .i64 d.rf, .int .i64 d.rn, .int .i64 d.rs, .int .i64 d.re, .int .i64 d.ro]] w (AppTo a q w) := by
  subst ha hq hclk hver
  exact papply_any A1 n1 c1 A n c p d w hw0 hw1 h hr
end Go.Proofs.YtolaabllhibkdaaGreat
