
/- A region that draws its order, taken in pieces: a piece that is quiet up to a gate, from wherever one stands; a step that is forced. No condition. -/
import Derived.Test.YtkdfloeglknmnaaDoorQTail
namespace Go.Proofs.YtkdfloeglknmnaaDoor
open Go.Sort Go.RowKit
set_option linter.unusedSimpArgs false
set_option linter.unusedVariables false
section
variable {P : Program} {ops : Array Oper} {md : Region.Mode} {C : World → Prop}
theorem lexFin_add : ∀ (a b k : Nat) (l : Array Bool), lexFin (a + b) k l = lexFin b (k + a) (lexFin a k l)
  | 0, b, k, l => by rw [Nat.zero_add]; rfl
  | a + 1, b, k, l => by
    rw [show a + 1 + b = (a + b) + 1 by omega, lexFin, lexFin_add a b (k + 1), lexFin, show k + 1 + a = k + (a + 1) by omega]
theorem lexFin_size : ∀ (a k : Nat) (l : Array Bool), (lexFin a k l).size = l.size
  | 0, _, _ => rfl
  | a + 1, k, l => by rw [lexFin, lexFin_size a]; simp
def closedB (md : Region.Mode) (ops : Array Oper) (listed : Array Bool) : Bool :=
  (List.range ops.size).all fun j => !listed.getD j false || match ops[j]? with
    | some o => o.after.all fun e => !Region.binds md e || listed.getD e.on false
    | none => true
theorem closedB_spec {listed : Array Bool} (h : closedB md ops listed = true) : ∀ j oj, ops[j]? = some oj → listed.getD j false = true → ∀ e ∈ oj.after, Region.binds md e = true → listed.getD e.on false = true := by
  intro j oj hj hl e he hb
  have hlt : j < ops.size := (Array.getElem?_eq_some_iff.1 hj).1
  have h1 := List.all_eq_true.1 h j (List.mem_range.2 hlt)
  simp only [hl, Bool.not_true, Bool.false_or, hj] at h1
  have h2 := Array.all_eq_true'.1 h1 e he
  simp only [hb, Bool.not_true, Bool.false_or] at h2
  exact h2
def tailB (ops : Array Oper) (n : Nat) (listed : Array Bool) : Bool := (List.range ops.size).all fun t => decide (t < n) || !listed.getD t true
def gatedFrom (md : Region.Mode) (ops : Array Oper) (p m : Nat) : Bool :=
  Region.noSelect ops && decide (p ≤ m) && decide (m + 1 ≤ ops.size) && Region.sinkB md ops m && gateB md ops (m + 1) && lexTo md ops (m + 1 - p) p (lexFin p 0 (Array.replicate ops.size false)) &&
    (Region.ready md ops (lexFin (m + 1) 0 (Array.replicate ops.size false))).all (fun j => decide (m + 1 ≤ j)) && closedB md ops (lexFin p 0 (Array.replicate ops.size false)) && tailB ops (m + 1) (lexFin p 0 (Array.replicate ops.size false))
/-- From where the first p operations have come up: those up to m in one quiet walk; what follows in whatever order. -/
theorem wpAny_gate_from {Q : Exit → Act → World → Prop} {a : Act} {w : World} {l : List Oper} (p m : Nat) (hB : gatedFrom .any l.toArray p m = true)
    (h : wpQuiet P l.toArray (fun w' => ∃ p : Regrown, w' = grow (redrawn w p.d) p.os) (fun a' => ∀ w', (∃ p : Regrown, w' = grow (redrawn w p.d) p.os) → wpAny P .any l.toArray Q (l.length - (m + 1)) (lexFin (m + 1) 0 (Array.replicate l.length false)) a' w') ((l.drop p).take (m + 1 - p)) a) : wpAny P .any l.toArray Q (l.length - p) (lexFin p 0 (Array.replicate l.length false)) a w := by
  simp only [gatedFrom, Bool.and_eq_true, decide_eq_true_eq] at hB
  obtain ⟨⟨⟨⟨⟨⟨⟨⟨hsel, hpm⟩, hn⟩, hs⟩, hg⟩, hlex⟩, hfin⟩, hcl⟩, htail⟩ := hB
  have hn' : m + 1 ≤ l.length := by simpa using hn
  have htl : ((l.drop p).take (m + 1 - p)).length = m + 1 - p := by simp; omega
  have hsz : l.toArray.size = l.length := by simp
  rw [hsz] at hlex hfin hcl htail
  have inv0 : HeadInv .any l.toArray (m + 1) (lexFin p 0 (Array.replicate l.length false)) :=
    ⟨by rw [lexFin_size]; simp, closedB_spec hcl, fun t ht hlt => by
      have h1 := List.all_eq_true.1 htail t (List.mem_range.2 hlt)
      simp only [Bool.or_eq_true, decide_eq_true_eq, Bool.not_eq_true'] at h1
      rcases h1 with h1 | h1
      · omega
      · exact h1⟩
  have hfe : lexFin (m + 1 - p) p (lexFin p 0 (Array.replicate l.length false)) = lexFin (m + 1) 0 (Array.replicate l.length false) := by
    have := lexFin_add p (m + 1 - p) 0 (Array.replicate l.length false)
    rw [show p + (m + 1 - p) = m + 1 by omega, Nat.zero_add] at this
    exact this.symm
  have H := wpAnyLQ_lexg (C := fun w' => ∃ p : Regrown, w' = grow (redrawn w p.d) p.os) (md := .any) (fin := lexFin (m + 1) 0 (Array.replicate l.length false)) hsel (fun _ inv => gate_waits hs hg inv) hfin ((l.drop p).take (m + 1 - p)) p _ a (fun j hj => by
    have hj' : j < m + 1 - p := by rw [htl] at hj; exact hj
    simp [hj', List.getElem?_take, List.getElem?_drop]) (by rw [htl]; omega) inv0 (by rw [htl]; exact hlex) (by rw [htl]; exact hfe) h
  have := wpAny_of_headQ (C := fun w' => ∃ p : Regrown, w' = grow (redrawn w p.d) p.os) (Q' := Q) (g := l.length - (m + 1)) (fun listed a' w' hw' hL => by
    rw [hL.1]
    exact hL.2 w' hw') _ _ _ w ⟨⟨w.drawn, #[]⟩, by rw [grow_empty]; rfl⟩ H
  rw [htl, show m + 1 - p + (l.length - (m + 1)) = l.length - p by omega] at this
  exact this
/-- One that is forced. -/
theorem wpAny_forced {Q : Exit → Act → World → Prop} {l : List Oper} {n p f : Nat} {a : Act} {w : World} (hr : Region.ready .any l.toArray (lexFin p 0 (Array.replicate n false)) = [p])
    (h : wpOp P l.toArray Q p (fun a' w' => wpAny P .any l.toArray Q f (lexFin (p + 1) 0 (Array.replicate n false)) a' w') a w) : wpAny P .any l.toArray Q (f + 1) (lexFin p 0 (Array.replicate n false)) a w := by
  refine ⟨fun h0 => (by rw [hr] at h0; cases h0), fun i hi => ?_⟩
  rw [hr] at hi
  have hip : i = p := by simpa using hi
  subst hip
  have e : (lexFin i 0 (Array.replicate n false)).setIfInBounds i true = lexFin (i + 1) 0 (Array.replicate n false) := by
    have := lexFin_add i 1 0 (Array.replicate n false)
    rw [this, Nat.zero_add]; rfl
  rw [e]
  exact h
/-- One that yields in whatever world, ahead of the others. -/
theorem wpAny_taken {Q : Exit → Act → World → Prop} {l : List Oper} {n p f : Nat} {a : Act} {w : World} {o : Oper} {v : Value} (hi : l.toArray[p]? = some o) (hs : Region.noSelect l.toArray = true) (hf : Region.free .any l.toArray (lexFin p 0 (Array.replicate n false)) p = true) (hr : (Region.ready .any l.toArray (lexFin p 0 (Array.replicate n false))).contains p = true)
    (hQ : ∀ c a w, Q (.panic c) (a.put o.dst v) w → Q (.panic c) a w) (hy : Yields P l.toArray o v a)
    (h : wpAny P .any l.toArray Q f (lexFin (p + 1) 0 (Array.replicate n false)) (a.put o.dst v) w) : wpAny P .any l.toArray Q (f + 1) (lexFin p 0 (Array.replicate n false)) a w := by
  refine wpAny_take hi hs hf hr hQ hy ?_
  have e : (lexFin p 0 (Array.replicate n false)).setIfInBounds p true = lexFin (p + 1) 0 (Array.replicate n false) := by
    have := lexFin_add p 1 0 (Array.replicate n false)
    rw [this, Nat.zero_add]; rfl
  rw [e]
  exact h
/-- Q, but for what follows in the normal way. -/
def Qn (Q : Exit → Act → World → Prop) (N : Act → World → Prop) : Exit → Act → World → Prop := fun e a w => match e with
  | .normal => N a w
  | e => Q e a w
theorem wp_qn {Q : Exit → Act → World → Prop} {N : Act → World → Prop} {o : Oper} {a : Act} {w : World} {K : Act → World → Prop} (hh : o.wp P a w K (Qn Q N)) : o.wp P a w K Q := by
  unfold Oper.wp at *
  generalize (execOp a.eval o).run P w = r at *
  cases r with
  | ok n w' =>
    cases n <;> simp only [Oper.upon] at hh ⊢ <;>
      first
        | exact hh
        | exact Calls.mono hh (fun e w'' he => by cases e <;> exact he)
  | halt x w' => cases x <;> simp only [Oper.upon] at hh ⊢ <;> exact hh
theorem wpList_qn {Q : Exit → Act → World → Prop} {N : Act → World → Prop} {i : Nat} {o : Oper} {rest : List Oper} {a : Act} {w : World} (ho : ops[i]? = some o) (h : wpList P ops (Qn Q N) (o :: rest) a w) : wpOp P ops Q i (wpList P ops (Qn Q N) rest) a w := by
  unfold wpOp
  rw [wpList] at h
  simp only [ho]
  split
  · rename_i hw
    simp only [hw, if_true] at h
    exact h.imp wp_qn id
  · rename_i hw
    simp only [hw] at h
    exact h
def forcedB (md : Region.Mode) (ops : Array Oper) (p j : Nat) : Bool := (List.range j).all fun i => decide (Region.ready md ops (lexFin (p + i) 0 (Array.replicate ops.size false)) = [p + i])
/-- j operations that are forced, in the order of the text. -/
theorem wpAny_forced_list {Q : Exit → Act → World → Prop} {l : List Oper} {f : Nat} : ∀ (j p : Nat) (a : Act) (w : World), forcedB .any l.toArray p j = true →
    wpList P l.toArray (Qn Q (fun a' w' => wpAny P .any l.toArray Q f (lexFin (p + j) 0 (Array.replicate l.length false)) a' w')) ((l.drop p).take j) a w → p + j ≤ l.length → wpAny P .any l.toArray Q (j + f) (lexFin p 0 (Array.replicate l.length false)) a w
  | 0, p, a, w, _, h, _ => by
    rw [Nat.zero_add]
    exact h
  | j + 1, p, a, w, hB, h, hl => by
    have hlt : p < l.length := by omega
    have hsz : l.toArray.size = l.length := by simp
    have hr : Region.ready .any l.toArray (lexFin p 0 (Array.replicate l.length false)) = [p] := by
      have := List.all_eq_true.1 hB 0 (List.mem_range.2 (by omega))
      rw [hsz] at this
      simpa using this
    rw [show j + 1 + f = (j + f) + 1 by omega]
    refine wpAny_forced hr ?_
    have hd : (l.drop p).take (j + 1) = l[p] :: (l.drop (p + 1)).take j := by rw [List.drop_eq_getElem_cons hlt, List.take_succ_cons]
    rw [hd] at h
    refine wpOp_mono (fun a' w' h' => wpAny_forced_list j (p + 1) a' w' ?_ ?_ (by omega)) (wpList_qn (by simp [hlt]) h)
    · refine List.all_eq_true.2 fun i hi => ?_
      have := List.all_eq_true.1 hB (i + 1) (List.mem_range.2 (by have := List.mem_range.1 hi; omega))
      rw [show p + (i + 1) = p + 1 + i by omega] at this
      exact this
    · rw [show p + 1 + j = p + (j + 1) by omega]
      exact h'
theorem wpOp_list {Q : Exit → Act → World → Prop} {i : Nat} {o : Oper} {K : Act → World → Prop} {a : Act} {w : World} (ho : ops[i]? = some o) (h : ∀ N : Act → World → Prop, (∀ a' w', K a' w' → N a' w') → wpList P ops (Qn Q N) [o] a w) : wpOp P ops Q i K a w :=
  wpOp_mono (fun _ _ h' => h') (wpList_qn ho (h K (fun _ _ h => h)))
/-- as wpAny_forced_list, what follows kept behind a letter -/
theorem wpAny_forcedK {Q : Exit → Act → World → Prop} {l : List Oper} {f : Nat} (j p : Nat) {a : Act} {w : World} (hB : forcedB .any l.toArray p j = true) (hl : p + j ≤ l.length)
    (h : ∀ N : Act → World → Prop, (∀ a' w', wpAny P .any l.toArray Q f (lexFin (p + j) 0 (Array.replicate l.length false)) a' w' → N a' w') → wpList P l.toArray (Qn Q N) ((l.drop p).take j) a w) : wpAny P .any l.toArray Q (j + f) (lexFin p 0 (Array.replicate l.length false)) a w :=
  wpAny_forced_list j p a w hB (h _ (fun _ _ h => h)) hl
/-! the same with the numbers written out -/
theorem wp_region_gateN {id : Nat} {Q : Exit → Act → World → Prop} {a : Act} {w : World} {l : List Oper} (m f n : Nat) (hm : P.follows .mixedOrders = true) (hB : gated .any l.toArray m = true) (hn : l.length = n) (hf : n - (m + 1) = f)
    (h : wpQuiet P l.toArray (fun w' => ∃ p : Regrown, w' = grow (redrawn w p.d) p.os) (fun a' => ∀ w', (∃ p : Regrown, w' = grow (redrawn w p.d) p.os) → wpAny P .any l.toArray Q f (lexFin (m + 1) 0 (Array.replicate n false)) a' w') (l.take (m + 1)) a) : (Code.region id l.toArray true).wp P Q a w := by
  subst hn hf
  exact wp_region_gate m hm hB h
theorem wpAny_gateN {Q : Exit → Act → World → Prop} {a : Act} {w : World} {l : List Oper} {f0 : Nat} (p m f n : Nat) (hB : gatedFrom .any l.toArray p m = true) (hn : l.length = n) (hf0 : n - p = f0) (hf : n - (m + 1) = f)
    (h : wpQuiet P l.toArray (fun w' => ∃ p : Regrown, w' = grow (redrawn w p.d) p.os) (fun a' => ∀ w', (∃ p : Regrown, w' = grow (redrawn w p.d) p.os) → wpAny P .any l.toArray Q f (lexFin (m + 1) 0 (Array.replicate n false)) a' w') ((l.drop p).take (m + 1 - p)) a) : wpAny P .any l.toArray Q f0 (lexFin p 0 (Array.replicate n false)) a w := by
  subst hn hf hf0
  exact wpAny_gate_from p m hB h
theorem wpAny_forcedN {Q : Exit → Act → World → Prop} {l : List Oper} {g : Nat} (j p f n : Nat) {a : Act} {w : World} (hB : forcedB .any l.toArray p j = true) (hn : l.length = n) (hl : p + j ≤ n) (hg : j + f = g)
    (h : ∀ N : Act → World → Prop, (∀ a' w', wpAny P .any l.toArray Q f (lexFin (p + j) 0 (Array.replicate n false)) a' w' → N a' w') → wpList P l.toArray (Qn Q N) ((l.drop p).take j) a w) : wpAny P .any l.toArray Q g (lexFin p 0 (Array.replicate n false)) a w := by
  subst hn hg
  exact wpAny_forcedK j p hB hl h
end
end Go.Proofs.YtkdfloeglknmnaaDoor
