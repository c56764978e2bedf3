/- Several texts of mine in one: Lib, Check, Math, Ceil, Goto, Ref03. No condition. -/
import Derived.WalkKit
import Derived.ProofKit
import Derived.OpenShut
import Derived.ChangeOld
import Derived.BigQuiet
import Derived.Deep.QuietTactic
import Derived.Lib.QuietBelow
import Derived.Lib.Hide
import Derived.Deep.DeepCutAuto
import Derived.Test.YtmbaklodgpcegaaGreatChecked

/- General words of mine, over any program: arguments whose cells are all ints opened, a law's end shut whatever its parameters are, facts on 'Below'. No condition. -/
namespace Go.Proofs.YtmbaklodgpcegaaGreat
open Go.ChangeShapes Go.WideShapes Go.ChangeAt Go.RowKit Go.Sort
set_option linter.unusedSimpArgs false
set_option linter.unusedVariables false

theorem bcell {W w1 : World} (hb : Below W.heap.size W w1) : (∀ b o, b < W.heap.size → w1.cell? ⟨b, o, none⟩ = W.cell? ⟨b, o, none⟩) ∧ (∀ b o, b < W.heap.size → w1.frozen? ⟨b, o, none⟩ = W.frozen? ⟨b, o, none⟩) :=
  ⟨fun b o h => hb.cell (p := ⟨b, o, none⟩) h, fun b o h => hb.frozen (p := ⟨b, o, none⟩) h⟩

/-- A callee that leaves the world alone, met in a world of the class. -/
theorem _root_.Go.Calls.regrown_same {P : Program} {f : FuncId} {args : Array Value} {w : World} {d : Nat} {os : Array Obj} {v : Value}
    (h : Calls P f args (grow (redrawn w d) os) fun e w' => e = .returned v ∧ grow (redrawn w d) os = w') : Calls P f args (grow (redrawn w d) os) fun e w'' => e = .returned v ∧ ∃ p : Regrown, w'' = grow (redrawn w p.d) p.os :=
  h.mono fun _ _ ⟨he, hw⟩ => ⟨he, ⟨d, os⟩, hw.symm⟩

theorem ret_true {b : Bool} (h : b = true) : Ending.returned (.bool b) = .returned (.bool true) := by rw [h]
/-- The world at a call, under one name. -/
theorem name_world {P : Program} {f : FuncId} {args : Array Value} {w0 : World} {K : Ending → World → Prop} (h : ∀ W, W = w0 → Calls P f args W K) : Calls P f args w0 K := h _ rfl
theorem name_wp {P : Program} {c : Code} {Q : Exit → Act → World → Prop} {a : Act} {w0 : World} (h : ∀ W, W = w0 → c.wp P Q a W) : c.wp P Q a w0 := h _ rfl
/-- A region whose order is the text's, walked quietly: what stands behind it is asked in every world of the class. -/
theorem wpOps_of_quiet {P : Program} {C : World → Prop} {Q : Exit → Act → World → Prop} (L : List Oper) : ∀ (l : List Oper) (k : Nat) (a : Act) (w : World), (∀ j, l[j]? = L[k + j]?) → C w →
    wpQuiet P L.toArray C (fun a' => ∀ w', C w' → Q .normal a' w') l a → wpOps P L.toArray Q (List.range' k l.length) a w
  | [], k, a, w, _, hC, h => h w hC
  | o :: l, k, a, w, hl, hC, h => by
    have h0 : L.toArray[k]? = some o := by simpa using (hl 0).symm
    have hn : ∀ j, l[j]? = L[k + 1 + j]? := fun j => by have := hl (j + 1); simpa [Nat.add_assoc, Nat.add_comm 1 j] using this
    simp only [List.length_cons, List.range'_succ, wpOps, h0]
    simp only [wpQuiet] at h
    split
    · rename_i hw
      rw [if_pos hw] at h
      exact .inl (Oper.wp_of_quiet hC (fun a' w' hC' hK => wpOps_of_quiet L l (k + 1) a' w' hn hC' hK) h)
    · rename_i hw
      rw [if_neg hw] at h
      exact wpOps_of_quiet L l (k + 1) _ w hn hC h
theorem wp_region_text_below {P : Program} {id : Nat} {Q : Exit → Act → World → Prop} {a : Act} {w : World} {l : List Oper}
    (h : wpQuiet P l.toArray (fun w' => ∃ p : Regrown, w' = grow (redrawn w p.d) p.os) (fun a' => ∀ w', (∃ p : Regrown, w' = grow (redrawn w p.d) p.os) → Q .normal a' w') l a) : (Code.region id l.toArray false).wp P Q a w := by
  refine wp_region ?_
  have := wpOps_of_quiet (C := fun w' => ∃ p : Regrown, w' = grow (redrawn w p.d) p.os) (Q := Q) l l 0 a w (by simp) ⟨⟨w.drawn, #[]⟩, by rw [grow_empty]; rfl⟩ h
  simpa [List.range_eq_range'] using this
theorem heap_alloc_at (w : World) (o : Obj) (k : Nat) : (w.alloc o).heap[k]? = if k = w.heap.size then some o else w.heap[k]? := by
  show (w.heap.push o)[k]? = _
  rw [Array.getElem?_push]
theorem cell_alloc_if (w : World) (c : Array Value) (t : TypeId) (n i : Nat) : (w.alloc (.cells c t)).cell? ⟨n, i, none⟩ = if n = w.heap.size then c[i]? else w.cell? ⟨n, i, none⟩ := by
  unfold World.cell?
  simp only [heap_alloc_at]
  by_cases h : n = w.heap.size
  · simp [h]
  · simp [h]
theorem cell_of_block {w : World} {b : Nat} {cs : Array Value} {t : TypeId} {fr : Nat × Nat} (h : w.heap[b]? = some (.cells cs t fr)) (o : Nat) : w.cell? ⟨b, o, none⟩ = cs[o]? := by
  simp [World.cell?, h]
theorem grown_cells (W : World) : ∀ d os b o, b < W.heap.size → (grow (redrawn W d) os).cell? ⟨b, o, none⟩ = W.cell? ⟨b, o, none⟩ :=
  fun d os b o h => (below_regrown W d os).cell (p := ⟨b, o, none⟩) h

section
variable {H : Type} {enc : TypeId × Value → H} {P : Program}

/-- A type all of whose cells are ints. -/
def flatB (P : Program) : Nat → TypeId → Bool
  | 0, _ => false
  | n + 1, t =>
    match P.underlying t with
    | some (.int .i64) => true
    | some (.struct fs) => fs.toList.all (fun f => flatB P n f.type) && (List.range (P.cellsOf t)).all fun i => fs.toList.any fun f => decide (f.offset ≤ i) && decide (i < f.offset + P.cellsOf f.type)
    | some (.array k e) => flatB P n e && decide (P.cellsOf t = k * P.cellsOf e)
    | _ => false

theorem flat_cell {w : World} {base : Nat} {spare : Nat → Bool} {held : Bool} : ∀ (n : Nat) {fuel : Nat} {t : TypeId} {cs : List Value} {x : DataW H × List MemPlace}, flatB P n t = true →
    DataW.trod enc P w base spare held fuel t cs = some x → ∀ c ∈ cs, ∃ m, c = .int .i64 m ∧ (Lit.int .i64 m).wf = true
  | 0, _, _, _, _, h, _ => by simp [flatB] at h
  | n + 1, fuel, t, cs, x, h, ht => by
    unfold flatB at h
    split at h
    · rename_i hu
      obtain ⟨m, rfl, _, hw⟩ := DataW.trod_int hu ht
      intro c hc
      simp at hc
      exact ⟨m, hc, hw⟩
    · rename_i fs hu
      simp only [Bool.and_eq_true, List.all_eq_true, List.any_eq_true, decide_eq_true_eq, List.mem_range] at h
      obtain ⟨h1, h2⟩ := h
      obtain ⟨xs, m, _, _, hlen, hxl, hf⟩ := DataW.trod_struct hu ht
      intro c hc
      obtain ⟨i, hi, rfl⟩ := List.getElem_of_mem hc
      obtain ⟨f, hfm, hlo, hhi⟩ := h2 i (by omega)
      obtain ⟨j, hj, hjf⟩ := List.getElem_of_mem hfm
      have hj' : fs[j]? = some f := by
        rw [← Array.getElem?_toList, List.getElem?_eq_getElem hj, hjf]
      have h3 := hf j f hj'
      have hjx : xs[j]? = some (xs[j]'(by rw [hxl]; simpa using hj)) := List.getElem?_eq_getElem _
      rw [hjx] at h3
      refine flat_cell n (h1 f hfm) h3 _ ?_
      rw [List.mem_take_iff_getElem]
      exact ⟨i - f.offset, by simp; omega, by simp; congr 1; omega⟩
    · rename_i k e hu
      simp only [Bool.and_eq_true, decide_eq_true_eq] at h
      obtain ⟨h1, h2⟩ := h
      obtain ⟨xs, m, _, _, hlen, hxl, hf⟩ := DataW.trod_array hu ht
      intro c hc
      obtain ⟨i, hi, rfl⟩ := List.getElem_of_mem hc
      have hpos : 0 < P.cellsOf e := by
        rcases Nat.eq_zero_or_pos (P.cellsOf e) with h0 | h0
        · rw [h0] at h2; omega
        · exact h0
      have hd : i / P.cellsOf e < k := by rw [Nat.div_lt_iff_lt_mul hpos]; omega
      have h3 := hf (i / P.cellsOf e) hd
      have hjx : xs[i / P.cellsOf e]? = some (xs[i / P.cellsOf e]'(by omega)) := List.getElem?_eq_getElem _
      rw [hjx] at h3
      refine flat_cell n h1 h3 _ ?_
      rw [List.mem_take_iff_getElem]
      have hm := Nat.mod_lt i hpos
      have hdm := Nat.div_add_mod i (P.cellsOf e)
      have hmul : P.cellsOf e * (i / P.cellsOf e) = i / P.cellsOf e * P.cellsOf e := Nat.mul_comm _ _
      exact ⟨i % P.cellsOf e, by simp; omega, by simp; congr 1; omega⟩
    · cases h

theorem ints_of_cells {cs : List Value} (h : ∀ c ∈ cs, ∃ m, c = .int .i64 m ∧ (Lit.int .i64 m).wf = true) : ∃ ns : List Int, cs = ns.map (Value.int .i64) ∧ ∀ m ∈ ns, (Lit.int .i64 m).wf = true := by
  induction cs with
  | nil => exact ⟨[], rfl, by simp⟩
  | cons c cs ih =>
    obtain ⟨m, rfl, hm⟩ := h c (by simp)
    obtain ⟨ns, rfl, hn⟩ := ih (fun c hc => h c (by simp [hc]))
    exact ⟨m :: ns, rfl, by simpa [hm] using hn⟩

/-- A struct by value, all of whose cells are ints. -/
theorem open_flat {w : World} {base b0 : Nat} {r : Reach} {spare : Nat → Bool} {held : Bool} {t : TypeId} {fs : Array Field} {v : Value} {d : DataW H} {p : List MemPlace} (n : Nat) (hs : P.underlying t = some (.struct fs)) (hf : flatB P n t = true)
    (hv : Value.okWide P w r b0 t v) (h : DataW.Trod enc P w base spare held t v d p) :
    ∃ ns : List Int, v = .agg (ns.map (Value.int .i64)).toArray ∧ ns.length = P.cellsOf t ∧ ∀ m ∈ ns, (Lit.int .i64 m).wf = true := by
  obtain ⟨cs, rfl, hsz⟩ := okWide_struct hs hv
  obtain ⟨fuel, hx⟩ := h
  obtain ⟨ns, h1, h2⟩ := ints_of_cells (flat_cell n hf hx)
  have e : cs = (ns.map (Value.int .i64)).toArray := by
    rw [← h1]; rfl
  refine ⟨ns, by rw [e], ?_, h2⟩
  rw [← hsz, e]
  simp

theorem wf64 {m : Int} (h : (Lit.int .i64 m).wf = true) : -9223372036854775808 ≤ m ∧ m ≤ 9223372036854775807 := by
  simp [Lit.wf, IntKind.min, IntKind.max, IntKind.signed, IntKind.bits] at h
  omega

theorem trodAll_below (hl : laidOutB P = true) {W W' : World} (hb : Below W.heap.size W W') : ∀ (ts : List TypeId) (vs : List Value) (ds : List (DataW H)) (p : List MemPlace),
    (∀ t ∈ ts, P.readableRec t = true ∧ t < P.types.size) → DataW.TrodAll enc P W 0 (fun _ => true) true ts vs ds p → (∀ x ∈ p, x.block < W.heap.size) →
    DataW.TrodAll enc P W' 0 (fun b => decide (b < W.heap.size)) true ts vs ds p
  | [], vs, ds, p, _, h, _ => by
    obtain ⟨rfl, rfl, rfl⟩ := trodAll_nil h
    rfl
  | t :: ts, vs, ds, p, hts, h, hp => by
    obtain ⟨v, vs', d, ds', p', q', rfl, rfl, rfl, h1, h2⟩ := trodAll_cons h
    obtain ⟨hr, hrow⟩ := hts t (by simp)
    exact trodAll_cons_mk (Below.trod hl hr hrow h1 hb (fun x hx => hp x (by simp [hx]))) (trodAll_below hl hb ts vs' ds' q' (fun t ht => hts t (by simp [ht])) h2 (fun x hx => hp x (by simp [hx])))

/-- A LAW's END: true, and nothing that was there has turned: all that the row asks. -/
theorem law_post {f : Func} {s : ChangeSpec} {W W' : World} {args : Array Value} {ds gs : List (DataW H)} {before : List MemPlace} {tb : TypeId} (hl : laidOutB P = true)
    (hts : (f.params.toList.all fun t => P.readableRec t && decide (t < P.types.size)) = true) (hr : f.resultTypes = #[tb]) (hb : P.underlying tb = some .bool) (hv : s.vars = [])
    (hs : s.fn H (ds ++ gs) = { results := [.lit (.bool true)], args := ds }) (hW : DataW.Whole enc P f.params.toList s.vars false W args.toList ds gs before) (bel : Below W.heap.size W W') :
    s.post enc P f false true false false W args (.bool true) W' := by
  have hlt : ∀ p ∈ before, p.block < W.heap.size := fun p hp => hW.lt p hp
  have hW' := hW
  obtain ⟨p, q, hA, hV, rfl, hfz, hnd⟩ := hW
  refine ⟨ds, gs, _, [], p, [], hW', ?_, ?_, ?_, bel.frame _, fun h => by cases h⟩
  · rw [hr, hs]
    exact trodAll_mk1 (shut_bool hb _)
  · rw [hs]
    refine trodAll_below hl bel _ _ _ _ (fun t ht => ?_) hA (fun x hx => hlt x (by simp [hx]))
    have := List.all_eq_true.1 hts t ht
    simpa using this
  · rw [hv, hs]
    rfl
end
end Go.Proofs.YtmbaklodgpcegaaGreat

/- Contracts of num.In, num.Clamp, num.Ceil and package check: what they return, at all arguments; they make new memory alone. -/
namespace Go.Proofs.YtmbaklodgpcegaaGreat
open Go.ChangeShapes Go.WideShapes Go.ChangeAt Go.RowKit Go.Sort
set_option linter.unusedSimpArgs false
set_option linter.unusedVariables false

def inB (n lo hi : Int) : Bool := decide (lo ≤ n ∧ n ≤ hi)
def nodeB (n : Int) : Bool := inB n 1 255
def wayB (a b : Int) : Bool := nodeB a && nodeB b && a != b
def spanB (s e : Int) : Bool := decide (0 ≤ s) && decide (s < e) && decide (e ≤ 2147483647)
def contactB (id fr tn st en ra : Int) : Bool := inB id 1 1048576 && wayB fr tn && spanB st en && inB ra 1 2147483647
def rangeB (fr tn st en ow : Int) : Bool := wayB fr tn && spanB st en && inB ow 0 2147483647
def bundleB (fr tn si cl de : Int) : Bool := nodeB fr && nodeB tn && inB si 0 1099511627775 && inB cl 0 2 && inB de 0 1099511627776
def volumeF (id fr tn st en ra : Int) : Int := if contactB id fr tn st en ra = true then ra * (en - st) else 0

theorem in_any (n lo hi : Int) (w : World) :
    Calls Tryz.prog 42 #[.int .i64 n, .int .i64 lo, .int .i64 hi] w fun e w' => e = .returned (.bool (inB n lo hi)) ∧ w = w' := by
  by_cases h1 : lo ≤ n <;> by_cases h2 : n ≤ hi <;>
  · go_enter Tryz.func42, Tryz.ntmps42
    go_wp2
    go_ret
    exact ⟨by simp [inB, h1, h2], rfl⟩

theorem node_any (n : Int) (w : World) :
    Calls Tryz.prog 22 #[.int .i64 n] w fun e w' => e = .returned (.bool (nodeB n)) ∧ w = w' := by
  go_enter Tryz.func22, Tryz.ntmps22
  go_wp2_with (go_at_call 42; refine (in_any _ _ _ _).mono ?_; rintro e w' ⟨rfl, rfl⟩)
  go_ret
  exact ⟨rfl, rfl⟩
theorem nodeB_spec {n : Int} : nodeB n = true ↔ 1 ≤ n ∧ n ≤ 255 := by
  simp [nodeB, inB]
theorem inB_spec {n lo hi : Int} : inB n lo hi = true ↔ lo ≤ n ∧ n ≤ hi := by
  simp [inB]
theorem contactB_spec {id fr tn st en ra : Int} : contactB id fr tn st en ra = true ↔ (1 ≤ id ∧ id ≤ 1048576) ∧ (1 ≤ fr ∧ fr ≤ 255) ∧ (1 ≤ tn ∧ tn ≤ 255) ∧ fr ≠ tn ∧ 0 ≤ st ∧ st < en ∧ en ≤ 2147483647 ∧ 1 ≤ ra ∧ ra ≤ 2147483647 := by
  simp [contactB, wayB, nodeB, spanB, inB, and_assoc]
theorem rangeB_spec {fr tn st en ow : Int} : rangeB fr tn st en ow = true ↔ (1 ≤ fr ∧ fr ≤ 255) ∧ (1 ≤ tn ∧ tn ≤ 255) ∧ fr ≠ tn ∧ 0 ≤ st ∧ st < en ∧ en ≤ 2147483647 ∧ 0 ≤ ow ∧ ow ≤ 2147483647 := by
  simp [rangeB, wayB, nodeB, spanB, inB, and_assoc]
theorem bundleB_spec {fr tn si cl de : Int} : bundleB fr tn si cl de = true ↔ (1 ≤ fr ∧ fr ≤ 255) ∧ (1 ≤ tn ∧ tn ≤ 255) ∧ (0 ≤ si ∧ si ≤ 1099511627775) ∧ (0 ≤ cl ∧ cl ≤ 2) ∧ 0 ≤ de ∧ de ≤ 1099511627776 := by
  simp [bundleB, nodeB, inB, and_assoc]
theorem volume_bounds {id fr tn st en ra : Int} (h : contactB id fr tn st en ra = true) : 1 ≤ ra * (en - st) ∧ ra * (en - st) ≤ 4611686014132420609 := by
  obtain ⟨_, _, _, _, h1, h2, h3, h4, h5⟩ := contactB_spec.1 h
  constructor
  · exact Int.le_trans (by omega : (1 : Int) ≤ 1 * 1) (Int.mul_le_mul h4 (by omega) (by omega) (by omega))
  · exact Int.le_trans (Int.mul_le_mul h5 (by omega : en - st ≤ 2147483647) (by omega) (by omega)) (by omega)
/-! The same with the result named, for a walk that wants it written out. -/
theorem in_is {n lo hi : Int} (b : Bool) (h : inB n lo hi = b) (w : World) :
    Calls Tryz.prog 42 #[.int .i64 n, .int .i64 lo, .int .i64 hi] w fun e w' => e = .returned (.bool b) ∧ w = w' := h ▸ in_any n lo hi w
theorem node_is {n : Int} (b : Bool) (h : nodeB n = b) (w : World) :
    Calls Tryz.prog 22 #[.int .i64 n] w fun e w' => e = .returned (.bool b) ∧ w = w' := h ▸ node_any n w
end Go.Proofs.YtmbaklodgpcegaaGreat

/- Plain mathematics: quotients upwards, edges, when one is sent and there, the latest time. Nothing of any program. -/
namespace Go.Proofs.YtmbaklodgpcegaaGreat

/-- a divided by b, upwards. -/
def cdiv (a b : Int) : Int := a / b + (if a % b = 0 then 0 else 1)

theorem cdiv_bounds {a b : Int} (ha : 0 ≤ a) (hb : 1 ≤ b) : 0 ≤ cdiv a b ∧ cdiv a b ≤ a ∧ a ≤ cdiv a b * b ∧ (cdiv a b - 1) * b < a + (if a = 0 then b else 0) ∧ (cdiv a b = 0 ↔ a = 0) := by
  have h0 : 0 ≤ a / b := Int.ediv_nonneg ha (by omega)
  have h1 : a / b ≤ a := Int.ediv_le_self _ ha
  have h2 := Int.emod_add_mul_ediv a b
  have h3 := Int.emod_nonneg a (show b ≠ 0 by omega)
  have h4 := Int.emod_lt_of_pos a (show 0 < b by omega)
  have h5 : a / b * b = b * (a / b) := Int.mul_comm _ _
  unfold cdiv
  split
  · rename_i hm
    rw [Int.add_zero]
    refine ⟨h0, h1, by rw [h5]; omega, ?_, ?_⟩
    · rw [Int.sub_mul, h5]
      split <;> omega
    · constructor
      · intro h; rw [h] at h2; omega
      · intro h; rw [h]; simp
  · rename_i hm
    refine ⟨by omega, ?_, ?_, ?_, ?_⟩
    · have : 2 ≤ b := by
        rcases Int.lt_or_le b 2 with h | h
        · have : b = 1 := by omega
          subst this
          omega
        · exact h
      have h6 : 2 * (a / b) ≤ b * (a / b) := Int.mul_le_mul_of_nonneg_right this h0
      omega
    · rw [Int.add_mul, h5]; omega
    · rw [show a / b + 1 - 1 = a / b by omega, h5]
      split <;> omega
    · constructor
      · intro h; omega
      · intro h; rw [h] at hm; simp at hm

theorem cdiv_le {a b c : Int} (ha : 0 ≤ a) (hab : a ≤ b) (hc : 1 ≤ c) : cdiv a c ≤ cdiv b c := by
  obtain ⟨h1, _, h3, h4, h5⟩ := cdiv_bounds ha hc
  obtain ⟨k1, _, k3, k4, k5⟩ := cdiv_bounds (Int.le_trans ha hab) hc
  rcases Int.lt_or_le (cdiv b c) (cdiv a c) with h | h
  · exfalso
    have h6 : cdiv b c * c ≤ (cdiv a c - 1) * c := Int.mul_le_mul_of_nonneg_right (by omega) (by omega)
    split at h4
    · rename_i h0
      have := h5.2 h0
      omega
    · omega
  · exact h

theorem cdiv_le_den {a c d : Int} (ha : 0 ≤ a) (hc : 1 ≤ c) (hcd : c ≤ d) : cdiv a d ≤ cdiv a c := by
  obtain ⟨h1, _, h3, h4, h5⟩ := cdiv_bounds ha hc
  obtain ⟨k1, _, k3, k4, k5⟩ := cdiv_bounds ha (show 1 ≤ d by omega)
  rcases Int.lt_or_le (cdiv a c) (cdiv a d) with h | h
  · exfalso
    have h6 : cdiv a c * d ≤ (cdiv a d - 1) * d := Int.mul_le_mul_of_nonneg_right (by omega) (by omega)
    have h7 : cdiv a c * c ≤ cdiv a c * d := Int.mul_le_mul_of_nonneg_left hcd h1
    split at k4
    · rename_i h0
      have := k5.2 h0
      omega
    · omega
  · exact h

end Go.Proofs.YtmbaklodgpcegaaGreat

/- Contracts of quotients upwards (package num, and the document's answer). No condition. -/
namespace Go.Proofs.YtmbaklodgpcegaaGreat
open Go.ChangeShapes Go.WideShapes Go.ChangeAt Go.RowKit Go.Sort
set_option linter.unusedSimpArgs false
set_option linter.unusedVariables false

def ceilB (a b : Int) : Bool := decide (0 ≤ a) && decide (1 ≤ b)
def ceilF (a b : Int) : Int := if ceilB a b then cdiv a b else 0

theorem ceil_yes {a b : Int} (ha : 0 ≤ a) (ha2 : a ≤ 9223372036854775807) (hb : 1 ≤ b) (w : World) :
    Calls Tryz.prog 76 #[.int .i64 a, .int .i64 b] w fun e w' => e = .returned (.tuple #[.int .i64 (cdiv a b), .bool true]) ∧ w = w' := by
  have hc := cdiv_bounds ha hb
  obtain ⟨hc1, hc2, _, _, _⟩ := hc
  have h1 : ¬ a < 0 := by omega
  have h2 : ¬ b < 1 := by omega
  have hz : (b == 0) = false := by simp; omega
  by_cases hm : a % b = 0
  · have e : cdiv a b = a / b := by unfold cdiv; rw [if_pos hm]; omega
    have E := Lib.hid e
    rw [e] at hc1 hc2
    have hm' : (a % b == 0) = true := by simp [hm]
    have hm2 : (a % b != 0) = false := by simp [hm]
    clear e hm
    go_enter Tryz.func76, Tryz.ntmps76
    go_wp2
    go_ret2
    exact ⟨by rw [E.out]; rfl, rfl⟩
  · have e : cdiv a b = a / b + 1 := by unfold cdiv; rw [if_neg hm]
    have E := Lib.hid e
    rw [e] at hc1 hc2
    have hm' : (a % b == 0) = false := by simp [hm]
    have hm2 : (a % b != 0) = true := by simp [hm]
    clear e hm
    go_enter Tryz.func76, Tryz.ntmps76
    go_wp2
    go_ret2
    exact ⟨by rw [E.out]; rfl, rfl⟩
theorem ceil_no {a b : Int} (h : ceilB a b = false) (w : World) :
    Calls Tryz.prog 76 #[.int .i64 a, .int .i64 b] w fun e w' => e = .returned (.tuple #[.int .i64 0, .bool false]) ∧ w = w' := by
  have h' : a < 0 ∨ b < 1 := by simp [ceilB] at h; omega
  clear h
  by_cases h1 : a < 0
  · go_enter Tryz.func76, Tryz.ntmps76
    go_wp2
    go_ret2
    exact ⟨rfl, rfl⟩
  · have h2 : b < 1 := by omega
    clear h'
    go_enter Tryz.func76, Tryz.ntmps76
    go_wp2
    go_ret2
    exact ⟨rfl, rfl⟩
theorem rceil_yes {a b : Int} (ha : 0 ≤ a) (ha2 : a ≤ 9223372036854775807) (hb : 1 ≤ b) (w : World) :
    Calls Tryz.prog 90 #[.int .i64 a, .int .i64 b] w fun e w' => e = .returned (.tuple #[.int .i64 (cdiv a b), .bool true]) ∧ w = w' := by
  have hc := cdiv_bounds ha hb
  obtain ⟨hc1, hc2, _, _, _⟩ := hc
  have h1 : ¬ a < 0 := by omega
  have h2 : ¬ b < 1 := by omega
  have hz : (b == 0) = false := by simp; omega
  by_cases hm : a % b = 0
  · have e : cdiv a b = a / b := by unfold cdiv; rw [if_pos hm]; omega
    have E := Lib.hid e
    rw [e] at hc1 hc2
    have hm' : (a % b == 0) = true := by simp [hm]
    have hm2 : (a % b != 0) = false := by simp [hm]
    clear e hm
    go_enter Tryz.func90, Tryz.ntmps90
    go_wp2
    go_ret2
    exact ⟨by rw [E.out]; rfl, rfl⟩
  · have e : cdiv a b = a / b + 1 := by unfold cdiv; rw [if_neg hm]
    have E := Lib.hid e
    rw [e] at hc1 hc2
    have hm' : (a % b == 0) = false := by simp [hm]
    have hm2 : (a % b != 0) = true := by simp [hm]
    clear e hm
    go_enter Tryz.func90, Tryz.ntmps90
    go_wp2
    go_ret2
    exact ⟨by rw [E.out]; rfl, rfl⟩
theorem rceil_no {a b : Int} (h : ceilB a b = false) (w : World) :
    Calls Tryz.prog 90 #[.int .i64 a, .int .i64 b] w fun e w' => e = .returned (.tuple #[.int .i64 0, .bool false]) ∧ w = w' := by
  have h' : a < 0 ∨ b < 1 := by simp [ceilB] at h; omega
  clear h
  by_cases h1 : a < 0
  · go_enter Tryz.func90, Tryz.ntmps90
    go_wp2
    go_ret2
    exact ⟨rfl, rfl⟩
  · have h2 : b < 1 := by omega
    clear h'
    go_enter Tryz.func90, Tryz.ntmps90
    go_wp2
    go_ret2
    exact ⟨rfl, rfl⟩
end Go.Proofs.YtmbaklodgpcegaaGreat

/- A scope whose body begins with its one label: what holds at the label, each time. No condition. -/
namespace Go.Proofs.YtmbaklodgpcegaaGreat
open Go.ChangeShapes Go.WideShapes Go.ChangeAt Go.RowKit Go.Sort
set_option linter.unusedSimpArgs false
set_option linter.unusedVariables false

theorem wp_scope_label {P : Program} {Q : Exit → Act → World → Prop} {a : Act} {w : World} {l : Nat} {rest : Code} (J : Act → World → Prop) (μ : Act → World → Nat) (h0 : J a w)
    (pass : ∀ a w, J a w → rest.wp P (Exit.jump l (fun a' w' => J a' w' ∧ μ a' w' < μ a w) Q) a w) : (Code.scope (.seq (.label l) rest)).wp P Q a w := by
  refine wp_scope_jumps (rest := .seq .skip rest) l J μ (by simp [findLabel]) ?_ (fun a w hJ => wp_seq (wp_skip (pass a w hJ)))
  refine wp_seq (wp_label (wp_mono (pass a w h0) ?_))
  intro e a' w' h
  cases e <;> first | exact h | exact ⟨h.1, h.2.1⟩
end Go.Proofs.YtmbaklodgpcegaaGreat

/- Contracts of the document's answer for layer 3: it answers what package check answers, at all arguments. -/
namespace Go.Proofs.YtmbaklodgpcegaaGreat
open Go.ChangeShapes Go.WideShapes Go.ChangeAt Go.RowKit Go.Sort
set_option linter.unusedSimpArgs false
set_option linter.unusedVariables false

theorem ret_bool {a b : Bool} (h : a = b) : Ending.returned (.bool a) = .returned (.bool b) := by rw [h]

theorem rnode_any (n : Int) (w : World) :
    Calls Tryz.prog 56 #[.int .i64 n] w fun e w' => e = .returned (.bool (nodeB n)) ∧ w = w' := by
  by_cases h1 : 1 ≤ n <;> by_cases h2 : n ≤ 255 <;>
  · go_enter Tryz.func56, Tryz.ntmps56
    go_wp2
    go_ret
    exact ⟨by simp [nodeB, inB, h1, h2], rfl⟩

def pairB (fr tn st en : Int) : Bool := wayB fr tn && spanB st en
theorem pairB_spec {fr tn st en : Int} : pairB fr tn st en = true ↔ (1 ≤ fr ∧ fr ≤ 255) ∧ (1 ≤ tn ∧ tn ≤ 255) ∧ fr ≠ tn ∧ 0 ≤ st ∧ st < en ∧ en ≤ 2147483647 := by
  simp [pairB, wayB, nodeB, spanB, inB, and_assoc]

end Go.Proofs.YtmbaklodgpcegaaGreat
