/- Contracts and plain facts, several texts of mine in one: Lib, Mem, App, Mem2, Open, Appl, SlLib, TyRg, SlRg, TyCo. No condition. -/
import Derived.WalkKit
import Derived.ProofKit
import Derived.OpenShut
import Derived.ChangeOld
import Derived.BigQuiet
import Derived.Deep.QuietTactic
import Derived.Lib.QuietBelow
import Derived.Lib.Hide
import Derived.Deep.DeepCutAuto
import Derived.Maps.AppendAt
import Derived.Deep.RegionLaw
import Derived.Deep.Slices
import Derived.Deep.Fields
import Derived.Lib.LazyBuf
import Derived.Test.YtolaabllhibkdaaGreatChecked

/- General words of mine, over any program: arguments whose cells are all ints opened, a law's end shut whatever its parameters are, facts on 'Below'. No condition. -/
namespace Go.Proofs.YtolaabllhibkdaaGreat
open Go.ChangeShapes Go.WideShapes Go.ChangeAt Go.RowKit Go.Sort
set_option linter.unusedSimpArgs false
set_option linter.unusedVariables false

theorem bcell {W w1 : World} (hb : Below W.heap.size W w1) : (∀ b o, b < W.heap.size → w1.cell? ⟨b, o, none⟩ = W.cell? ⟨b, o, none⟩) ∧ (∀ b o, b < W.heap.size → w1.frozen? ⟨b, o, none⟩ = W.frozen? ⟨b, o, none⟩) :=
  ⟨fun b o h => hb.cell (p := ⟨b, o, none⟩) h, fun b o h => hb.frozen (p := ⟨b, o, none⟩) h⟩

/-- A callee that leaves the world alone, met in a world of the class. -/
theorem _root_.Go.Calls.regrown_same {P : Program} {f : FuncId} {args : Array Value} {w : World} {d : Nat} {os : Array Obj} {v : Value}
    (h : Calls P f args (grow (redrawn w d) os) fun e w' => e = .returned v ∧ grow (redrawn w d) os = w') : Calls P f args (grow (redrawn w d) os) fun e w'' => e = .returned v ∧ ∃ p : Regrown, w'' = grow (redrawn w p.d) p.os :=
  h.mono fun _ _ ⟨he, hw⟩ => ⟨he, ⟨d, os⟩, hw.symm⟩

theorem ret_true {b : Bool} (h : b = true) : Ending.returned (.bool b) = .returned (.bool true) := by rw [h]
/-- The world at a call, under one name. -/
theorem name_world {P : Program} {f : FuncId} {args : Array Value} {w0 : World} {K : Ending → World → Prop} (h : ∀ W, W = w0 → Calls P f args W K) : Calls P f args w0 K := h _ rfl
theorem name_wp {P : Program} {c : Code} {Q : Exit → Act → World → Prop} {a : Act} {w0 : World} (h : ∀ W, W = w0 → c.wp P Q a W) : c.wp P Q a w0 := h _ rfl
/-- A region whose order is the text's, walked quietly: what stands behind it is asked in every world of the class. -/
theorem wpOps_of_quiet {P : Program} {C : World → Prop} {Q : Exit → Act → World → Prop} (L : List Oper) : ∀ (l : List Oper) (k : Nat) (a : Act) (w : World), (∀ j, l[j]? = L[k + j]?) → C w →
    wpQuiet P L.toArray C (fun a' => ∀ w', C w' → Q .normal a' w') l a → wpOps P L.toArray Q (List.range' k l.length) a w
  | [], k, a, w, _, hC, h => h w hC
  | o :: l, k, a, w, hl, hC, h => by
    have h0 : L.toArray[k]? = some o := by simpa using (hl 0).symm
    have hn : ∀ j, l[j]? = L[k + 1 + j]? := fun j => by have := hl (j + 1); simpa [Nat.add_assoc, Nat.add_comm 1 j] using this
    simp only [List.length_cons, List.range'_succ, wpOps, h0]
    simp only [wpQuiet] at h
    split
    · rename_i hw
      rw [if_pos hw] at h
      exact .inl (Oper.wp_of_quiet hC (fun a' w' hC' hK => wpOps_of_quiet L l (k + 1) a' w' hn hC' hK) h)
    · rename_i hw
      rw [if_neg hw] at h
      exact wpOps_of_quiet L l (k + 1) _ w hn hC h
theorem wp_region_text_below {P : Program} {id : Nat} {Q : Exit → Act → World → Prop} {a : Act} {w : World} {l : List Oper}
    (h : wpQuiet P l.toArray (fun w' => ∃ p : Regrown, w' = grow (redrawn w p.d) p.os) (fun a' => ∀ w', (∃ p : Regrown, w' = grow (redrawn w p.d) p.os) → Q .normal a' w') l a) : (Code.region id l.toArray false).wp P Q a w := by
  refine wp_region ?_
  have := wpOps_of_quiet (C := fun w' => ∃ p : Regrown, w' = grow (redrawn w p.d) p.os) (Q := Q) l l 0 a w (by simp) ⟨⟨w.drawn, #[]⟩, by rw [grow_empty]; rfl⟩ h
  simpa [List.range_eq_range'] using this
theorem heap_alloc_at (w : World) (o : Obj) (k : Nat) : (w.alloc o).heap[k]? = if k = w.heap.size then some o else w.heap[k]? := by
  show (w.heap.push o)[k]? = _
  rw [Array.getElem?_push]
theorem cell_alloc_if (w : World) (c : Array Value) (t : TypeId) (n i : Nat) : (w.alloc (.cells c t)).cell? ⟨n, i, none⟩ = if n = w.heap.size then c[i]? else w.cell? ⟨n, i, none⟩ := by
  unfold World.cell?
  simp only [heap_alloc_at]
  by_cases h : n = w.heap.size
  · simp [h]
  · simp [h]
theorem cell_of_block {w : World} {b : Nat} {cs : Array Value} {t : TypeId} {fr : Nat × Nat} (h : w.heap[b]? = some (.cells cs t fr)) (o : Nat) : w.cell? ⟨b, o, none⟩ = cs[o]? := by
  simp [World.cell?, h]
theorem grown_cells (W : World) : ∀ d os b o, b < W.heap.size → (grow (redrawn W d) os).cell? ⟨b, o, none⟩ = W.cell? ⟨b, o, none⟩ :=
  fun d os b o h => (below_regrown W d os).cell (p := ⟨b, o, none⟩) h

section
variable {H : Type} {enc : TypeId × Value → H} {P : Program}

/-- A type all of whose cells are ints. -/
def flatB (P : Program) : Nat → TypeId → Bool
  | 0, _ => false
  | n + 1, t =>
    match P.underlying t with
    | some (.int .i64) => true
    | some (.struct fs) => fs.toList.all (fun f => flatB P n f.type) && (List.range (P.cellsOf t)).all fun i => fs.toList.any fun f => decide (f.offset ≤ i) && decide (i < f.offset + P.cellsOf f.type)
    | some (.array k e) => flatB P n e && decide (P.cellsOf t = k * P.cellsOf e)
    | _ => false

theorem flat_cell {w : World} {base : Nat} {spare : Nat → Bool} {held : Bool} : ∀ (n : Nat) {fuel : Nat} {t : TypeId} {cs : List Value} {x : DataW H × List MemPlace}, flatB P n t = true →
    DataW.trod enc P w base spare held fuel t cs = some x → ∀ c ∈ cs, ∃ m, c = .int .i64 m ∧ (Lit.int .i64 m).wf = true
  | 0, _, _, _, _, h, _ => by simp [flatB] at h
  | n + 1, fuel, t, cs, x, h, ht => by
    unfold flatB at h
    split at h
    · rename_i hu
      obtain ⟨m, rfl, _, hw⟩ := DataW.trod_int hu ht
      intro c hc
      simp at hc
      exact ⟨m, hc, hw⟩
    · rename_i fs hu
      simp only [Bool.and_eq_true, List.all_eq_true, List.any_eq_true, decide_eq_true_eq, List.mem_range] at h
      obtain ⟨h1, h2⟩ := h
      obtain ⟨xs, m, _, _, hlen, hxl, hf⟩ := DataW.trod_struct hu ht
      intro c hc
      obtain ⟨i, hi, rfl⟩ := List.getElem_of_mem hc
      obtain ⟨f, hfm, hlo, hhi⟩ := h2 i (by omega)
      obtain ⟨j, hj, hjf⟩ := List.getElem_of_mem hfm
      have hj' : fs[j]? = some f := by
        rw [← Array.getElem?_toList, List.getElem?_eq_getElem hj, hjf]
      have h3 := hf j f hj'
      have hjx : xs[j]? = some (xs[j]'(by rw [hxl]; simpa using hj)) := List.getElem?_eq_getElem _
      rw [hjx] at h3
      refine flat_cell n (h1 f hfm) h3 _ ?_
      rw [List.mem_take_iff_getElem]
      exact ⟨i - f.offset, by simp; omega, by simp; congr 1; omega⟩
    · rename_i k e hu
      simp only [Bool.and_eq_true, decide_eq_true_eq] at h
      obtain ⟨h1, h2⟩ := h
      obtain ⟨xs, m, _, _, hlen, hxl, hf⟩ := DataW.trod_array hu ht
      intro c hc
      obtain ⟨i, hi, rfl⟩ := List.getElem_of_mem hc
      have hpos : 0 < P.cellsOf e := by
        rcases Nat.eq_zero_or_pos (P.cellsOf e) with h0 | h0
        · rw [h0] at h2; omega
        · exact h0
      have hd : i / P.cellsOf e < k := by rw [Nat.div_lt_iff_lt_mul hpos]; omega
      have h3 := hf (i / P.cellsOf e) hd
      have hjx : xs[i / P.cellsOf e]? = some (xs[i / P.cellsOf e]'(by omega)) := List.getElem?_eq_getElem _
      rw [hjx] at h3
      refine flat_cell n h1 h3 _ ?_
      rw [List.mem_take_iff_getElem]
      have hm := Nat.mod_lt i hpos
      have hdm := Nat.div_add_mod i (P.cellsOf e)
      have hmul : P.cellsOf e * (i / P.cellsOf e) = i / P.cellsOf e * P.cellsOf e := Nat.mul_comm _ _
      exact ⟨i % P.cellsOf e, by simp; omega, by simp; congr 1; omega⟩
    · cases h

theorem ints_of_cells {cs : List Value} (h : ∀ c ∈ cs, ∃ m, c = .int .i64 m ∧ (Lit.int .i64 m).wf = true) : ∃ ns : List Int, cs = ns.map (Value.int .i64) ∧ ∀ m ∈ ns, (Lit.int .i64 m).wf = true := by
  induction cs with
  | nil => exact ⟨[], rfl, by simp⟩
  | cons c cs ih =>
    obtain ⟨m, rfl, hm⟩ := h c (by simp)
    obtain ⟨ns, rfl, hn⟩ := ih (fun c hc => h c (by simp [hc]))
    exact ⟨m :: ns, rfl, by simpa [hm] using hn⟩

/-- A struct by value, all of whose cells are ints. -/
theorem open_flat {w : World} {base b0 : Nat} {r : Reach} {spare : Nat → Bool} {held : Bool} {t : TypeId} {fs : Array Field} {v : Value} {d : DataW H} {p : List MemPlace} (n : Nat) (hs : P.underlying t = some (.struct fs)) (hf : flatB P n t = true)
    (hv : Value.okWide P w r b0 t v) (h : DataW.Trod enc P w base spare held t v d p) :
    ∃ ns : List Int, v = .agg (ns.map (Value.int .i64)).toArray ∧ ns.length = P.cellsOf t ∧ ∀ m ∈ ns, (Lit.int .i64 m).wf = true := by
  obtain ⟨cs, rfl, hsz⟩ := okWide_struct hs hv
  obtain ⟨fuel, hx⟩ := h
  obtain ⟨ns, h1, h2⟩ := ints_of_cells (flat_cell n hf hx)
  have e : cs = (ns.map (Value.int .i64)).toArray := by
    rw [← h1]; rfl
  refine ⟨ns, by rw [e], ?_, h2⟩
  rw [← hsz, e]
  simp

theorem wf64 {m : Int} (h : (Lit.int .i64 m).wf = true) : -9223372036854775808 ≤ m ∧ m ≤ 9223372036854775807 := by
  simp [Lit.wf, IntKind.min, IntKind.max, IntKind.signed, IntKind.bits] at h
  omega

theorem trodAll_below (hl : laidOutB P = true) {W W' : World} (hb : Below W.heap.size W W') : ∀ (ts : List TypeId) (vs : List Value) (ds : List (DataW H)) (p : List MemPlace),
    (∀ t ∈ ts, P.readableRec t = true ∧ t < P.types.size) → DataW.TrodAll enc P W 0 (fun _ => true) true ts vs ds p → (∀ x ∈ p, x.block < W.heap.size) →
    DataW.TrodAll enc P W' 0 (fun b => decide (b < W.heap.size)) true ts vs ds p
  | [], vs, ds, p, _, h, _ => by
    obtain ⟨rfl, rfl, rfl⟩ := trodAll_nil h
    rfl
  | t :: ts, vs, ds, p, hts, h, hp => by
    obtain ⟨v, vs', d, ds', p', q', rfl, rfl, rfl, h1, h2⟩ := trodAll_cons h
    obtain ⟨hr, hrow⟩ := hts t (by simp)
    exact trodAll_cons_mk (Below.trod hl hr hrow h1 hb (fun x hx => hp x (by simp [hx]))) (trodAll_below hl hb ts vs' ds' q' (fun t ht => hts t (by simp [ht])) h2 (fun x hx => hp x (by simp [hx])))

/-- A LAW's END: true, and nothing that was there has turned: all that the row asks. -/
theorem law_post {f : Func} {s : ChangeSpec} {W W' : World} {args : Array Value} {ds gs : List (DataW H)} {before : List MemPlace} {tb : TypeId} (hl : laidOutB P = true)
    (hts : (f.params.toList.all fun t => P.readableRec t && decide (t < P.types.size)) = true) (hr : f.resultTypes = #[tb]) (hb : P.underlying tb = some .bool) (hv : s.vars = [])
    (hs : s.fn H (ds ++ gs) = { results := [.lit (.bool true)], args := ds }) (hW : DataW.Whole enc P f.params.toList s.vars false W args.toList ds gs before) (bel : Below W.heap.size W W') :
    s.post enc P f false true false false W args (.bool true) W' := by
  have hlt : ∀ p ∈ before, p.block < W.heap.size := fun p hp => hW.lt p hp
  have hW' := hW
  obtain ⟨p, q, hA, hV, rfl, hfz, hnd⟩ := hW
  refine ⟨ds, gs, _, [], p, [], hW', ?_, ?_, ?_, bel.frame _, fun h => by cases h⟩
  · rw [hr, hs]
    exact trodAll_mk1 (shut_bool hb _)
  · rw [hs]
    refine trodAll_below hl bel _ _ _ _ (fun t ht => ?_) hA (fun x hx => hlt x (by simp [hx]))
    have := List.all_eq_true.1 hts t ht
    simpa using this
  · rw [hv, hs]
    rfl
end
end Go.Proofs.YtolaabllhibkdaaGreat

/- Blocks and rows of memory: a block known whole, a row of pairs of ints that the call owns. No condition. -/
namespace Go.Proofs.YtolaabllhibkdaaGreat
open Go.ChangeShapes Go.WideShapes Go.ChangeAt Go.RowKit Go.Sort
set_option linter.unusedSimpArgs false
set_option linter.unusedVariables false

/-- Block g holds just these cells. -/
def Blok (w : World) (g : Nat) (t : TypeId) (cs : Array Value) : Prop := w.heap[g]? = some (.cells cs t (0, 0))
section
variable {w w' : World} {g : Nat} {t : TypeId} {cs : Array Value}
theorem Blok.lt (h : Blok w g t cs) : g < w.heap.size := lt_of_block h
theorem Blok.cell (h : Blok w g t cs) (i : Nat) : w.cell? ⟨g, i, none⟩ = cs[i]? := cell_of_row w g i cs t (0, 0) h
theorem Blok.free (h : Blok w g t cs) (i : Nat) : w.frozen? ⟨g, i, none⟩ = false := by
  unfold Blok at h; simp [World.frozen?, h]
theorem Blok.grown {row : Option Nat} (h : Blok w g t cs) (hb : w.grownBy w' row) (hg : some g ≠ row) : Blok w' g t cs := (hb.block g h.lt hg).trans h
theorem Blok.below {B : Nat} (h : Blok w g t cs) (hb : Below B w w') (hg : g < B) : Blok w' g t cs := (hb.block g hg).trans h
theorem Blok.ne_own {base : Nat} {e : TypeId} {size n : Nat} {v : Value} {xs : List Value} (h : w.ownsRow base e size v n xs) (hg : Blok w g t cs) (hne : e ≠ t) : v.ownBlock ≠ some g := by
  rcases h.2 with ⟨rfl, _⟩ | ⟨g', cap, cur, rfl, _, hh, _⟩
  · simp [Value.ownBlock]
  · intro he
    have : g' = g := by simpa [Value.ownBlock] using he
    subst this
    unfold Blok at hg
    rw [hg] at hh
    injection hh with hh
    injection hh with _ ht
    exact hne ht.symm
theorem Blok.over {W : World} {row : Option Nat} (h : Blok w g t cs) (hg : W.grownBy w' row) (hr : row ≠ some g) (hb : Below w.heap.size w W) : Blok w' g t cs := (h.below hb h.lt).grown hg (fun e => hr e.symm)
theorem grown_of_below {row : Option Nat} (hb : Below w.heap.size w w') : w.grownBy w' row := ⟨hb.os, hb.tape, hb.output, hb.size, fun k hk _ => hb.block k hk⟩
theorem grown_refl (w : World) (row : Option Nat) : w.grownBy w row := ⟨rfl, rfl, rfl, Nat.le_refl _, fun _ _ _ => rfl⟩
theorem grown_trans {w'' : World} {row : Option Nat} (h : w.grownBy w' row) (k : w'.grownBy w'' row) : w.grownBy w'' row :=
  ⟨k.os.trans h.os, k.tape.trans h.tape, k.output.trans h.output, Nat.le_trans h.size k.size, fun i hi hr => (k.block i (Nat.lt_of_lt_of_le hi h.size) hr).trans (h.block i hi hr)⟩
theorem grown_drew {row : Option Nat} (h : w.grownBy w' row) : w.grownBy w'.drew row := ⟨h.os, h.tape, h.output, h.size, h.block⟩
theorem grown_set {g : Nat} (w : World) (i : Nat) (u : Value) : w.grownBy (w.setCell ⟨g, i, none⟩ u) (some g) :=
  ⟨rfl, rfl, rfl, by simp, fun k _ hne => Below.heap_setCell w ⟨g, i, none⟩ u k (fun e => hne (by simp at e; rw [e]))⟩
end
theorem slice_of_own {w : World} {base : Nat} {e : TypeId} {size n : Nat} {v : Value} {xs : List Value} (h : w.ownsRow base e size v n xs) : ∃ A c, v = .slice A n c := by
  rcases h.2 with ⟨rfl, rfl⟩ | ⟨g', cap, cur, rfl, _, _, _⟩
  · exact ⟨_, _, rfl⟩
  · exact ⟨_, _, rfl⟩
theorem lit_cells (w : World) (cs : Array Value) (t : TypeId) (g : Nat) (hg : g = w.heap.size) : ∀ j u, cs.toList[j]? = some u → (w.alloc (.cells cs t)).cell? ((⟨g, 0, none⟩ : Addr).add j) = some u := by
  intro j u hj
  subst hg
  have e : ((⟨w.heap.size, 0, none⟩ : Addr).add j) = ⟨w.heap.size, j, none⟩ := by
    unfold Addr.add; split <;> simp_all
  rw [e]
  rw [cell_of_block (cs := cs) (t := t) (fr := (0, 0)) (by show (w.heap.push _)[w.heap.size]? = _; simp)]
  simpa using hj
/-- Pairs of ints, as the cells hold them. -/
def flat2 (d : List (Int × Int)) : List Value := d.flatMap fun p => [.int .i64 p.1, .int .i64 p.2]
theorem flat2_length (d : List (Int × Int)) : (flat2 d).length = d.length * 2 := by
  induction d with
  | nil => rfl
  | cons p d ih => simp [flat2] at ih ⊢; omega
theorem flat2_cons (p : Int × Int) (d : List (Int × Int)) : flat2 (p :: d) = .int .i64 p.1 :: .int .i64 p.2 :: flat2 d := rfl
theorem flat2_append (d e : List (Int × Int)) : flat2 (d ++ e) = flat2 d ++ flat2 e := by simp [flat2]
theorem flat2_fst : ∀ (d : List (Int × Int)) (i : Nat), i < d.length → (flat2 d)[i * 2]? = some (.int .i64 (d.getD i (0, 0)).1)
  | p :: d, 0, _ => rfl
  | p :: d, i + 1, h => by
    rw [flat2_cons, show (i + 1) * 2 = i * 2 + 1 + 1 from by omega, List.getElem?_cons_succ, List.getElem?_cons_succ, flat2_fst d i (by simpa using h)]
    rfl
theorem flat2_snd : ∀ (d : List (Int × Int)) (i : Nat), i < d.length → (flat2 d)[i * 2 + 1]? = some (.int .i64 (d.getD i (0, 0)).2)
  | p :: d, 0, _ => rfl
  | p :: d, i + 1, h => by
    rw [flat2_cons, show (i + 1) * 2 + 1 = i * 2 + 1 + 1 + 1 from by omega, List.getElem?_cons_succ, List.getElem?_cons_succ, flat2_snd d i (by simpa using h)]
    rfl
theorem flat2_set : ∀ (d : List (Int × Int)) (i : Nat) (p : Int × Int), ((flat2 d).set (i * 2) (.int .i64 p.1)).set (i * 2 + 1) (.int .i64 p.2) = flat2 (d.set i p)
  | [], i, p => by simp [flat2]
  | q :: d, 0, p => rfl
  | q :: d, i + 1, p => by
    rw [flat2_cons, show (i + 1) * 2 = i * 2 + 1 + 1 from by omega, List.set_cons_succ, List.set_cons_succ, List.set_cons_succ, List.set_cons_succ, flat2_set d i p]
    rfl
theorem flat2_take : ∀ (d : List (Int × Int)) (n : Nat), (flat2 d).take (n * 2) = flat2 (d.take n)
  | _, 0 => by simp [flat2]
  | [], n + 1 => by simp [flat2]
  | p :: d, n + 1 => by
    rw [flat2_cons, show (n + 1) * 2 = n * 2 + 1 + 1 from by omega, List.take_succ_cons, List.take_succ_cons, flat2_take d n]
    rfl
end Go.Proofs.YtolaabllhibkdaaGreat

/- append onto a row of the call's own, as one step of a region that draws its order; what is kept but for some blocks. No condition. -/
namespace Go.Proofs.YtolaabllhibkdaaGreat
open Go.ChangeShapes Go.WideShapes Go.ChangeAt Go.RowKit Go.Sort
set_option linter.unusedSimpArgs false
set_option linter.unusedVariables false

theorem step_append_own {P : Program} {ops : Array Oper} {o : Oper} {a : Act} {w : World} {K : Act → World → Prop} {Q : Exit → Act → World → Prop} {E : Prop} (hgd : o.guard = none) (s x : Operand) (t : TypeId)
    (ho : o.op = .call { callee := .builtin .append, args := #[s, x], argTypes := #[t, t] })
    (base : Nat) (e : TypeId) (i : TypeInfo) (z : Value) (size bytes : Nat) (ht : P.underlying t = some (.slice e)) (hi : P.info? e = some i) (hz : i.zero = some z)
    (hsize : i.size = size) (hby : i.bytes = bytes) (hzs : z.cells.size = size) (hsz : 0 < size)
    (v : Value) (n : Nat) (xs : List Value) (hs : a.eval s = v) (hown : w.ownsRow base e size v n xs)
    (ad : Addr) (m c : Nat) (news : List Value) (hx : a.eval x = .slice (some ad) m c) (hl : news.length = m * size) (hnews : ∀ j u, news[j]? = some u → w.cell? (ad.add j) = some u) (h1 : ∀ u ∈ news, u.oneCell' = true)
    (h63 : n + m ≤ maxLen) (hbytes : (n + m) * bytes ≤ 140737488355328) (hbase : base ≤ w.heap.size)
    (h : ∀ v' w', w'.ownsRow base e size v' (n + m) (xs ++ news) → w.grownBy w' v.ownBlock → (v' = .slice none 0 0 ↔ v = .slice none 0 0 ∧ m = 0) → (v'.ownBlock = v.ownBlock ∨ v'.ownBlock = some w.heap.size) → K (a.put o.dst v') w') :
    if Region.wanted o (yielded ops a.tmps) = true then Oper.wp P o a w K Q else E := by
  rw [if_pos (by simp [Region.wanted, hgd])]
  obtain ⟨v', w', hr, h2, h3, h4, h5⟩ := run_append_own_at (P := P) w base t o.type e i z size bytes ht hi hz hsize hby hzs hsz v n xs hown ad m c news hl hnews h1 h63 hbytes hbase
  unfold Oper.wp execOp
  simp only [ho, resolve, invoke, builtin, Sem.run_bind, Sem.run_pure, Result.andThen_ok, List.map_toArray, List.map_cons, List.map_nil, hs, hx, hr]
  exact h v' w' h2 h3 h4 h5

/-- Nothing that was there has turned, but for these blocks. -/
structure Kept (S : Nat → Prop) (w w' : World) : Prop where
  os : w'.os = w.os
  tape : w'.tape = w.tape
  output : w'.output = w.output
  size : w.heap.size ≤ w'.heap.size
  block : ∀ k, k < w.heap.size → ¬ S k → w'.heap[k]? = w.heap[k]?
section
variable {S : Nat → Prop} {w w' w'' : World}
theorem Kept.refl (S : Nat → Prop) (w : World) : Kept S w w := ⟨rfl, rfl, rfl, Nat.le_refl _, fun _ _ _ => rfl⟩
theorem Kept.of_grown {row : Option Nat} (h : w.grownBy w' row) (hS : ∀ k, row = some k → k < w.heap.size → S k) : Kept S w w' :=
  ⟨h.os, h.tape, h.output, h.size, fun k hk hn => h.block k hk (fun e => hn (hS k e.symm hk))⟩
theorem Kept.of_below (h : Below w.heap.size w w') : Kept S w w' := ⟨h.os, h.tape, h.output, h.size, fun k hk _ => h.block k hk⟩
theorem Kept.below (h : Kept (fun _ => False) w w') : Below w.heap.size w w' := ⟨h.os, h.tape, h.output, h.size, fun k hk => h.block k hk (fun x => x)⟩
theorem Kept.trans {S' : Nat → Prop} (h : Kept S w w') (k : Kept S' w' w'') (hS : ∀ i, i < w.heap.size → S' i → S i) : Kept S w w'' :=
  ⟨k.os.trans h.os, k.tape.trans h.tape, k.output.trans h.output, Nat.le_trans h.size k.size, fun i hi hn => (k.block i (Nat.lt_of_lt_of_le hi h.size) (fun x => hn (hS i hi x))).trans (h.block i hi hn)⟩
theorem Kept.drew (h : Kept S w w') : Kept S w w'.drew := ⟨h.os, h.tape, h.output, h.size, h.block⟩
theorem Kept.set {g : Nat} (h : Kept S w w') (hg : g < w.heap.size → S g) (i : Nat) (u : Value) : Kept S w (w'.setCell ⟨g, i, none⟩ u) :=
  ⟨h.os, h.tape, h.output, by simpa using h.size, fun k hk hn => (Below.heap_setCell w' ⟨g, i, none⟩ u k (fun e => hn (by simp at e; subst e; exact hg hk))).trans (h.block k hk hn)⟩
theorem Kept.alloc (h : Kept S w w') (o : Obj) : Kept S w (w'.alloc o) :=
  ⟨h.os, h.tape, h.output, by have := h.size; simp; omega, fun k hk hn => (Below.heap_alloc w' o k (by have := h.size; omega)).trans (h.block k hk hn)⟩
theorem Kept.grow_ {row : Option Nat} (h : Kept S w w') (k : w'.grownBy w'' row) (hS : ∀ i, i < w.heap.size → row = some i → S i) : Kept S w w'' :=
  h.trans (S' := fun i => row = some i) (Kept.of_grown k fun i hi _ => hi) hS
theorem Kept.blok {g : Nat} {t : TypeId} {cs : Array Value} (k : Kept S w w') (h : Blok w g t cs) (hn : ¬ S g) : Blok w' g t cs := (k.block g h.lt hn).trans h
theorem Kept.owns {base : Nat} {e : TypeId} {size n : Nat} {v : Value} {xs : List Value} (k : Kept S w w') (h : w.ownsRow base e size v n xs) (hn : ∀ g, v.ownBlock = some g → ¬ S g) : w'.ownsRow base e size v n xs := by
  refine ⟨h.1, ?_⟩
  rcases h.2 with hx | ⟨g, cap, cur, rfl, hb, hgg, rest⟩
  · exact .inl hx
  · refine .inr ⟨g, cap, cur, rfl, hb, ?_, rest⟩
    rw [k.block g (Array.getElem?_eq_some_iff.1 hgg).1 (hn g rfl)]
    exact hgg
end
end Go.Proofs.YtolaabllhibkdaaGreat

/- New blocks, read behind what a callee made. No condition. -/
namespace Go.Proofs.YtolaabllhibkdaaGreat
open Go.ChangeShapes Go.WideShapes Go.ChangeAt Go.RowKit Go.Sort
set_option linter.unusedSimpArgs false
set_option linter.unusedVariables false
theorem Blok.new (w : World) (t : TypeId) (cs : Array Value) : Blok (w.alloc (.cells cs t)) w.heap.size t cs := heap_alloc_new w _
theorem Blok.set_ {w : World} {g : Nat} {t : TypeId} {cs : Array Value} (h : Blok w g t cs) (i : Nat) (u : Value) : Blok (w.setCell ⟨g, i, none⟩ u) g t (cs.setIfInBounds i u) := by
  unfold Blok at h ⊢
  simp [World.setCell, Array.getElem?_modify, h]
theorem Blok.far {w : World} {g : Nat} {t : TypeId} {cs : Array Value} (h : Blok w g t cs) {p : Addr} (hp : g ≠ p.block) (u : Value) : Blok (w.setCell p u) g t cs := (Below.heap_setCell w p u g hp).trans h
theorem Blok.alloc {w : World} {g : Nat} {t : TypeId} {cs : Array Value} (h : Blok w g t cs) (o : Obj) : Blok (w.alloc o) g t cs := (Below.heap_alloc w o g h.lt).trans h
theorem Blok.kept {S : Nat → Prop} {w w' : World} {g : Nat} {t : TypeId} {cs : Array Value} (h : Blok w g t cs) (k : Kept S w w') (hn : ¬ S g) : Blok w' g t cs := k.blok h hn
end Go.Proofs.YtolaabllhibkdaaGreat

/- An argument that is a slice of structs all of whose cells are ints, opened: its cells as one list of ints. No condition. -/
namespace Go.Proofs.YtolaabllhibkdaaGreat
open Go.ChangeShapes Go.WideShapes Go.ChangeAt Go.RowKit Go.Sort
set_option linter.unusedSimpArgs false
set_option linter.unusedVariables false

theorem add_block (a : Addr) (n : Nat) : (a.add n).block = a.block := by unfold Addr.add; split <;> rfl
theorem add_zero_ (a : Addr) : a.add 0 = a := by unfold Addr.add; simp
theorem add_plus (a : Addr) (i j : Nat) : (a.add i).add j = a.add (i + j) := by
  unfold Addr.add
  by_cases hi : i = 0 <;> by_cases hj : j = 0 <;> simp [hi, hj, Nat.add_assoc]

/-- The slice at A of n elements of k cells each reads as these cells; it lies below block B. -/
structure Lst (w : World) (B k : Nat) (A : Option Addr) (n : Nat) (xs : List Value) : Prop where
  len : xs.length = n * k
  at_ : 0 < n → ∃ ad, A = some ad ∧ ad.block < B ∧ ∀ j u, xs[j]? = some u → w.cell? (ad.add j) = some u
section
variable {w w' : World} {B k n : Nat} {A : Option Addr} {xs : List Value}
theorem Lst.kept {S : Nat → Prop} (h : Lst w B k A n xs) (hk : ∀ i, i < B → w'.heap[i]? = w.heap[i]?) : Lst w' B k A n xs :=
  ⟨h.len, fun hn => by
    obtain ⟨ad, e, hb, hc⟩ := h.at_ hn
    exact ⟨ad, e, hb, fun j u hu => (World.cell?_of_block (by rw [add_block]; exact hk _ hb)).trans (hc j u hu)⟩⟩
theorem Lst.below (h : Lst w B k A n xs) (hb : Below B w w') : Lst w' B k A n xs := h.kept (S := fun _ => False) fun i hi => hb.block i hi
theorem Lst.more {B' : Nat} (h : Lst w B k A n xs) (hB : B ≤ B') : Lst w B' k A n xs :=
  ⟨h.len, fun hn => by
    obtain ⟨ad, e, hb, hc⟩ := h.at_ hn
    exact ⟨ad, e, by omega, hc⟩⟩
theorem Lst.of_own {base : Nat} {e : TypeId} {c : Nat} (h : w.ownsRow base e k (.slice A n c) n xs) : Lst w w.heap.size k A n xs := by
  refine ⟨h.1, fun hn => ?_⟩
  rcases h.2 with ⟨_, h0⟩ | ⟨g, cap, cur, he, hb, hg, _⟩
  · omega
  · have hA : A = some ⟨g, 0, none⟩ := by injection he
    subst hA
    refine ⟨⟨g, 0, none⟩, rfl, (h.lt g rfl).2, fun j u hu => h.cells (g := g) rfl j u hu⟩
end

section
variable {H : Type} {enc : TypeId × Value → H} {P : Program}
theorem open_rows {w : World} {base b0 : Nat} {r : Reach} {spare : Nat → Bool} {held : Bool} {t e : TypeId} {v : Value} {d : DataW H} {p : List MemPlace} (q : Nat) {K : Nat} (ht : P.underlying t = some (.slice e)) (hf : flatB P q e = true) (hK : P.cellsOf e = K) (hpos : 0 < K)
    (hv : Value.okWide P w r b0 t v) (h : DataW.Trod enc P w base spare held t v d p) :
    ∃ (A : Option Addr) (n c : Nat) (ns : List Int), v = .slice A n c ∧ n ≤ c ∧ c ≤ maxLen ∧ Lst w w.heap.size K A n (ns.map (Value.int .i64)) ∧ ns.length = n * K ∧ ∀ m ∈ ns, (Lit.int .i64 m).wf = true := by
  obtain ⟨A, n, c, rfl⟩ := okWide_slice ht hv
  obtain ⟨fuel, hx⟩ := h
  subst hK
  rcases Go.Deep.open_slice ht hx with ⟨h0, _⟩ | ⟨a, len, cap, m, q', D, Pl, hcs, hb, hl, hm, hmm, _, hi⟩
  · have h0' : Value.slice A n c = .slice none 0 0 := by simpa [Value.cells] using h0
    injection h0' with h1 h2 h3
    subst h1 h2 h3
    exact ⟨none, 0, 0, [], rfl, Nat.le_refl _, by simp, ⟨by simp, fun h => by omega⟩, by simp, by simp⟩
  · have h0' : Value.slice A n c = .slice (some a) len cap := by simpa [Value.cells] using hcs
    injection h0' with h1 h2 h3
    subst h1 h2 h3
    have hnm : n ≤ m := by rw [hmm]; split <;> omega
    have key : ∀ i, i ≤ n → ∃ ns : List Int, ns.length = i * P.cellsOf e ∧ (∀ j u, (ns.map (Value.int .i64))[j]? = some u → w.cell? (a.add j) = some u) ∧ ∀ m ∈ ns, (Lit.int .i64 m).wf = true := by
      intro i
      induction i with
      | zero => exact fun _ => ⟨[], by simp, by simp, by simp⟩
      | succ i ih =>
        intro hin
        obtain ⟨ns, n1, n2, n3⟩ := ih (by omega)
        obtain ⟨cs', hc, htr⟩ := hi i (by omega)
        obtain ⟨_, hcl, hat⟩ := World.cells?_some hc
        obtain ⟨ms, e1, e2⟩ := ints_of_cells (flat_cell q hf htr)
        refine ⟨ns ++ ms, ?_, fun j u hu => ?_, fun x hx => ?_⟩
        · have hml : ms.length = P.cellsOf e := by rw [← hcl, e1]; simp
          rw [List.length_append, n1, hml, Nat.add_mul, Nat.one_mul]
        · rw [List.map_append] at hu
          by_cases hj : j < ns.length
          · rw [List.getElem?_append_left (by simpa using hj)] at hu
            exact n2 j u hu
          · rw [List.getElem?_append_right (by simpa using hj)] at hu
            have hjl : j - ns.length < P.cellsOf e := by
              have := (List.getElem?_eq_some_iff.1 hu).1
              rw [List.length_map] at this
              rw [← e1, hcl] at this
              simpa using this
            have := hat (j - ns.length) hjl
            rw [add_plus, n1] at this
            rw [show i * P.cellsOf e + (j - i * P.cellsOf e) = j from by omega] at this
            rw [this, e1, ← n1]
            simpa using hu
        · rcases List.mem_append.1 hx with hx | hx
          · exact n3 x hx
          · exact e2 x hx
    obtain ⟨ns, n1, n2, n3⟩ := key n (Nat.le_refl _)
    refine ⟨some a, n, c, ns, rfl, hl, hm, ⟨by simpa using n1, fun hn => ⟨a, rfl, ?_, n2⟩⟩, n1, n3⟩
    have h0 : 0 < ns.length := by rw [n1]; exact Nat.mul_pos hn hpos
    have := n2 0 (.int .i64 ns[0]) (by simp)
    rw [add_zero_] at this
    exact block_lt_of_cell this
end
theorem pairs_of : ∀ (n : Nat) (ns : List Int), ns.length = n * 2 → ∃ d : List (Int × Int), d.length = n ∧ ns.map (Value.int .i64) = flat2 d
  | 0, [], _ => ⟨[], rfl, rfl⟩
  | n + 1, a :: b :: ns, h => by
    obtain ⟨d, h1, h2⟩ := pairs_of n ns (by simp at h; omega)
    exact ⟨(a, b) :: d, by simp [h1], by simp [flat2_cons, h2]⟩
  | n + 1, [_], h => by simp at h; omega
  | n + 1, [], h => by simp at h
end Go.Proofs.YtolaabllhibkdaaGreat

/- append of a slice that reads as a list (nil let in) onto a row of the call's own. No condition. -/
namespace Go.Proofs.YtolaabllhibkdaaGreat
open Go.ChangeShapes Go.WideShapes Go.ChangeAt Go.RowKit Go.Sort
set_option linter.unusedSimpArgs false
set_option linter.unusedVariables false
section
variable {P : Program} (w : World)
theorem run_append_lst (base : Nat) (t ty e : TypeId) (i : TypeInfo) (z : Value) (size bytes : Nat) (ht : P.underlying t = some (.slice e)) (hi : P.info? e = some i) (hz : i.zero = some z)
    (hsize : i.size = size) (hby : i.bytes = bytes) (hzs : z.cells.size = size) (hsz : 0 < size)
    (v : Value) (n : Nat) (xs : List Value) (hown : w.ownsRow base e size v n xs)
    (B : Nat) (A : Option Addr) (m c : Nat) (news : List Value) (hr : Lst w B size A m news) (h1 : ∀ u ∈ news, u.oneCell' = true)
    (h63 : n + m ≤ maxLen) (hbytes : (n + m) * bytes ≤ 140737488355328) (hbase : base ≤ w.heap.size) :
    ∃ v' w', (Builtin.append_ #[t, t] ty #[v, .slice A m c]).run P w = .ok v' w' ∧ w'.ownsRow base e size v' (n + m) (xs ++ news) ∧ w.grownBy w' v.ownBlock ∧ (v'.ownBlock = v.ownBlock ∨ v'.ownBlock = some w.heap.size) := by
  have hcase : (m = 0 ∧ news = []) ∨ 0 < m := by
    rcases Nat.eq_zero_or_pos m with h | h
    · subst h; exact .inl ⟨rfl, List.eq_nil_of_length_eq_zero (by simpa using hr.len)⟩
    · exact .inr h
  rcases hcase with ⟨rfl, rfl⟩ | hm
  · cases A with
    | none =>
      refine ⟨v, w, ?_, by simpa using hown, grown_refl w _, .inl rfl⟩
      rcases hown.2 with ⟨rfl, rfl⟩ | ⟨g, cap, cur, rfl, _, _, hnc, _⟩
      · simp [Builtin.append_, run_underlying ht, sizeOf, typeInfo, hi, Builtin.lenOf, Builtin.firstCells]
      · simp [Builtin.append_, run_underlying ht, sizeOf, typeInfo, hi, Builtin.lenOf, Builtin.firstCells, hnc, storeCells]
    | some ad =>
      obtain ⟨v', w', hrun, h2, h3, _, h5⟩ := run_append_own_at (P := P) w base t ty e i z size bytes ht hi hz hsize hby hzs hsz v n xs hown ad 0 c [] (by simp) (by simp) (by simp) h63 hbytes hbase
      exact ⟨v', w', hrun, h2, h3, h5⟩
  · obtain ⟨ad, rfl, _, hc⟩ := hr.at_ hm
    obtain ⟨v', w', hrun, h2, h3, _, h5⟩ := run_append_own_at (P := P) w base t ty e i z size bytes ht hi hz hsize hby hzs hsz v n xs hown ad m c news hr.len hc h1 h63 hbytes hbase
    exact ⟨v', w', hrun, h2, h3, h5⟩

theorem wp_append_lst {o : Oper} {a : Act} {K : Act → World → Prop} {Q : Exit → Act → World → Prop} (s x : Operand) (t : TypeId)
    (ho : o.op = .call { callee := .builtin .append, args := #[s, x], argTypes := #[t, t] })
    (base : Nat) (e : TypeId) (i : TypeInfo) (z : Value) (size bytes : Nat) (ht : P.underlying t = some (.slice e)) (hi : P.info? e = some i) (hz : i.zero = some z)
    (hsize : i.size = size) (hby : i.bytes = bytes) (hzs : z.cells.size = size) (hsz : 0 < size)
    (v : Value) (n : Nat) (xs : List Value) (hs : a.eval s = v) (hown : w.ownsRow base e size v n xs)
    (B : Nat) (A : Option Addr) (m c : Nat) (news : List Value) (hx : a.eval x = .slice A m c) (hr : Lst w B size A m news) (h1 : ∀ u ∈ news, u.oneCell' = true)
    (h63 : n + m ≤ maxLen) (hbytes : (n + m) * bytes ≤ 140737488355328) (hbase : base ≤ w.heap.size)
    (h : ∀ v' w', w'.ownsRow base e size v' (n + m) (xs ++ news) → w.grownBy w' v.ownBlock → (v'.ownBlock = v.ownBlock ∨ v'.ownBlock = some w.heap.size) → K (a.put o.dst v') w') : o.wp P a w K Q := by
  obtain ⟨v', w', hr, h2, h3, h4⟩ := run_append_lst (P := P) w base t o.type e i z size bytes ht hi hz hsize hby hzs hsz v n xs hown B A m c news hr h1 h63 hbytes hbase
  unfold Oper.wp execOp
  simp only [ho, resolve, invoke, builtin, Sem.run_bind, Sem.run_pure, Result.andThen_ok, List.map_toArray, List.map_cons, List.map_nil, hs, hx, hr]
  exact h v' w' h2 h3 h4

theorem wpList_append_lst {ops : Array Oper} {rest : List Oper} {o : Oper} {a : Act} {Q : Exit → Act → World → Prop} (hgd : o.guard = none) (s x : Operand) (t : TypeId)
    (ho : o.op = .call { callee := .builtin .append, args := #[s, x], argTypes := #[t, t] })
    (base : Nat) (e : TypeId) (i : TypeInfo) (z : Value) (size bytes : Nat) (ht : P.underlying t = some (.slice e)) (hi : P.info? e = some i) (hz : i.zero = some z)
    (hsize : i.size = size) (hby : i.bytes = bytes) (hzs : z.cells.size = size) (hsz : 0 < size)
    (v : Value) (n : Nat) (xs : List Value) (hs : a.eval s = v) (hown : w.ownsRow base e size v n xs)
    (B : Nat) (A : Option Addr) (m c : Nat) (news : List Value) (hx : a.eval x = .slice A m c) (hr : Lst w B size A m news) (h1 : ∀ u ∈ news, u.oneCell' = true)
    (h63 : n + m ≤ maxLen) (hbytes : (n + m) * bytes ≤ 140737488355328) (hbase : base ≤ w.heap.size)
    (h : ∀ v' w', w'.ownsRow base e size v' (n + m) (xs ++ news) → w.grownBy w' v.ownBlock → (v'.ownBlock = v.ownBlock ∨ v'.ownBlock = some w.heap.size) → wpList P ops Q rest (a.put o.dst v') w') : wpList P ops Q (o :: rest) a w :=
  wpList_plain hgd fun _ hK => wp_append_lst w s x t ho base e i z size bytes ht hi hz hsize hby hzs hsz v n xs hs hown B A m c news hx hr h1 h63 hbytes hbase fun v' w' h2 h3 h4 => hK _ _ (h v' w' h2 h3 h4)

theorem step_append_lst {ops : Array Oper} {o : Oper} {a : Act} {K : Act → World → Prop} {Q : Exit → Act → World → Prop} {E : Prop} (hgd : o.guard = none) (s x : Operand) (t : TypeId)
    (ho : o.op = .call { callee := .builtin .append, args := #[s, x], argTypes := #[t, t] })
    (base : Nat) (e : TypeId) (i : TypeInfo) (z : Value) (size bytes : Nat) (ht : P.underlying t = some (.slice e)) (hi : P.info? e = some i) (hz : i.zero = some z)
    (hsize : i.size = size) (hby : i.bytes = bytes) (hzs : z.cells.size = size) (hsz : 0 < size)
    (v : Value) (n : Nat) (xs : List Value) (hs : a.eval s = v) (hown : w.ownsRow base e size v n xs)
    (B : Nat) (A : Option Addr) (m c : Nat) (news : List Value) (hx : a.eval x = .slice A m c) (hr : Lst w B size A m news) (h1 : ∀ u ∈ news, u.oneCell' = true)
    (h63 : n + m ≤ maxLen) (hbytes : (n + m) * bytes ≤ 140737488355328) (hbase : base ≤ w.heap.size)
    (h : ∀ v' w', w'.ownsRow base e size v' (n + m) (xs ++ news) → w.grownBy w' v.ownBlock → (v'.ownBlock = v.ownBlock ∨ v'.ownBlock = some w.heap.size) → K (a.put o.dst v') w') :
    if Region.wanted o (yielded ops a.tmps) = true then Oper.wp P o a w K Q else E := by
  rw [if_pos (by simp [Region.wanted, hgd])]
  exact wp_append_lst w s x t ho base e i z size bytes ht hi hz hsize hby hzs hsz v n xs hs hown B A m c news hx hr h1 h63 hbytes hbase h
end
section
variable {w w' : World} {B size n : Nat} {A : Option Addr} {xs : List Value}
/-- s[k:] as the model has it. -/
theorem Lst.from_ (h : Lst w B size A n xs) {k cap : Nat} (hk : k ≤ n) (hc : n ≤ cap) : Lst w B size (if cap = k then A else A.map (·.add (k * size))) (n - k) (xs.drop (k * size)) := by
  refine ⟨by rw [List.length_drop, h.len, Nat.sub_mul], fun hn => ?_⟩
  obtain ⟨ad, rfl, hb, hcell⟩ := h.at_ (by omega)
  rw [if_neg (by omega)]
  refine ⟨ad.add (k * size), rfl, by rw [add_block]; exact hb, fun j u hu => ?_⟩
  rw [add_plus]
  exact hcell _ u (by rw [← hu, List.getElem?_drop])
/-- s[:k] -/
theorem Lst.upto (h : Lst w B size A n xs) {k : Nat} (hk : k ≤ n) : Lst w B size A k (xs.take (k * size)) := by
  have hle : k * size ≤ n * size := Nat.mul_le_mul_right _ hk
  refine ⟨by rw [List.length_take, h.len]; omega, fun hn => ?_⟩
  obtain ⟨ad, rfl, hb, hcell⟩ := h.at_ (by omega)
  refine ⟨ad, rfl, hb, fun j u hu => hcell j u ?_⟩
  rw [List.getElem?_take] at hu
  split at hu
  · exact hu
  · cases hu
theorem Lst.grown {row : Option Nat} (h : Lst w B size A n xs) (hg : w.grownBy w' row) (hB : B ≤ w.heap.size) (hr : ∀ g, row = some g → B ≤ g) : Lst w' B size A n xs :=
  h.kept (S := fun _ => False) fun i hi => hg.block i (by omega) (fun e => by have := hr i e.symm; omega)
theorem Lst.keptS {S : Nat → Prop} (h : Lst w B size A n xs) (hk : Kept S w w') (hB : B ≤ w.heap.size) (hS : ∀ i, i < B → ¬ S i) : Lst w' B size A n xs :=
  h.kept (S := S) fun i hi => hk.block i (by omega) (hS i hi)
end
end Go.Proofs.YtolaabllhibkdaaGreat

/- Slices as lists of cells: what a slice reads as; clear of a row of the call's own; make behind append; a predicate handed over. No condition. -/
namespace Go.Proofs.YtolaabllhibkdaaGreat
open Go.ChangeShapes Go.WideShapes Go.ChangeAt Go.RowKit Go.Sort
set_option linter.unusedSimpArgs false
set_option linter.unusedVariables false

/-- The slice value at A, n elements long, reads as these cells; it is nil, or has an address. -/
structure Sl (w : World) (B k : Nat) (A : Option Addr) (n c : Nat) (xs : List Value) : Prop where
  lst : Lst w B k A n xs
  cap : n ≤ c
  max : c ≤ maxLen
  nil : A = none → c = 0
section
variable {w w' : World} {B B' k n c : Nat} {A : Option Addr} {xs : List Value}
theorem Sl.below (h : Sl w B k A n c xs) (hb : Below B w w') : Sl w' B k A n c xs := ⟨h.lst.below hb, h.cap, h.max, h.nil⟩
theorem Sl.more (h : Sl w B k A n c xs) (hB : B ≤ B') : Sl w B' k A n c xs := ⟨h.lst.more hB, h.cap, h.max, h.nil⟩
theorem Sl.up (h : Sl w w.heap.size k A n c xs) (hb : Below w.heap.size w w') : Sl w' w'.heap.size k A n c xs := (h.below hb).more hb.size
theorem Sl.nil0 (w : World) (B k : Nat) : Sl w B k none 0 0 [] := ⟨⟨by simp, fun h => by omega⟩, by omega, by simp [maxLen], fun _ => rfl⟩
theorem Sl.of_own {base : Nat} {e : TypeId} (h : w.ownsRow base e k (.slice A n c) n xs) : Sl w w.heap.size k A n c xs := by
  refine ⟨Lst.of_own h, ?_, ?_, ?_⟩
  all_goals
    rcases h.2 with ⟨he, h0⟩ | ⟨g, cap, cur, he, hb, hg, hc, hm, _⟩
    · injection he with e1 e2 e3
      subst e1 e2 e3
      simp [maxLen]
    · injection he with e1 e2 e3
      subst e1 e3
      first | exact hc | exact hm | (intro e; cases e)
theorem Sl.upto (h : Sl w B k A n c xs) {m : Nat} (hm : m ≤ n) : Sl w B k A m c (xs.take (m * k)) := ⟨h.lst.upto hm, Nat.le_trans hm h.cap, h.max, h.nil⟩
theorem Sl.from_ (h : Sl w B k A n c xs) {m : Nat} (hm : m ≤ n) : Sl w B k (if c = m then A else A.map (·.add (m * k))) (n - m) (c - m) (xs.drop (m * k)) := by
  refine ⟨h.lst.from_ hm h.cap, by have := h.cap; omega, by have := h.max; omega, fun e => ?_⟩
  split at e
  · omega
  · have : A = none := by cases A with | none => rfl | some a => simp at e
    have := h.nil this
    omega
end
theorem addr_next (ad : Addr) (j m : Nat) (hm : 0 < m) : (⟨(ad.add j).block, (ad.add j).off + m, none⟩ : Addr) = ad.add (j + m) := by
  unfold Addr.add
  by_cases hj : j = 0
  · subst hj; simp; omega
  · simp [hj]; omega
/-- A literal of these cells. -/
theorem own_lit (w : World) (base : Nat) (t : TypeId) (size n : Nat) (cs : Array Value) (hb : base ≤ w.heap.size) (hs : cs.size = n * size) (hm : n ≤ maxLen) : (w.alloc (.cells cs t)).ownsRow base t size (.slice (some ⟨w.heap.size, 0, none⟩) n n) n cs.toList :=
  ⟨by simpa using hs, .inr ⟨w.heap.size, n, cs, rfl, hb, heap_alloc_new w _, Nat.le_refl _, hm, hs, by rw [List.take_of_length_le (by simp; omega)]⟩⟩

section
variable {P : Program}
theorem run_append_made (w : World) (t ty e k : TypeId) (i : TypeInfo) (z : Value) (ht : P.underlying t = some (.slice e)) (hk : P.underlying k = some (.int .i64)) (hi : P.info? e = some i) (hz : i.zero = some z)
    (n : Nat) (h0 : 0 < n) (hsz : 0 < i.size) (h63 : (n : Int) ≤ 9223372036854775807) (h48 : n * i.bytes ≤ 281474976710656) :
    ∃ c cur, (Builtin.append_ #[t, k] ty #[.slice none 0 0, .int .i64 n]).run P w = .ok (.slice (some ⟨w.heap.size, 0, none⟩) n c) (w.drew.alloc (.cells cur e)) ∧ cur.size = c * z.cells.size ∧ n ≤ c ∧ c ≤ maxLen := by
  refine ⟨grownCap w n 0 e, Builtin.zeroCells z.cells n ++ Builtin.zeroCells z.cells (grownCap w n 0 e - n), ?_, ?_, grownCap_ge w n 0 e, grownCap_le_maxLen w n 0 e (by unfold maxLen; omega)⟩
  · have hn : n ≠ 0 := by omega
    have hw : IntKind.i64.wrap (n : Int) = n := IntWalk.i64_in _ (by omega)
    have h63' : ¬ (9223372036854775807 < (n : Int)) := by omega
    have h48' : ¬ (281474976710656 < Builtin.nextslicecap n 0 * i.bytes) := by rw [nextslicecap_zero h0]; omega
    have h48i : ¬ (281474976710656 < (n : Int) * (i.bytes : Int)) := by
      have h := Int.ofNat_le.2 h48
      rw [Int.natCast_mul] at h
      omega
    have hs : i.size ≠ 0 := by omega
    simp [Builtin.append_, run_underlying ht, run_underlying hk, sizeOf, typeInfo, zeroValue, asInt, asIntOf, hi, hz, hn, hs, hw, h63', h48', h48i, Question.forced, run_firstCells_none, newRow, grownCap]
    have hns : ¬ (n * i.size = 0) := by
      have := Nat.mul_pos h0 hsz
      omega
    rw [if_neg (by omega : ¬ ((n : Int) < 0)), if_neg hns]
  · have := grownCap_ge w n 0 e
    simp only [Array.size_append, size_zeroCells, ← Nat.add_mul]
    congr 1
    omega
theorem wpList_append_made {ops : Array Oper} {rest : List Oper} {o : Oper} {a : Act} {w : World} {Q : Exit → Act → World → Prop} (hgd : o.guard = none) (s x : Operand) (t k : TypeId)
    (ho : o.op = .call { callee := .builtin .append, args := #[s, x], argTypes := #[t, k] })
    (e : TypeId) (i : TypeInfo) (z : Value) (size : Nat) (ht : P.underlying t = some (.slice e)) (hk : P.underlying k = some (.int .i64)) (hi : P.info? e = some i) (hz : i.zero = some z) (hsize : i.size = size) (hzs : z.cells.size = size)
    (n : Nat) (hs : a.eval s = .slice none 0 0) (hx : a.eval x = .int .i64 n) (h0 : 0 < n) (hsz : 0 < size) (h63 : (n : Int) ≤ 9223372036854775807) (h48 : n * i.bytes ≤ 281474976710656)
    (h : ∀ c w', w'.ownsRow w.heap.size e size (.slice (some ⟨w.heap.size, 0, none⟩) 0 c) 0 [] → Below w.heap.size w w' → n ≤ c → wpList P ops Q rest (a.put o.dst (.slice (some ⟨w.heap.size, 0, none⟩) n c)) w') : wpList P ops Q (o :: rest) a w := by
  refine wpList_plain hgd fun _ hK => ?_
  obtain ⟨c, cur, hr, h1, h2, h3⟩ := run_append_made (P := P) w t o.type e k i z ht hk hi hz n h0 (by omega) h63 h48
  unfold Oper.wp execOp
  simp only [ho, resolve, invoke, builtin, Sem.run_bind, Sem.run_pure, Result.andThen_ok, List.map_toArray, List.map_cons, List.map_nil, hs, hx, hr]
  refine hK _ _ (h c _ ?_ ?_ h2)
  · exact World.ownsRow_made w.drew cur c (Nat.le_refl _) h3 (by rw [h1, hzs])
  · exact (Below.drew (Below.refl _ _)).alloc (Nat.le_refl _) _

theorem run_clear_own (w : World) (base : Nat) (t e ty : TypeId) (i : TypeInfo) (z : Value) (size : Nat) (ht : P.underlying t = some (.slice e)) (hi : P.info? e = some i) (hz : i.zero = some z) (hzs : z.cells.size = size) (hz1 : ∀ u ∈ z.cells.toList, u.oneCell' = true)
    (g n c m : Nat) (xs : List Value) (hown : w.ownsRow base e size (.slice (some ⟨g, 0, none⟩) n c) n xs) (hm : m ≤ n) (A : Option Addr) (hA : A = some ((⟨g, 0, none⟩ : Addr).add (m * size)) ∨ n - m = 0) (c' : Nat) :
    ∃ w' ys, (Builtin.clear_ #[t] ty #[.slice A (n - m) c']).run P w = .ok (.tuple #[]) w' ∧ w'.ownsRow base e size (.slice (some ⟨g, 0, none⟩) n c) n ys ∧ ys.take (m * size) = xs.take (m * size) ∧ w.grownBy w' (some g) := by
  by_cases h0 : n - m = 0
  · refine ⟨w, xs, ?_, hown, rfl, grown_refl _ _⟩
    rw [h0]
    cases A <;> simp [Builtin.clear_, run_underlying ht]
  · obtain rfl : A = some ((⟨g, 0, none⟩ : Addr).add (m * size)) := hA.resolve_right h0
    rcases hown.2 with ⟨h', _⟩ | ⟨g', cap, cur, h', hb, hg, hc, hcm, hs, ht'⟩
    · simp at h'
    · simp only [Value.slice.injEq, Option.some.injEq, Addr.mk.injEq, and_true, true_and] at h'
      obtain ⟨rfl, rfl⟩ := h'
      have hadd : ((⟨g, 0, none⟩ : Addr).add (m * size)) = ⟨g, m * size, none⟩ := by unfold Addr.add; split <;> simp_all
      rw [hadd]
      have hzl : (Builtin.zeroCells z.cells (n - m)).toList.length = (n - m) * size := by rw [Array.length_toList, size_zeroCells, hzs]
      have hle : m * size + (n - m) * size ≤ cur.size := by
        rw [← Nat.add_mul, hs]; exact Nat.mul_le_mul_right _ (by omega)
      have hz1' : ∀ u ∈ (Builtin.zeroCells z.cells (n - m)).toList, u.oneCell' = true := by
        intro u hu
        have hpos : 0 < z.cells.size := by
          rcases Nat.eq_zero_or_pos z.cells.size with h | h
          · exfalso
            have : (Builtin.zeroCells z.cells (n - m)).size = 0 := by rw [size_zeroCells, h]; simp
            rw [Array.eq_empty_of_size_eq_zero this] at hu
            simp at hu
          · exact h
        unfold Builtin.zeroCells at hu
        simp only [Array.toList_map, List.mem_map] at hu
        obtain ⟨j, _, rfl⟩ := hu
        have hj := Nat.mod_lt j hpos
        have e : z.cells[j % z.cells.size]! = z.cells[j % z.cells.size] := getElem!_pos z.cells _ hj
        rw [e]
        exact hz1 _ (Array.getElem_mem_toList hj)
      have hst := run_storeCells_at P g (m * size) e _ 0 cur w hg (by rw [hzl]; omega) hz1'
      simp only [Nat.add_zero] at hst
      refine ⟨w.setRow g (cur.toList.take (m * size) ++ (Builtin.zeroCells z.cells (n - m)).toList ++ cur.toList.drop (m * size + (Builtin.zeroCells z.cells (n - m)).toList.length)).toArray, List.take (n * size) (cur.toList.take (m * size) ++ (Builtin.zeroCells z.cells (n - m)).toList ++ cur.toList.drop (m * size + (Builtin.zeroCells z.cells (n - m)).toList.length)), ?_, ⟨?_, .inr ⟨g, c, _, rfl, hb, setRow_heap w g cur _ e _ hg, hc, hcm, ?_, ?_⟩⟩, ?_, ⟨rfl, rfl, rfl, by simp, fun k _ hk => setRow_other w g k _ (fun e => hk (by simp [e]))⟩⟩
      · have h0' : ∃ q, n - m = q + 1 := ⟨n - m - 1, by omega⟩
        obtain ⟨q, hq⟩ := h0'
        have hzv : ∀ w, (zeroValue e).run P w = .ok z w := fun w => by simp [zeroValue, typeInfo, hi, hz]
        rw [hq] at hst ⊢
        simp [Builtin.clear_, run_underlying ht, hzv, hst]
      · simp only [List.length_take, List.length_append, List.length_drop, hzl, Array.length_toList]
        have h3 : n * size ≤ cur.size := by rw [hs]; exact Nat.mul_le_mul_right _ hc
        have h4 : m * size + (n - m) * size = n * size := by rw [← Nat.add_mul]; congr 1; omega
        omega
      · simp only [List.size_toArray, List.length_append, List.length_take, List.length_drop, hzl, Array.length_toList]
        omega
      · rfl
      · rw [← ht', List.take_take, List.take_take]
        have h5 : m * size ≤ n * size := Nat.mul_le_mul_right _ hm
        rw [Nat.min_eq_left h5, List.append_assoc, List.take_append_of_le_length (by rw [List.length_take, Array.length_toList]; omega), List.take_take, Nat.min_self]
theorem wpList_clear_own {ops : Array Oper} {rest : List Oper} {o : Oper} {a : Act} {w : World} {Q : Exit → Act → World → Prop} (hgd : o.guard = none) (x : Operand) (t : TypeId)
    (ho : o.op = .call { callee := .builtin .clear, args := #[x], argTypes := #[t] })
    (base : Nat) (e : TypeId) (i : TypeInfo) (z : Value) (size : Nat) (ht : P.underlying t = some (.slice e)) (hi : P.info? e = some i) (hz : i.zero = some z) (hzs : z.cells.size = size) (hz1 : ∀ u ∈ z.cells.toList, u.oneCell' = true)
    (g n c m : Nat) (xs : List Value) (hown : w.ownsRow base e size (.slice (some ⟨g, 0, none⟩) n c) n xs) (hm : m ≤ n) (A : Option Addr) (c' : Nat) (hx : a.eval x = .slice A (n - m) c') (hA : A = some ((⟨g, 0, none⟩ : Addr).add (m * size)) ∨ n - m = 0)
    (h : ∀ w' ys, w'.ownsRow base e size (.slice (some ⟨g, 0, none⟩) n c) n ys → ys.take (m * size) = xs.take (m * size) → w.grownBy w' (some g) → wpList P ops Q rest (a.put o.dst (.tuple #[])) w') : wpList P ops Q (o :: rest) a w := by
  refine wpList_plain hgd fun _ hK => ?_
  obtain ⟨w', ys, hr, h1, h2, h3⟩ := run_clear_own (P := P) w base t e o.type i z size ht hi hz hzs hz1 g n c m xs hown hm A hA c'
  unfold Oper.wp execOp
  simp only [ho, resolve, invoke, builtin, Sem.run_bind, Sem.run_pure, Result.andThen_ok, List.map_toArray, List.map_cons, List.map_nil, hx, hr]
  exact hK _ _ (h w' ys h1 h2 h3)
end
theorem enter_run {P : Program} {f : FuncId} {fn : Func} (hf : P.funcs[f]? = some fn) (hb : fn.body.isNone = false) (hnm : (fn.name == "runtime.NumGoroutine") = false) : ∀ vals w, (callFunc f vals).run P w = .ok (.enter f vals) w := by
  intro vals w
  have h1 : fn.name ≠ "runtime.NumGoroutine" := by simpa using hnm
  have h2 : fn.body ≠ none := by intro e; rw [e] at hb; cases hb
  simp [callFunc, run_program, hf]
  rw [if_neg h1, if_neg h2]
/-- The place q, or -1. -/
def idxOf (q n : Nat) : Int := if q < n then (q : Int) else -1
theorem idxOf_yes {q n : Nat} (h : q < n) : idxOf q n = q := if_pos h
theorem idxOf_no {q n : Nat} (h : ¬ q < n) : idxOf q n = -1 := if_neg h
theorem own_cut {w : World} {base : Nat} {e : TypeId} {size n m g c : Nat} {xs : List Value} (h : w.ownsRow base e size (.slice (some ⟨g, 0, none⟩) n c) n xs) (hm : m ≤ n) : w.ownsRow base e size (.slice (some ⟨g, 0, none⟩) m c) m (xs.take (m * size)) := by
  have hle : m * size ≤ n * size := Nat.mul_le_mul_right _ hm
  refine ⟨by rw [List.length_take, h.1]; omega, ?_⟩
  rcases h.2 with ⟨h', _⟩ | ⟨g', cap, cur, h', hb, hg, hc, hcm, hs, ht⟩
  · simp at h'
  · simp only [Value.slice.injEq, Option.some.injEq, Addr.mk.injEq, and_true, true_and] at h'
    obtain ⟨rfl, rfl⟩ := h'
    refine .inr ⟨g, c, cur, rfl, hb, hg, by omega, hcm, hs, ?_⟩
    rw [← ht, List.take_take]
    congr 1
    omega
theorem own_at {w : World} {base : Nat} {e : TypeId} {size n : Nat} {v : Value} {xs : List Value} (h : w.ownsRow base e size v n xs) (hn : 0 < n) : ∃ g c, v = .slice (some ⟨g, 0, none⟩) n c ∧ n ≤ c ∧ c ≤ maxLen ∧ base ≤ g ∧ g < w.heap.size := by
  rcases h.2 with ⟨rfl, rfl⟩ | ⟨g', cap, cur, rfl, hb, hg, hc, hm, _⟩
  · omega
  · exact ⟨_, _, rfl, hc, hm, hb, lt_of_block hg⟩
theorem own_down {w : World} {base base' : Nat} {e : TypeId} {size n : Nat} {v : Value} {xs : List Value} (h : w.ownsRow base e size v n xs) (hb : base' ≤ base) : w.ownsRow base' e size v n xs := by
  refine ⟨h.1, ?_⟩
  rcases h.2 with hx | ⟨g, cap, cur, h1, h2, rest⟩
  · exact .inl hx
  · exact .inr ⟨g, cap, cur, h1, by omega, rest⟩
end Go.Proofs.YtolaabllhibkdaaGreat

/- api.Range: its cells, lists of it. No condition. -/
namespace Go.Proofs.YtolaabllhibkdaaGreat
open Go.ChangeShapes Go.WideShapes Go.ChangeAt Go.RowKit Go.Sort
set_option linter.unusedSimpArgs false
set_option linter.unusedVariables false
structure Rg where
  fr : Int
  tn : Int
  st : Int
  en : Int
  ow : Int
theorem Rg.ext_ {a b : Rg} (h0 : a.fr = b.fr) (h1 : a.tn = b.tn) (h2 : a.st = b.st) (h3 : a.en = b.en) (h4 : a.ow = b.ow) : a = b := by cases a; cases b; simp_all
instance : DecidableEq Rg := fun a b => if h : a.fr = b.fr ∧ a.tn = b.tn ∧ a.st = b.st ∧ a.en = b.en ∧ a.ow = b.ow then isTrue (Rg.ext_ h.1 h.2.1 h.2.2.1 h.2.2.2.1 h.2.2.2.2) else isFalse (by rintro rfl; simp at h)
def Rg.cs (r : Rg) : List Value := [.int .i64 r.fr, .int .i64 r.tn, .int .i64 r.st, .int .i64 r.en, .int .i64 r.ow]
def flatRg (d : List Rg) : List Value := d.flatMap Rg.cs
def gRg (d : List Rg) (i : Nat) : Rg := d.getD i ⟨0, 0, 0, 0, 0⟩
theorem flatRg_cons (p : Rg) (d : List Rg) : flatRg (p :: d) = .int .i64 p.fr :: .int .i64 p.tn :: .int .i64 p.st :: .int .i64 p.en :: .int .i64 p.ow :: flatRg d := rfl
theorem flatRg_length (d : List Rg) : (flatRg d).length = d.length * 5 := by
  induction d with
  | nil => rfl
  | cons p d ih => rw [flatRg_cons]; simp only [List.length_cons, ih]; omega
theorem flatRg_append (d e : List Rg) : flatRg (d ++ e) = flatRg d ++ flatRg e := by simp [flatRg]
theorem flatRg_at0 : ∀ (d : List Rg) (i : Nat), i < d.length → (flatRg d)[i * 5]? = some (.int .i64 (gRg d i).fr)
  | p :: d, 0, _ => rfl
  | p :: d, i + 1, h => by
    rw [flatRg_cons, show (i + 1) * 5 = i * 5 + 1 + 1 + 1 + 1 + 1 from by omega]
    simp only [List.getElem?_cons_succ]
    exact flatRg_at0 d i (by simpa using h)
theorem flatRg_at1 : ∀ (d : List Rg) (i : Nat), i < d.length → (flatRg d)[i * 5 + 1]? = some (.int .i64 (gRg d i).tn)
  | p :: d, 0, _ => rfl
  | p :: d, i + 1, h => by
    rw [flatRg_cons, show (i + 1) * 5 + 1 = i * 5 + 1 + 1 + 1 + 1 + 1 + 1 from by omega]
    simp only [List.getElem?_cons_succ]
    exact flatRg_at1 d i (by simpa using h)
theorem flatRg_at2 : ∀ (d : List Rg) (i : Nat), i < d.length → (flatRg d)[i * 5 + 2]? = some (.int .i64 (gRg d i).st)
  | p :: d, 0, _ => rfl
  | p :: d, i + 1, h => by
    rw [flatRg_cons, show (i + 1) * 5 + 2 = i * 5 + 2 + 1 + 1 + 1 + 1 + 1 from by omega]
    simp only [List.getElem?_cons_succ]
    exact flatRg_at2 d i (by simpa using h)
theorem flatRg_at3 : ∀ (d : List Rg) (i : Nat), i < d.length → (flatRg d)[i * 5 + 3]? = some (.int .i64 (gRg d i).en)
  | p :: d, 0, _ => rfl
  | p :: d, i + 1, h => by
    rw [flatRg_cons, show (i + 1) * 5 + 3 = i * 5 + 3 + 1 + 1 + 1 + 1 + 1 from by omega]
    simp only [List.getElem?_cons_succ]
    exact flatRg_at3 d i (by simpa using h)
theorem flatRg_at4 : ∀ (d : List Rg) (i : Nat), i < d.length → (flatRg d)[i * 5 + 4]? = some (.int .i64 (gRg d i).ow)
  | p :: d, 0, _ => rfl
  | p :: d, i + 1, h => by
    rw [flatRg_cons, show (i + 1) * 5 + 4 = i * 5 + 4 + 1 + 1 + 1 + 1 + 1 from by omega]
    simp only [List.getElem?_cons_succ]
    exact flatRg_at4 d i (by simpa using h)
theorem flatRg_set : ∀ (d : List Rg) (i : Nat) (p : Rg), ((((((flatRg d).set (i * 5) (.int .i64 p.fr)).set (i * 5 + 1) (.int .i64 p.tn)).set (i * 5 + 2) (.int .i64 p.st)).set (i * 5 + 3) (.int .i64 p.en)).set (i * 5 + 4) (.int .i64 p.ow)) = flatRg (d.set i p)
  | [], i, p => by simp [flatRg]
  | q :: d, 0, p => rfl
  | q :: d, i + 1, p => by
    rw [flatRg_cons]
    rw [show (i + 1) * 5 = i * 5 + 1 + 1 + 1 + 1 + 1 from by omega]
    rw [show i * 5 + 1 + 1 + 1 + 1 + 1 + 1 = i * 5 + 1 + 1 + 1 + 1 + 1 + 1 from by omega]
    rw [show i * 5 + 1 + 1 + 1 + 1 + 1 + 2 = i * 5 + 2 + 1 + 1 + 1 + 1 + 1 from by omega]
    rw [show i * 5 + 1 + 1 + 1 + 1 + 1 + 3 = i * 5 + 3 + 1 + 1 + 1 + 1 + 1 from by omega]
    rw [show i * 5 + 1 + 1 + 1 + 1 + 1 + 4 = i * 5 + 4 + 1 + 1 + 1 + 1 + 1 from by omega]
    simp only [List.set_cons_succ]
    rw [flatRg_set d i p]
    rfl
theorem flatRg_take : ∀ (d : List Rg) (n : Nat), (flatRg d).take (n * 5) = flatRg (d.take n)
  | _, 0 => by simp [flatRg]
  | [], n + 1 => by simp [flatRg]
  | p :: d, n + 1 => by
    rw [flatRg_cons, show (n + 1) * 5 = n * 5 + 1 + 1 + 1 + 1 + 1 from by omega]
    simp only [List.take_succ_cons]
    rw [flatRg_take d n]
    rfl
theorem flatRg_drop : ∀ (d : List Rg) (n : Nat), (flatRg d).drop (n * 5) = flatRg (d.drop n)
  | _, 0 => by simp
  | [], n + 1 => by simp [flatRg]
  | p :: d, n + 1 => by
    rw [flatRg_cons, show (n + 1) * 5 = n * 5 + 1 + 1 + 1 + 1 + 1 from by omega]
    simp only [List.drop_succ_cons]
    rw [flatRg_drop d n]
theorem flatRg_one : ∀ (l : List Rg), ∀ u ∈ flatRg l, u.oneCell' = true
  | [], u, h => by simp [flatRg] at h
  | p :: l, u, h => by
    rw [flatRg_cons] at h
    simp only [List.mem_cons] at h
    rcases h with rfl | rfl | rfl | rfl | rfl | h
    all_goals first | rfl | exact flatRg_one l u h
theorem rowsRg_of : ∀ (n : Nat) (ns : List Int), ns.length = n * 5 → ∃ d : List Rg, d.length = n ∧ ns.map (Value.int .i64) = flatRg d
  | 0, [], _ => ⟨[], rfl, rfl⟩
  | 0, _ :: _, h => by simp at h
  | n + 1, a0 :: a1 :: a2 :: a3 :: a4 :: ns, h => by
    obtain ⟨d, h1, h2⟩ := rowsRg_of n ns (by simp at h; omega)
    exact ⟨⟨a0, a1, a2, a3, a4⟩ :: d, by simp [h1], by simp [flatRg_cons, h2]⟩
  | n + 1, [], h => by simp at h <;> omega
  | n + 1, [_], h => by simp at h <;> omega
  | n + 1, [_, _], h => by simp at h <;> omega
  | n + 1, [_, _, _], h => by simp at h <;> omega
  | n + 1, [_, _, _, _], h => by simp at h <;> omega

theorem Lst.atRg {w : World} {B : Nat} {A : Option Addr} {n : Nat} {l : List Rg} (h : Lst w B 5 A n (flatRg l)) (hl : l.length = n) {k : Nat} (hk : k < n) : ∃ ad, A = some ad ∧ ad.block < B ∧ w.cell? (ad.add (k * 5)) = some (.int .i64 (gRg l k).fr) ∧ w.cell? ⟨(ad.add (k * 5)).block, (ad.add (k * 5)).off + 1, none⟩ = some (.int .i64 (gRg l k).tn) ∧ w.cell? ⟨(ad.add (k * 5)).block, (ad.add (k * 5)).off + 2, none⟩ = some (.int .i64 (gRg l k).st) ∧ w.cell? ⟨(ad.add (k * 5)).block, (ad.add (k * 5)).off + 3, none⟩ = some (.int .i64 (gRg l k).en) ∧ w.cell? ⟨(ad.add (k * 5)).block, (ad.add (k * 5)).off + 4, none⟩ = some (.int .i64 (gRg l k).ow) := by
  obtain ⟨ad, e, hb, hc⟩ := h.at_ (by omega)
  exact ⟨ad, e, hb, hc _ _ (flatRg_at0 l k (by omega)), by rw [addr_next _ _ _ (by omega)]; exact hc _ _ (flatRg_at1 l k (by omega)), by rw [addr_next _ _ _ (by omega)]; exact hc _ _ (flatRg_at2 l k (by omega)), by rw [addr_next _ _ _ (by omega)]; exact hc _ _ (flatRg_at3 l k (by omega)), by rw [addr_next _ _ _ (by omega)]; exact hc _ _ (flatRg_at4 l k (by omega))⟩
theorem ownRg_at {w : World} {base : Nat} {t : TypeId} {g n c : Nat} {d : List Rg} (h : w.ownsRow base t 5 (.slice (some ⟨g, 0, none⟩) n c) n (flatRg d)) (hd : d.length = n) {k : Nat} (hk : k < n) : w.cell? ⟨g, k * 5, none⟩ = some (.int .i64 (gRg d k).fr) ∧ w.cell? ⟨g, k * 5 + 1, none⟩ = some (.int .i64 (gRg d k).tn) ∧ w.cell? ⟨g, k * 5 + 2, none⟩ = some (.int .i64 (gRg d k).st) ∧ w.cell? ⟨g, k * 5 + 3, none⟩ = some (.int .i64 (gRg d k).en) ∧ w.cell? ⟨g, k * 5 + 4, none⟩ = some (.int .i64 (gRg d k).ow) :=
  ⟨(h.cellAt (k * 5) (by omega)).trans (flatRg_at0 d k (by omega)), (h.cellAt (k * 5 + 1) (by omega)).trans (flatRg_at1 d k (by omega)), (h.cellAt (k * 5 + 2) (by omega)).trans (flatRg_at2 d k (by omega)), (h.cellAt (k * 5 + 3) (by omega)).trans (flatRg_at3 d k (by omega)), (h.cellAt (k * 5 + 4) (by omega)).trans (flatRg_at4 d k (by omega))⟩
theorem ownRg_store {w : World} {base : Nat} {t : TypeId} {g n c : Nat} {d : List Rg} (h : w.ownsRow base t 5 (.slice (some ⟨g, 0, none⟩) n c) n (flatRg d)) (i : Nat) (p : Rg) : (((((w.setCell ⟨g, i * 5, none⟩ (.int .i64 p.fr)).setCell ⟨g, i * 5 + 1, none⟩ (.int .i64 p.tn)).setCell ⟨g, i * 5 + 2, none⟩ (.int .i64 p.st)).setCell ⟨g, i * 5 + 3, none⟩ (.int .i64 p.en)).setCell ⟨g, i * 5 + 4, none⟩ (.int .i64 p.ow)).ownsRow base t 5 (.slice (some ⟨g, 0, none⟩) n c) n (flatRg (d.set i p)) ∧ w.grownBy (((((w.setCell ⟨g, i * 5, none⟩ (.int .i64 p.fr)).setCell ⟨g, i * 5 + 1, none⟩ (.int .i64 p.tn)).setCell ⟨g, i * 5 + 2, none⟩ (.int .i64 p.st)).setCell ⟨g, i * 5 + 3, none⟩ (.int .i64 p.en)).setCell ⟨g, i * 5 + 4, none⟩ (.int .i64 p.ow)) (some g) := by
  obtain ⟨r0, g0⟩ := h.stored (i * 5) (.int .i64 p.fr)
  obtain ⟨r1, g1⟩ := r0.stored (i * 5 + 1) (.int .i64 p.tn)
  obtain ⟨r2, g2⟩ := r1.stored (i * 5 + 2) (.int .i64 p.st)
  obtain ⟨r3, g3⟩ := r2.stored (i * 5 + 3) (.int .i64 p.en)
  obtain ⟨r4, g4⟩ := r3.stored (i * 5 + 4) (.int .i64 p.ow)
  rw [flatRg_set] at r4
  exact ⟨r4, grown_trans (grown_trans (grown_trans (grown_trans (g0) g1) g2) g3) g4⟩
theorem gRg_mem {d : List Rg} {i : Nat} (h : i < d.length) : gRg d i ∈ d := by
  unfold gRg; rw [List.getD_eq_getElem?_getD, List.getElem?_eq_getElem h]; simp
theorem gRg_eq {d : List Rg} {i : Nat} (h : i < d.length) : gRg d i = d[i] := by
  unfold gRg; rw [List.getD_eq_getElem?_getD, List.getElem?_eq_getElem h]; rfl
theorem take_nextRg {l : List Rg} {k : Nat} (h : k < l.length) : l.take (k + 1) = l.take k ++ [gRg l k] := by
  rw [List.take_succ_eq_append_getElem h, gRg_eq h]
theorem extRg {a b : List Rg} (hl : a.length = b.length) (h : ∀ i, i < a.length → gRg a i = gRg b i) : a = b := by
  refine List.ext_getElem hl fun i h1 h2 => ?_
  have := h i h1
  rw [gRg_eq h1, gRg_eq h2] at this
  exact this
theorem eqlRg (a b : Rg) (w : World) : (binOp .eql 35 (.agg #[.int .i64 a.fr, .int .i64 a.tn, .int .i64 a.st, .int .i64 a.en, .int .i64 a.ow]) (.agg #[.int .i64 b.fr, .int .i64 b.tn, .int .i64 b.st, .int .i64 b.en, .int .i64 b.ow])).run Tryz.prog w = .ok (.bool (decide (a = b))) w := by
  have u3 := Tryz.underlying3
  have a3 := Tryz.isAgg3
  have z3 := Tryz.sizeOf3
  have hS : Tryz.prog.underlying 35 = some (.struct (Tryz.prog.fieldsOf 35)) := by kernel_rfl
  have hp : Tryz.prog.stoodInHeld 35 = false := by kernel_rfl
  rw [run_eql_struct, show (10000 : Nat) = 9999 + 1 from rfl, run_equalIn_agg w 9999 35 _ _ hS hp]
  simp only [Program.fieldsOf, Tryz.underlying35]
  go_simp
  by_cases hab : a = b
  · subst hab; simp
  · simp only [hab, decide_false]
    have hx : ¬ (a.fr = b.fr ∧ a.tn = b.tn ∧ a.st = b.st ∧ a.en = b.en ∧ a.ow = b.ow) := fun h => hab (Rg.ext_ h.1 h.2.1 h.2.2.1 h.2.2.2.1 h.2.2.2.2)
    by_cases h0 : a.fr = b.fr <;> by_cases h1 : a.tn = b.tn <;> by_cases h2 : a.st = b.st <;> by_cases h3 : a.en = b.en <;> by_cases h4 : a.ow = b.ow
    all_goals simp_all
theorem neqRg (a b : Rg) (w : World) : (binOp .neq 35 (.agg #[.int .i64 a.fr, .int .i64 a.tn, .int .i64 a.st, .int .i64 a.en, .int .i64 a.ow]) (.agg #[.int .i64 b.fr, .int .i64 b.tn, .int .i64 b.st, .int .i64 b.en, .int .i64 b.ow])).run Tryz.prog w = .ok (.bool (!decide (a = b))) w := by
  have u3 := Tryz.underlying3
  have a3 := Tryz.isAgg3
  have z3 := Tryz.sizeOf3
  have hS : Tryz.prog.underlying 35 = some (.struct (Tryz.prog.fieldsOf 35)) := by kernel_rfl
  have hp : Tryz.prog.stoodInHeld 35 = false := by kernel_rfl
  rw [run_neq_struct, show (10000 : Nat) = 9999 + 1 from rfl, run_equalIn_agg w 9999 35 _ _ hS hp]
  simp only [Program.fieldsOf, Tryz.underlying35]
  go_simp
  by_cases hab : a = b
  · subst hab; simp
  · simp only [hab, decide_false]
    have hx : ¬ (a.fr = b.fr ∧ a.tn = b.tn ∧ a.st = b.st ∧ a.en = b.en ∧ a.ow = b.ow) := fun h => hab (Rg.ext_ h.1 h.2.1 h.2.2.1 h.2.2.2.1 h.2.2.2.2)
    by_cases h0 : a.fr = b.fr <;> by_cases h1 : a.tn = b.tn <;> by_cases h2 : a.st = b.st <;> by_cases h3 : a.en = b.en <;> by_cases h4 : a.ow = b.ow
    all_goals simp_all
theorem infoRg : (Tryz.prog.info? 35).map (fun i => (i.zero, i.size, i.bytes)) = some (some (.agg #[.int .i64 0, .int .i64 0, .int .i64 0, .int .i64 0, .int .i64 0]), 5, 40) := by kernel_rfl
end Go.Proofs.YtolaabllhibkdaaGreat

/- The generic library's functions at 35-rows: Clone, Equal, Grow, Concat, IndexFunc, ContainsFunc, DeleteFunc. -/
namespace Go.Proofs.YtolaabllhibkdaaGreat
open Go.ChangeShapes Go.WideShapes Go.ChangeAt Go.RowKit Go.Sort
set_option linter.unusedSimpArgs false
set_option linter.unusedVariables false
set_option maxRecDepth 100000 in
theorem cloneRg (A : Option Addr) (n c : Nat) (d : List Rg) (w : World) (hd : d.length = n) (hn : n ≤ 1000000) (h : Sl w w.heap.size 5 A n c (flatRg d)) :
    Calls Tryz.prog 46 #[.slice A n c] w fun e w' => ∃ v, e = .returned v ∧ w'.ownsRow w.heap.size 35 5 v n (flatRg d) ∧ Below w.heap.size w w' := by
  obtain ⟨i0, hi0, hz0, hz1, hz2⟩ := info_parts infoRg
  have hsl := fun (w : World) (a : Option Addr) (l c : Nat) => run_eql_slice_nil (P := Tryz.prog) w 23 35 a l c Tryz.underlying23
  cases A with
  | none =>
    obtain rfl : c = 0 := h.nil rfl
    obtain rfl : n = 0 := by have := h.cap; omega
    obtain rfl : d = [] := List.eq_nil_of_length_eq_zero hd
    go_enter Tryz.func46, Tryz.ntmps46
    go_wp2
    go_ret
    exact ⟨_, rfl, World.ownsRow_nil _ _ _ _, Below.refl _ _⟩
  | some ad =>
    go_enter Tryz.func46, Tryz.ntmps46
    go_wp2_with (first
      | (at_builtin
         refine wpList_append_lst _ rfl (.tmp 5) (.tmp 6) 23 rfl w.heap.size 35 i0 _ 5 40 Tryz.underlying23 hi0 hz0 hz1 hz2 rfl (by decide) (.slice (some ⟨w.heap.size, 0, none⟩) 0 0) 0 [] rfl (World.ownsRow_made w #[] 0 (Nat.le_refl _) (by simp) (by simp)) w.heap.size (some ad) n c (flatRg d) rfl (h.lst.below ((Below.refl _ _).alloc (Nat.le_refl _) _)) (flatRg_one _) (by unfold maxLen; omega) (by omega) (by simp) ?_
         intro v1 w1 hown hg hat))
    go_ret
    refine ⟨_, rfl, by simpa using hown, Below.grown ((Below.refl _ _).alloc (Nat.le_refl _) _) hg (by simp) (fun k hk => ?_)⟩
    simp [Value.ownBlock] at hk
    omega
set_option maxHeartbeats 1000000 in
set_option maxRecDepth 100000 in
theorem equalRg (A A' : Option Addr) (n c n' c' : Nat) (d d' : List Rg) (w : World) (hd : d.length = n) (hd' : d'.length = n') (hn : n ≤ 1000000) (hn' : n' ≤ 1000000) (h : Sl w w.heap.size 5 A n c (flatRg d)) (h' : Sl w w.heap.size 5 A' n' c' (flatRg d')) :
    Calls Tryz.prog 61 #[.slice A n c, .slice A' n' c'] w fun e w' => e = .returned (.bool (decide (d = d'))) ∧ Below w.heap.size w w' := by
  by_cases hne : n = n'
  · subst hne
    have hz : ((n : Int) != (n : Int)) = false := by simp
    go_enter Tryz.func61, Tryz.ntmps61
    go_wp2
    go_loopw [13] (fun i wr => ∃ k : Nat, k ≤ n ∧ i = .int .i64 k ∧ Hid (∀ j, j < k → gRg d j = gRg d' j) ∧ Below w.heap.size w wr) (fun i _ => n - (intOf i).toNat)
    case atStart => exact ⟨0, by omega, rfl, (fun j hj => by omega), Below.refl _ _⟩
    case round =>
      obtain ⟨k, hk, rfl, HQ, hB⟩ := hrel
      by_cases hkn : k < n
      · obtain ⟨ad, rfl, hab, c0, c1, c2, c3, c4⟩ := (h.below hB).lst.atRg hd hkn
        obtain ⟨ad', rfl, hab', e0, e1, e2, e3, e4⟩ := (h'.below hB).lst.atRg hd' hkn
        generalize hx : gRg d k = x at *
        generalize hy : gRg d' k = y at *
        have HX := Lib.hid hx
        have HY := Lib.hid hy
        clear hx hy
        have hneq := neqRg x y
        go_wp2_with fail
        have q_c0 := fun d os => cell_regrown c0 d os
        have q_c1 := fun d os => cell_regrown c1 d os
        have q_c2 := fun d os => cell_regrown c2 d os
        have q_c3 := fun d os => cell_regrown c3 d os
        have q_c4 := fun d os => cell_regrown c4 d os
        have q_e0 := fun d os => cell_regrown e0 d os
        have q_e1 := fun d os => cell_regrown e1 d os
        have q_e2 := fun d os => cell_regrown e2 d os
        have q_e3 := fun d os => cell_regrown e3 d os
        have q_e4 := fun d os => cell_regrown e4 d os
        by_cases hxy : x = y
        · have HE := Lib.hid hxy
          have hrun : ∀ w0, (binOp .neq 35 (.agg #[.int .i64 x.fr, .int .i64 x.tn, .int .i64 x.st, .int .i64 x.en, .int .i64 x.ow]) (.agg #[.int .i64 y.fr, .int .i64 y.tn, .int .i64 y.st, .int .i64 y.en, .int .i64 y.ow])).run Tryz.prog w0 = .ok (.bool false) w0 := fun w0 => by rw [hneq]; simp [HE.out]
          clear hneq hxy
          try simp only [List.append]
          first | refine wp_region_text_below ?_ | refine wp_region_quiet_below (by kernel_rfl) (by kernel_rfl) ?_
          repeat (go_big_quiet_step ((fail)))
          refine wpQuiet_nil ?_
          intro _ hqw
          obtain ⟨pq, hqw⟩ := hqw
          subst hqw
          clear q_c0 q_c1 q_c2 q_c3 q_c4 q_e0 q_e1 q_e2 q_e3 q_e4
          have hbel := below_regrown wr pq.d pq.os
          have hB2 := hB.trans (hbel.mono hB.size)
          clear hbel c0 c1 c2 c3 c4 e0 e1 e2 e3 e4 hB hrun
          generalize grow (redrawn wr pq.d) pq.os = wq at *
          go_wp2
          go_roundw
          case rel => exact ⟨k + 1, by omega, by go_num, (fun j hj => by
            by_cases e : j = k
            · rw [e, HX.out, HY.out]; exact HE.out
            · exact HQ.out j (by omega)), hB2⟩
          case measure => simp [intOf]; omega
        · have hrun : ∀ w0, (binOp .neq 35 (.agg #[.int .i64 x.fr, .int .i64 x.tn, .int .i64 x.st, .int .i64 x.en, .int .i64 x.ow]) (.agg #[.int .i64 y.fr, .int .i64 y.tn, .int .i64 y.st, .int .i64 y.en, .int .i64 y.ow])).run Tryz.prog w0 = .ok (.bool true) w0 := fun w0 => by rw [hneq]; simp [hxy]
          have hfin : decide (d = d') = false := by
            rw [decide_eq_false_iff_not]
            intro e
            have e1 := HX.out
            rw [e, HY.out] at e1
            exact hxy e1.symm
          have HF := Lib.hid hfin
          clear hneq hxy hfin
          try simp only [List.append]
          first | refine wp_region_text_below ?_ | refine wp_region_quiet_below (by kernel_rfl) (by kernel_rfl) ?_
          repeat (go_big_quiet_step ((fail)))
          refine wpQuiet_nil ?_
          intro _ hqw
          obtain ⟨pq, hqw⟩ := hqw
          subst hqw
          clear q_c0 q_c1 q_c2 q_c3 q_c4 q_e0 q_e1 q_e2 q_e3 q_e4
          have hbel := below_regrown wr pq.d pq.os
          have hB2 := hB.trans (hbel.mono hB.size)
          clear hbel c0 c1 c2 c3 c4 e0 e1 e2 e3 e4 hB hrun
          generalize grow (redrawn wr pq.d) pq.os = wq at *
          go_wp2
          go_ret
          exact ⟨by rw [HF.out]; rfl, hB2⟩
      · obtain rfl : k = n := by omega
        have hfin : decide (d = d') = true := by
          rw [decide_eq_true_eq]
          exact extRg (by omega) (fun j hj => HQ.out j (by omega))
        have HF := Lib.hid hfin
        clear hfin
        go_wp2
        go_ret
        exact ⟨by rw [HF.out]; rfl, hB⟩
  · have hz : ((n : Int) != (n' : Int)) = true := by rw [bne_iff_ne]; omega
    go_enter Tryz.func61, Tryz.ntmps61
    go_wp2
    go_ret
    refine ⟨?_, Below.refl _ _⟩
    rw [decide_eq_false (show ¬ d = d' from fun e => by subst e; omega)]
    rfl
set_option maxRecDepth 100000 in
theorem growRg (n : Nat) (w : World) (hn : n ≤ 1000000) :
    Calls Tryz.prog 154 #[.slice none 0 0, .int .i64 n] w fun e w' => ∃ v, e = .returned v ∧ w'.ownsRow w.heap.size 35 5 v 0 [] ∧ Below w.heap.size w w' := by
  obtain ⟨i0, hi0, hz0, hz1, hz2⟩ := info_parts infoRg
  by_cases h0 : n = 0
  · subst h0
    go_enter Tryz.func154, Tryz.ntmps154
    go_wp2
    go_ret
    exact ⟨_, rfl, World.ownsRow_nil _ _ _ _, Below.refl _ _⟩
  · have hp : 0 < n := by omega
    have hpi : (0 : Int) < (n : Int) := by omega
    go_enter Tryz.func154, Tryz.ntmps154
    go_wp2_with (first
      | (at_builtin
         refine wpList_append_made rfl (.tmp 20) (.tmp 21) 23 3 rfl 35 i0 _ 5 Tryz.underlying23 Tryz.underlying3 hi0 hz0 hz1 rfl n rfl rfl hp (by decide) (by omega) (by rw [hz2]; omega) ?_
         intro c1 w1 hown hB hc1))
    go_ret
    exact ⟨_, rfl, hown, hB⟩
theorem noHitRg {d : List Rg} {p : Rg → Bool} (h : d.any p = false) {j : Nat} (hj : j < d.length) : p (gRg d j) = false := by
  have := List.any_eq_false.1 h _ (gRg_mem hj)
  simpa using this
theorem firstHitRg {d : List Rg} {p : Rg → Bool} (h : d.any p = true) : ∃ q, q < d.length ∧ (∀ j, j < q → p (gRg d j) = false) ∧ p (gRg d q) = true := by
  have hl : d.findIdx p < d.length := List.findIdx_lt_length.2 (by simpa using h)
  refine ⟨d.findIdx p, hl, fun j hj => ?_, ?_⟩
  · rw [gRg_eq (by omega)]
    have := List.not_of_lt_findIdx hj
    simpa using this
  · rw [gRg_eq hl]
    exact List.findIdx_getElem
/-- A function value that tells p, in whatever world that has grown from W but for this block. -/
structure PredRg (g : FuncId) (lb : Array Value) (row : Option Nat) (W : World) (p : Rg → Bool) : Prop where
  run : ∀ vals w, (callFunc g vals).run Tryz.prog w = .ok (.enter g vals) w
  tells : ∀ w', W.grownBy w' row → ∀ x : Rg, Calls Tryz.prog g (#[.agg #[.int .i64 x.fr, .int .i64 x.tn, .int .i64 x.st, .int .i64 x.en, .int .i64 x.ow]] ++ lb) w' fun e w'' => e = .returned (.bool (p x)) ∧ Below w'.heap.size w' w''
theorem PredRg.next {g : FuncId} {lb : Array Value} {row : Option Nat} {W W' : World} {p : Rg → Bool} (h : PredRg g lb row W p) (hg : W.grownBy W' row) : PredRg g lb row W' p := ⟨h.run, fun w' h' x => h.tells w' (grown_trans hg h') x⟩
theorem PredRg.below {g : FuncId} {lb : Array Value} {row : Option Nat} {W W' : World} {p : Rg → Bool} (h : PredRg g lb row W p) (hb : Below W.heap.size W W') : PredRg g lb row W' p := h.next (grown_of_below hb)
set_option maxHeartbeats 1000000 in
set_option maxRecDepth 100000 in
theorem indexRg (A : Option Addr) (n c : Nat) (d : List Rg) (g : FuncId) (lb : Array Value) (row : Option Nat) (p : Rg → Bool) (w : World) (hd : d.length = n) (hn : n ≤ 1000000) (h : Sl w w.heap.size 5 A n c (flatRg d)) (hp : PredRg g lb row w p) (q : Nat) (hq : q ≤ n) (hlow : ∀ j, j < q → p (gRg d j) = false) (hhit : q < n → p (gRg d q) = true) :
    Calls Tryz.prog 70 #[.slice A n c, .func (.func g) #[] lb] w fun e w' => e = .returned (.int .i64 (idxOf q n)) ∧ Below w.heap.size w w' := by
  have HL := Lib.hid hlow
  have HH := Lib.hid hhit
  have HP := Lib.hid hp
  have hcf := hp.run
  clear hlow hhit hp
  go_enter Tryz.func70, Tryz.ntmps70
  go_wp2
  go_loopw [8] (fun i wr => ∃ k : Nat, k ≤ q ∧ i = .int .i64 k ∧ Below w.heap.size w wr) (fun i _ => n - (intOf i).toNat)
  case atStart => exact ⟨0, by omega, rfl, Below.refl _ _⟩
  case round =>
    obtain ⟨k, hk, rfl, hB⟩ := hrel
    by_cases hkn : k < n
    · obtain ⟨ad, rfl, hab, c0, c1, c2, c3, c4⟩ := (h.below hB).lst.atRg hd hkn
      have habw : ad.block < wr.heap.size := by have := hB.size; omega
      by_cases hkq : k < q
      · have hf := HL.out k hkq
        generalize hx : gRg d k = x at *
        have HF := Lib.hid hf
        clear hx hf
        go_wp2_with fail
        refine (HF.out ▸ (HP.out.below hB).tells wr (grown_refl _ _) x).mono ?_
        rintro e w1 ⟨rfl, hb1⟩
        have hB2 := hB.trans (hb1.mono hB.size)
        clear hb1 hB c0 c1 c2 c3 c4
        go_wp2
        go_roundw
        case rel => exact ⟨k + 1, by omega, by go_num, hB2⟩
        case measure => simp [intOf]; omega
      · obtain rfl : k = q := by omega
        have hf := HH.out hkn
        generalize hx : gRg d k = x at *
        have HF := Lib.hid hf
        clear hx hf
        go_wp2_with fail
        refine (HF.out ▸ (HP.out.below hB).tells wr (grown_refl _ _) x).mono ?_
        rintro e w1 ⟨rfl, hb1⟩
        have hB2 := hB.trans (hb1.mono hB.size)
        clear hb1 hB c0 c1 c2 c3 c4
        go_wp2
        go_ret
        exact ⟨by rw [idxOf_yes hkn]; rfl, hB2⟩
    · go_wp2
      go_ret
      exact ⟨by rw [idxOf_no (by omega)]; rfl, hB⟩
set_option maxRecDepth 100000 in
theorem containsRg (A : Option Addr) (n c : Nat) (d : List Rg) (g : FuncId) (lb : Array Value) (row : Option Nat) (p : Rg → Bool) (w : World) (hd : d.length = n) (hn : n ≤ 1000000) (h : Sl w w.heap.size 5 A n c (flatRg d)) (hp : PredRg g lb row w p) :
    Calls Tryz.prog 39 #[.slice A n c, .func (.func g) #[] lb] w fun e w' => e = .returned (.bool (d.any p)) ∧ Below w.heap.size w w' := by
  have HP := Lib.hid hp
  clear hp
  by_cases ha : d.any p = true
  · obtain ⟨q, hq, h1, h2⟩ := firstHitRg ha
    have hqi : (0 : Int) ≤ (q : Int) := by omega
    go_enter Tryz.func39, Tryz.ntmps39
    go_wp2_with fail
    refine (indexRg A n c d g lb row p w hd hn h HP.out q (by omega) h1 (fun _ => h2)).mono ?_
    rintro e w1 ⟨rfl, hB⟩
    rw [idxOf_yes (by omega : q < n)]
    go_wp2
    go_ret
    exact ⟨by rw [ha]; rfl, hB⟩
  · have ha' : d.any p = false := by simpa using ha
    go_enter Tryz.func39, Tryz.ntmps39
    go_wp2_with fail
    refine (indexRg A n c d g lb row p w hd hn h HP.out n (Nat.le_refl _) (fun j hj => noHitRg ha' (by omega)) (fun h => by omega)).mono ?_
    rintro e w1 ⟨rfl, hB⟩
    rw [idxOf_no (by omega : ¬ n < n)]
    go_wp2
    go_ret
    exact ⟨by rw [ha']; rfl, hB⟩
theorem filt_nextRg {d : List Rg} {p : Rg → Bool} {j : Nat} (hj : j < d.length) : (d.take (j + 1)).filter (fun x => !p x) = (d.take j).filter (fun x => !p x) ++ if p (gRg d j) = true then [] else [gRg d j] := by
  rw [take_nextRg hj, List.filter_append]
  congr 1
  cases h : p (gRg d j) <;> simp [List.filter_cons, h]
theorem filt_allRg {d : List Rg} {p : Rg → Bool} : ∀ q, q ≤ d.length → (∀ j, j < q → p (gRg d j) = false) → (d.take q).filter (fun x => !p x) = d.take q
  | 0, _, _ => by simp
  | q + 1, h, hl => by
    rw [filt_nextRg (by omega), filt_allRg q (by omega) (fun j hj => hl j (by omega)), if_neg (by rw [hl q (by omega)]; simp), ← take_nextRg (by omega)]
theorem filt_lenRg {d : List Rg} {p : Rg → Bool} (j : Nat) : ((d.take j).filter (fun x => !p x)).length ≤ j := by
  have h1 := List.length_filter_le (fun x => !p x) (d.take j)
  rw [List.length_take] at h1
  omega
theorem set_stepRg {e d : List Rg} {p : Rg → Bool} {i j n : Nat} (he : e.length = n) (hd : d.length = n) (hij : i < j) (hj : j < n) (h1 : e.take i = (d.take j).filter (fun x => !p x)) (h2 : e.drop j = d.drop j) (hp : p (gRg d j) = false) :
    (e.set i (gRg d j)).take (i + 1) = (d.take (j + 1)).filter (fun x => !p x) ∧ (e.set i (gRg d j)).drop (j + 1) = d.drop (j + 1) := by
  refine ⟨?_, ?_⟩
  · rw [filt_nextRg (by omega), if_neg (by rw [hp]; simp), ← h1]
    rw [List.take_succ_eq_append_getElem (by simp; omega), List.getElem_set_self, List.take_set_of_le (Nat.le_refl _)]
  · rw [List.drop_set_of_lt (by omega), ← List.drop_drop, ← List.drop_drop, h2]
theorem drop_atRg {e d : List Rg} {j : Nat} (he : e.length = d.length) (h : e.drop j = d.drop j) (hj : j < d.length) : gRg e j = gRg d j := by
  rw [gRg_eq (by omega), gRg_eq hj]
  have h1 : (e.drop j)[0]'(by simp; omega) = (d.drop j)[0]'(by simp; omega) := by simp [h]
  simpa using h1
set_option maxHeartbeats 2000000 in
set_option maxRecDepth 100000 in
theorem deleteRg (v : Value) (n : Nat) (d : List Rg) (g : FuncId) (lb : Array Value) (p : Rg → Bool) (w : World) (base : Nat) (hd : d.length = n) (hn : n ≤ 1000000) (hown : w.ownsRow base 35 5 v n (flatRg d)) (hp : PredRg g lb v.ownBlock w p) :
    Calls Tryz.prog 91 #[v, .func (.func g) #[] lb] w fun e w' => ∃ v', e = .returned v' ∧ w'.ownsRow base 35 5 v' (d.filter (fun x => !p x)).length (flatRg (d.filter (fun x => !p x))) ∧ w.grownBy w' v.ownBlock := by
  by_cases ha : d.any p = true
  · obtain ⟨q, hq, h1, h2⟩ := firstHitRg ha
    obtain ⟨g0, c0, rfl, hnc, hcm, hgb, hgl⟩ := own_at hown (by omega)
    unfold maxLen at hcm
    obtain ⟨i0, hi0, hz0, hz1, hz2⟩ := info_parts infoRg
    have hqn : q < n := by omega
    have hcf := hp.run
    have hS := Sl.of_own hown
    have HP := Lib.hid hp
    have hpos : ((q : Int) == -1) = false := beq_eq_false_iff_ne.2 (by omega)
    have hst : (d.take (q + 1)).filter (fun x => !p x) = d.take q := by
      rw [filt_nextRg hq, filt_allRg q (by omega) h1, if_pos h2, List.append_nil]
    have HST := Lib.hid hst
    have HD := Lib.hid hd
    clear hp ha hst
    go_enter Tryz.func91, Tryz.ntmps91
    go_wp2_with fail
    refine (indexRg (some ⟨g0, 0, none⟩) n c0 d g lb _ p w HD.out hn hS HP.out q (by omega) h1 (fun _ => h2)).mono ?_
    rintro e w1 ⟨rfl, hB⟩
    rw [idxOf_yes hqn]
    have hown1 := hown.kept (grown_of_below (row := none) hB) (.inr (by simp [Value.ownBlock]))
    have hg1 : w.grownBy w1 (some g0) := grown_of_below hB
    clear hB hown hS h1 h2 hd
    go_wp2
    go_loopw [5, 6] (fun iv jv wr => ∃ (i j : Nat) (e : List Rg), iv = .int .i64 i ∧ jv = .int .i64 j ∧ i < j ∧ j ≤ n ∧ Hid (e.length = n) ∧ Hid (e.take i = (d.take j).filter (fun x => !p x)) ∧ Hid (e.drop j = d.drop j) ∧ wr.ownsRow base 35 5 (.slice (some ⟨g0, 0, none⟩) n c0) n (flatRg e) ∧ w.grownBy wr (some g0)) (fun _ jv _ => n - (intOf jv).toNat)
    case atStart => exact ⟨q, q + 1, d, rfl, by go_num, by omega, by omega, HD.out, HST.out.symm, rfl, hown1, hg1⟩
    case round =>
      clear hown1 hg1
      obtain ⟨i, j, e, rfl, rfl, hij, hjn, HE, HT, HR, hown, hg⟩ := hrel
      have hic : i < c0 := by omega
      by_cases hj : j < n
      · obtain ⟨c0, c1, c2, c3, c4⟩ := ownRg_at hown HE.out hj
        have hx0 : gRg e j = gRg d j := drop_atRg (by rw [HE.out, HD.out]) HR.out (by have := HD.out; omega)
        obtain ⟨x, hx⟩ : ∃ x, gRg d j = x := ⟨_, rfl⟩
        rw [hx0, hx] at c0 c1 c2 c3 c4
        have HX := Lib.hid hx
        clear hx hx0
        have hgw : g0 < wr.heap.size := by have := hg.size; omega
        go_wp2_with fail
        have hBa : Below wr.heap.size wr (wr.alloc (.cells #[.int .i64 x.fr, .int .i64 x.tn, .int .i64 x.st, .int .i64 x.en, .int .i64 x.ow] 35)) := (Below.refl _ _).alloc (Nat.le_refl _) _
        have hBlk := Blok.new wr 35 #[.int .i64 x.fr, .int .i64 x.tn, .int .i64 x.st, .int .i64 x.en, .int .i64 x.ow]
        have ht := (HP.out.next (grown_trans hg (grown_of_below (row := some g0) hBa))).tells _ (grown_refl _ _) x
        cases hpx : p x
        · have hgo := set_stepRg (p := p) HE.out HD.out hij hj HT.out HR.out (by rw [HX.out]; exact hpx)
          rw [HX.out] at hgo
          have HG := Lib.hid hgo
          rw [hpx] at ht
          have HPX := Lib.hid hpx
          clear hgo hpx
          refine ht.mono ?_
          rintro e1 w2 ⟨rfl, hb2⟩
          have hBlk2 := hBlk.below hb2 (by simp)
          have hb3 := hBa.trans (hb2.mono (by simp))
          have hown2 := hown.kept (grown_of_below (row := none) hb3) (.inr (by simp [Value.ownBlock]))
          have hg2 := grown_trans hg (grown_of_below (row := some g0) hb3)
          have b0 : w2.cell? ⟨wr.heap.size, 0, none⟩ = some (.int .i64 x.fr) := hBlk2.cell 0
          have b1 : w2.cell? ⟨wr.heap.size, 1, none⟩ = some (.int .i64 x.tn) := hBlk2.cell 1
          have b2 : w2.cell? ⟨wr.heap.size, 2, none⟩ = some (.int .i64 x.st) := hBlk2.cell 2
          have b3 : w2.cell? ⟨wr.heap.size, 3, none⟩ = some (.int .i64 x.en) := hBlk2.cell 3
          have b4 : w2.cell? ⟨wr.heap.size, 4, none⟩ = some (.int .i64 x.ow) := hBlk2.cell 4
          have z0 := hown2.frozenAt (i * 5)
          have z1 := hown2.frozenAt (i * 5 + 1)
          have z2 := hown2.frozenAt (i * 5 + 2)
          have z3 := hown2.frozenAt (i * 5 + 3)
          have z4 := hown2.frozenAt (i * 5 + 4)
          obtain ⟨hS1, hS2⟩ := ownRg_store hown2 i x
          clear ht hBlk hb2 hb3 hBa c0 c1 c2 c3 c4 hBlk2
          obtain ⟨o0, o1, o2, o3, o4⟩ := ownRg_at hown2 HE.out (k := i) (by omega)
          go_wp2
          go_roundw
          case rel => exact ⟨i + 1, j + 1, e.set i x, by go_num, by go_num, by omega, by omega, (Lib.hid (by have := HE.out; simpa using this)), HG.out.1, HG.out.2, hS1, grown_trans hg2 hS2⟩
          case measure => simp [intOf]; omega
        · rw [hpx] at ht
          have hfn : (d.take (j + 1)).filter (fun x => !p x) = (d.take j).filter (fun x => !p x) := by
            rw [filt_nextRg (by have := HD.out; omega), HX.out, if_pos hpx, List.append_nil]
          have HF := Lib.hid hfn
          clear hpx hfn
          refine ht.mono ?_
          rintro e1 w2 ⟨rfl, hb2⟩
          have hb3 := hBa.trans (hb2.mono (by simp))
          have hown2 := hown.kept (grown_of_below (row := none) hb3) (.inr (by simp [Value.ownBlock]))
          have hg2 := grown_trans hg (grown_of_below (row := some g0) hb3)
          have hdr : e.drop (j + 1) = d.drop (j + 1) := by
            rw [← List.drop_drop, ← List.drop_drop, HR.out]
          have HDR := Lib.hid hdr
          clear ht hBlk hb2 hb3 hBa c0 c1 c2 c3 c4 hdr
          go_wp2
          go_roundw
          case rel => exact ⟨i, j + 1, e, rfl, by go_num, by omega, by omega, HE.out, HT.out.trans HF.out.symm, HDR.out, hown2, hg2⟩
          case measure => simp [intOf]; omega
      · obtain rfl : j = n := by omega
        have hci : ¬ c0 = i := by omega
        have hiI : (i : Int) ≤ (j : Int) := by omega
        have hicI : (i : Int) ≤ (c0 : Int) := by omega
        have hfin : e.take i = d.filter (fun x => !p x) := by
          have := HT.out
          rw [List.take_of_length_le (l := d) (by have := HD.out; omega)] at this
          exact this
        have HFIN := Lib.hid hfin
        have hlen : (d.filter (fun x => !p x)).length = i := by
          rw [← hfin, List.length_take, HE.out]; omega
        have HLEN := Lib.hid hlen
        clear hfin hlen
        go_wp2_with (first
          | (with_reducible refine wpList_clear_own rfl (.tmp 38) 23 rfl base 35 i0 _ 5 Tryz.underlying23 hi0 hz0 rfl (by simp [Value.oneCell', Value.cells]) g0 j c0 i (flatRg e) hown (by omega) (some ⟨g0, i * 5, none⟩) (c0 - i) rfl (.inl (by rw [Addr.add_lit, Nat.zero_add])) ?_
             intro w2 ys hown2 htake hg2))
        go_ret
        refine ⟨_, rfl, ?_, grown_trans hg hg2⟩
        have hc := own_cut hown2 (m := i) (by omega)
        rw [htake, flatRg_take, HFIN.out] at hc
        rw [HLEN.out]
        exact hc
  · have ha' : d.any p = false := by simpa using ha
    obtain ⟨A, c, rfl⟩ := slice_of_own hown
    have hS := Sl.of_own hown
    have HP := Lib.hid hp
    have hcf := hp.run
    have hno : ((-1 : Int) == -1) = true := by simp
    have hfil : d.filter (fun x => !p x) = d := by
      have := filt_allRg (p := p) d.length (Nat.le_refl _) (fun j hj => noHitRg ha' hj)
      rw [List.take_length] at this
      exact this
    rw [hfil]
    have HD := Lib.hid hd
    clear hp ha hfil hd
    go_enter Tryz.func91, Tryz.ntmps91
    go_wp2_with fail
    refine (indexRg A n c d g lb _ p w HD.out hn hS HP.out n (Nat.le_refl _) (fun j hj => noHitRg ha' (by have := HD.out; omega)) (fun h => by omega)).mono ?_
    rintro e w1 ⟨rfl, hB⟩
    rw [idxOf_no (by omega : ¬ n < n)]
    go_wp2
    go_ret
    refine ⟨_, rfl, ?_, grown_of_below hB⟩
    rw [HD.out]
    exact hown.kept (grown_of_below (row := some w.heap.size) hB) (.inr (fun e => by have := (hown.lt _ e).2; omega))
/-- Lists, one behind the other. -/
def catRg (d : Nat → List Rg) : Nat → List Rg
  | 0 => []
  | k + 1 => catRg d k ++ d k
theorem catRg_le (d : Nat → List Rg) : ∀ {k m : Nat}, k ≤ m → (catRg d k).length ≤ (catRg d m).length
  | k, 0, h => by
    obtain rfl : k = 0 := by omega
    exact Nat.le_refl _
  | k, m + 1, h => by
    by_cases e : k = m + 1
    · subst e; exact Nat.le_refl _
    · have := catRg_le d (k := k) (m := m) (by omega)
      simp only [catRg, List.length_append]
      omega
set_option maxHeartbeats 1000000 in
set_option maxRecDepth 100000 in
theorem concatRg (gO m cO : Nat) (A : Nat → Option Addr) (n c : Nat → Nat) (d : Nat → List Rg) (w : World) (hm : m ≤ 1000) (hd : ∀ k, k < m → (d k).length = n k) (hn : (catRg d m).length ≤ 1000000) (hO : ∀ k, k < m → w.cell? ⟨gO, k, none⟩ = some (.slice (A k) (n k) (c k))) (h : ∀ k, k < m → Sl w w.heap.size 5 (A k) (n k) (c k) (flatRg (d k))) :
    Calls Tryz.prog 138 #[.slice (some ⟨gO, 0, none⟩) m cO] w fun e w' => ∃ v, e = .returned v ∧ w'.ownsRow w.heap.size 35 5 v (catRg d m).length (flatRg (catRg d m)) ∧ Below w.heap.size w w' := by
  obtain ⟨i0, hi0, hz0, hz1, hz2⟩ := info_parts infoRg
  have HO := Lib.hid hO
  have HD := Lib.hid hd
  clear hO hd
  go_enter Tryz.func138, Tryz.ntmps138
  go_wp2
  go_loop [3, 11] (fun s i => ∃ k : Nat, k ≤ m ∧ i = .int .i64 k ∧ s = .int .i64 (catRg d k).length) (fun _ i => m - (intOf i).toNat)
  case atStart => exact ⟨0, by omega, rfl, rfl⟩
  case round =>
    obtain ⟨k, hk, rfl, rfl⟩ := hrel
    have hle := catRg_le d hk
    by_cases hkm : k < m
    · have hle2 := catRg_le d (k := k + 1) (m := m) (by omega)
      have hO := HO.out k hkm
      have hlk : (catRg d (k + 1)).length = (catRg d k).length + n k := by simp only [catRg, List.length_append, HD.out k hkm]
      have HLK := Lib.hid hlk
      have hnk : n k ≤ 1000000 := by omega
      generalize hL : (catRg d k).length = L at *
      have HL := Lib.hid hL
      clear hlk hL
      go_wp2
      go_round
      case rel => exact ⟨k + 1, by omega, by go_num, by rw [HLK.out]; go_num⟩
      case measure => simp [intOf]; omega
    · obtain rfl : k = m := by omega
      generalize hL : (catRg d k).length = L at *
      have HL := Lib.hid hL
      clear hL
      go_wp2_with fail
      refine (growRg L w (by omega)).mono ?_
      rintro e w1 ⟨v, rfl, hown, hB⟩
      obtain ⟨A1, c1, rfl⟩ := slice_of_own hown
      go_wp2
      go_loopw [6, 27] (fun vv i wr => ∃ (q : Nat), q ≤ k ∧ i = .int .i64 q ∧ Below w.heap.size w wr ∧ wr.ownsRow w.heap.size 35 5 vv (catRg d q).length (flatRg (catRg d q))) (fun _ i _ => k - (intOf i).toNat)
      case atStart => exact ⟨0, by omega, rfl, hB, hown⟩
      case round =>
        clear hown hB
        rename Value => v0
        obtain ⟨q, hq, rfl, hB, hown⟩ := hrel
        have hle := catRg_le d hq
        by_cases hqk : q < k
        · have hO : _ := HO.out q hqk
          have hOw : ∀ wx, Below w.heap.size w wx → wx.cell? ⟨gO, q, none⟩ = some (.slice (A q) (n q) (c q)) := fun wx hb => by
            rw [hb.cell (World.block_lt_of_cell? w _ hO)]; exact hO
          have hOr := hOw _ hB
          have hle2 := catRg_le d (k := q + 1) (m := k) (by omega)
          have hlk : (catRg d (q + 1)).length = (catRg d q).length + n q := by simp only [catRg, List.length_append, HD.out q hqk]
          have hnq : (catRg d q).length + n q ≤ 1000000 := by have := HL.out; omega
          have HLK := Lib.hid hlk
          have hs := (h q hqk).below hB
          clear hlk hO hOw
          obtain ⟨A2, c2, rfl⟩ := slice_of_own hown
          have hob : ∀ g, (Value.slice A2 (catRg d q).length c2).ownBlock = some g → w.heap.size ≤ g := fun g hg => (hown.lt g hg).1
          have hsB := hB.size
          generalize hLq : (catRg d q).length = Lq at *
          generalize hNq : n q = Nq at *
          generalize hAq : A q = Aq at *
          generalize hcq : c q = cq at *
          have HAll := Lib.hid (And.intro hLq (And.intro hNq (And.intro hAq hcq)))
          clear hLq hNq hAq hcq
          go_wp2_with (first
            | (at_builtin
               refine wpList_append_lst _ rfl (.tmp 31) (.tmp 32) 23 rfl w.heap.size 35 i0 _ 5 40 Tryz.underlying23 hi0 hz0 hz1 hz2 rfl (by decide) (.slice A2 Lq c2) Lq (flatRg (catRg d q)) rfl hown w.heap.size Aq Nq cq (flatRg (d q)) rfl hs.lst (flatRg_one _) (by unfold maxLen; omega) (by omega) hsB ?_
               intro v4 w4 hown4 hg4 hat4))
          have hB4 : Below w.heap.size w w4 := Below.grown hB hg4 hsB hob
          have hown5 : w4.ownsRow w.heap.size 35 5 v4 (catRg d (q + 1)).length (flatRg (catRg d (q + 1))) := by
            rw [HLK.out]
            simp only [catRg, flatRg_append]
            exact hown4
          clear hown hown4 hg4 hat4 hOr hs hob hB
          go_wp2
          go_roundw
          case rel => exact ⟨q + 1, by omega, by go_num, hB4, hown5⟩
          case measure => simp [intOf]; omega
        · obtain rfl : q = k := by omega
          obtain ⟨A2, c2, rfl⟩ := slice_of_own hown
          go_wp2
          go_ret
          exact ⟨_, rfl, hown, hB⟩
/-- A function value that compares with t, as cf says, in whatever world that has grown from W. -/
structure CmpRg (g : FuncId) (lb : Array Value) (t : Rg) (W : World) (cf : Rg → Int) : Prop where
  run : ∀ vals w, (callFunc g vals).run Tryz.prog w = .ok (.enter g vals) w
  tells : ∀ w', Below W.heap.size W w' → ∀ x : Rg, Calls Tryz.prog g (#[.agg #[.int .i64 x.fr, .int .i64 x.tn, .int .i64 x.st, .int .i64 x.en, .int .i64 x.ow], .agg #[.int .i64 t.fr, .int .i64 t.tn, .int .i64 t.st, .int .i64 t.en, .int .i64 t.ow]] ++ lb) w' fun e w'' => e = .returned (.int .i64 (cf x)) ∧ Below w'.heap.size w' w''
set_option maxHeartbeats 1000000 in
set_option maxRecDepth 100000 in
theorem binaryRg (A : Option Addr) (n c : Nat) (d : List Rg) (t : Rg) (g : FuncId) (lb : Array Value) (cf : Rg → Int) (w : World) (hd : d.length = n) (hn : n ≤ 1000000) (h : Sl w w.heap.size 5 A n c (flatRg d)) (hp : CmpRg g lb t w cf) :
    Calls Tryz.prog 137 #[.slice A n c, .agg #[.int .i64 t.fr, .int .i64 t.tn, .int .i64 t.st, .int .i64 t.en, .int .i64 t.ow], .func (.func g) #[] lb] w fun e w' => ∃ (i : Nat) (b : Bool), e = .returned (.tuple #[.int .i64 i, .bool b]) ∧ i ≤ n ∧ (i = 0 ∨ cf (gRg d (i - 1)) < 0) ∧ (i = n ∨ 0 ≤ cf (gRg d i)) ∧ b = (decide (i < n) && cf (gRg d i) == 0) ∧ Below w.heap.size w w' := by
  have hcf := hp.run
  have HP := Lib.hid hp
  have HD := Lib.hid hd
  have hBa : Below w.heap.size w (w.alloc (.cells #[.int .i64 t.fr, .int .i64 t.tn, .int .i64 t.st, .int .i64 t.en, .int .i64 t.ow] 35)) := (Below.refl _ _).alloc (Nat.le_refl _) _
  have hX := Blok.new w 35 #[.int .i64 t.fr, .int .i64 t.tn, .int .i64 t.st, .int .i64 t.en, .int .i64 t.ow]
  clear hp hd
  go_enter Tryz.func137, Tryz.ntmps137
  go_wp2
  go_loopw [9, 10] (fun iv jv wr => ∃ i j : Nat, iv = .int .i64 i ∧ jv = .int .i64 j ∧ i ≤ j ∧ j ≤ n ∧ Hid (i = 0 ∨ cf (gRg d (i - 1)) < 0) ∧ Hid (j = n ∨ 0 ≤ cf (gRg d j)) ∧ Below w.heap.size w wr ∧ Blok wr w.heap.size 35 #[.int .i64 t.fr, .int .i64 t.tn, .int .i64 t.st, .int .i64 t.en, .int .i64 t.ow]) (fun iv jv _ => (intOf jv - intOf iv).toNat)
  case atStart => exact ⟨0, n, rfl, rfl, by omega, Nat.le_refl _, .inl rfl, .inl rfl, hBa, hX⟩
  case round =>
    clear hBa hX
    obtain ⟨i, j, rfl, rfl, hij, hjn, HI, HJ, hB, hX⟩ := hrel
    have hs := hB.size
    have t0 : wr.cell? ⟨w.heap.size, 0, none⟩ = some (.int .i64 t.fr) := hX.cell 0
    have t1 : wr.cell? ⟨w.heap.size, 1, none⟩ = some (.int .i64 t.tn) := hX.cell 1
    have t2 : wr.cell? ⟨w.heap.size, 2, none⟩ = some (.int .i64 t.st) := hX.cell 2
    have t3 : wr.cell? ⟨w.heap.size, 3, none⟩ = some (.int .i64 t.en) := hX.cell 3
    have t4 : wr.cell? ⟨w.heap.size, 4, none⟩ = some (.int .i64 t.ow) := hX.cell 4
    by_cases hlt : i < j
    · obtain ⟨m, hm⟩ : ∃ m : Nat, (i + j) / 2 = m := ⟨_, rfl⟩
      have hmi : ((i : Int) + (j : Int)) / 2 = (m : Int) := by omega
      have hm1 : i ≤ m := by omega
      have hm2 : m < j := by omega
      have HM := Lib.hid hmi
      clear hm hmi
      go_wp2
      rw [HM.out]
      obtain ⟨ad, rfl, hab, c0, c1, c2, c3, c4⟩ := (h.below hB).lst.atRg HD.out (k := m) (by omega)
      obtain ⟨x, hx⟩ : ∃ x, gRg d m = x := ⟨_, rfl⟩
      rw [hx] at c0 c1 c2 c3 c4
      have HX := Lib.hid hx
      clear hx
      have hmn : m < n := by omega
      have ht := fun w' (hb : Below wr.heap.size wr w') => HP.out.tells w' (hB.trans (hb.mono hs)) x
      go_wp2_with fail
      have q_t0 := fun d os => cell_regrown t0 d os
      have q_t1 := fun d os => cell_regrown t1 d os
      have q_t2 := fun d os => cell_regrown t2 d os
      have q_t3 := fun d os => cell_regrown t3 d os
      have q_t4 := fun d os => cell_regrown t4 d os
      have q_c0 := fun d os => cell_regrown c0 d os
      have q_c1 := fun d os => cell_regrown c1 d os
      have q_c2 := fun d os => cell_regrown c2 d os
      have q_c3 := fun d os => cell_regrown c3 d os
      have q_c4 := fun d os => cell_regrown c4 d os
      by_cases hneg : cf x < 0
      · generalize hy : cf x = y at *
        have HT := Lib.hid ht
        have HY := Lib.hid hy
        clear ht hy
        try simp only [List.append]
        first | refine wp_region_text_below ?_ | refine wp_region_quiet_below (by kernel_rfl) (by kernel_rfl) ?_
        repeat (go_big_quiet_step ((with_reducible exact Calls.regrown_of (HT.out _ (below_regrown _ _ _)))))
        refine wpQuiet_nil ?_
        intro _ hqw
        obtain ⟨pq, hqw⟩ := hqw
        subst hqw
        clear q_t0 q_t1 q_t2 q_t3 q_t4 q_c0 q_c1 q_c2 q_c3 q_c4
        have hbel := below_regrown wr pq.d pq.os
        replace hB := hB.trans (hbel.mono hs)
        replace hX := hX.below hbel hX.lt
        clear hbel t0 t1 t2 t3 t4 c0 c1 c2 c3 c4
        generalize grow (redrawn wr pq.d) pq.os = wq at *
        go_wp2
        go_roundw
        case rel => exact ⟨m + 1, j, by go_num, rfl, by omega, by omega, (.inr (by rw [Nat.add_sub_cancel, HX.out, HY.out]; exact hneg)), HJ, hB, hX⟩
        case measure => simp [intOf]; omega
      · generalize hy : cf x = y at *
        have HT := Lib.hid ht
        have HY := Lib.hid hy
        clear ht hy
        try simp only [List.append]
        first | refine wp_region_text_below ?_ | refine wp_region_quiet_below (by kernel_rfl) (by kernel_rfl) ?_
        repeat (go_big_quiet_step ((with_reducible exact Calls.regrown_of (HT.out _ (below_regrown _ _ _)))))
        refine wpQuiet_nil ?_
        intro _ hqw
        obtain ⟨pq, hqw⟩ := hqw
        subst hqw
        clear q_t0 q_t1 q_t2 q_t3 q_t4 q_c0 q_c1 q_c2 q_c3 q_c4
        have hbel := below_regrown wr pq.d pq.os
        replace hB := hB.trans (hbel.mono hs)
        replace hX := hX.below hbel hX.lt
        clear hbel t0 t1 t2 t3 t4 c0 c1 c2 c3 c4
        generalize grow (redrawn wr pq.d) pq.os = wq at *
        go_wp2
        go_roundw
        case rel => exact ⟨i, m, rfl, rfl, by omega, by omega, HI, (.inr (by rw [HX.out, HY.out]; omega)), hB, hX⟩
        case measure => simp [intOf]; omega
    · obtain rfl : i = j := by omega
      by_cases hin : i < n
      · obtain ⟨ad, rfl, hab, c0, c1, c2, c3, c4⟩ := (h.below hB).lst.atRg HD.out (k := i) (by omega)
        obtain ⟨x, hx⟩ : ∃ x, gRg d i = x := ⟨_, rfl⟩
        rw [hx] at c0 c1 c2 c3 c4
        have HX := Lib.hid hx
        clear hx
        have hini : (i : Int) < (n : Int) := by omega
        have ht := fun w' (hb : Below wr.heap.size wr w') => HP.out.tells w' (hB.trans (hb.mono hs)) x
        go_wp2
        have q_t0 := fun d os => cell_regrown t0 d os
        have q_t1 := fun d os => cell_regrown t1 d os
        have q_t2 := fun d os => cell_regrown t2 d os
        have q_t3 := fun d os => cell_regrown t3 d os
        have q_t4 := fun d os => cell_regrown t4 d os
        have q_c0 := fun d os => cell_regrown c0 d os
        have q_c1 := fun d os => cell_regrown c1 d os
        have q_c2 := fun d os => cell_regrown c2 d os
        have q_c3 := fun d os => cell_regrown c3 d os
        have q_c4 := fun d os => cell_regrown c4 d os
        generalize hy : cf x = y at *
        have HT := Lib.hid ht
        have HY := Lib.hid hy
        clear ht hy
        try simp only [List.append]
        first | refine wp_region_text_below ?_ | refine wp_region_quiet_below (by kernel_rfl) (by kernel_rfl) ?_
        repeat (go_big_quiet_step ((with_reducible exact Calls.regrown_of (HT.out _ (below_regrown _ _ _)))))
        refine wpQuiet_nil ?_
        intro _ hqw
        obtain ⟨pq, hqw⟩ := hqw
        subst hqw
        clear q_t0 q_t1 q_t2 q_t3 q_t4 q_c0 q_c1 q_c2 q_c3 q_c4
        have hbel := below_regrown wr pq.d pq.os
        replace hB := hB.trans (hbel.mono hs)
        replace hX := hX.below hbel hX.lt
        clear hbel t0 t1 t2 t3 t4 c0 c1 c2 c3 c4
        generalize grow (redrawn wr pq.d) pq.os = wq at *
        go_wp2
        go_ret2
        refine ⟨i, (y == 0), rfl, hjn, HI.out, HJ.out, ?_, hB⟩
        rw [HX.out, HY.out, decide_eq_true hin]; simp
      · have hdn : decide ((i : Int) < (n : Int)) = false := by simp; omega
        go_wp2
        try simp only [List.append]
        first | refine wp_region_text_below ?_ | refine wp_region_quiet_below (by kernel_rfl) (by kernel_rfl) ?_
        repeat (go_big_quiet_step ((fail)))
        refine wpQuiet_nil ?_
        intro _ hqw
        obtain ⟨pq, hqw⟩ := hqw
        subst hqw
        have hbel := below_regrown wr pq.d pq.os
        replace hB := hB.trans (hbel.mono hs)
        clear hbel t0 t1 t2 t3 t4
        generalize grow (redrawn wr pq.d) pq.os = wq at *
        go_wp2
        go_ret2
        refine ⟨i, false, rfl, hjn, HI.out, HJ.out, ?_, hB⟩
        rw [decide_eq_false hin]; simp
end Go.Proofs.YtolaabllhibkdaaGreat

/- api.Contact: its cells, lists of it. No condition. -/
namespace Go.Proofs.YtolaabllhibkdaaGreat
open Go.ChangeShapes Go.WideShapes Go.ChangeAt Go.RowKit Go.Sort
set_option linter.unusedSimpArgs false
set_option linter.unusedVariables false
structure Co where
  id : Int
  fr : Int
  tn : Int
  st : Int
  en : Int
  rt : Int
theorem Co.ext_ {a b : Co} (h0 : a.id = b.id) (h1 : a.fr = b.fr) (h2 : a.tn = b.tn) (h3 : a.st = b.st) (h4 : a.en = b.en) (h5 : a.rt = b.rt) : a = b := by cases a; cases b; simp_all
instance : DecidableEq Co := fun a b => if h : a.id = b.id ∧ a.fr = b.fr ∧ a.tn = b.tn ∧ a.st = b.st ∧ a.en = b.en ∧ a.rt = b.rt then isTrue (Co.ext_ h.1 h.2.1 h.2.2.1 h.2.2.2.1 h.2.2.2.2.1 h.2.2.2.2.2) else isFalse (by rintro rfl; simp at h)
def Co.cs (r : Co) : List Value := [.int .i64 r.id, .int .i64 r.fr, .int .i64 r.tn, .int .i64 r.st, .int .i64 r.en, .int .i64 r.rt]
def flatCo (d : List Co) : List Value := d.flatMap Co.cs
def gCo (d : List Co) (i : Nat) : Co := d.getD i ⟨0, 0, 0, 0, 0, 0⟩
theorem flatCo_cons (p : Co) (d : List Co) : flatCo (p :: d) = .int .i64 p.id :: .int .i64 p.fr :: .int .i64 p.tn :: .int .i64 p.st :: .int .i64 p.en :: .int .i64 p.rt :: flatCo d := rfl
theorem flatCo_length (d : List Co) : (flatCo d).length = d.length * 6 := by
  induction d with
  | nil => rfl
  | cons p d ih => rw [flatCo_cons]; simp only [List.length_cons, ih]; omega
theorem flatCo_append (d e : List Co) : flatCo (d ++ e) = flatCo d ++ flatCo e := by simp [flatCo]
theorem flatCo_at0 : ∀ (d : List Co) (i : Nat), i < d.length → (flatCo d)[i * 6]? = some (.int .i64 (gCo d i).id)
  | p :: d, 0, _ => rfl
  | p :: d, i + 1, h => by
    rw [flatCo_cons, show (i + 1) * 6 = i * 6 + 1 + 1 + 1 + 1 + 1 + 1 from by omega]
    simp only [List.getElem?_cons_succ]
    exact flatCo_at0 d i (by simpa using h)
theorem flatCo_at1 : ∀ (d : List Co) (i : Nat), i < d.length → (flatCo d)[i * 6 + 1]? = some (.int .i64 (gCo d i).fr)
  | p :: d, 0, _ => rfl
  | p :: d, i + 1, h => by
    rw [flatCo_cons, show (i + 1) * 6 + 1 = i * 6 + 1 + 1 + 1 + 1 + 1 + 1 + 1 from by omega]
    simp only [List.getElem?_cons_succ]
    exact flatCo_at1 d i (by simpa using h)
theorem flatCo_at2 : ∀ (d : List Co) (i : Nat), i < d.length → (flatCo d)[i * 6 + 2]? = some (.int .i64 (gCo d i).tn)
  | p :: d, 0, _ => rfl
  | p :: d, i + 1, h => by
    rw [flatCo_cons, show (i + 1) * 6 + 2 = i * 6 + 2 + 1 + 1 + 1 + 1 + 1 + 1 from by omega]
    simp only [List.getElem?_cons_succ]
    exact flatCo_at2 d i (by simpa using h)
theorem flatCo_at3 : ∀ (d : List Co) (i : Nat), i < d.length → (flatCo d)[i * 6 + 3]? = some (.int .i64 (gCo d i).st)
  | p :: d, 0, _ => rfl
  | p :: d, i + 1, h => by
    rw [flatCo_cons, show (i + 1) * 6 + 3 = i * 6 + 3 + 1 + 1 + 1 + 1 + 1 + 1 from by omega]
    simp only [List.getElem?_cons_succ]
    exact flatCo_at3 d i (by simpa using h)
theorem flatCo_at4 : ∀ (d : List Co) (i : Nat), i < d.length → (flatCo d)[i * 6 + 4]? = some (.int .i64 (gCo d i).en)
  | p :: d, 0, _ => rfl
  | p :: d, i + 1, h => by
    rw [flatCo_cons, show (i + 1) * 6 + 4 = i * 6 + 4 + 1 + 1 + 1 + 1 + 1 + 1 from by omega]
    simp only [List.getElem?_cons_succ]
    exact flatCo_at4 d i (by simpa using h)
theorem flatCo_at5 : ∀ (d : List Co) (i : Nat), i < d.length → (flatCo d)[i * 6 + 5]? = some (.int .i64 (gCo d i).rt)
  | p :: d, 0, _ => rfl
  | p :: d, i + 1, h => by
    rw [flatCo_cons, show (i + 1) * 6 + 5 = i * 6 + 5 + 1 + 1 + 1 + 1 + 1 + 1 from by omega]
    simp only [List.getElem?_cons_succ]
    exact flatCo_at5 d i (by simpa using h)
theorem flatCo_set : ∀ (d : List Co) (i : Nat) (p : Co), (((((((flatCo d).set (i * 6) (.int .i64 p.id)).set (i * 6 + 1) (.int .i64 p.fr)).set (i * 6 + 2) (.int .i64 p.tn)).set (i * 6 + 3) (.int .i64 p.st)).set (i * 6 + 4) (.int .i64 p.en)).set (i * 6 + 5) (.int .i64 p.rt)) = flatCo (d.set i p)
  | [], i, p => by simp [flatCo]
  | q :: d, 0, p => rfl
  | q :: d, i + 1, p => by
    rw [flatCo_cons]
    rw [show (i + 1) * 6 = i * 6 + 1 + 1 + 1 + 1 + 1 + 1 from by omega]
    rw [show i * 6 + 1 + 1 + 1 + 1 + 1 + 1 + 1 = i * 6 + 1 + 1 + 1 + 1 + 1 + 1 + 1 from by omega]
    rw [show i * 6 + 1 + 1 + 1 + 1 + 1 + 1 + 2 = i * 6 + 2 + 1 + 1 + 1 + 1 + 1 + 1 from by omega]
    rw [show i * 6 + 1 + 1 + 1 + 1 + 1 + 1 + 3 = i * 6 + 3 + 1 + 1 + 1 + 1 + 1 + 1 from by omega]
    rw [show i * 6 + 1 + 1 + 1 + 1 + 1 + 1 + 4 = i * 6 + 4 + 1 + 1 + 1 + 1 + 1 + 1 from by omega]
    rw [show i * 6 + 1 + 1 + 1 + 1 + 1 + 1 + 5 = i * 6 + 5 + 1 + 1 + 1 + 1 + 1 + 1 from by omega]
    simp only [List.set_cons_succ]
    rw [flatCo_set d i p]
    rfl
theorem flatCo_take : ∀ (d : List Co) (n : Nat), (flatCo d).take (n * 6) = flatCo (d.take n)
  | _, 0 => by simp [flatCo]
  | [], n + 1 => by simp [flatCo]
  | p :: d, n + 1 => by
    rw [flatCo_cons, show (n + 1) * 6 = n * 6 + 1 + 1 + 1 + 1 + 1 + 1 from by omega]
    simp only [List.take_succ_cons]
    rw [flatCo_take d n]
    rfl
theorem flatCo_drop : ∀ (d : List Co) (n : Nat), (flatCo d).drop (n * 6) = flatCo (d.drop n)
  | _, 0 => by simp
  | [], n + 1 => by simp [flatCo]
  | p :: d, n + 1 => by
    rw [flatCo_cons, show (n + 1) * 6 = n * 6 + 1 + 1 + 1 + 1 + 1 + 1 from by omega]
    simp only [List.drop_succ_cons]
    rw [flatCo_drop d n]
theorem flatCo_one : ∀ (l : List Co), ∀ u ∈ flatCo l, u.oneCell' = true
  | [], u, h => by simp [flatCo] at h
  | p :: l, u, h => by
    rw [flatCo_cons] at h
    simp only [List.mem_cons] at h
    rcases h with rfl | rfl | rfl | rfl | rfl | rfl | h
    all_goals first | rfl | exact flatCo_one l u h
theorem rowsCo_of : ∀ (n : Nat) (ns : List Int), ns.length = n * 6 → ∃ d : List Co, d.length = n ∧ ns.map (Value.int .i64) = flatCo d
  | 0, [], _ => ⟨[], rfl, rfl⟩
  | 0, _ :: _, h => by simp at h
  | n + 1, a0 :: a1 :: a2 :: a3 :: a4 :: a5 :: ns, h => by
    obtain ⟨d, h1, h2⟩ := rowsCo_of n ns (by simp at h; omega)
    exact ⟨⟨a0, a1, a2, a3, a4, a5⟩ :: d, by simp [h1], by simp [flatCo_cons, h2]⟩
  | n + 1, [], h => by simp at h <;> omega
  | n + 1, [_], h => by simp at h <;> omega
  | n + 1, [_, _], h => by simp at h <;> omega
  | n + 1, [_, _, _], h => by simp at h <;> omega
  | n + 1, [_, _, _, _], h => by simp at h <;> omega
  | n + 1, [_, _, _, _, _], h => by simp at h <;> omega

theorem Lst.atCo {w : World} {B : Nat} {A : Option Addr} {n : Nat} {l : List Co} (h : Lst w B 6 A n (flatCo l)) (hl : l.length = n) {k : Nat} (hk : k < n) : ∃ ad, A = some ad ∧ ad.block < B ∧ w.cell? (ad.add (k * 6)) = some (.int .i64 (gCo l k).id) ∧ w.cell? ⟨(ad.add (k * 6)).block, (ad.add (k * 6)).off + 1, none⟩ = some (.int .i64 (gCo l k).fr) ∧ w.cell? ⟨(ad.add (k * 6)).block, (ad.add (k * 6)).off + 2, none⟩ = some (.int .i64 (gCo l k).tn) ∧ w.cell? ⟨(ad.add (k * 6)).block, (ad.add (k * 6)).off + 3, none⟩ = some (.int .i64 (gCo l k).st) ∧ w.cell? ⟨(ad.add (k * 6)).block, (ad.add (k * 6)).off + 4, none⟩ = some (.int .i64 (gCo l k).en) ∧ w.cell? ⟨(ad.add (k * 6)).block, (ad.add (k * 6)).off + 5, none⟩ = some (.int .i64 (gCo l k).rt) := by
  obtain ⟨ad, e, hb, hc⟩ := h.at_ (by omega)
  exact ⟨ad, e, hb, hc _ _ (flatCo_at0 l k (by omega)), by rw [addr_next _ _ _ (by omega)]; exact hc _ _ (flatCo_at1 l k (by omega)), by rw [addr_next _ _ _ (by omega)]; exact hc _ _ (flatCo_at2 l k (by omega)), by rw [addr_next _ _ _ (by omega)]; exact hc _ _ (flatCo_at3 l k (by omega)), by rw [addr_next _ _ _ (by omega)]; exact hc _ _ (flatCo_at4 l k (by omega)), by rw [addr_next _ _ _ (by omega)]; exact hc _ _ (flatCo_at5 l k (by omega))⟩
theorem ownCo_at {w : World} {base : Nat} {t : TypeId} {g n c : Nat} {d : List Co} (h : w.ownsRow base t 6 (.slice (some ⟨g, 0, none⟩) n c) n (flatCo d)) (hd : d.length = n) {k : Nat} (hk : k < n) : w.cell? ⟨g, k * 6, none⟩ = some (.int .i64 (gCo d k).id) ∧ w.cell? ⟨g, k * 6 + 1, none⟩ = some (.int .i64 (gCo d k).fr) ∧ w.cell? ⟨g, k * 6 + 2, none⟩ = some (.int .i64 (gCo d k).tn) ∧ w.cell? ⟨g, k * 6 + 3, none⟩ = some (.int .i64 (gCo d k).st) ∧ w.cell? ⟨g, k * 6 + 4, none⟩ = some (.int .i64 (gCo d k).en) ∧ w.cell? ⟨g, k * 6 + 5, none⟩ = some (.int .i64 (gCo d k).rt) :=
  ⟨(h.cellAt (k * 6) (by omega)).trans (flatCo_at0 d k (by omega)), (h.cellAt (k * 6 + 1) (by omega)).trans (flatCo_at1 d k (by omega)), (h.cellAt (k * 6 + 2) (by omega)).trans (flatCo_at2 d k (by omega)), (h.cellAt (k * 6 + 3) (by omega)).trans (flatCo_at3 d k (by omega)), (h.cellAt (k * 6 + 4) (by omega)).trans (flatCo_at4 d k (by omega)), (h.cellAt (k * 6 + 5) (by omega)).trans (flatCo_at5 d k (by omega))⟩
theorem ownCo_store {w : World} {base : Nat} {t : TypeId} {g n c : Nat} {d : List Co} (h : w.ownsRow base t 6 (.slice (some ⟨g, 0, none⟩) n c) n (flatCo d)) (i : Nat) (p : Co) : ((((((w.setCell ⟨g, i * 6, none⟩ (.int .i64 p.id)).setCell ⟨g, i * 6 + 1, none⟩ (.int .i64 p.fr)).setCell ⟨g, i * 6 + 2, none⟩ (.int .i64 p.tn)).setCell ⟨g, i * 6 + 3, none⟩ (.int .i64 p.st)).setCell ⟨g, i * 6 + 4, none⟩ (.int .i64 p.en)).setCell ⟨g, i * 6 + 5, none⟩ (.int .i64 p.rt)).ownsRow base t 6 (.slice (some ⟨g, 0, none⟩) n c) n (flatCo (d.set i p)) ∧ w.grownBy ((((((w.setCell ⟨g, i * 6, none⟩ (.int .i64 p.id)).setCell ⟨g, i * 6 + 1, none⟩ (.int .i64 p.fr)).setCell ⟨g, i * 6 + 2, none⟩ (.int .i64 p.tn)).setCell ⟨g, i * 6 + 3, none⟩ (.int .i64 p.st)).setCell ⟨g, i * 6 + 4, none⟩ (.int .i64 p.en)).setCell ⟨g, i * 6 + 5, none⟩ (.int .i64 p.rt)) (some g) := by
  obtain ⟨r0, g0⟩ := h.stored (i * 6) (.int .i64 p.id)
  obtain ⟨r1, g1⟩ := r0.stored (i * 6 + 1) (.int .i64 p.fr)
  obtain ⟨r2, g2⟩ := r1.stored (i * 6 + 2) (.int .i64 p.tn)
  obtain ⟨r3, g3⟩ := r2.stored (i * 6 + 3) (.int .i64 p.st)
  obtain ⟨r4, g4⟩ := r3.stored (i * 6 + 4) (.int .i64 p.en)
  obtain ⟨r5, g5⟩ := r4.stored (i * 6 + 5) (.int .i64 p.rt)
  rw [flatCo_set] at r5
  exact ⟨r5, grown_trans (grown_trans (grown_trans (grown_trans (grown_trans (g0) g1) g2) g3) g4) g5⟩
theorem gCo_mem {d : List Co} {i : Nat} (h : i < d.length) : gCo d i ∈ d := by
  unfold gCo; rw [List.getD_eq_getElem?_getD, List.getElem?_eq_getElem h]; simp
theorem gCo_eq {d : List Co} {i : Nat} (h : i < d.length) : gCo d i = d[i] := by
  unfold gCo; rw [List.getD_eq_getElem?_getD, List.getElem?_eq_getElem h]; rfl
theorem take_nextCo {l : List Co} {k : Nat} (h : k < l.length) : l.take (k + 1) = l.take k ++ [gCo l k] := by
  rw [List.take_succ_eq_append_getElem h, gCo_eq h]
theorem extCo {a b : List Co} (hl : a.length = b.length) (h : ∀ i, i < a.length → gCo a i = gCo b i) : a = b := by
  refine List.ext_getElem hl fun i h1 h2 => ?_
  have := h i h1
  rw [gCo_eq h1, gCo_eq h2] at this
  exact this
theorem eqlCo (a b : Co) (w : World) : (binOp .eql 33 (.agg #[.int .i64 a.id, .int .i64 a.fr, .int .i64 a.tn, .int .i64 a.st, .int .i64 a.en, .int .i64 a.rt]) (.agg #[.int .i64 b.id, .int .i64 b.fr, .int .i64 b.tn, .int .i64 b.st, .int .i64 b.en, .int .i64 b.rt])).run Tryz.prog w = .ok (.bool (decide (a = b))) w := by
  have u3 := Tryz.underlying3
  have a3 := Tryz.isAgg3
  have z3 := Tryz.sizeOf3
  have hS : Tryz.prog.underlying 33 = some (.struct (Tryz.prog.fieldsOf 33)) := by kernel_rfl
  have hp : Tryz.prog.stoodInHeld 33 = false := by kernel_rfl
  rw [run_eql_struct, show (10000 : Nat) = 9999 + 1 from rfl, run_equalIn_agg w 9999 33 _ _ hS hp]
  simp only [Program.fieldsOf, Tryz.underlying33]
  go_simp
  by_cases hab : a = b
  · subst hab; simp
  · simp only [hab, decide_false]
    have hx : ¬ (a.id = b.id ∧ a.fr = b.fr ∧ a.tn = b.tn ∧ a.st = b.st ∧ a.en = b.en ∧ a.rt = b.rt) := fun h => hab (Co.ext_ h.1 h.2.1 h.2.2.1 h.2.2.2.1 h.2.2.2.2.1 h.2.2.2.2.2)
    by_cases h0 : a.id = b.id <;> by_cases h1 : a.fr = b.fr <;> by_cases h2 : a.tn = b.tn <;> by_cases h3 : a.st = b.st <;> by_cases h4 : a.en = b.en <;> by_cases h5 : a.rt = b.rt
    all_goals simp_all
theorem neqCo (a b : Co) (w : World) : (binOp .neq 33 (.agg #[.int .i64 a.id, .int .i64 a.fr, .int .i64 a.tn, .int .i64 a.st, .int .i64 a.en, .int .i64 a.rt]) (.agg #[.int .i64 b.id, .int .i64 b.fr, .int .i64 b.tn, .int .i64 b.st, .int .i64 b.en, .int .i64 b.rt])).run Tryz.prog w = .ok (.bool (!decide (a = b))) w := by
  have u3 := Tryz.underlying3
  have a3 := Tryz.isAgg3
  have z3 := Tryz.sizeOf3
  have hS : Tryz.prog.underlying 33 = some (.struct (Tryz.prog.fieldsOf 33)) := by kernel_rfl
  have hp : Tryz.prog.stoodInHeld 33 = false := by kernel_rfl
  rw [run_neq_struct, show (10000 : Nat) = 9999 + 1 from rfl, run_equalIn_agg w 9999 33 _ _ hS hp]
  simp only [Program.fieldsOf, Tryz.underlying33]
  go_simp
  by_cases hab : a = b
  · subst hab; simp
  · simp only [hab, decide_false]
    have hx : ¬ (a.id = b.id ∧ a.fr = b.fr ∧ a.tn = b.tn ∧ a.st = b.st ∧ a.en = b.en ∧ a.rt = b.rt) := fun h => hab (Co.ext_ h.1 h.2.1 h.2.2.1 h.2.2.2.1 h.2.2.2.2.1 h.2.2.2.2.2)
    by_cases h0 : a.id = b.id <;> by_cases h1 : a.fr = b.fr <;> by_cases h2 : a.tn = b.tn <;> by_cases h3 : a.st = b.st <;> by_cases h4 : a.en = b.en <;> by_cases h5 : a.rt = b.rt
    all_goals simp_all
theorem infoCo : (Tryz.prog.info? 33).map (fun i => (i.zero, i.size, i.bytes)) = some (some (.agg #[.int .i64 0, .int .i64 0, .int .i64 0, .int .i64 0, .int .i64 0, .int .i64 0]), 6, 48) := by kernel_rfl
end Go.Proofs.YtolaabllhibkdaaGreat
