/- Blocks and rows of memory: a block known whole, a row of pairs of ints that the call owns. No condition. -/
import Derived.Test.YtbhhkaaidhapbaaLib
namespace Go.Proofs.Ytbhhkaaidhapbaa
open Go.ChangeShapes Go.WideShapes Go.ChangeAt Go.RowKit Go.Sort
set_option linter.unusedSimpArgs false
set_option linter.unusedVariables false

/-- Block g holds just these cells. -/
def Blok (w : World) (g : Nat) (t : TypeId) (cs : Array Value) : Prop := w.heap[g]? = some (.cells cs t (0, 0))
section
variable {w w' : World} {g : Nat} {t : TypeId} {cs : Array Value}
theorem Blok.lt (h : Blok w g t cs) : g < w.heap.size := lt_of_block h
theorem Blok.cell (h : Blok w g t cs) (i : Nat) : w.cell? ⟨g, i, none⟩ = cs[i]? := cell_of_row w g i cs t (0, 0) h
theorem Blok.free (h : Blok w g t cs) (i : Nat) : w.frozen? ⟨g, i, none⟩ = false := by
  unfold Blok at h; simp [World.frozen?, h]
theorem Blok.grown {row : Option Nat} (h : Blok w g t cs) (hb : w.grownBy w' row) (hg : some g ≠ row) : Blok w' g t cs := (hb.block g h.lt hg).trans h
theorem Blok.below {B : Nat} (h : Blok w g t cs) (hb : Below B w w') (hg : g < B) : Blok w' g t cs := (hb.block g hg).trans h
theorem Blok.ne_own {base : Nat} {e : TypeId} {size n : Nat} {v : Value} {xs : List Value} (h : w.ownsRow base e size v n xs) (hg : Blok w g t cs) (hne : e ≠ t) : v.ownBlock ≠ some g := by
  rcases h.2 with ⟨rfl, _⟩ | ⟨g', cap, cur, rfl, _, hh, _⟩
  · simp [Value.ownBlock]
  · intro he
    have : g' = g := by simpa [Value.ownBlock] using he
    subst this
    unfold Blok at hg
    rw [hg] at hh
    injection hh with hh
    injection hh with _ ht
    exact hne ht.symm
theorem Blok.over {W : World} {row : Option Nat} (h : Blok w g t cs) (hg : W.grownBy w' row) (hr : row ≠ some g) (hb : Below w.heap.size w W) : Blok w' g t cs := (h.below hb h.lt).grown hg (fun e => hr e.symm)
theorem grown_of_below {row : Option Nat} (hb : Below w.heap.size w w') : w.grownBy w' row := ⟨hb.os, hb.tape, hb.output, hb.size, fun k hk _ => hb.block k hk⟩
theorem grown_refl (w : World) (row : Option Nat) : w.grownBy w row := ⟨rfl, rfl, rfl, Nat.le_refl _, fun _ _ _ => rfl⟩
theorem grown_trans {w'' : World} {row : Option Nat} (h : w.grownBy w' row) (k : w'.grownBy w'' row) : w.grownBy w'' row :=
  ⟨k.os.trans h.os, k.tape.trans h.tape, k.output.trans h.output, Nat.le_trans h.size k.size, fun i hi hr => (k.block i (Nat.lt_of_lt_of_le hi h.size) hr).trans (h.block i hi hr)⟩
theorem grown_drew {row : Option Nat} (h : w.grownBy w' row) : w.grownBy w'.drew row := ⟨h.os, h.tape, h.output, h.size, h.block⟩
theorem grown_set {g : Nat} (w : World) (i : Nat) (u : Value) : w.grownBy (w.setCell ⟨g, i, none⟩ u) (some g) :=
  ⟨rfl, rfl, rfl, by simp, fun k _ hne => Below.heap_setCell w ⟨g, i, none⟩ u k (fun e => hne (by simp at e; rw [e]))⟩
end
theorem slice_of_own {w : World} {base : Nat} {e : TypeId} {size n : Nat} {v : Value} {xs : List Value} (h : w.ownsRow base e size v n xs) : ∃ A c, v = .slice A n c := by
  rcases h.2 with ⟨rfl, rfl⟩ | ⟨g', cap, cur, rfl, _, _, _⟩
  · exact ⟨_, _, rfl⟩
  · exact ⟨_, _, rfl⟩
theorem lit_cells (w : World) (cs : Array Value) (t : TypeId) (g : Nat) (hg : g = w.heap.size) : ∀ j u, cs.toList[j]? = some u → (w.alloc (.cells cs t)).cell? ((⟨g, 0, none⟩ : Addr).add j) = some u := by
  intro j u hj
  subst hg
  have e : ((⟨w.heap.size, 0, none⟩ : Addr).add j) = ⟨w.heap.size, j, none⟩ := by
    unfold Addr.add; split <;> simp_all
  rw [e]
  rw [cell_of_block (cs := cs) (t := t) (fr := (0, 0)) (by show (w.heap.push _)[w.heap.size]? = _; simp)]
  simpa using hj
/-- Pairs of ints, as the cells hold them. -/
def flat2 (d : List (Int × Int)) : List Value := d.flatMap fun p => [.int .i64 p.1, .int .i64 p.2]
theorem flat2_length (d : List (Int × Int)) : (flat2 d).length = d.length * 2 := by
  induction d with
  | nil => rfl
  | cons p d ih => simp [flat2] at ih ⊢; omega
theorem flat2_cons (p : Int × Int) (d : List (Int × Int)) : flat2 (p :: d) = .int .i64 p.1 :: .int .i64 p.2 :: flat2 d := rfl
theorem flat2_append (d e : List (Int × Int)) : flat2 (d ++ e) = flat2 d ++ flat2 e := by simp [flat2]
theorem flat2_fst : ∀ (d : List (Int × Int)) (i : Nat), i < d.length → (flat2 d)[i * 2]? = some (.int .i64 (d.getD i (0, 0)).1)
  | p :: d, 0, _ => rfl
  | p :: d, i + 1, h => by
    rw [flat2_cons, show (i + 1) * 2 = i * 2 + 1 + 1 from by omega, List.getElem?_cons_succ, List.getElem?_cons_succ, flat2_fst d i (by simpa using h)]
    rfl
theorem flat2_snd : ∀ (d : List (Int × Int)) (i : Nat), i < d.length → (flat2 d)[i * 2 + 1]? = some (.int .i64 (d.getD i (0, 0)).2)
  | p :: d, 0, _ => rfl
  | p :: d, i + 1, h => by
    rw [flat2_cons, show (i + 1) * 2 + 1 = i * 2 + 1 + 1 + 1 from by omega, List.getElem?_cons_succ, List.getElem?_cons_succ, flat2_snd d i (by simpa using h)]
    rfl
theorem flat2_set : ∀ (d : List (Int × Int)) (i : Nat) (p : Int × Int), ((flat2 d).set (i * 2) (.int .i64 p.1)).set (i * 2 + 1) (.int .i64 p.2) = flat2 (d.set i p)
  | [], i, p => by simp [flat2]
  | q :: d, 0, p => rfl
  | q :: d, i + 1, p => by
    rw [flat2_cons, show (i + 1) * 2 = i * 2 + 1 + 1 from by omega, List.set_cons_succ, List.set_cons_succ, List.set_cons_succ, List.set_cons_succ, flat2_set d i p]
    rfl
theorem flat2_take : ∀ (d : List (Int × Int)) (n : Nat), (flat2 d).take (n * 2) = flat2 (d.take n)
  | _, 0 => by simp [flat2]
  | [], n + 1 => by simp [flat2]
  | p :: d, n + 1 => by
    rw [flat2_cons, show (n + 1) * 2 = n * 2 + 1 + 1 from by omega, List.take_succ_cons, List.take_succ_cons, flat2_take d n]
    rfl
end Go.Proofs.Ytbhhkaaidhapbaa
