/- An argument that is a slice of structs all of whose cells are ints, opened: its cells as one list of ints. No condition. -/
import Derived.Test.YtbhhkaaidhapbaaMem
import Derived.Deep.Slices
import Derived.Deep.Fields
namespace Go.Proofs.Ytbhhkaaidhapbaa
open Go.ChangeShapes Go.WideShapes Go.ChangeAt Go.RowKit Go.Sort
set_option linter.unusedSimpArgs false
set_option linter.unusedVariables false

theorem add_block (a : Addr) (n : Nat) : (a.add n).block = a.block := by unfold Addr.add; split <;> rfl
theorem add_zero_ (a : Addr) : a.add 0 = a := by unfold Addr.add; simp
theorem add_plus (a : Addr) (i j : Nat) : (a.add i).add j = a.add (i + j) := by
  unfold Addr.add
  by_cases hi : i = 0 <;> by_cases hj : j = 0 <;> simp [hi, hj, Nat.add_assoc]

/-- The slice at A of n elements of k cells each reads as these cells; it lies below block B. -/
structure Lst (w : World) (B k : Nat) (A : Option Addr) (n : Nat) (xs : List Value) : Prop where
  len : xs.length = n * k
  at_ : 0 < n → ∃ ad, A = some ad ∧ ad.block < B ∧ ∀ j u, xs[j]? = some u → w.cell? (ad.add j) = some u
section
variable {w w' : World} {B k n : Nat} {A : Option Addr} {xs : List Value}
theorem Lst.kept {S : Nat → Prop} (h : Lst w B k A n xs) (hk : ∀ i, i < B → w'.heap[i]? = w.heap[i]?) : Lst w' B k A n xs :=
  ⟨h.len, fun hn => by
    obtain ⟨ad, e, hb, hc⟩ := h.at_ hn
    exact ⟨ad, e, hb, fun j u hu => (World.cell?_of_block (by rw [add_block]; exact hk _ hb)).trans (hc j u hu)⟩⟩
theorem Lst.below (h : Lst w B k A n xs) (hb : Below B w w') : Lst w' B k A n xs := h.kept (S := fun _ => False) fun i hi => hb.block i hi
theorem Lst.more {B' : Nat} (h : Lst w B k A n xs) (hB : B ≤ B') : Lst w B' k A n xs :=
  ⟨h.len, fun hn => by
    obtain ⟨ad, e, hb, hc⟩ := h.at_ hn
    exact ⟨ad, e, by omega, hc⟩⟩
theorem Lst.of_own {base : Nat} {e : TypeId} {c : Nat} (h : w.ownsRow base e k (.slice A n c) n xs) : Lst w w.heap.size k A n xs := by
  refine ⟨h.1, fun hn => ?_⟩
  rcases h.2 with ⟨_, h0⟩ | ⟨g, cap, cur, he, hb, hg, _⟩
  · omega
  · have hA : A = some ⟨g, 0, none⟩ := by injection he
    subst hA
    refine ⟨⟨g, 0, none⟩, rfl, (h.lt g rfl).2, fun j u hu => h.cells (g := g) rfl j u hu⟩
end

section
variable {H : Type} {enc : TypeId × Value → H} {P : Program}
theorem open_rows {w : World} {base b0 : Nat} {r : Reach} {spare : Nat → Bool} {held : Bool} {t e : TypeId} {v : Value} {d : DataW H} {p : List MemPlace} (q : Nat) {K : Nat} (ht : P.underlying t = some (.slice e)) (hf : flatB P q e = true) (hK : P.cellsOf e = K) (hpos : 0 < K)
    (hv : Value.okWide P w r b0 t v) (h : DataW.Trod enc P w base spare held t v d p) :
    ∃ (A : Option Addr) (n c : Nat) (ns : List Int), v = .slice A n c ∧ n ≤ c ∧ c ≤ maxLen ∧ Lst w w.heap.size K A n (ns.map (Value.int .i64)) ∧ ns.length = n * K ∧ ∀ m ∈ ns, (Lit.int .i64 m).wf = true := by
  obtain ⟨A, n, c, rfl⟩ := okWide_slice ht hv
  obtain ⟨fuel, hx⟩ := h
  subst hK
  rcases Go.Deep.open_slice ht hx with ⟨h0, _⟩ | ⟨a, len, cap, m, q', D, Pl, hcs, hb, hl, hm, hmm, _, hi⟩
  · have h0' : Value.slice A n c = .slice none 0 0 := by simpa [Value.cells] using h0
    injection h0' with h1 h2 h3
    subst h1 h2 h3
    exact ⟨none, 0, 0, [], rfl, Nat.le_refl _, by simp, ⟨by simp, fun h => by omega⟩, by simp, by simp⟩
  · have h0' : Value.slice A n c = .slice (some a) len cap := by simpa [Value.cells] using hcs
    injection h0' with h1 h2 h3
    subst h1 h2 h3
    have hnm : n ≤ m := by rw [hmm]; split <;> omega
    have key : ∀ i, i ≤ n → ∃ ns : List Int, ns.length = i * P.cellsOf e ∧ (∀ j u, (ns.map (Value.int .i64))[j]? = some u → w.cell? (a.add j) = some u) ∧ ∀ m ∈ ns, (Lit.int .i64 m).wf = true := by
      intro i
      induction i with
      | zero => exact fun _ => ⟨[], by simp, by simp, by simp⟩
      | succ i ih =>
        intro hin
        obtain ⟨ns, n1, n2, n3⟩ := ih (by omega)
        obtain ⟨cs', hc, htr⟩ := hi i (by omega)
        obtain ⟨_, hcl, hat⟩ := World.cells?_some hc
        obtain ⟨ms, e1, e2⟩ := ints_of_cells (flat_cell q hf htr)
        refine ⟨ns ++ ms, ?_, fun j u hu => ?_, fun x hx => ?_⟩
        · have hml : ms.length = P.cellsOf e := by rw [← hcl, e1]; simp
          rw [List.length_append, n1, hml, Nat.add_mul, Nat.one_mul]
        · rw [List.map_append] at hu
          by_cases hj : j < ns.length
          · rw [List.getElem?_append_left (by simpa using hj)] at hu
            exact n2 j u hu
          · rw [List.getElem?_append_right (by simpa using hj)] at hu
            have hjl : j - ns.length < P.cellsOf e := by
              have := (List.getElem?_eq_some_iff.1 hu).1
              rw [List.length_map] at this
              rw [← e1, hcl] at this
              simpa using this
            have := hat (j - ns.length) hjl
            rw [add_plus, n1] at this
            rw [show i * P.cellsOf e + (j - i * P.cellsOf e) = j from by omega] at this
            rw [this, e1, ← n1]
            simpa using hu
        · rcases List.mem_append.1 hx with hx | hx
          · exact n3 x hx
          · exact e2 x hx
    obtain ⟨ns, n1, n2, n3⟩ := key n (Nat.le_refl _)
    refine ⟨some a, n, c, ns, rfl, hl, hm, ⟨by simpa using n1, fun hn => ⟨a, rfl, ?_, n2⟩⟩, n1, n3⟩
    have h0 : 0 < ns.length := by rw [n1]; exact Nat.mul_pos hn hpos
    have := n2 0 (.int .i64 ns[0]) (by simp)
    rw [add_zero_] at this
    exact block_lt_of_cell this
end
theorem pairs_of : ∀ (n : Nat) (ns : List Int), ns.length = n * 2 → ∃ d : List (Int × Int), d.length = n ∧ ns.map (Value.int .i64) = flat2 d
  | 0, [], _ => ⟨[], rfl, rfl⟩
  | n + 1, a :: b :: ns, h => by
    obtain ⟨d, h1, h2⟩ := pairs_of n ns (by simp at h; omega)
    exact ⟨(a, b) :: d, by simp [h1], by simp [flat2_cons, h2]⟩
  | n + 1, [_], h => by simp at h; omega
  | n + 1, [], h => by simp at h
end Go.Proofs.Ytbhhkaaidhapbaa
