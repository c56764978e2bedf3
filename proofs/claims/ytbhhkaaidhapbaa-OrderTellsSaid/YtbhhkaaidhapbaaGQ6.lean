/- Several texts of mine in one: OpenR, OpenRs. No condition. -/
import Derived.Test.YtbhhkaaidhapbaaOpenS
import Derived.ChangeSame
import Derived.Test.YtbhhkaaidhapbaaOrder4
namespace Go.Proofs.Ytbhhkaaidhapbaa
open Go.ChangeShapes Go.WideShapes Go.ChangeAt Go.RowKit Go.Sort
set_option linter.unusedSimpArgs false
set_option linter.unusedVariables false
variable {H : Type} {enc : TypeId × Value → H} {P : Program}
theorem rows_of_trod {w : World} {base : Nat} {spare : Nat → Bool} {held : Bool} {t e : TypeId} {fuel : Nat} {cs : List Value} {x : DataW H × List MemPlace} (q : Nat) {K : Nat} (ht : P.underlying t = some (.slice e)) (hf : flatB P q e = true) (hK : P.cellsOf e = K) (hpos : 0 < K)
    (hx : DataW.trod enc P w base spare held fuel t cs = some x) :
    ∃ (A : Option Addr) (n c : Nat) (ns : List Int), cs = [.slice A n c] ∧ Sl w w.heap.size K A n c (ns.map (Value.int .i64)) ∧ ns.length = n * K ∧ ∀ m ∈ ns, (Lit.int .i64 m).wf = true := by
  subst hK
  rcases Go.Deep.open_slice ht hx with ⟨rfl, _⟩ | ⟨a, n, c, m, q', D, Pl, rfl, hb, hl, hm, hmm, _, hi⟩
  · exact ⟨none, 0, 0, [], rfl, Sl.nil0 _ _ _, by simp, by simp⟩
  · have hnm : n ≤ m := by rw [hmm]; split <;> omega
    have key : ∀ i, i ≤ n → ∃ ns : List Int, ns.length = i * P.cellsOf e ∧ (∀ j u, (ns.map (Value.int .i64))[j]? = some u → w.cell? (a.add j) = some u) ∧ ∀ m ∈ ns, (Lit.int .i64 m).wf = true := by
      intro i
      induction i with
      | zero => exact fun _ => ⟨[], by simp, by simp, by simp⟩
      | succ i ih =>
        intro hin
        obtain ⟨ns, n1, n2, n3⟩ := ih (by omega)
        obtain ⟨cs', hc, htr⟩ := hi i (by omega)
        obtain ⟨_, hcl, hat⟩ := World.cells?_some hc
        obtain ⟨ms, e1, e2⟩ := ints_of_cells (flat_cell q hf htr)
        refine ⟨ns ++ ms, ?_, fun j u hu => ?_, fun x hx => ?_⟩
        · have hml : ms.length = P.cellsOf e := by rw [← hcl, e1]; simp
          rw [List.length_append, n1, hml, Nat.add_mul, Nat.one_mul]
        · rw [List.map_append] at hu
          by_cases hj : j < ns.length
          · rw [List.getElem?_append_left (by simpa using hj)] at hu
            exact n2 j u hu
          · rw [List.getElem?_append_right (by simpa using hj)] at hu
            have hjl : j - ns.length < P.cellsOf e := by
              have := (List.getElem?_eq_some_iff.1 hu).1
              rw [List.length_map] at this
              rw [← e1, hcl] at this
              simpa using this
            have := hat (j - ns.length) hjl
            rw [add_plus, n1] at this
            rw [show i * P.cellsOf e + (j - i * P.cellsOf e) = j from by omega] at this
            rw [this, e1, ← n1]
            simpa using hu
        · rcases List.mem_append.1 hx with hx | hx
          · exact n3 x hx
          · exact e2 x hx
    obtain ⟨ns, n1, n2, n3⟩ := key n (Nat.le_refl _)
    refine ⟨some a, n, c, ns, rfl, ⟨⟨by simpa using n1, fun hn => ⟨a, rfl, ?_, n2⟩⟩, hl, hm, fun h => by cases h⟩, n1, n3⟩
    have h0 : 0 < ns.length := by rw [n1]; exact Nat.mul_pos hn hpos
    have := n2 0 (.int .i64 ns[0]) (by simp)
    rw [add_zero_] at this
    exact block_lt_of_cell this
theorem open_hdr {w : World} {base b0 : Nat} {r : Reach} {spare : Nat → Bool} {held : Bool} {t e : TypeId} {f0 f1 : Field} {v : Value} {d : DataW H} {p : List MemPlace} (q : Nat) {K : Nat} (hs : P.underlying t = some (.struct #[f0, f1])) (hfo : (f0.offset == 0 && P.cellsOf f0.type == 1 && f1.offset == 1 && P.cellsOf f1.type == 1 && P.cellsOf t == 2) = true)
    (ht : P.underlying f0.type = some (.slice e)) (hi : P.underlying f1.type = some (.int .i64)) (hf : flatB P q e = true) (hK : P.cellsOf e = K) (hpos : 0 < K)
    (hv : Value.okWide P w r b0 t v) (h : DataW.Trod enc P w base spare held t v d p) :
    ∃ (A : Option Addr) (n c : Nat) (ns : List Int) (a : Int), v = .agg #[.slice A n c, .int .i64 a] ∧ Sl w w.heap.size K A n c (ns.map (Value.int .i64)) ∧ ns.length = n * K ∧ (∀ m ∈ ns, (Lit.int .i64 m).wf = true) ∧ (Lit.int .i64 a).wf = true := by
  simp only [Bool.and_eq_true, beq_iff_eq] at hfo
  obtain ⟨⟨⟨⟨o0, k0⟩, o1⟩, k1⟩, kt⟩ := hfo
  obtain ⟨cs, rfl, hsz⟩ := okWide_struct hs hv
  obtain ⟨fuel, hx⟩ := h
  obtain ⟨y0, y1, n, _, hl, t0, t1⟩ := trod_struct2 hs hx
  rw [o0, k0] at t0
  rw [o1, k1] at t1
  obtain ⟨l⟩ := cs
  rw [kt] at hsz
  have hl2 : l.length = 2 := hsz
  match l, hl2 with
  | [c0, c1], _ =>
    have e0 : ((Value.agg #[c0, c1]).cells.toList.drop 0).take 1 = [c0] := rfl
    have e1 : ((Value.agg #[c0, c1]).cells.toList.drop 1).take 1 = [c1] := rfl
    first | rw [e0] at t0 | (change DataW.trod enc P w base spare held n f0.type [c0] = some y0 at t0)
    first | rw [e1] at t1 | (change DataW.trod enc P w base spare held n f1.type [c1] = some y1 at t1)
    obtain ⟨A, n, c, ns, g1, g2, g3, g4⟩ := rows_of_trod q ht hf hK hpos t0
    obtain ⟨a, h1, _, h3⟩ := DataW.trod_int hi t1
    injection g1 with g1
    injection h1 with h1
    subst g1
    subst h1
    exact ⟨A, n, c, ns, a, rfl, g2, g3, g4, h3⟩
end Go.Proofs.Ytbhhkaaidhapbaa
namespace Go.Proofs.Ytbhhkaaidhapbaa
open Go.ChangeShapes Go.WideShapes Go.ChangeAt Go.RowKit Go.Sort
set_option linter.unusedSimpArgs false
set_option linter.unusedVariables false
/-- A route of an argument: as many hops as there may be. -/
def Rx.raw (w : World) (x : Rx) : Prop := x.d.length = x.h.n ∧ Sl w w.heap.size 3 x.h.A x.h.n x.h.c (flatHp x.d)
section
variable {H : Type} {enc : TypeId × Value → H} {P : Program}
theorem open_routes {w : World} {base b0 : Nat} {r : Reach} {spare : Nat → Bool} {held : Bool} {t e u : TypeId} {f0 f1 : Field} {v : Value} {d : DataW H} {p : List MemPlace} (q : Nat) (ht : P.underlying t = some (.slice e)) (hs : P.underlying e = some (.struct #[f0, f1])) (hfo : (f0.offset == 0 && P.cellsOf f0.type == 1 && f1.offset == 1 && P.cellsOf f1.type == 1 && P.cellsOf e == 2) = true)
    (hu : P.underlying f0.type = some (.slice u)) (hi : P.underlying f1.type = some (.int .i64)) (hf : flatB P q u = true) (hK : P.cellsOf u = 3)
    (hv : Value.okWide P w r b0 t v) (h : DataW.Trod enc P w base spare held t v d p) :
    ∃ (A : Option Addr) (n c : Nat) (L : List Rx), v = .slice A n c ∧ Sl w w.heap.size 2 A n c (flatRh (hdRx L)) ∧ L.length = n ∧ ∀ x ∈ L, x.raw w := by
  obtain ⟨A, n, c, rfl⟩ := okWide_slice ht hv
  obtain ⟨fuel, hx⟩ := h
  simp only [Bool.and_eq_true, beq_iff_eq] at hfo
  obtain ⟨⟨⟨⟨o0, k0⟩, o1⟩, k1⟩, kt⟩ := hfo
  rcases Go.Deep.open_slice ht hx with ⟨h0, _⟩ | ⟨a, len, cap, m, q', D, Pl, hcs, hb, hl, hm, hmm, _, hi'⟩
  · have h0' : Value.slice A n c = .slice none 0 0 := by simpa [Value.cells] using h0
    injection h0' with h1 h2 h3
    subst h1 h2 h3
    exact ⟨none, 0, 0, [], rfl, Sl.nil0 _ _ _, rfl, by simp⟩
  · have h0' : Value.slice A n c = .slice (some a) len cap := by simpa [Value.cells] using hcs
    injection h0' with h1 h2 h3
    subst h1 h2 h3
    have hnm : n ≤ m := by rw [hmm]; split <;> omega
    have key : ∀ i, i ≤ n → ∃ L : List Rx, L.length = i ∧ (∀ j z, (flatRh (hdRx L))[j]? = some z → w.cell? (a.add j) = some z) ∧ ∀ x ∈ L, x.raw w := by
      intro i
      induction i with
      | zero => exact fun _ => ⟨[], rfl, by simp [hdRx, flatRh], by simp⟩
      | succ i ih =>
        intro hin
        obtain ⟨L, n0, n2, n3⟩ := ih (by omega)
        obtain ⟨cs', hc, htr⟩ := hi' i (by omega)
        obtain ⟨_, hcl, hat⟩ := World.cells?_some hc
        rw [kt] at hcl hat
        obtain ⟨y0, y1, n', _, hl2, t0, t1⟩ := trod_struct2 hs htr
        rw [o0, k0] at t0
        rw [o1, k1] at t1
        have hcl2 : cs'.length = 2 := hcl
        obtain ⟨x0, x1, rfl⟩ : ∃ x0 x1, cs' = [x0, x1] := by
          match cs', hcl2 with
          | [x0, x1], _ => exact ⟨x0, x1, rfl⟩
        have e0 : ([x0, x1].drop 0).take 1 = [x0] := rfl
        have e1 : ([x0, x1].drop 1).take 1 = [x1] := rfl
        rw [e0] at t0
        rw [e1] at t1
        obtain ⟨A', n1, c1, ns, g1, g2, g3, _⟩ := rows_of_trod q hu hf hK (by omega) t0
        obtain ⟨b, h1, _, _⟩ := DataW.trod_int hi t1
        injection g1 with g1
        injection h1 with h1
        subst g1
        subst h1
        obtain ⟨dd, hdd, hfl⟩ := rowsHp_of n1 ns g3
        rw [hfl] at g2
        have hfl2 : (flatRh (hdRx L)).length = i * 2 := by rw [flatRh_length]; simp [hdRx, n0]
        refine ⟨L ++ [⟨⟨A', n1, c1, b⟩, dd⟩], by simp [n0], fun j z hz => ?_, fun x hx => ?_⟩
        · have hap : flatRh (hdRx (L ++ [⟨⟨A', n1, c1, b⟩, dd⟩])) = flatRh (hdRx L) ++ [.slice A' n1 c1, .int .i64 b] := by
            unfold hdRx
            rw [List.map_append, flatRh_append]
            rfl
          rw [hap] at hz
          by_cases hj : j < (flatRh (hdRx L)).length
          · rw [List.getElem?_append_left hj] at hz
            exact n2 j z hz
          · rw [List.getElem?_append_right (by omega)] at hz
            have hjl : j - (flatRh (hdRx L)).length < 2 := (List.getElem?_eq_some_iff.1 hz).1
            have := hat (j - (flatRh (hdRx L)).length) hjl
            rw [add_plus, hfl2] at this
            rw [show i * 2 + (j - i * 2) = j from by omega] at this
            rw [this, ← hfl2, hz]
        · rcases List.mem_append.1 hx with hx | hx
          · exact n3 x hx
          · simp at hx; subst hx; exact ⟨hdd, g2⟩
    obtain ⟨L, n0, n2, n3⟩ := key n (Nat.le_refl _)
    have hlen : (flatRh (hdRx L)).length = n * 2 := by rw [flatRh_length]; simp [hdRx, n0]
    refine ⟨some a, n, c, L, rfl, ⟨⟨hlen, fun hn => ⟨a, rfl, ?_, n2⟩⟩, hl, hm, fun e => by cases e⟩, n0, n3⟩
    have h0 : 0 < (flatRh (hdRx L)).length := by omega
    have := n2 0 ((flatRh (hdRx L))[0]) (by simp)
    rw [add_zero_] at this
    exact block_lt_of_cell this
end
end Go.Proofs.Ytbhhkaaidhapbaa
