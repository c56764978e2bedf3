/- Several texts of mine in one: Open, HeapQ, HeapN. No condition. -/
import Derived.Test.YtmbaklodgpcegaaGreatGQ1
import Derived.Deep.Slices
import Derived.Deep.Fields
import Derived.Test.YtmbaklodgpcegaaGreatGQ2

/- An argument that is a slice of structs all of whose cells are ints, opened: its cells as one list of ints. No condition. -/
namespace Go.Proofs.YtmbaklodgpcegaaGreat
open Go.ChangeShapes Go.WideShapes Go.ChangeAt Go.RowKit Go.Sort
set_option linter.unusedSimpArgs false
set_option linter.unusedVariables false

theorem add_block (a : Addr) (n : Nat) : (a.add n).block = a.block := by unfold Addr.add; split <;> rfl
theorem add_zero_ (a : Addr) : a.add 0 = a := by unfold Addr.add; simp
theorem add_plus (a : Addr) (i j : Nat) : (a.add i).add j = a.add (i + j) := by
  unfold Addr.add
  by_cases hi : i = 0 <;> by_cases hj : j = 0 <;> simp [hi, hj, Nat.add_assoc]

/-- The slice at A of n elements of k cells each reads as these cells; it lies below block B. -/
structure Lst (w : World) (B k : Nat) (A : Option Addr) (n : Nat) (xs : List Value) : Prop where
  len : xs.length = n * k
  at_ : 0 < n → ∃ ad, A = some ad ∧ ad.block < B ∧ ∀ j u, xs[j]? = some u → w.cell? (ad.add j) = some u
section
variable {w w' : World} {B k n : Nat} {A : Option Addr} {xs : List Value}
theorem Lst.kept {S : Nat → Prop} (h : Lst w B k A n xs) (hk : ∀ i, i < B → w'.heap[i]? = w.heap[i]?) : Lst w' B k A n xs :=
  ⟨h.len, fun hn => by
    obtain ⟨ad, e, hb, hc⟩ := h.at_ hn
    exact ⟨ad, e, hb, fun j u hu => (World.cell?_of_block (by rw [add_block]; exact hk _ hb)).trans (hc j u hu)⟩⟩
theorem Lst.below (h : Lst w B k A n xs) (hb : Below B w w') : Lst w' B k A n xs := h.kept (S := fun _ => False) fun i hi => hb.block i hi
theorem Lst.more {B' : Nat} (h : Lst w B k A n xs) (hB : B ≤ B') : Lst w B' k A n xs :=
  ⟨h.len, fun hn => by
    obtain ⟨ad, e, hb, hc⟩ := h.at_ hn
    exact ⟨ad, e, by omega, hc⟩⟩
theorem Lst.of_own {base : Nat} {e : TypeId} {c : Nat} (h : w.ownsRow base e k (.slice A n c) n xs) : Lst w w.heap.size k A n xs := by
  refine ⟨h.1, fun hn => ?_⟩
  rcases h.2 with ⟨_, h0⟩ | ⟨g, cap, cur, he, hb, hg, _⟩
  · omega
  · have hA : A = some ⟨g, 0, none⟩ := by injection he
    subst hA
    refine ⟨⟨g, 0, none⟩, rfl, (h.lt g rfl).2, fun j u hu => h.cells (g := g) rfl j u hu⟩
end

section
variable {H : Type} {enc : TypeId × Value → H} {P : Program}
theorem open_rows {w : World} {base b0 : Nat} {r : Reach} {spare : Nat → Bool} {held : Bool} {t e : TypeId} {v : Value} {d : DataW H} {p : List MemPlace} (q : Nat) {K : Nat} (ht : P.underlying t = some (.slice e)) (hf : flatB P q e = true) (hK : P.cellsOf e = K) (hpos : 0 < K)
    (hv : Value.okWide P w r b0 t v) (h : DataW.Trod enc P w base spare held t v d p) :
    ∃ (A : Option Addr) (n c : Nat) (ns : List Int), v = .slice A n c ∧ n ≤ c ∧ c ≤ maxLen ∧ Lst w w.heap.size K A n (ns.map (Value.int .i64)) ∧ ns.length = n * K ∧ ∀ m ∈ ns, (Lit.int .i64 m).wf = true := by
  obtain ⟨A, n, c, rfl⟩ := okWide_slice ht hv
  obtain ⟨fuel, hx⟩ := h
  subst hK
  rcases Go.Deep.open_slice ht hx with ⟨h0, _⟩ | ⟨a, len, cap, m, q', D, Pl, hcs, hb, hl, hm, hmm, _, hi⟩
  · have h0' : Value.slice A n c = .slice none 0 0 := by simpa [Value.cells] using h0
    injection h0' with h1 h2 h3
    subst h1 h2 h3
    exact ⟨none, 0, 0, [], rfl, Nat.le_refl _, by simp, ⟨by simp, fun h => by omega⟩, by simp, by simp⟩
  · have h0' : Value.slice A n c = .slice (some a) len cap := by simpa [Value.cells] using hcs
    injection h0' with h1 h2 h3
    subst h1 h2 h3
    have hnm : n ≤ m := by rw [hmm]; split <;> omega
    have key : ∀ i, i ≤ n → ∃ ns : List Int, ns.length = i * P.cellsOf e ∧ (∀ j u, (ns.map (Value.int .i64))[j]? = some u → w.cell? (a.add j) = some u) ∧ ∀ m ∈ ns, (Lit.int .i64 m).wf = true := by
      intro i
      induction i with
      | zero => exact fun _ => ⟨[], by simp, by simp, by simp⟩
      | succ i ih =>
        intro hin
        obtain ⟨ns, n1, n2, n3⟩ := ih (by omega)
        obtain ⟨cs', hc, htr⟩ := hi i (by omega)
        obtain ⟨_, hcl, hat⟩ := World.cells?_some hc
        obtain ⟨ms, e1, e2⟩ := ints_of_cells (flat_cell q hf htr)
        refine ⟨ns ++ ms, ?_, fun j u hu => ?_, fun x hx => ?_⟩
        · have hml : ms.length = P.cellsOf e := by rw [← hcl, e1]; simp
          rw [List.length_append, n1, hml, Nat.add_mul, Nat.one_mul]
        · rw [List.map_append] at hu
          by_cases hj : j < ns.length
          · rw [List.getElem?_append_left (by simpa using hj)] at hu
            exact n2 j u hu
          · rw [List.getElem?_append_right (by simpa using hj)] at hu
            have hjl : j - ns.length < P.cellsOf e := by
              have := (List.getElem?_eq_some_iff.1 hu).1
              rw [List.length_map] at this
              rw [← e1, hcl] at this
              simpa using this
            have := hat (j - ns.length) hjl
            rw [add_plus, n1] at this
            rw [show i * P.cellsOf e + (j - i * P.cellsOf e) = j from by omega] at this
            rw [this, e1, ← n1]
            simpa using hu
        · rcases List.mem_append.1 hx with hx | hx
          · exact n3 x hx
          · exact e2 x hx
    obtain ⟨ns, n1, n2, n3⟩ := key n (Nat.le_refl _)
    refine ⟨some a, n, c, ns, rfl, hl, hm, ⟨by simpa using n1, fun hn => ⟨a, rfl, ?_, n2⟩⟩, n1, n3⟩
    have h0 : 0 < ns.length := by rw [n1]; exact Nat.mul_pos hn hpos
    have := n2 0 (.int .i64 ns[0]) (by simp)
    rw [add_zero_] at this
    exact block_lt_of_cell this
end
theorem pairs_of : ∀ (n : Nat) (ns : List Int), ns.length = n * 2 → ∃ d : List (Int × Int), d.length = n ∧ ns.map (Value.int .i64) = flat2 d
  | 0, [], _ => ⟨[], rfl, rfl⟩
  | n + 1, a :: b :: ns, h => by
    obtain ⟨d, h1, h2⟩ := pairs_of n ns (by simp at h; omega)
    exact ⟨(a, b) :: d, by simp [h1], by simp [flat2_cons, h2]⟩
  | n + 1, [_], h => by simp at h; omega
  | n + 1, [], h => by simp at h
end Go.Proofs.YtmbaklodgpcegaaGreat

/- Package heap: Len, Peek, Pop, New. -/
namespace Go.Proofs.YtmbaklodgpcegaaGreat
open Go.ChangeShapes Go.WideShapes Go.ChangeAt Go.RowKit Go.Sort Hp
set_option linter.unusedSimpArgs false
set_option linter.unusedVariables false
set_option maxRecDepth 100000 in
theorem peek_none (hb : Nat) (v : Value) (w : World) (h0 : HeapV w hb v []) :
    Calls Tryz.prog 80 #[.pointer (some ⟨hb, 0, none⟩)] w fun e w' => e = .returned (.tuple #[.agg #[.int .i64 0, .int .i64 0], .bool false]) ∧ Below w.heap.size w w' := by
  have cb : w.cell? ⟨hb, 0, none⟩ = some v := h0.head.cell 0
  obtain ⟨A, c, rfl⟩ := slice_of_own h0.row
  have hl := h0.head.lt
  clear h0
  go_enter Tryz.func80, Tryz.ntmps80
  go_wp2
  exact bodyPost_ret (v := .tuple #[.agg #[.int .i64 0, .int .i64 0], .bool false]) (by simp [results, Tryz.results80, go_sem]) rfl ⟨rfl, by (repeat (first | exact Below.refl _ _ | refine Below.alloc ?_ (by first | omega | (simp; done) | (simp; omega)) _ | refine Below.setCell ?_ (by first | omega | (simp; done) | (simp; omega)) _ | refine Below.drew ?_))⟩
set_option maxHeartbeats 1000000 in
set_option maxRecDepth 100000 in
theorem peek_some (hb g cap : Nat) (d : List (Int × Int)) (w : World) (h0 : HeapAt w hb g cap d) (hd : 0 < d.length) :
    Calls Tryz.prog 80 #[.pointer (some ⟨hb, 0, none⟩)] w fun e w' => e = .returned (.tuple #[.agg #[.int .i64 (gt d 0).1, .int .i64 (gt d 0).2], .bool true]) ∧ Below w.heap.size w w' := by
  have cb : w.cell? ⟨hb, 0, none⟩ = some (.slice (some ⟨g, 0, none⟩) d.length cap) := h0.head.cell 0
  have c0 : w.cell? ⟨g, 0, none⟩ = some (.int .i64 (gt d 0).1) := by have := h0.fst hd; rw [Nat.zero_mul] at this; exact this
  have c1 : w.cell? ⟨g, 1, none⟩ = some (.int .i64 (gt d 0).2) := by have := h0.snd hd; rw [Nat.zero_mul, Nat.zero_add] at this; exact this
  have hl := h0.head.lt
  have hgl : g < w.heap.size := (h0.row.lt g rfl).2
  have hz : ((d.length : Int) == 0) = false := beq_eq_false_iff_ne.2 (by omega)
  clear h0
  go_enter Tryz.func80, Tryz.ntmps80
  go_wp2
  exact bodyPost_ret (v := .tuple #[.agg #[.int .i64 (gt d 0).1, .int .i64 (gt d 0).2], .bool true]) (by simp [results, Tryz.results80, go_sem]) rfl ⟨rfl, by (repeat (first | exact Below.refl _ _ | refine Below.alloc ?_ (by first | omega | (simp; done) | (simp; omega)) _ | refine Below.setCell ?_ (by first | omega | (simp; done) | (simp; omega)) _ | refine Below.drew ?_))⟩
set_option maxRecDepth 100000 in
theorem pop_none (hb : Nat) (v : Value) (w : World) (h0 : HeapV w hb v []) :
    Calls Tryz.prog 70 #[.pointer (some ⟨hb, 0, none⟩)] w fun e w' => e = .returned (.tuple #[.agg #[.int .i64 0, .int .i64 0], .bool false]) ∧ Below w.heap.size w w' := by
  have hB0 : Below w.heap.size w (w.alloc (.cells #[.int .i64 0, .int .i64 0] 86)) := (Below.refl _ _).alloc (Nat.le_refl _) _
  have h1 : HeapV (w.alloc (.cells #[.int .i64 0, .int .i64 0] 86)) hb v [] := ⟨h0.head.below hB0 h0.head.lt, h0.row.alloc _⟩
  have hl := h0.head.lt
  clear h0
  go_enter Tryz.func70, Tryz.ntmps70
  go_wp2_with fail
  refine (peek_none hb v _ h1).mono ?_
  rintro e w1 ⟨rfl, hB⟩
  have hR := (Blok.new w 86 #[.int .i64 0, .int .i64 0]).below hB (by simp)
  have r0 : w1.cell? ⟨w.heap.size, 0, none⟩ = some (.int .i64 0) := hR.cell 0
  have r1 : w1.cell? ⟨w.heap.size, 1, none⟩ = some (.int .i64 0) := hR.cell 1
  have f0 := hR.free 0
  have f1 := hR.free 1
  have hs := hB.size
  simp only [World.size_alloc] at hs
  have hlt : w.heap.size < w1.heap.size := by omega
  clear h1 hR
  go_wp2
  refine bodyPost_ret (v := .tuple #[.agg #[.int .i64 0, .int .i64 0], .bool false]) ?_ rfl ⟨rfl, ?_⟩
  · simp [results, Tryz.results70, go_sem, r0, r1, hlt]
  · (repeat (first | exact Below.refl _ _ | exact hB | refine Below.alloc ?_ (by first | omega | (simp; done) | (simp; omega)) _ | refine Below.setCell ?_ (by first | omega | (simp; done) | (simp; omega)) _ | refine Below.drew ?_ | refine Below.trans ?_ (hB.mono (by first | omega | (simp; done) | (simp; omega)))))
theorem own_take {w : World} {base : Nat} {e : TypeId} {size n m g c : Nat} {xs : List Value} (h : w.ownsRow base e size (.slice (some ⟨g, 0, none⟩) n c) n xs) (hm : m ≤ n) : w.ownsRow base e size (.slice (some ⟨g, 0, none⟩) m c) m (xs.take (m * size)) := by
  have hle : m * size ≤ n * size := Nat.mul_le_mul_right _ hm
  refine ⟨by rw [List.length_take, h.1]; omega, ?_⟩
  rcases h.2 with ⟨h', _⟩ | ⟨g', cap, cur, h', hb, hg, hc, hcm, hs, ht⟩
  · simp at h'
  · simp only [Value.slice.injEq, Option.some.injEq, Addr.mk.injEq, and_true, true_and] at h'
    obtain ⟨rfl, rfl⟩ := h'
    refine .inr ⟨g, c, cur, rfl, hb, hg, by omega, hcm, hs, ?_⟩
    rw [← ht, List.take_take]
    congr 1
    omega
theorem flat2_cut (d : List (Int × Int)) (h : 0 < d.length) : flat2 (cutF d) = ((flat2 (d.set 0 (gt d (d.length - 1)))).take ((d.length - 1) * 2)) := by
  rw [flat2_take]; rfl
set_option maxHeartbeats 2000000 in
set_option maxRecDepth 100000 in
theorem pop_some (hb g cap : Nat) (d : List (Int × Int)) (w : World) (hcap : d.length ≤ cap) (hsz : d.length ≤ 1000000) (h0 : HeapAt w hb g cap d) (hh : isHeap d) (hd : 0 < d.length) :
    Calls Tryz.prog 70 #[.pointer (some ⟨hb, 0, none⟩)] w fun e w' => e = .returned (.tuple #[.agg #[.int .i64 (gt d 0).1, .int .i64 (gt d 0).2], .bool true]) ∧ ∃ d', (gt d 0 :: d').Perm d ∧ isHeap d' ∧ HeapAt w' hb g cap d' ∧ Kept (fun k => k = hb ∨ k = g) w w' := by
  have hB0 : Below w.heap.size w (w.alloc (.cells #[.int .i64 0, .int .i64 0] 86)) := (Below.refl _ _).alloc (Nat.le_refl _) _
  have h1 : HeapAt (w.alloc (.cells #[.int .i64 0, .int .i64 0] 86)) hb g cap d := h0.grown (grown_of_below (row := none) hB0) (by simp) (by simp)
  have hl := h0.head.lt
  have hgl : g < w.heap.size := (h0.row.lt g rfl).2
  clear h0
  go_enter Tryz.func70, Tryz.ntmps70
  go_wp2_with fail
  refine (peek_some hb g cap d _ h1 hd).mono ?_
  rintro e w1 ⟨rfl, hB⟩
  have hR := (Blok.new w 86 #[.int .i64 0, .int .i64 0]).below hB (by simp)
  have hA := h1.grown (grown_of_below (row := none) hB) (by simp) (by simp)
  have hs := hB.size
  simp only [World.size_alloc] at hs
  have hlt : w.heap.size < w1.heap.size := by omega
  have hK := Kept.of_below (S := fun k => k = hb ∨ k = g) (hB0.trans (hB.mono (by simp)))
  have cb : w1.cell? ⟨hb, 0, none⟩ = some (.slice (some ⟨g, 0, none⟩) d.length cap) := hA.head.cell 0
  have fb := hA.head.free 0
  have hne := hA.ne_
  have hdm : d.length - 1 < d.length := by omega
  obtain ⟨m, hm⟩ : ∃ m, d.length = m + 1 := ⟨d.length - 1, by omega⟩
  have cl0 := hA.fst hdm
  have cl1 := hA.snd hdm
  have e0 := hA.row.frozenAt 0
  have e1 := hA.row.frozenAt 1
  have z0 := hA.fst hd
  have z1 := hA.snd hd
  have hml : m < d.length := by omega
  rw [show d.length - 1 = m from by omega] at cl0 cl1
  rw [Nat.zero_mul] at z0
  rw [Nat.zero_mul, Nat.zero_add] at z1
  have HM := Lib.hid hm
  have hl1 : hb < w1.heap.size := by omega
  have hgl1 : g < w1.heap.size := by omega
  clear h1 hm hdm
  go_wp2
  rw [show (d.length : Int) - 1 = (m : Int) from by have := HM.out; omega]
  have hF := Blok.new w1 86 #[.int .i64 (gt d 0).1, .int .i64 (gt d 0).2]
  have hBa : Below w1.heap.size w1 (w1.alloc (.cells #[.int .i64 (gt d 0).1, .int .i64 (gt d 0).2] 86)) := (Below.refl _ _).alloc (Nat.le_refl _) _
  have hR2 := hR.below hBa hlt
  have hA2 := hA.grown (grown_of_below (row := none) hBa) (by simp) (by simp)
  have hK2 := hK.alloc (.cells #[.int .i64 (gt d 0).1, .int .i64 (gt d 0).2] 86)
  have hFR : w1.heap.size ≠ w.heap.size := by omega
  have hFb : hb ≠ w1.heap.size := by omega
  have hFg : g ≠ w1.heap.size := by omega
  have hRb : hb ≠ w.heap.size := by omega
  have hRg : g ≠ w.heap.size := by omega
  clear hR hA hK cb fb cl0 cl1 e0 e1 z0 z1 hBa hB hB0 hs hlt hl1 hgl1
  generalize hwq : w1.alloc (.cells #[.int .i64 (gt d 0).1, .int .i64 (gt d 0).2] 86) = w2 at *
  generalize w1.heap.size = F at *
  generalize hRn : w.heap.size = R at *
  clear hwq
  have hm1 : d.length - 1 = m := by have := HM.out; omega
  have cb : w2.cell? ⟨hb, 0, none⟩ = some (.slice (some ⟨g, 0, none⟩) d.length cap) := hA2.head.cell 0
  have fb := hA2.head.free 0
  have cl0 := hA2.fst hml
  have cl1 := hA2.snd hml
  have e0 := hA2.row.frozenAt 0
  have e1 := hA2.row.frozenAt 1
  have z0 := hA2.fst hd
  have z1 := hA2.snd hd
  rw [Nat.zero_mul] at z0
  rw [Nat.zero_mul, Nat.zero_add] at z1
  have HN := Lib.hid hRn
  have HM1 := Lib.hid hm1
  clear hRn hm1
  go_region
  have hS := hA2.store 0 (gt d m)
  rw [Nat.zero_mul, Nat.zero_add] at hS
  have hA3 := hS.1.drew
  have hg3 := grown_drew hS.2
  have hK3 := Kept.grow_ hK2 hg3 (fun i _ h => .inr (by simpa using h.symm))
  have hR3 := hR2.grown hg3 (fun e => hRg (by simpa using e.symm))
  have hF3 := hF.grown hg3 (fun e => hFg (by simpa using e.symm))
  clear hS hA2 hg3 hK2 hR2 hF cb fb cl0 cl1 e0 e1 z0 z1
  generalize ((w2.setCell ⟨g, 0, none⟩ (.int .i64 (gt d m).1)).setCell ⟨g, 1, none⟩ (.int .i64 (gt d m).2)).drew = w3 at *
  have cb : w3.cell? ⟨hb, 0, none⟩ = some (.slice (some ⟨g, 0, none⟩) d.length cap) := by
    have := hA3.head.cell 0
    rw [List.length_set] at this
    exact this
  have fb := hA3.head.free 0
  have hmc : m ≤ cap := by omega
  go_wp2_with fail
  have hA4 : HeapAt (w3.setCell ⟨hb, 0, none⟩ (.slice (some ⟨g, 0, none⟩) m cap)) hb g cap (cutF d) := by
    refine ⟨?_, ?_⟩
    · rw [cut_length, HM1.out]
      exact one_setCell hA3.head
    · rw [cut_length, HM1.out, flat2_cut d hd, HM1.out]
      have hx := hA3.row
      rw [List.length_set] at hx
      exact ownsRow_setCell_other (own_take hx (by omega)) (by simp only [Value.ownBlock]; intro e; exact hne (by simpa using e.symm)) _
  have hK4 := hK3.set (g := hb) (fun _ => .inl rfl) 0 (.slice (some ⟨g, 0, none⟩) m cap)
  have hR4 := hR3.far (p := ⟨hb, 0, none⟩) (fun e => hRb e.symm) (.slice (some ⟨g, 0, none⟩) m cap)
  have hF4 := hF3.far (p := ⟨hb, 0, none⟩) (fun e => hFb e.symm) (.slice (some ⟨g, 0, none⟩) m cap)
  clear hA3 hK3 hR3 hF3 cb fb
  generalize w3.setCell ⟨hb, 0, none⟩ (.slice (some ⟨g, 0, none⟩) m cap) = w4 at *
  refine (sink_any hb g cap (cutF d) w4 (by rw [cut_length]; omega) (by rw [cut_length]; omega) hA4 (cut_down hh)).mono ?_
  rintro e w5 ⟨rfl, d', k1, k2, k3, k4, k5⟩
  have K1 := Lib.hid k1
  have hR5 := hR4.grown k5 (fun e => hRg (by simpa using e.symm))
  have hF5 := hF4.grown k5 (fun e => hFg (by simpa using e.symm))
  have r0 : w5.cell? ⟨R, 0, none⟩ = some (.int .i64 0) := hR5.cell 0
  have r1 : w5.cell? ⟨R, 1, none⟩ = some (.int .i64 0) := hR5.cell 1
  have f0 := hR5.free 0
  have f1 := hR5.free 1
  have q0 : w5.cell? ⟨F, 0, none⟩ = some (.int .i64 (gt d 0).1) := hF5.cell 0
  have q1 : w5.cell? ⟨F, 1, none⟩ = some (.int .i64 (gt d 0).2) := hF5.cell 1
  have hK5 := Kept.grow_ hK4 k5 (fun i _ h => .inr (by simpa using h.symm))
  clear k1 hR4 hF4 hA4 hK4 k5
  go_wp2
  refine bodyPost_ret (v := .tuple #[.agg #[.int .i64 (gt d 0).1, .int .i64 (gt d 0).2], .bool true]) ?_ rfl ⟨rfl, d', ?_, k3, ?_, ?_⟩
  · simp [results, Tryz.results70, go_sem, r0, r1, hFR]
  · exact (List.Perm.cons _ k2).trans (cut_perm hd)
  · have g1 := grown_set (g := R) w5 0 (.int .i64 (gt d 0).1)
    exact (k4.grown (row := some R) (grown_trans g1 (grown_set (g := R) _ 1 (.int .i64 (gt d 0).2))) (by simpa using fun e => hRb e.symm) (by simpa using fun e => hRg e.symm))
  · exact (hK5.set (g := R) (fun h => by have := HN.out; omega) 0 _).set (g := R) (fun h => by have := HN.out; omega) 1 _
end Go.Proofs.YtmbaklodgpcegaaGreat

/- Package heap: New, and what a heap tells, whatever its slice is. -/
namespace Go.Proofs.YtmbaklodgpcegaaGreat
open Go.ChangeShapes Go.WideShapes Go.ChangeAt Go.RowKit Go.Sort Hp
set_option linter.unusedSimpArgs false
set_option linter.unusedVariables false
/-- The heap at hb holds l; all its blocks are B, or behind. -/
structure HeapB (w : World) (B hb : Nat) (v : Value) (d : List (Int × Int)) (l : List (Int × Int)) : Prop where
  at_ : HeapV w hb v d
  heap : isHeap d
  perm : d.Perm l
  hb : B ≤ hb
  own : ∀ k, v.ownBlock = some k → B ≤ k
theorem take_next {l : List (Int × Int)} {k : Nat} (h : k < l.length) : l.take (k + 1) = l.take k ++ [gt l k] := by
  rw [List.take_succ_eq_append_getElem h]
  congr 2
  unfold gt
  rw [List.getD_eq_getElem?_getD, List.getElem?_eq_getElem h]
  rfl
theorem add_next (ad : Addr) (j m : Nat) (hm : 0 < m) : (⟨(ad.add j).block, (ad.add j).off + m, none⟩ : Addr) = ad.add (j + m) := by
  unfold Addr.add
  by_cases hj : j = 0
  · subst hj; simp; omega
  · simp [hj]; omega
theorem Lst.fst2 {w : World} {B : Nat} {A : Option Addr} {n : Nat} {l : List (Int × Int)} (h : Lst w B 2 A n (flat2 l)) (hl : l.length = n) {k : Nat} (hk : k < n) : ∃ ad, A = some ad ∧ ad.block < B ∧ w.cell? (ad.add (k * 2)) = some (.int .i64 (gt l k).1) ∧ w.cell? ⟨(ad.add (k * 2)).block, (ad.add (k * 2)).off + 1, none⟩ = some (.int .i64 (gt l k).2) := by
  obtain ⟨ad, e, hb, hc⟩ := h.at_ (by omega)
  exact ⟨ad, e, hb, hc _ _ (by rw [flat2_fst l k (by omega)]; rfl), by rw [add_next _ _ _ (by omega)]; exact hc _ _ (by rw [flat2_snd l k (by omega)]; rfl)⟩
theorem Kept.below_of {S : Nat → Prop} {B : Nat} {w w1 w2 : World} (hk : Kept S w1 w2) (hB : Below B w w1) (hs : B ≤ w1.heap.size) (hS : ∀ k, k < B → ¬ S k) : Below B w w2 :=
  ⟨hk.os.trans hB.os, hk.tape.trans hB.tape, hk.output.trans hB.output, Nat.le_trans hB.size hk.size, fun k h => (hk.block k (by omega) (hS k h)).trans (hB.block k h)⟩
theorem HeapV.below {w w' : World} {hb : Nat} {v : Value} {d : List (Int × Int)} (h : HeapV w hb v d) (hB : Below w.heap.size w w') : HeapV w' hb v d :=
  ⟨h.head.below hB h.head.lt, h.row.kept (grown_of_below (row := some w.heap.size) hB) (.inr (fun e => by have := (h.row.lt _ e).2; omega))⟩
theorem HeapB.below {w w' : World} {B hb : Nat} {v : Value} {d l : List (Int × Int)} (h : HeapB w B hb v d l) (hB : Below w.heap.size w w') : HeapB w' B hb v d l := ⟨h.at_.below hB, h.heap, h.perm, h.hb, h.own⟩
set_option maxHeartbeats 2000000 in
set_option maxRecDepth 100000 in
theorem new_any (A : Option Addr) (n c : Nat) (l : List (Int × Int)) (w : World) (hl : l.length = n) (hn : n ≤ 1000000) (hA : Lst w w.heap.size 2 A n (flat2 l)) :
    Calls Tryz.prog 69 #[.slice A n c] w fun e w' => ∃ hb v d, e = .returned (.pointer (some ⟨hb, 0, none⟩)) ∧ HeapB w' w.heap.size hb v d l ∧ Below w.heap.size w w' := by
  go_enter Tryz.func69, Tryz.ntmps69
  go_wp2
  go_loopw [10] (fun i wr => ∃ (k : Nat) (v : Value) (d : List (Int × Int)), k ≤ n ∧ i = .int .i64 k ∧ HeapB wr w.heap.size w.heap.size v d (l.take k) ∧ Below w.heap.size w wr) (fun i _ => n - (intOf i).toNat)
  case atStart => 
    refine ⟨0, .slice none 0 0, [], by omega, rfl, ⟨⟨Blok.new _ _ _, World.ownsRow_nil _ _ _ _⟩, ?_, List.Perm.refl _, Nat.le_refl _, by simp [Value.ownBlock]⟩, by (repeat (first | exact Below.refl _ _ | refine Below.alloc ?_ (by first | omega | (simp; done) | (simp; omega)) _ | refine Below.setCell ?_ (by first | omega | (simp; done) | (simp; omega)) _ | refine Below.drew ?_))⟩
    intro j h0 h1
    simp at h1
  case round =>
    obtain ⟨k, v, d, hk, rfl, hH, hB⟩ := hrel
    by_cases hlt : k < n
    · obtain ⟨ad, rfl, hab, c0, c1⟩ := (hA.below hB).fst2 hl hlt
      have habw : ad.block < wr.heap.size := by have := hB.size; omega
      go_wp2_with fail
      have hBa : Below wr.heap.size wr (wr.alloc (.cells #[.int .i64 (gt l k).1, .int .i64 (gt l k).2] 86)) := (Below.refl _ _).alloc (Nat.le_refl _) _
      have hH2 := hH.below hBa
      have hdl : d.length < 1000000 := by
        have := hH.perm.length_eq
        rw [List.length_take] at this
        omega
      refine (push_any _ v d (gt l k) _ hdl hH2.at_ hH2.heap).mono ?_
      rintro e w1 ⟨rfl, v1, d1, k1, k2, k3, k4, k5⟩
      have hB2 : Below w.heap.size w w1 := k4.below_of (hB.trans (hBa.mono hB.size)) (by have := hB.size; simp; omega) (fun i hi => by
        rintro (e | e)
        · omega
        · have := hH.own i e; omega)
      have hP : HeapB w1 w.heap.size w.heap.size v1 d1 (l.take (k + 1)) := by
        refine ⟨k3, k2, ?_, Nat.le_refl _, ?_⟩
        · rw [take_next (by omega)]
          exact k1.trans (hH.perm.append_right _)
        · intro i hi
          rcases k5 with e | ⟨j, hj, e⟩
          · exact hH.own i (by rw [← e]; exact hi)
          · rw [e] at hi
            have := hB.size
            simp at hj hi
            omega
      clear k1 k2 k3 k4 k5 c0 c1 hBa hH2
      go_wp2
      go_roundw
      case rel => exact ⟨k + 1, v1, d1, by omega, by go_num, hP, hB2⟩
      case measure => simp [intOf]; omega
    · go_wp2
      go_ret
      obtain rfl : k = n := by omega
      refine ⟨_, v, d, rfl, ?_, hB⟩
      rw [List.take_of_length_le (by omega)] at hH
      exact hH
end Go.Proofs.YtmbaklodgpcegaaGreat
