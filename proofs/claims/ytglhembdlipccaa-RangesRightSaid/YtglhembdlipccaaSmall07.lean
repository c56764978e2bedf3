/- Layer 7's small case comes out right. No condition. -/
import Derived.Test.YtglhembdlipccaaRanges7
namespace Go.Proofs.Ytglhembdlipccaa
open Go.ChangeShapes Go.WideShapes Go.ChangeAt Go.RowKit Go.Sort
set_option linter.unusedSimpArgs false
set_option linter.unusedVariables false
theorem own_below {w w' : World} {base : Nat} {e : TypeId} {size n : Nat} {v : Value} {xs : List Value} (h : w.ownsRow base e size v n xs) (hb : Below w.heap.size w w') : w'.ownsRow base e size v n xs :=
  h.kept (grown_of_below (row := some w.heap.size) hb) (.inr (fun e => by have := (h.lt _ e).2; omega))
instance (d : List Rg) (cf ct ce : Int) (n i : Nat) : Decidable (AskAt d cf ct ce n i) := by unfold AskAt; infer_instance
theorem add_first {d : List Rg} {r : Rg} {n i : Nat} (q : Nat) (hi : i ≤ n) (h1 : i = 0 ∨ cmpR (gRg d (i - 1)) r < 0) (h2 : i = n ∨ 0 ≤ cmpR (gRg d i) r) (hq : ∀ j, j ≤ n → (j = 0 ∨ cmpR (gRg d (j - 1)) r < 0) → (j = n ∨ 0 ≤ cmpR (gRg d j) r) → j = q) : i = q := hq i hi h1 h2
set_option maxHeartbeats 4000000 in
set_option maxRecDepth 100000 in
theorem small07 (w : World) :
    Calls Try.prog 7 #[] w fun e w' => e = .returned (.bool true) ∧ Below w.heap.size w w' := by
  have hB : Below w.heap.size w (((w.alloc (.cells #[.int .i64 1, .int .i64 2, .int .i64 0, .int .i64 100, .int .i64 4] 27)).alloc (.cells #[.int .i64 1, .int .i64 2, .int .i64 100, .int .i64 200, .int .i64 5] 27)).alloc (.cells #[.int .i64 1, .int .i64 2, .int .i64 100, .int .i64 200, .int .i64 5] 27)) := by (repeat (first | exact Below.refl _ _ | refine Below.alloc ?_ (by first | omega | (simp; done) | (simp; omega)) _ | refine Below.setCell ?_ (by first | omega | (simp; done) | (simp; omega)) _ | refine Below.drew ?_))
  have hXa := ((Blok.new w 27 #[.int .i64 1, .int .i64 2, .int .i64 0, .int .i64 100, .int .i64 4]).alloc (.cells #[.int .i64 1, .int .i64 2, .int .i64 100, .int .i64 200, .int .i64 5] 27)).alloc (.cells #[.int .i64 1, .int .i64 2, .int .i64 100, .int .i64 200, .int .i64 5] 27)
  have hXb := (Blok.new (w.alloc (.cells #[.int .i64 1, .int .i64 2, .int .i64 0, .int .i64 100, .int .i64 4] 27)) 27 #[.int .i64 1, .int .i64 2, .int .i64 100, .int .i64 200, .int .i64 5]).alloc (.cells #[.int .i64 1, .int .i64 2, .int .i64 100, .int .i64 200, .int .i64 5] 27)
  have hO := own_lit ((w.alloc (.cells #[.int .i64 1, .int .i64 2, .int .i64 0, .int .i64 100, .int .i64 4] 27)).alloc (.cells #[.int .i64 1, .int .i64 2, .int .i64 100, .int .i64 200, .int .i64 5] 27)) 0 27 5 1 #[.int .i64 1, .int .i64 2, .int .i64 100, .int .i64 200, .int .i64 5] (by omega) rfl (by simp [maxLen])
  simp only [World.size_alloc] at hXb hO
  have hs := hB.size
  go_enter Try.func7, Try.ntmps7
  go_wp2_with fail
  have hz0 : (((w.alloc (.cells #[.int .i64 1, .int .i64 2, .int .i64 0, .int .i64 100, .int .i64 4] 27)).alloc (.cells #[.int .i64 1, .int .i64 2, .int .i64 100, .int .i64 200, .int .i64 5] 27)).alloc (.cells #[.int .i64 1, .int .i64 2, .int .i64 100, .int .i64 200, .int .i64 5] 27)).heap.size = w.heap.size + 1 + 1 + 1 := by simp
  generalize (((w.alloc (.cells #[.int .i64 1, .int .i64 2, .int .i64 0, .int .i64 100, .int .i64 4] 27)).alloc (.cells #[.int .i64 1, .int .i64 2, .int .i64 100, .int .i64 200, .int .i64 5] 27)).alloc (.cells #[.int .i64 1, .int .i64 2, .int .i64 100, .int .i64 200, .int .i64 5] 27)) = w0 at *
  refine (add_yes (some ⟨w.heap.size + 1 + 1, 0, none⟩) 1 1 [⟨1, 2, 100, 200, 5⟩] ⟨1, 2, 0, 100, 4⟩ w0 rfl (by omega) (Sl.of_own hO) (by decide +kernel)).mono ?_
  rintro e w1 ⟨v1, i1, rfl, hi1, hl1, hu1, hv1, hb1⟩
  obtain rfl : i1 = 0 := add_first 0 hi1 hl1 hu1 (by decide +kernel)
  replace hv1 : w1.ownsRow w0.heap.size 27 5 v1 2 (flatRg [⟨1, 2, 0, 100, 4⟩, ⟨1, 2, 100, 200, 5⟩]) := hv1
  clear hi1 hl1 hu1 hO
  have hb1s := hb1.size
  replace hXa := hXa.below hb1 hXa.lt
  replace hXb := hXb.below hb1 hXb.lt
  replace hB := hB.trans (hb1.mono hs)
  replace hs := hB.size
  clear hb1
  obtain ⟨A1, c1, rfl⟩ := slice_of_own hv1
  go_wp2_with fail
  refine (add_no A1 2 c1 [⟨1, 2, 0, 100, 4⟩, ⟨1, 2, 100, 200, 5⟩] ⟨1, 2, 50, 60, 0⟩ w1 5 rfl (by omega) (Sl.of_own hv1) (by decide +kernel) (by omega)).mono ?_
  rintro e w2 ⟨v2, rfl, hv2, hb2⟩
  have hb2s := hb2.size
  replace hv1 := own_below hv1 hb2
  replace hXa := hXa.below hb2 hXa.lt
  replace hXb := hXb.below hb2 hXb.lt
  replace hB := hB.trans (hb2.mono hs)
  replace hs := hB.size
  clear hb2
  obtain ⟨A2, c2, rfl⟩ := slice_of_own hv2
  clear hv2
  go_wp2_with fail
  refine (change_yes A1 2 c1 [⟨1, 2, 0, 100, 4⟩, ⟨1, 2, 100, 200, 5⟩] ⟨1, 2, 100, 0, 7⟩ w2 1 rfl (by omega) (Sl.of_own hv1) (by decide +kernel) (by omega) (by decide +kernel) (by decide +kernel)).mono ?_
  rintro e w3 ⟨v3, rfl, hv3, hb3⟩
  replace hv3 : w3.ownsRow w2.heap.size 27 5 v3 2 (flatRg [⟨1, 2, 0, 100, 4⟩, ⟨1, 2, 100, 200, 7⟩]) := hv3
  replace hv1 := own_below hv1 hb3
  replace hXa := hXa.below hb3 hXa.lt
  replace hXb := hXb.below hb3 hXb.lt
  replace hB := hB.trans (hb3.mono hs)
  replace hs := hB.size
  have hz3 : w0.heap.size ≤ w3.heap.size := Nat.le_trans hb1s (Nat.le_trans hb2s hb3.size)
  clear hb3
  obtain ⟨A3, c3, rfl⟩ := slice_of_own hv3
  go_wp2_with fail
  refine (del_any A3 2 c3 [⟨1, 2, 0, 100, 4⟩, ⟨1, 2, 100, 200, 7⟩] ⟨1, 2, 0, 0, 0⟩ w3 rfl (by omega) (Sl.of_own hv3)).mono ?_
  rintro e w4 ⟨v4, rfl, hv4, hb4⟩
  replace hv4 : w4.ownsRow w3.heap.size 27 5 v4 1 (flatRg [⟨1, 2, 100, 200, 7⟩]) := hv4
  rw [show delCode ([⟨1, 2, 0, 100, 4⟩, ⟨1, 2, 100, 200, 7⟩].filter (fun x => !sameR x ⟨1, 2, 0, 0, 0⟩)).length 2 = 0 from by decide +kernel]
  replace hv1 := own_below hv1 hb4
  replace hv3 := own_below hv3 hb4
  replace hXa := hXa.below hb4 hXa.lt
  replace hXb := hXb.below hb4 hXb.lt
  replace hB := hB.trans (hb4.mono hs)
  replace hs := hB.size
  clear hb4 hv3
  obtain ⟨A4, c4, rfl⟩ := slice_of_own hv4
  have a0 : w4.cell? ⟨w.heap.size, 0, none⟩ = some (.int .i64 1) := hXa.cell 0
  have a1 : w4.cell? ⟨w.heap.size, 1, none⟩ = some (.int .i64 2) := hXa.cell 1
  have a2 : w4.cell? ⟨w.heap.size, 2, none⟩ = some (.int .i64 0) := hXa.cell 2
  have a3 : w4.cell? ⟨w.heap.size, 3, none⟩ = some (.int .i64 100) := hXa.cell 3
  have a4 : w4.cell? ⟨w.heap.size, 4, none⟩ = some (.int .i64 4) := hXa.cell 4
  have b0 : w4.cell? ⟨w.heap.size + 1, 0, none⟩ = some (.int .i64 1) := hXb.cell 0
  have b1 : w4.cell? ⟨w.heap.size + 1, 1, none⟩ = some (.int .i64 2) := hXb.cell 1
  have b2 : w4.cell? ⟨w.heap.size + 1, 2, none⟩ = some (.int .i64 100) := hXb.cell 2
  have b3 : w4.cell? ⟨w.heap.size + 1, 3, none⟩ = some (.int .i64 200) := hXb.cell 3
  have b4 : w4.cell? ⟨w.heap.size + 1, 4, none⟩ = some (.int .i64 5) := hXb.cell 4
  go_wp2_with fail
  clear a0 a1 a2 a3 a4 b0 b1 b2 b3 b4
  refine (del_any A4 1 c4 [⟨1, 2, 100, 200, 7⟩] ⟨1, 2, 0, 100, 4⟩ w4 rfl (by omega) (Sl.of_own hv4)).mono ?_
  rintro e w5 ⟨v5, rfl, hv5, hb5⟩
  replace hv5 : w5.ownsRow w4.heap.size 27 5 v5 1 (flatRg [⟨1, 2, 100, 200, 7⟩]) := hv5
  rw [show delCode ([⟨1, 2, 100, 200, 7⟩].filter (fun x => !sameR x ⟨1, 2, 0, 100, 4⟩)).length 1 = 6 from by decide +kernel]
  replace hv1 := own_below hv1 hb5
  replace hv4 := own_below hv4 hb5
  replace hXa := hXa.below hb5 hXa.lt
  replace hXb := hXb.below hb5 hXb.lt
  replace hB := hB.trans (hb5.mono hs)
  replace hs := hB.size
  clear hb5
  obtain ⟨A5, c5, rfl⟩ := slice_of_own hv5
  clear hv5
  go_wp2_with fail
  refine (owlt_any A1 2 c1 [⟨1, 2, 0, 100, 4⟩, ⟨1, 2, 100, 200, 5⟩] 0 1 2 10 100 0 w5 rfl (by omega) (Sl.of_own hv1)).mono ?_
  rintro e w6 ⟨i6, o6, b6, rfl, hask, how, hb6⟩
  have hik : i6 = 0 := by
    have hall : ∀ j, j ≤ 2 → AskAt [⟨1, 2, 0, 100, 4⟩, ⟨1, 2, 100, 200, 5⟩] 1 2 100 2 j → j = 0 := by decide +kernel
    exact hall _ hask.1 hask
  rw [hik] at how
  have hres : owR [⟨1, 2, 0, 100, 4⟩, ⟨1, 2, 100, 200, 5⟩] 1 2 10 2 0 = (4, true) := by decide +kernel
  rw [hres] at how
  simp only [Prod.mk.injEq] at how
  obtain ⟨rfl, rfl⟩ := how
  clear hik hask hres
  replace hv1 := own_below hv1 hb6
  replace hv4 := own_below hv4 hb6
  replace hXa := hXa.below hb6 hXa.lt
  replace hXb := hXb.below hb6 hXb.lt
  replace hB := hB.trans (hb6.mono hs)
  replace hs := hB.size
  clear hb6
  go_wp2_with fail
  refine (owlt_any A1 2 c1 [⟨1, 2, 0, 100, 4⟩, ⟨1, 2, 100, 200, 5⟩] 0 1 2 10 101 0 w6 rfl (by omega) (Sl.of_own hv1)).mono ?_
  rintro e w7 ⟨i7, o7, b7, rfl, hask, how, hb7⟩
  have hik : i7 = 1 := by
    have hall : ∀ j, j ≤ 2 → AskAt [⟨1, 2, 0, 100, 4⟩, ⟨1, 2, 100, 200, 5⟩] 1 2 101 2 j → j = 1 := by decide +kernel
    exact hall _ hask.1 hask
  rw [hik] at how
  have hres : owR [⟨1, 2, 0, 100, 4⟩, ⟨1, 2, 100, 200, 5⟩] 1 2 10 2 1 = (0, false) := by decide +kernel
  rw [hres] at how
  simp only [Prod.mk.injEq] at how
  obtain ⟨rfl, rfl⟩ := how
  clear hik hask hres
  replace hv1 := own_below hv1 hb7
  replace hv4 := own_below hv4 hb7
  replace hXa := hXa.below hb7 hXa.lt
  replace hXb := hXb.below hb7 hXb.lt
  replace hB := hB.trans (hb7.mono hs)
  replace hs := hB.size
  clear hb7
  have a0 : w7.cell? ⟨w.heap.size, 0, none⟩ = some (.int .i64 1) := hXa.cell 0
  have a1 : w7.cell? ⟨w.heap.size, 1, none⟩ = some (.int .i64 2) := hXa.cell 1
  have a2 : w7.cell? ⟨w.heap.size, 2, none⟩ = some (.int .i64 0) := hXa.cell 2
  have a3 : w7.cell? ⟨w.heap.size, 3, none⟩ = some (.int .i64 100) := hXa.cell 3
  have a4 : w7.cell? ⟨w.heap.size, 4, none⟩ = some (.int .i64 4) := hXa.cell 4
  have b0 : w7.cell? ⟨w.heap.size + 1, 0, none⟩ = some (.int .i64 1) := hXb.cell 0
  have b1 : w7.cell? ⟨w.heap.size + 1, 1, none⟩ = some (.int .i64 2) := hXb.cell 1
  have b2 : w7.cell? ⟨w.heap.size + 1, 2, none⟩ = some (.int .i64 100) := hXb.cell 2
  have b3 : w7.cell? ⟨w.heap.size + 1, 3, none⟩ = some (.int .i64 200) := hXb.cell 3
  have b4 : w7.cell? ⟨w.heap.size + 1, 4, none⟩ = some (.int .i64 5) := hXb.cell 4
  have fb4 := hXb.free 4
  have hab : w.heap.size ≠ w.heap.size + 1 := by omega
  have hlb := hXb.lt
  have hla := hXa.lt
  go_wp2_with fail
  clear a0 a1 a2 a3 a4 b0 b1 b2 b3 b4
  replace hXb : Blok (w7.setCell ⟨w.heap.size + 1, 4, none⟩ (.int .i64 7)) (w.heap.size + 1) 27 #[.int .i64 1, .int .i64 2, .int .i64 100, .int .i64 200, .int .i64 7] := hXb.set_ 4 (.int .i64 7)
  replace hXa := hXa.far (p := ⟨w.heap.size + 1, 4, none⟩) hab (.int .i64 7)
  replace hv1 := ownsRow_setCell_below hv1 (a := ⟨w.heap.size + 1, 4, none⟩) (by show w.heap.size + 1 < _; omega) (.int .i64 7)
  replace hv4 := ownsRow_setCell_below hv4 (a := ⟨w.heap.size + 1, 4, none⟩) (by show w.heap.size + 1 < _; omega) (.int .i64 7)
  replace hB := hB.setCell (p := ⟨w.heap.size + 1, 4, none⟩) (by show w.heap.size ≤ w.heap.size + 1; omega) (.int .i64 7)
  replace hs := hB.size
  have hO := own_lit (w7.setCell ⟨w.heap.size + 1, 4, none⟩ (.int .i64 7)) 0 27 5 1 #[.int .i64 1, .int .i64 2, .int .i64 100, .int .i64 200, .int .i64 7] (by omega) rfl (by simp [maxLen])
  replace hXb := hXb.alloc (.cells #[.int .i64 1, .int .i64 2, .int .i64 100, .int .i64 200, .int .i64 7] 27)
  replace hXa := hXa.alloc (.cells #[.int .i64 1, .int .i64 2, .int .i64 100, .int .i64 200, .int .i64 7] 27)
  replace hv1 := hv1.alloc (.cells #[.int .i64 1, .int .i64 2, .int .i64 100, .int .i64 200, .int .i64 7] 27)
  replace hv4 := hv4.alloc (.cells #[.int .i64 1, .int .i64 2, .int .i64 100, .int .i64 200, .int .i64 7] 27)
  replace hB := hB.alloc hs (.cells #[.int .i64 1, .int .i64 2, .int .i64 100, .int .i64 200, .int .i64 7] 27)
  replace hs := hB.size
  simp only [World.size_setCell] at hO
  generalize (w7.setCell ⟨w.heap.size + 1, 4, none⟩ (.int .i64 7)).alloc (.cells #[.int .i64 1, .int .i64 2, .int .i64 100, .int .i64 200, .int .i64 7] 27) = w8 at *
  refine (same_any A4 (some ⟨w7.heap.size, 0, none⟩) 1 c4 1 1 [⟨1, 2, 100, 200, 7⟩] [⟨1, 2, 100, 200, 7⟩] w8 rfl rfl (by omega) (by omega) (Sl.of_own hv4) (Sl.of_own hO)).mono ?_
  rw [show decide (([⟨1, 2, 100, 200, 7⟩] : List Rg) = [⟨1, 2, 100, 200, 7⟩]) = true from by decide +kernel]
  rintro e w9 ⟨rfl, hb9⟩
  clear hO
  replace hv1 := own_below hv1 hb9
  replace hv4 := own_below hv4 hb9
  replace hXa := hXa.below hb9 hXa.lt
  replace hXb := hXb.below hb9 hXb.lt
  replace hB := hB.trans (hb9.mono hs)
  replace hs := hB.size
  clear hb9
  go_wp2_with fail
  refine (expire_any A1 2 c1 [⟨1, 2, 0, 100, 4⟩, ⟨1, 2, 100, 200, 5⟩] 100 w9 rfl (by omega) (Sl.of_own hv1)).mono ?_
  rintro e w10 ⟨v10, rfl, hv10, hb10⟩
  replace hv10 : w10.ownsRow w9.heap.size 27 5 v10 1 (flatRg [⟨1, 2, 100, 200, 5⟩]) := hv10
  replace hv1 := own_below hv1 hb10
  replace hv4 := own_below hv4 hb10
  replace hXa := hXa.below hb10 hXa.lt
  replace hXb := hXb.below hb10 hXb.lt
  replace hB := hB.trans (hb10.mono hs)
  replace hs := hB.size
  clear hb10
  obtain ⟨A10, c10, rfl⟩ := slice_of_own hv10
  clear hv10
  go_wp2_with fail
  refine (right_any A1 2 c1 [⟨1, 2, 0, 100, 4⟩, ⟨1, 2, 100, 200, 5⟩] w10 rfl (by omega) (Sl.of_own hv1)).mono ?_
  rw [show rightB [⟨1, 2, 0, 100, 4⟩, ⟨1, 2, 100, 200, 5⟩] = true from by decide +kernel]
  rintro e w11 ⟨rfl, hb11⟩
  replace hv1 := own_below hv1 hb11
  replace hv4 := own_below hv4 hb11
  replace hXa := hXa.below hb11 hXa.lt
  replace hXb := hXb.below hb11 hXb.lt
  replace hB := hB.trans (hb11.mono hs)
  replace hs := hB.size
  clear hb11
  have a0 : w11.cell? ⟨w.heap.size, 0, none⟩ = some (.int .i64 1) := hXa.cell 0
  have a1 : w11.cell? ⟨w.heap.size, 1, none⟩ = some (.int .i64 2) := hXa.cell 1
  have a2 : w11.cell? ⟨w.heap.size, 2, none⟩ = some (.int .i64 0) := hXa.cell 2
  have a3 : w11.cell? ⟨w.heap.size, 3, none⟩ = some (.int .i64 100) := hXa.cell 3
  have a4 : w11.cell? ⟨w.heap.size, 4, none⟩ = some (.int .i64 4) := hXa.cell 4
  have b0 : w11.cell? ⟨w.heap.size + 1, 0, none⟩ = some (.int .i64 1) := hXb.cell 0
  have b1 : w11.cell? ⟨w.heap.size + 1, 1, none⟩ = some (.int .i64 2) := hXb.cell 1
  have b2 : w11.cell? ⟨w.heap.size + 1, 2, none⟩ = some (.int .i64 100) := hXb.cell 2
  have b3 : w11.cell? ⟨w.heap.size + 1, 3, none⟩ = some (.int .i64 200) := hXb.cell 3
  have b4 : w11.cell? ⟨w.heap.size + 1, 4, none⟩ = some (.int .i64 7) := hXb.cell 4
  have hlb := hXb.lt
  have hla := hXa.lt
  go_wp2_with fail
  clear a0 a1 a2 a3 a4 b0 b1 b2 b3 b4
  have hO := own_lit w11 0 27 5 2 #[.int .i64 1, .int .i64 2, .int .i64 100, .int .i64 200, .int .i64 7, .int .i64 1, .int .i64 2, .int .i64 0, .int .i64 100, .int .i64 4] (by omega) rfl (by simp [maxLen])
  replace hXb := hXb.alloc (.cells #[.int .i64 1, .int .i64 2, .int .i64 100, .int .i64 200, .int .i64 7, .int .i64 1, .int .i64 2, .int .i64 0, .int .i64 100, .int .i64 4] 27)
  replace hXa := hXa.alloc (.cells #[.int .i64 1, .int .i64 2, .int .i64 100, .int .i64 200, .int .i64 7, .int .i64 1, .int .i64 2, .int .i64 0, .int .i64 100, .int .i64 4] 27)
  replace hv1 := hv1.alloc (.cells #[.int .i64 1, .int .i64 2, .int .i64 100, .int .i64 200, .int .i64 7, .int .i64 1, .int .i64 2, .int .i64 0, .int .i64 100, .int .i64 4] 27)
  replace hv4 := hv4.alloc (.cells #[.int .i64 1, .int .i64 2, .int .i64 100, .int .i64 200, .int .i64 7, .int .i64 1, .int .i64 2, .int .i64 0, .int .i64 100, .int .i64 4] 27)
  replace hB := hB.alloc hs (.cells #[.int .i64 1, .int .i64 2, .int .i64 100, .int .i64 200, .int .i64 7, .int .i64 1, .int .i64 2, .int .i64 0, .int .i64 100, .int .i64 4] 27)
  replace hs := hB.size
  generalize w11.alloc (.cells #[.int .i64 1, .int .i64 2, .int .i64 100, .int .i64 200, .int .i64 7, .int .i64 1, .int .i64 2, .int .i64 0, .int .i64 100, .int .i64 4] 27) = w12 at *
  refine (right_any (some ⟨w11.heap.size, 0, none⟩) 2 2 [⟨1, 2, 100, 200, 7⟩, ⟨1, 2, 0, 100, 4⟩] w12 rfl (by omega) (Sl.of_own hO)).mono ?_
  rw [show rightB [⟨1, 2, 100, 200, 7⟩, ⟨1, 2, 0, 100, 4⟩] = false from by decide +kernel]
  rintro e w13 ⟨rfl, hb13⟩
  clear hO
  replace hv1 := own_below hv1 hb13
  replace hv4 := own_below hv4 hb13
  replace hXa := hXa.below hb13 hXa.lt
  replace hXb := hXb.below hb13 hXb.lt
  replace hB := hB.trans (hb13.mono hs)
  replace hs := hB.size
  clear hb13
  have a0 : w13.cell? ⟨w.heap.size, 0, none⟩ = some (.int .i64 1) := hXa.cell 0
  have a1 : w13.cell? ⟨w.heap.size, 1, none⟩ = some (.int .i64 2) := hXa.cell 1
  have a2 : w13.cell? ⟨w.heap.size, 2, none⟩ = some (.int .i64 0) := hXa.cell 2
  have a3 : w13.cell? ⟨w.heap.size, 3, none⟩ = some (.int .i64 100) := hXa.cell 3
  have a4 : w13.cell? ⟨w.heap.size, 4, none⟩ = some (.int .i64 4) := hXa.cell 4
  have b0 : w13.cell? ⟨w.heap.size + 1, 0, none⟩ = some (.int .i64 1) := hXb.cell 0
  have b1 : w13.cell? ⟨w.heap.size + 1, 1, none⟩ = some (.int .i64 2) := hXb.cell 1
  have b2 : w13.cell? ⟨w.heap.size + 1, 2, none⟩ = some (.int .i64 100) := hXb.cell 2
  have b3 : w13.cell? ⟨w.heap.size + 1, 3, none⟩ = some (.int .i64 200) := hXb.cell 3
  have b4 : w13.cell? ⟨w.heap.size + 1, 4, none⟩ = some (.int .i64 7) := hXb.cell 4
  have hlb := hXb.lt
  have hla := hXa.lt
  go_wp2_with fail
  clear a0 a1 a2 a3 a4 b0 b1 b2 b3 b4
  refine (cmpR_any ⟨1, 2, 0, 100, 4⟩ ⟨1, 2, 100, 200, 7⟩ w13).mono ?_
  rw [show cmpR ⟨1, 2, 0, 100, 4⟩ ⟨1, 2, 100, 200, 7⟩ = -1 from by decide +kernel]
  rintro e w14 ⟨rfl, hb14⟩
  replace hB := hB.trans (hb14.mono hs)
  clear hb14 hXa hXb hv1 hv4
  go_wp2
  go_ret
  exact ⟨rfl, hB⟩
end Go.Proofs.Ytglhembdlipccaa
