/- Layer 6's small case comes out right. No condition. -/
import Derived.Test.YtojjnbpgdegjiaaContacts6
import Derived.Test.YtojjnbpgdegjiaaInts
namespace Go.Proofs.Ytojjnbpgdegjiaa
open Go.ChangeShapes Go.WideShapes Go.ChangeAt Go.RowKit Go.Sort
set_option linter.unusedSimpArgs false
set_option linter.unusedVariables false
theorem own_below {w w' : World} {base : Nat} {e : TypeId} {size n : Nat} {v : Value} {xs : List Value} (h : w.ownsRow base e size v n xs) (hb : Below w.heap.size w w') : w'.ownsRow base e size v n xs :=
  h.kept (grown_of_below (row := some w.heap.size) hb) (.inr (fun e => by have := (h.lt _ e).2; omega))
theorem add_first {d : List Co} {r : Co} {n i : Nat} (q : Nat) (hi : i ≤ n) (h1 : i = 0 ∨ cmpC (gCo d (i - 1)) r < 0) (h2 : i = n ∨ 0 ≤ cmpC (gCo d i) r) (hq : ∀ j, j ≤ n → (j = 0 ∨ cmpC (gCo d (j - 1)) r < 0) → (j = n ∨ 0 ≤ cmpC (gCo d j) r) → j = q) : i = q := hq i hi h1 h2
set_option maxHeartbeats 8000000 in
set_option maxRecDepth 100000 in
theorem small06 (w : World) :
    Calls Try.prog 9 #[] w fun e w' => e = .returned (.bool true) ∧ Below w.heap.size w w' := by
  have hB : Below w.heap.size w ((((w.alloc (.cells #[.int .i64 5, .int .i64 1, .int .i64 2, .int .i64 10, .int .i64 20, .int .i64 3] 28)).alloc (.cells #[.int .i64 4, .int .i64 1, .int .i64 2, .int .i64 20, .int .i64 30, .int .i64 1] 28)).alloc (.cells #[.int .i64 3, .int .i64 1, .int .i64 2, .int .i64 29, .int .i64 40, .int .i64 1] 28)).alloc (.cells #[.int .i64 4, .int .i64 1, .int .i64 2, .int .i64 20, .int .i64 30, .int .i64 1] 28)) := by (repeat (first | exact Below.refl _ _ | refine Below.alloc ?_ (by first | omega | (simp; done) | (simp; omega)) _ | refine Below.setCell ?_ (by first | omega | (simp; done) | (simp; omega)) _ | refine Below.drew ?_))
  have hXa := (((Blok.new w 28 #[.int .i64 5, .int .i64 1, .int .i64 2, .int .i64 10, .int .i64 20, .int .i64 3]).alloc (.cells #[.int .i64 4, .int .i64 1, .int .i64 2, .int .i64 20, .int .i64 30, .int .i64 1] 28)).alloc (.cells #[.int .i64 3, .int .i64 1, .int .i64 2, .int .i64 29, .int .i64 40, .int .i64 1] 28)).alloc (.cells #[.int .i64 4, .int .i64 1, .int .i64 2, .int .i64 20, .int .i64 30, .int .i64 1] 28)
  have hXb := ((Blok.new (w.alloc (.cells #[.int .i64 5, .int .i64 1, .int .i64 2, .int .i64 10, .int .i64 20, .int .i64 3] 28)) 28 #[.int .i64 4, .int .i64 1, .int .i64 2, .int .i64 20, .int .i64 30, .int .i64 1]).alloc (.cells #[.int .i64 3, .int .i64 1, .int .i64 2, .int .i64 29, .int .i64 40, .int .i64 1] 28)).alloc (.cells #[.int .i64 4, .int .i64 1, .int .i64 2, .int .i64 20, .int .i64 30, .int .i64 1] 28)
  have hXc := (Blok.new ((w.alloc (.cells #[.int .i64 5, .int .i64 1, .int .i64 2, .int .i64 10, .int .i64 20, .int .i64 3] 28)).alloc (.cells #[.int .i64 4, .int .i64 1, .int .i64 2, .int .i64 20, .int .i64 30, .int .i64 1] 28)) 28 #[.int .i64 3, .int .i64 1, .int .i64 2, .int .i64 29, .int .i64 40, .int .i64 1]).alloc (.cells #[.int .i64 4, .int .i64 1, .int .i64 2, .int .i64 20, .int .i64 30, .int .i64 1] 28)
  have hO := own_lit (((w.alloc (.cells #[.int .i64 5, .int .i64 1, .int .i64 2, .int .i64 10, .int .i64 20, .int .i64 3] 28)).alloc (.cells #[.int .i64 4, .int .i64 1, .int .i64 2, .int .i64 20, .int .i64 30, .int .i64 1] 28)).alloc (.cells #[.int .i64 3, .int .i64 1, .int .i64 2, .int .i64 29, .int .i64 40, .int .i64 1] 28)) 0 28 6 1 #[.int .i64 4, .int .i64 1, .int .i64 2, .int .i64 20, .int .i64 30, .int .i64 1] (by omega) rfl (by simp [maxLen])
  simp only [World.size_alloc] at hXb hXc hO
  have hs := hB.size
  go_enter Try.func9, Try.ntmps9
  go_wp2_with fail
  have hz0 : ((((w.alloc (.cells #[.int .i64 5, .int .i64 1, .int .i64 2, .int .i64 10, .int .i64 20, .int .i64 3] 28)).alloc (.cells #[.int .i64 4, .int .i64 1, .int .i64 2, .int .i64 20, .int .i64 30, .int .i64 1] 28)).alloc (.cells #[.int .i64 3, .int .i64 1, .int .i64 2, .int .i64 29, .int .i64 40, .int .i64 1] 28)).alloc (.cells #[.int .i64 4, .int .i64 1, .int .i64 2, .int .i64 20, .int .i64 30, .int .i64 1] 28)).heap.size = w.heap.size + 1 + 1 + 1 + 1 := by simp
  generalize ((((w.alloc (.cells #[.int .i64 5, .int .i64 1, .int .i64 2, .int .i64 10, .int .i64 20, .int .i64 3] 28)).alloc (.cells #[.int .i64 4, .int .i64 1, .int .i64 2, .int .i64 20, .int .i64 30, .int .i64 1] 28)).alloc (.cells #[.int .i64 3, .int .i64 1, .int .i64 2, .int .i64 29, .int .i64 40, .int .i64 1] 28)).alloc (.cells #[.int .i64 4, .int .i64 1, .int .i64 2, .int .i64 20, .int .i64 30, .int .i64 1] 28)) = w0 at *
  refine (add_yes (some ⟨w.heap.size + 1 + 1 + 1, 0, none⟩) 1 1 [⟨4, 1, 2, 20, 30, 1⟩] ⟨5, 1, 2, 10, 20, 3⟩ w0 rfl (by omega) (Sl.of_own hO) (by decide +kernel)).mono ?_
  rintro e w1 ⟨v1, i1, rfl, hi1, hl1, hu1, hv1, hb1⟩
  obtain rfl : i1 = 0 := add_first 0 hi1 hl1 hu1 (by decide +kernel)
  replace hv1 : w1.ownsRow w0.heap.size 28 6 v1 2 (flatCo [⟨5, 1, 2, 10, 20, 3⟩, ⟨4, 1, 2, 20, 30, 1⟩]) := hv1
  clear hi1 hl1 hu1 hO
  replace hXa := hXa.below hb1 hXa.lt
  replace hXb := hXb.below hb1 hXb.lt
  replace hXc := hXc.below hb1 hXc.lt
  replace hB := hB.trans (hb1.mono hs)
  replace hs := hB.size
  clear hb1
  obtain ⟨A1, c1, rfl⟩ := slice_of_own hv1
  have c0 : w1.cell? ⟨w.heap.size + 1 + 1, 0, none⟩ = some (.int .i64 3) := hXc.cell 0
  have c1 : w1.cell? ⟨w.heap.size + 1 + 1, 1, none⟩ = some (.int .i64 1) := hXc.cell 1
  have c2 : w1.cell? ⟨w.heap.size + 1 + 1, 2, none⟩ = some (.int .i64 2) := hXc.cell 2
  have c3 : w1.cell? ⟨w.heap.size + 1 + 1, 3, none⟩ = some (.int .i64 29) := hXc.cell 3
  have c4 : w1.cell? ⟨w.heap.size + 1 + 1, 4, none⟩ = some (.int .i64 40) := hXc.cell 4
  have c5 : w1.cell? ⟨w.heap.size + 1 + 1, 5, none⟩ = some (.int .i64 1) := hXc.cell 5
  have lt_c := hXc.lt
  go_wp2_with fail
  clear c0 c1 c2 c3 c4 c5 lt_c
  refine (add_no A1 2 c1 [⟨5, 1, 2, 10, 20, 3⟩, ⟨4, 1, 2, 20, 30, 1⟩] ⟨3, 1, 2, 29, 40, 1⟩ w1 5 rfl (by omega) (Sl.of_own hv1) (by decide +kernel) (by omega)).mono ?_
  rintro e w2 ⟨v2, rfl, hv2, hb2⟩
  replace hv1 := own_below hv1 hb2
  replace hXa := hXa.below hb2 hXa.lt
  replace hXb := hXb.below hb2 hXb.lt
  replace hXc := hXc.below hb2 hXc.lt
  replace hB := hB.trans (hb2.mono hs)
  replace hs := hB.size
  clear hb2
  obtain ⟨A2, c2, rfl⟩ := slice_of_own hv2
  clear hv2
  have c0 : w2.cell? ⟨w.heap.size + 1 + 1, 0, none⟩ = some (.int .i64 3) := hXc.cell 0
  have c1 : w2.cell? ⟨w.heap.size + 1 + 1, 1, none⟩ = some (.int .i64 1) := hXc.cell 1
  have c2 : w2.cell? ⟨w.heap.size + 1 + 1, 2, none⟩ = some (.int .i64 2) := hXc.cell 2
  have c3 : w2.cell? ⟨w.heap.size + 1 + 1, 3, none⟩ = some (.int .i64 29) := hXc.cell 3
  have c4 : w2.cell? ⟨w.heap.size + 1 + 1, 4, none⟩ = some (.int .i64 40) := hXc.cell 4
  have c5 : w2.cell? ⟨w.heap.size + 1 + 1, 5, none⟩ = some (.int .i64 1) := hXc.cell 5
  have lt_c := hXc.lt
  have fc3 := hXc.free 3
  have fc0 := hXc.free 0
  go_wp2_with fail
  clear c0 c1 c2 c3 c4 c5 lt_c
  clear fc3 fc0
  replace hXc : Blok ((w2.setCell ⟨w.heap.size + 1 + 1, 3, none⟩ (.int .i64 30)).setCell ⟨w.heap.size + 1 + 1, 0, none⟩ (.int .i64 4)) (w.heap.size + 1 + 1) 28 #[.int .i64 4, .int .i64 1, .int .i64 2, .int .i64 30, .int .i64 40, .int .i64 1] := (hXc.set_ 3 (.int .i64 30)).set_ 0 (.int .i64 4)
  replace hXa := (hXa.far (p := ⟨w.heap.size + 1 + 1, 3, none⟩) (by show _ ≠ w.heap.size + 1 + 1; omega) (.int .i64 30)).far (p := ⟨w.heap.size + 1 + 1, 0, none⟩) (by show _ ≠ w.heap.size + 1 + 1; omega) (.int .i64 4)
  replace hXb := (hXb.far (p := ⟨w.heap.size + 1 + 1, 3, none⟩) (by show _ ≠ w.heap.size + 1 + 1; omega) (.int .i64 30)).far (p := ⟨w.heap.size + 1 + 1, 0, none⟩) (by show _ ≠ w.heap.size + 1 + 1; omega) (.int .i64 4)
  replace hv1 := ownsRow_setCell_below (ownsRow_setCell_below hv1 (a := ⟨w.heap.size + 1 + 1, 3, none⟩) (by show w.heap.size + 1 + 1 < _; omega) (.int .i64 30)) (a := ⟨w.heap.size + 1 + 1, 0, none⟩) (by show w.heap.size + 1 + 1 < _; omega) (.int .i64 4)
  replace hB := (hB.setCell (p := ⟨w.heap.size + 1 + 1, 3, none⟩) (by show w.heap.size ≤ w.heap.size + 1 + 1; omega) (.int .i64 30)).setCell (p := ⟨w.heap.size + 1 + 1, 0, none⟩) (by show w.heap.size ≤ w.heap.size + 1 + 1; omega) (.int .i64 4)
  replace hs := hB.size
  generalize ((w2.setCell ⟨w.heap.size + 1 + 1, 3, none⟩ (.int .i64 30)).setCell ⟨w.heap.size + 1 + 1, 0, none⟩ (.int .i64 4)) = w3 at *
  refine (add_no A1 2 c1 [⟨5, 1, 2, 10, 20, 3⟩, ⟨4, 1, 2, 20, 30, 1⟩] ⟨4, 1, 2, 30, 40, 1⟩ w3 4 rfl (by omega) (Sl.of_own hv1) (by decide +kernel) (by omega)).mono ?_
  rintro e w4 ⟨v4, rfl, hv4, hb4⟩
  replace hv1 := own_below hv1 hb4
  replace hXa := hXa.below hb4 hXa.lt
  replace hXb := hXb.below hb4 hXb.lt
  replace hXc := hXc.below hb4 hXc.lt
  replace hB := hB.trans (hb4.mono hs)
  replace hs := hB.size
  clear hb4
  obtain ⟨A4, c4, rfl⟩ := slice_of_own hv4
  clear hv4 hXc
  go_wp2_with fail
  refine (change_yes A1 2 c1 [⟨5, 1, 2, 10, 20, 3⟩, ⟨4, 1, 2, 20, 30, 1⟩] 5 9 w4 0 rfl (by omega) (Sl.of_own hv1) (by decide +kernel) (by omega) (by decide +kernel) (by decide +kernel)).mono ?_
  rintro e w5 ⟨vm, rfl, hvm, hb5⟩
  replace hvm : w5.ownsRow w4.heap.size 28 6 vm 2 (flatCo [⟨5, 1, 2, 10, 20, 9⟩, ⟨4, 1, 2, 20, 30, 1⟩]) := hvm
  replace hv1 := own_below hv1 hb5
  replace hXa := hXa.below hb5 hXa.lt
  replace hXb := hXb.below hb5 hXb.lt
  replace hB := hB.trans (hb5.mono hs)
  replace hs := hB.size
  clear hb5
  obtain ⟨Am, cm, rfl⟩ := slice_of_own hvm
  go_wp2_with fail
  refine (del_any A1 2 c1 [⟨5, 1, 2, 10, 20, 3⟩, ⟨4, 1, 2, 20, 30, 1⟩] 5 w5 rfl (by omega) (Sl.of_own hv1)).mono ?_
  rintro e w6 ⟨vn, rfl, hvn, hb6⟩
  replace hvn : w6.ownsRow w5.heap.size 28 6 vn 1 (flatCo [⟨4, 1, 2, 20, 30, 1⟩]) := hvn
  rw [show delCode (List.filter (fun x => !(x.id == 5)) ([⟨5, 1, 2, 10, 20, 3⟩, ⟨4, 1, 2, 20, 30, 1⟩] : List Co)).length 2 = 0 from by decide +kernel]
  replace hv1 := own_below hv1 hb6
  replace hvm := own_below hvm hb6
  replace hXa := hXa.below hb6 hXa.lt
  replace hXb := hXb.below hb6 hXb.lt
  replace hB := hB.trans (hb6.mono hs)
  replace hs := hB.size
  clear hb6
  obtain ⟨An, cn, rfl⟩ := slice_of_own hvn
  go_wp2_with fail
  refine (del_any An 1 cn [⟨4, 1, 2, 20, 30, 1⟩] 5 w6 rfl (by omega) (Sl.of_own hvn)).mono ?_
  rintro e w7 ⟨v7, rfl, hv7, hb7⟩
  replace hv7 : w7.ownsRow w6.heap.size 28 6 v7 1 (flatCo [⟨4, 1, 2, 20, 30, 1⟩]) := hv7
  rw [show delCode (List.filter (fun x => !(x.id == 5)) ([⟨4, 1, 2, 20, 30, 1⟩] : List Co)).length 1 = 6 from by decide +kernel]
  replace hv1 := own_below hv1 hb7
  replace hvm := own_below hvm hb7
  replace hvn := own_below hvn hb7
  replace hXa := hXa.below hb7 hXa.lt
  replace hXb := hXb.below hb7 hXb.lt
  replace hB := hB.trans (hb7.mono hs)
  replace hs := hB.size
  clear hb7
  obtain ⟨A7, c7, rfl⟩ := slice_of_own hv7
  clear hv7
  go_wp2_with fail
  refine (expire_any A1 2 c1 [⟨5, 1, 2, 10, 20, 3⟩, ⟨4, 1, 2, 20, 30, 1⟩] 20 w7 rfl (by omega) (Sl.of_own hv1)).mono ?_
  rintro e w8 ⟨vk, vg, rfl, hvk, hvg, hb8⟩
  replace hvk : w8.ownsRow w7.heap.size 28 6 vk 1 (flatCo [⟨4, 1, 2, 20, 30, 1⟩]) := hvk
  have eg : sortI (goneL ([⟨5, 1, 2, 10, 20, 3⟩, ⟨4, 1, 2, 20, 30, 1⟩] : List Co) 20) = [5] := by decide +kernel
  rw [eg] at hvg
  replace hvg : w8.ownsRow w7.heap.size 3 1 vg 1 ([5].map (Value.int .i64)) := hvg
  clear eg
  replace hv1 := own_below hv1 hb8
  replace hvm := own_below hvm hb8
  replace hvn := own_below hvn hb8
  replace hXa := hXa.below hb8 hXa.lt
  replace hXb := hXb.below hb8 hXb.lt
  replace hB := hB.trans (hb8.mono hs)
  replace hs := hB.size
  clear hb8
  obtain ⟨Ak, ck, rfl⟩ := slice_of_own hvk
  obtain ⟨Ag, cg, rfl⟩ := slice_of_own hvg
  go_wp2_with fail
  refine (find_yes Am 2 cm [⟨5, 1, 2, 10, 20, 9⟩, ⟨4, 1, 2, 20, 30, 1⟩] 5 w8 0 rfl (by omega) (Sl.of_own hvm) (by omega) (by decide +kernel) (by decide +kernel)).mono ?_
  rintro e w9 ⟨rfl, hb9⟩
  rw [show gCo [⟨5, 1, 2, 10, 20, 9⟩, ⟨4, 1, 2, 20, 30, 1⟩] 0 = ⟨5, 1, 2, 10, 20, 9⟩ from rfl]
  replace hv1 := own_below hv1 hb9
  replace hvm := own_below hvm hb9
  replace hvn := own_below hvn hb9
  replace hvk := own_below hvk hb9
  replace hvg := own_below hvg hb9
  replace hXa := hXa.below hb9 hXa.lt
  replace hXb := hXb.below hb9 hXb.lt
  replace hB := hB.trans (hb9.mono hs)
  replace hs := hB.size
  clear hb9 hvm
  have a0 : w9.cell? ⟨w.heap.size, 0, none⟩ = some (.int .i64 5) := hXa.cell 0
  have a1 : w9.cell? ⟨w.heap.size, 1, none⟩ = some (.int .i64 1) := hXa.cell 1
  have a2 : w9.cell? ⟨w.heap.size, 2, none⟩ = some (.int .i64 2) := hXa.cell 2
  have a3 : w9.cell? ⟨w.heap.size, 3, none⟩ = some (.int .i64 10) := hXa.cell 3
  have a4 : w9.cell? ⟨w.heap.size, 4, none⟩ = some (.int .i64 20) := hXa.cell 4
  have a5 : w9.cell? ⟨w.heap.size, 5, none⟩ = some (.int .i64 3) := hXa.cell 5
  have lt_a := hXa.lt
  have b0 : w9.cell? ⟨w.heap.size + 1, 0, none⟩ = some (.int .i64 4) := hXb.cell 0
  have b1 : w9.cell? ⟨w.heap.size + 1, 1, none⟩ = some (.int .i64 1) := hXb.cell 1
  have b2 : w9.cell? ⟨w.heap.size + 1, 2, none⟩ = some (.int .i64 2) := hXb.cell 2
  have b3 : w9.cell? ⟨w.heap.size + 1, 3, none⟩ = some (.int .i64 20) := hXb.cell 3
  have b4 : w9.cell? ⟨w.heap.size + 1, 4, none⟩ = some (.int .i64 30) := hXb.cell 4
  have b5 : w9.cell? ⟨w.heap.size + 1, 5, none⟩ = some (.int .i64 1) := hXb.cell 5
  have lt_b := hXb.lt
  go_wp2_with fail
  clear a0 a1 a2 a3 a4 a5 lt_a b0 b1 b2 b3 b4 b5 lt_b
  have hXx := Blok.new w9 28 #[.int .i64 5, .int .i64 1, .int .i64 2, .int .i64 10, .int .i64 20, .int .i64 9]
  replace hXa := hXa.alloc (.cells #[.int .i64 5, .int .i64 1, .int .i64 2, .int .i64 10, .int .i64 20, .int .i64 9] 28)
  replace hXb := hXb.alloc (.cells #[.int .i64 5, .int .i64 1, .int .i64 2, .int .i64 10, .int .i64 20, .int .i64 9] 28)
  replace hv1 := hv1.alloc (.cells #[.int .i64 5, .int .i64 1, .int .i64 2, .int .i64 10, .int .i64 20, .int .i64 9] 28)
  replace hvn := hvn.alloc (.cells #[.int .i64 5, .int .i64 1, .int .i64 2, .int .i64 10, .int .i64 20, .int .i64 9] 28)
  replace hvk := hvk.alloc (.cells #[.int .i64 5, .int .i64 1, .int .i64 2, .int .i64 10, .int .i64 20, .int .i64 9] 28)
  replace hvg := hvg.alloc (.cells #[.int .i64 5, .int .i64 1, .int .i64 2, .int .i64 10, .int .i64 20, .int .i64 9] 28)
  replace hB := hB.alloc hs (.cells #[.int .i64 5, .int .i64 1, .int .i64 2, .int .i64 10, .int .i64 20, .int .i64 9] 28)
  replace hs := hB.size
  have hz9 : w9.heap.size < (w9.alloc (.cells #[.int .i64 5, .int .i64 1, .int .i64 2, .int .i64 10, .int .i64 20, .int .i64 9] 28)).heap.size := by simp
  generalize hw10 : (w9.alloc (.cells #[.int .i64 5, .int .i64 1, .int .i64 2, .int .i64 10, .int .i64 20, .int .i64 9] 28)) = w10 at *
  have hz10 : w10.heap.size = w9.heap.size + 1 := by rw [← hw10]; simp
  clear hw10
  have hO := own_lit w10 0 28 6 2 #[.int .i64 5, .int .i64 1, .int .i64 2, .int .i64 10, .int .i64 20, .int .i64 3, .int .i64 4, .int .i64 1, .int .i64 2, .int .i64 20, .int .i64 30, .int .i64 1] (by omega) rfl (by simp [maxLen])
  replace hXa := hXa.alloc (.cells #[.int .i64 5, .int .i64 1, .int .i64 2, .int .i64 10, .int .i64 20, .int .i64 3, .int .i64 4, .int .i64 1, .int .i64 2, .int .i64 20, .int .i64 30, .int .i64 1] 28)
  replace hXb := hXb.alloc (.cells #[.int .i64 5, .int .i64 1, .int .i64 2, .int .i64 10, .int .i64 20, .int .i64 3, .int .i64 4, .int .i64 1, .int .i64 2, .int .i64 20, .int .i64 30, .int .i64 1] 28)
  replace hXx := hXx.alloc (.cells #[.int .i64 5, .int .i64 1, .int .i64 2, .int .i64 10, .int .i64 20, .int .i64 3, .int .i64 4, .int .i64 1, .int .i64 2, .int .i64 20, .int .i64 30, .int .i64 1] 28)
  replace hv1 := hv1.alloc (.cells #[.int .i64 5, .int .i64 1, .int .i64 2, .int .i64 10, .int .i64 20, .int .i64 3, .int .i64 4, .int .i64 1, .int .i64 2, .int .i64 20, .int .i64 30, .int .i64 1] 28)
  replace hvn := hvn.alloc (.cells #[.int .i64 5, .int .i64 1, .int .i64 2, .int .i64 10, .int .i64 20, .int .i64 3, .int .i64 4, .int .i64 1, .int .i64 2, .int .i64 20, .int .i64 30, .int .i64 1] 28)
  replace hvk := hvk.alloc (.cells #[.int .i64 5, .int .i64 1, .int .i64 2, .int .i64 10, .int .i64 20, .int .i64 3, .int .i64 4, .int .i64 1, .int .i64 2, .int .i64 20, .int .i64 30, .int .i64 1] 28)
  replace hvg := hvg.alloc (.cells #[.int .i64 5, .int .i64 1, .int .i64 2, .int .i64 10, .int .i64 20, .int .i64 3, .int .i64 4, .int .i64 1, .int .i64 2, .int .i64 20, .int .i64 30, .int .i64 1] 28)
  replace hB := hB.alloc hs (.cells #[.int .i64 5, .int .i64 1, .int .i64 2, .int .i64 10, .int .i64 20, .int .i64 3, .int .i64 4, .int .i64 1, .int .i64 2, .int .i64 20, .int .i64 30, .int .i64 1] 28)
  replace hs := hB.size
  generalize (w10.alloc (.cells #[.int .i64 5, .int .i64 1, .int .i64 2, .int .i64 10, .int .i64 20, .int .i64 3, .int .i64 4, .int .i64 1, .int .i64 2, .int .i64 20, .int .i64 30, .int .i64 1] 28)) = w11 at *
  rw [hz10] at hO
  refine (same_any A1 (some ⟨w9.heap.size + 1, 0, none⟩) 2 c1 2 2 [⟨5, 1, 2, 10, 20, 3⟩, ⟨4, 1, 2, 20, 30, 1⟩] [⟨5, 1, 2, 10, 20, 3⟩, ⟨4, 1, 2, 20, 30, 1⟩] w11 rfl rfl (by omega) (by omega) (Sl.of_own hv1) (Sl.of_own hO)).mono ?_
  rw [show decide (([⟨5, 1, 2, 10, 20, 3⟩, ⟨4, 1, 2, 20, 30, 1⟩] : List Co) = [⟨5, 1, 2, 10, 20, 3⟩, ⟨4, 1, 2, 20, 30, 1⟩]) = true from by decide +kernel]
  rintro e w12 ⟨rfl, hb12⟩
  clear hO
  replace hv1 := own_below hv1 hb12
  replace hvn := own_below hvn hb12
  replace hvk := own_below hvk hb12
  replace hvg := own_below hvg hb12
  replace hXa := hXa.below hb12 hXa.lt
  replace hXb := hXb.below hb12 hXb.lt
  replace hXx := hXx.below hb12 hXx.lt
  replace hB := hB.trans (hb12.mono hs)
  replace hs := hB.size
  clear hb12
  have a0 : w12.cell? ⟨w.heap.size, 0, none⟩ = some (.int .i64 5) := hXa.cell 0
  have a1 : w12.cell? ⟨w.heap.size, 1, none⟩ = some (.int .i64 1) := hXa.cell 1
  have a2 : w12.cell? ⟨w.heap.size, 2, none⟩ = some (.int .i64 2) := hXa.cell 2
  have a3 : w12.cell? ⟨w.heap.size, 3, none⟩ = some (.int .i64 10) := hXa.cell 3
  have a4 : w12.cell? ⟨w.heap.size, 4, none⟩ = some (.int .i64 20) := hXa.cell 4
  have a5 : w12.cell? ⟨w.heap.size, 5, none⟩ = some (.int .i64 3) := hXa.cell 5
  have lt_a := hXa.lt
  have b0 : w12.cell? ⟨w.heap.size + 1, 0, none⟩ = some (.int .i64 4) := hXb.cell 0
  have b1 : w12.cell? ⟨w.heap.size + 1, 1, none⟩ = some (.int .i64 1) := hXb.cell 1
  have b2 : w12.cell? ⟨w.heap.size + 1, 2, none⟩ = some (.int .i64 2) := hXb.cell 2
  have b3 : w12.cell? ⟨w.heap.size + 1, 3, none⟩ = some (.int .i64 20) := hXb.cell 3
  have b4 : w12.cell? ⟨w.heap.size + 1, 4, none⟩ = some (.int .i64 30) := hXb.cell 4
  have b5 : w12.cell? ⟨w.heap.size + 1, 5, none⟩ = some (.int .i64 1) := hXb.cell 5
  have lt_b := hXb.lt
  have x0 : w12.cell? ⟨w9.heap.size, 0, none⟩ = some (.int .i64 5) := hXx.cell 0
  have x1 : w12.cell? ⟨w9.heap.size, 1, none⟩ = some (.int .i64 1) := hXx.cell 1
  have x2 : w12.cell? ⟨w9.heap.size, 2, none⟩ = some (.int .i64 2) := hXx.cell 2
  have x3 : w12.cell? ⟨w9.heap.size, 3, none⟩ = some (.int .i64 10) := hXx.cell 3
  have x4 : w12.cell? ⟨w9.heap.size, 4, none⟩ = some (.int .i64 20) := hXx.cell 4
  have x5 : w12.cell? ⟨w9.heap.size, 5, none⟩ = some (.int .i64 9) := hXx.cell 5
  have lt_x := hXx.lt
  go_wp2_with fail
  clear a0 a1 a2 a3 a4 a5 lt_a b0 b1 b2 b3 b4 b5 lt_b x0 x1 x2 x3 x4 x5 lt_x
  have hO := own_lit w12 0 28 6 1 #[.int .i64 4, .int .i64 1, .int .i64 2, .int .i64 20, .int .i64 30, .int .i64 1] (by omega) rfl (by simp [maxLen])
  replace hXa := hXa.alloc (.cells #[.int .i64 4, .int .i64 1, .int .i64 2, .int .i64 20, .int .i64 30, .int .i64 1] 28)
  replace hXb := hXb.alloc (.cells #[.int .i64 4, .int .i64 1, .int .i64 2, .int .i64 20, .int .i64 30, .int .i64 1] 28)
  replace hXx := hXx.alloc (.cells #[.int .i64 4, .int .i64 1, .int .i64 2, .int .i64 20, .int .i64 30, .int .i64 1] 28)
  replace hv1 := hv1.alloc (.cells #[.int .i64 4, .int .i64 1, .int .i64 2, .int .i64 20, .int .i64 30, .int .i64 1] 28)
  replace hvn := hvn.alloc (.cells #[.int .i64 4, .int .i64 1, .int .i64 2, .int .i64 20, .int .i64 30, .int .i64 1] 28)
  replace hvk := hvk.alloc (.cells #[.int .i64 4, .int .i64 1, .int .i64 2, .int .i64 20, .int .i64 30, .int .i64 1] 28)
  replace hvg := hvg.alloc (.cells #[.int .i64 4, .int .i64 1, .int .i64 2, .int .i64 20, .int .i64 30, .int .i64 1] 28)
  replace hB := hB.alloc hs (.cells #[.int .i64 4, .int .i64 1, .int .i64 2, .int .i64 20, .int .i64 30, .int .i64 1] 28)
  replace hs := hB.size
  generalize (w12.alloc (.cells #[.int .i64 4, .int .i64 1, .int .i64 2, .int .i64 20, .int .i64 30, .int .i64 1] 28)) = w13 at *
  refine (same_any An (some ⟨w12.heap.size, 0, none⟩) 1 cn 1 1 [⟨4, 1, 2, 20, 30, 1⟩] [⟨4, 1, 2, 20, 30, 1⟩] w13 rfl rfl (by omega) (by omega) (Sl.of_own hvn) (Sl.of_own hO)).mono ?_
  rw [show decide (([⟨4, 1, 2, 20, 30, 1⟩] : List Co) = [⟨4, 1, 2, 20, 30, 1⟩]) = true from by decide +kernel]
  rintro e w14 ⟨rfl, hb14⟩
  clear hO
  replace hv1 := own_below hv1 hb14
  replace hvn := own_below hvn hb14
  replace hvk := own_below hvk hb14
  replace hvg := own_below hvg hb14
  replace hXa := hXa.below hb14 hXa.lt
  replace hXb := hXb.below hb14 hXb.lt
  replace hXx := hXx.below hb14 hXx.lt
  replace hB := hB.trans (hb14.mono hs)
  replace hs := hB.size
  clear hb14 hXx
  have a0 : w14.cell? ⟨w.heap.size, 0, none⟩ = some (.int .i64 5) := hXa.cell 0
  have a1 : w14.cell? ⟨w.heap.size, 1, none⟩ = some (.int .i64 1) := hXa.cell 1
  have a2 : w14.cell? ⟨w.heap.size, 2, none⟩ = some (.int .i64 2) := hXa.cell 2
  have a3 : w14.cell? ⟨w.heap.size, 3, none⟩ = some (.int .i64 10) := hXa.cell 3
  have a4 : w14.cell? ⟨w.heap.size, 4, none⟩ = some (.int .i64 20) := hXa.cell 4
  have a5 : w14.cell? ⟨w.heap.size, 5, none⟩ = some (.int .i64 3) := hXa.cell 5
  have lt_a := hXa.lt
  have b0 : w14.cell? ⟨w.heap.size + 1, 0, none⟩ = some (.int .i64 4) := hXb.cell 0
  have b1 : w14.cell? ⟨w.heap.size + 1, 1, none⟩ = some (.int .i64 1) := hXb.cell 1
  have b2 : w14.cell? ⟨w.heap.size + 1, 2, none⟩ = some (.int .i64 2) := hXb.cell 2
  have b3 : w14.cell? ⟨w.heap.size + 1, 3, none⟩ = some (.int .i64 20) := hXb.cell 3
  have b4 : w14.cell? ⟨w.heap.size + 1, 4, none⟩ = some (.int .i64 30) := hXb.cell 4
  have b5 : w14.cell? ⟨w.heap.size + 1, 5, none⟩ = some (.int .i64 1) := hXb.cell 5
  have lt_b := hXb.lt
  go_wp2_with fail
  clear a0 a1 a2 a3 a4 a5 lt_a b0 b1 b2 b3 b4 b5 lt_b
  refine (same_any Ak An 1 ck 1 cn [⟨4, 1, 2, 20, 30, 1⟩] [⟨4, 1, 2, 20, 30, 1⟩] w14 rfl rfl (by omega) (by omega) (Sl.of_own hvk) (Sl.of_own hvn)).mono ?_
  rw [show decide (([⟨4, 1, 2, 20, 30, 1⟩] : List Co) = [⟨4, 1, 2, 20, 30, 1⟩]) = true from by decide +kernel]
  rintro e w15 ⟨rfl, hb15⟩
  replace hv1 := own_below hv1 hb15
  replace hvn := own_below hvn hb15
  replace hvk := own_below hvk hb15
  replace hvg := own_below hvg hb15
  replace hXa := hXa.below hb15 hXa.lt
  replace hXb := hXb.below hb15 hXb.lt
  replace hB := hB.trans (hb15.mono hs)
  replace hs := hB.size
  clear hb15 hvk hvn
  have a0 : w15.cell? ⟨w.heap.size, 0, none⟩ = some (.int .i64 5) := hXa.cell 0
  have a1 : w15.cell? ⟨w.heap.size, 1, none⟩ = some (.int .i64 1) := hXa.cell 1
  have a2 : w15.cell? ⟨w.heap.size, 2, none⟩ = some (.int .i64 2) := hXa.cell 2
  have a3 : w15.cell? ⟨w.heap.size, 3, none⟩ = some (.int .i64 10) := hXa.cell 3
  have a4 : w15.cell? ⟨w.heap.size, 4, none⟩ = some (.int .i64 20) := hXa.cell 4
  have a5 : w15.cell? ⟨w.heap.size, 5, none⟩ = some (.int .i64 3) := hXa.cell 5
  have lt_a := hXa.lt
  have b0 : w15.cell? ⟨w.heap.size + 1, 0, none⟩ = some (.int .i64 4) := hXb.cell 0
  have b1 : w15.cell? ⟨w.heap.size + 1, 1, none⟩ = some (.int .i64 1) := hXb.cell 1
  have b2 : w15.cell? ⟨w.heap.size + 1, 2, none⟩ = some (.int .i64 2) := hXb.cell 2
  have b3 : w15.cell? ⟨w.heap.size + 1, 3, none⟩ = some (.int .i64 20) := hXb.cell 3
  have b4 : w15.cell? ⟨w.heap.size + 1, 4, none⟩ = some (.int .i64 30) := hXb.cell 4
  have b5 : w15.cell? ⟨w.heap.size + 1, 5, none⟩ = some (.int .i64 1) := hXb.cell 5
  have lt_b := hXb.lt
  go_wp2_with fail
  clear a0 a1 a2 a3 a4 a5 lt_a b0 b1 b2 b3 b4 b5 lt_b
  have hO := own_lit w15 0 3 1 1 #[.int .i64 5] (by omega) rfl (by simp [maxLen])
  replace hXa := hXa.alloc (.cells #[.int .i64 5] 3)
  replace hXb := hXb.alloc (.cells #[.int .i64 5] 3)
  replace hv1 := hv1.alloc (.cells #[.int .i64 5] 3)
  replace hvg := hvg.alloc (.cells #[.int .i64 5] 3)
  replace hB := hB.alloc hs (.cells #[.int .i64 5] 3)
  replace hs := hB.size
  generalize (w15.alloc (.cells #[.int .i64 5] 3)) = w16 at *
  refine (ints_any Ag (some ⟨w15.heap.size, 0, none⟩) 1 cg 1 1 [5] [5] w16 rfl rfl (by omega) (by omega) (Sl.of_own hvg) (Sl.of_own hO)).mono ?_
  rw [show decide (([5] : List Int) = [5]) = true from by decide +kernel]
  rintro e w17 ⟨rfl, hb17⟩
  clear hO
  replace hv1 := own_below hv1 hb17
  replace hvg := own_below hvg hb17
  replace hXa := hXa.below hb17 hXa.lt
  replace hXb := hXb.below hb17 hXb.lt
  replace hB := hB.trans (hb17.mono hs)
  replace hs := hB.size
  clear hb17 hvg
  have a0 : w17.cell? ⟨w.heap.size, 0, none⟩ = some (.int .i64 5) := hXa.cell 0
  have a1 : w17.cell? ⟨w.heap.size, 1, none⟩ = some (.int .i64 1) := hXa.cell 1
  have a2 : w17.cell? ⟨w.heap.size, 2, none⟩ = some (.int .i64 2) := hXa.cell 2
  have a3 : w17.cell? ⟨w.heap.size, 3, none⟩ = some (.int .i64 10) := hXa.cell 3
  have a4 : w17.cell? ⟨w.heap.size, 4, none⟩ = some (.int .i64 20) := hXa.cell 4
  have a5 : w17.cell? ⟨w.heap.size, 5, none⟩ = some (.int .i64 3) := hXa.cell 5
  have lt_a := hXa.lt
  have b0 : w17.cell? ⟨w.heap.size + 1, 0, none⟩ = some (.int .i64 4) := hXb.cell 0
  have b1 : w17.cell? ⟨w.heap.size + 1, 1, none⟩ = some (.int .i64 1) := hXb.cell 1
  have b2 : w17.cell? ⟨w.heap.size + 1, 2, none⟩ = some (.int .i64 2) := hXb.cell 2
  have b3 : w17.cell? ⟨w.heap.size + 1, 3, none⟩ = some (.int .i64 20) := hXb.cell 3
  have b4 : w17.cell? ⟨w.heap.size + 1, 4, none⟩ = some (.int .i64 30) := hXb.cell 4
  have b5 : w17.cell? ⟨w.heap.size + 1, 5, none⟩ = some (.int .i64 1) := hXb.cell 5
  have lt_b := hXb.lt
  go_wp2_with fail
  clear a0 a1 a2 a3 a4 a5 lt_a b0 b1 b2 b3 b4 b5 lt_b
  refine (right_any A1 2 c1 [⟨5, 1, 2, 10, 20, 3⟩, ⟨4, 1, 2, 20, 30, 1⟩] w17 rfl (by omega) (Sl.of_own hv1)).mono ?_
  rw [show rightC [⟨5, 1, 2, 10, 20, 3⟩, ⟨4, 1, 2, 20, 30, 1⟩] = true from by decide +kernel]
  rintro e w18 ⟨rfl, hb18⟩
  replace hv1 := own_below hv1 hb18
  replace hXa := hXa.below hb18 hXa.lt
  replace hXb := hXb.below hb18 hXb.lt
  replace hB := hB.trans (hb18.mono hs)
  replace hs := hB.size
  clear hb18 hv1
  have a0 : w18.cell? ⟨w.heap.size, 0, none⟩ = some (.int .i64 5) := hXa.cell 0
  have a1 : w18.cell? ⟨w.heap.size, 1, none⟩ = some (.int .i64 1) := hXa.cell 1
  have a2 : w18.cell? ⟨w.heap.size, 2, none⟩ = some (.int .i64 2) := hXa.cell 2
  have a3 : w18.cell? ⟨w.heap.size, 3, none⟩ = some (.int .i64 10) := hXa.cell 3
  have a4 : w18.cell? ⟨w.heap.size, 4, none⟩ = some (.int .i64 20) := hXa.cell 4
  have a5 : w18.cell? ⟨w.heap.size, 5, none⟩ = some (.int .i64 3) := hXa.cell 5
  have lt_a := hXa.lt
  have b0 : w18.cell? ⟨w.heap.size + 1, 0, none⟩ = some (.int .i64 4) := hXb.cell 0
  have b1 : w18.cell? ⟨w.heap.size + 1, 1, none⟩ = some (.int .i64 1) := hXb.cell 1
  have b2 : w18.cell? ⟨w.heap.size + 1, 2, none⟩ = some (.int .i64 2) := hXb.cell 2
  have b3 : w18.cell? ⟨w.heap.size + 1, 3, none⟩ = some (.int .i64 20) := hXb.cell 3
  have b4 : w18.cell? ⟨w.heap.size + 1, 4, none⟩ = some (.int .i64 30) := hXb.cell 4
  have b5 : w18.cell? ⟨w.heap.size + 1, 5, none⟩ = some (.int .i64 1) := hXb.cell 5
  have lt_b := hXb.lt
  go_wp2_with fail
  clear a0 a1 a2 a3 a4 a5 lt_a b0 b1 b2 b3 b4 b5 lt_b
  have hO := own_lit w18 0 28 6 2 #[.int .i64 4, .int .i64 1, .int .i64 2, .int .i64 20, .int .i64 30, .int .i64 1, .int .i64 5, .int .i64 1, .int .i64 2, .int .i64 10, .int .i64 20, .int .i64 3] (by omega) rfl (by simp [maxLen])
  replace hXa := hXa.alloc (.cells #[.int .i64 4, .int .i64 1, .int .i64 2, .int .i64 20, .int .i64 30, .int .i64 1, .int .i64 5, .int .i64 1, .int .i64 2, .int .i64 10, .int .i64 20, .int .i64 3] 28)
  replace hXb := hXb.alloc (.cells #[.int .i64 4, .int .i64 1, .int .i64 2, .int .i64 20, .int .i64 30, .int .i64 1, .int .i64 5, .int .i64 1, .int .i64 2, .int .i64 10, .int .i64 20, .int .i64 3] 28)
  replace hB := hB.alloc hs (.cells #[.int .i64 4, .int .i64 1, .int .i64 2, .int .i64 20, .int .i64 30, .int .i64 1, .int .i64 5, .int .i64 1, .int .i64 2, .int .i64 10, .int .i64 20, .int .i64 3] 28)
  replace hs := hB.size
  generalize (w18.alloc (.cells #[.int .i64 4, .int .i64 1, .int .i64 2, .int .i64 20, .int .i64 30, .int .i64 1, .int .i64 5, .int .i64 1, .int .i64 2, .int .i64 10, .int .i64 20, .int .i64 3] 28)) = w19 at *
  refine (right_any (some ⟨w18.heap.size, 0, none⟩) 2 2 [⟨4, 1, 2, 20, 30, 1⟩, ⟨5, 1, 2, 10, 20, 3⟩] w19 rfl (by omega) (Sl.of_own hO)).mono ?_
  rw [show rightC [⟨4, 1, 2, 20, 30, 1⟩, ⟨5, 1, 2, 10, 20, 3⟩] = false from by decide +kernel]
  rintro e w20 ⟨rfl, hb20⟩
  clear hO
  replace hXa := hXa.below hb20 hXa.lt
  replace hXb := hXb.below hb20 hXb.lt
  replace hB := hB.trans (hb20.mono hs)
  replace hs := hB.size
  clear hb20
  have a0 : w20.cell? ⟨w.heap.size, 0, none⟩ = some (.int .i64 5) := hXa.cell 0
  have a1 : w20.cell? ⟨w.heap.size, 1, none⟩ = some (.int .i64 1) := hXa.cell 1
  have a2 : w20.cell? ⟨w.heap.size, 2, none⟩ = some (.int .i64 2) := hXa.cell 2
  have a3 : w20.cell? ⟨w.heap.size, 3, none⟩ = some (.int .i64 10) := hXa.cell 3
  have a4 : w20.cell? ⟨w.heap.size, 4, none⟩ = some (.int .i64 20) := hXa.cell 4
  have a5 : w20.cell? ⟨w.heap.size, 5, none⟩ = some (.int .i64 3) := hXa.cell 5
  have lt_a := hXa.lt
  have b0 : w20.cell? ⟨w.heap.size + 1, 0, none⟩ = some (.int .i64 4) := hXb.cell 0
  have b1 : w20.cell? ⟨w.heap.size + 1, 1, none⟩ = some (.int .i64 1) := hXb.cell 1
  have b2 : w20.cell? ⟨w.heap.size + 1, 2, none⟩ = some (.int .i64 2) := hXb.cell 2
  have b3 : w20.cell? ⟨w.heap.size + 1, 3, none⟩ = some (.int .i64 20) := hXb.cell 3
  have b4 : w20.cell? ⟨w.heap.size + 1, 4, none⟩ = some (.int .i64 30) := hXb.cell 4
  have b5 : w20.cell? ⟨w.heap.size + 1, 5, none⟩ = some (.int .i64 1) := hXb.cell 5
  have lt_b := hXb.lt
  go_wp2_with fail
  clear a0 a1 a2 a3 a4 a5 lt_a b0 b1 b2 b3 b4 b5 lt_b
  refine (cmpC_any ⟨5, 1, 2, 10, 20, 3⟩ ⟨4, 1, 2, 20, 30, 1⟩ w20).mono ?_
  rw [show cmpC ⟨5, 1, 2, 10, 20, 3⟩ ⟨4, 1, 2, 20, 30, 1⟩ = -1 from by decide +kernel]
  rintro e w21 ⟨rfl, hb21⟩
  replace hB := hB.trans (hb21.mono hs)
  clear hb21 hXa hXb
  go_wp2
  go_ret
  exact ⟨rfl, hB⟩
end Go.Proofs.Ytojjnbpgdegjiaa
