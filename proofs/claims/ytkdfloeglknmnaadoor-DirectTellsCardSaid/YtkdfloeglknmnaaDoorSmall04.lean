
/- Layer 4's small case comes out right. It reads a table of the library's. -/
import Derived.Test.YtkdfloeglknmnaaDoorDParse
import Derived.Test.YtkdfloeglknmnaaDoorDMath
import Derived.Test.YtkdfloeglknmnaaDoorForced2
namespace Go.Proofs.YtkdfloeglknmnaaDoor
open Go.ChangeShapes Go.WideShapes Go.ChangeAt Go.RowKit Go.Sort
set_option linter.unusedSimpArgs false
set_option linter.unusedVariables false
def s04_a : Dr := ⟨1, 1, 7, 1, 2, 10, 20, 3, 0, 0, 0, 0, 0⟩
def s04_w : List Bytes := [[97], [99, 111, 110, 116, 97, 99, 116], [55], [49], [50], [49, 48], [50, 48], [51]]
theorem s04_words : wordsD s04_a = s04_w := by decide +kernel
theorem s04_right : rightD s04_a = true := by decide +kernel
theorem s04_zero : rightD zeroDr = false := by decide +kernel
theorem s04_p0 : parseD [[100], [99, 111, 110, 116, 97, 99, 116], [55]] = (⟨2, 1, 7, 0, 0, 0, 0, 0, 0, 0, 0, 0, 0⟩, 0) := by decide +kernel
theorem s04_p1 : parseD [[97], [114, 97, 110, 103, 101], [49], [50], [48], [57], [52]] = (⟨1, 2, 0, 0, 0, 0, 0, 0, 1, 2, 0, 9, 4⟩, 0) := by decide +kernel
theorem s04_p2 : parseD [[97], [114, 97, 110, 103, 101], [49], [50], [57], [57], [52]] = (⟨0, 0, 0, 0, 0, 0, 0, 0, 0, 0, 0, 0, 0⟩, 1) := by decide +kernel
theorem s04_p3 : parseD [[97], [114, 97, 110, 103, 101], [49], [50], [48, 57], [57], [52]] = (⟨0, 0, 0, 0, 0, 0, 0, 0, 0, 0, 0, 0, 0⟩, 2) := by decide +kernel
theorem s04_p4 : parseD [[100], [99, 111, 110, 116, 97, 99, 116], [55], [56]] = (⟨0, 0, 0, 0, 0, 0, 0, 0, 0, 0, 0, 0, 0⟩, 2) := by decide +kernel
theorem s04_p5 : parseD [] = (⟨0, 0, 0, 0, 0, 0, 0, 0, 0, 0, 0, 0, 0⟩, 2) := by decide +kernel
theorem s04_p6 : parseD [[99], [114, 97, 110, 103, 101], [49], [50], [48], [53]] = (⟨3, 2, 0, 0, 0, 0, 0, 0, 1, 2, 0, 0, 5⟩, 0) := by decide +kernel
theorem s04_len (x : Bytes) (h : x.length ≤ 20) : x.length ≤ maxLen := by unfold maxLen; omega
theorem s04_c0 (A : Option Addr) (w : World) (h : Sl w w.heap.size 1 A 3 3 (vs [[100], [99, 111, 110, 116, 97, 99, 116], [55]])) : Calls Tryd.prog 11 #[.slice A 3 3] w fun e w' => e = .returned (.tuple #[.agg #[.int .i64 2, .int .i64 1, .int .i64 7, .int .i64 0, .int .i64 0, .int .i64 0, .int .i64 0, .int .i64 0, .int .i64 0, .int .i64 0, .int .i64 0, .int .i64 0, .int .i64 0], .int .i64 0]) ∧ Below w.heap.size w w' :=
  dparse_any A 3 3 [[100], [99, 111, 110, 116, 97, 99, 116], [55]] w rfl (by omega) (fun x hx => s04_len x (by revert x; decide)) h ⟨2, 1, 7, 0, 0, 0, 0, 0, 0, 0, 0, 0, 0⟩ 0 s04_p0
theorem s04_c1 (A : Option Addr) (w : World) (h : Sl w w.heap.size 1 A 7 7 (vs [[97], [114, 97, 110, 103, 101], [49], [50], [48], [57], [52]])) : Calls Tryd.prog 11 #[.slice A 7 7] w fun e w' => e = .returned (.tuple #[.agg #[.int .i64 1, .int .i64 2, .int .i64 0, .int .i64 0, .int .i64 0, .int .i64 0, .int .i64 0, .int .i64 0, .int .i64 1, .int .i64 2, .int .i64 0, .int .i64 9, .int .i64 4], .int .i64 0]) ∧ Below w.heap.size w w' :=
  dparse_any A 7 7 [[97], [114, 97, 110, 103, 101], [49], [50], [48], [57], [52]] w rfl (by omega) (fun x hx => s04_len x (by revert x; decide)) h ⟨1, 2, 0, 0, 0, 0, 0, 0, 1, 2, 0, 9, 4⟩ 0 s04_p1
theorem s04_c2 (A : Option Addr) (w : World) (h : Sl w w.heap.size 1 A 7 7 (vs [[97], [114, 97, 110, 103, 101], [49], [50], [57], [57], [52]])) : Calls Tryd.prog 11 #[.slice A 7 7] w fun e w' => e = .returned (.tuple #[.agg #[.int .i64 0, .int .i64 0, .int .i64 0, .int .i64 0, .int .i64 0, .int .i64 0, .int .i64 0, .int .i64 0, .int .i64 0, .int .i64 0, .int .i64 0, .int .i64 0, .int .i64 0], .int .i64 1]) ∧ Below w.heap.size w w' :=
  dparse_any A 7 7 [[97], [114, 97, 110, 103, 101], [49], [50], [57], [57], [52]] w rfl (by omega) (fun x hx => s04_len x (by revert x; decide)) h ⟨0, 0, 0, 0, 0, 0, 0, 0, 0, 0, 0, 0, 0⟩ 1 s04_p2
theorem s04_c3 (A : Option Addr) (w : World) (h : Sl w w.heap.size 1 A 7 7 (vs [[97], [114, 97, 110, 103, 101], [49], [50], [48, 57], [57], [52]])) : Calls Tryd.prog 11 #[.slice A 7 7] w fun e w' => e = .returned (.tuple #[.agg #[.int .i64 0, .int .i64 0, .int .i64 0, .int .i64 0, .int .i64 0, .int .i64 0, .int .i64 0, .int .i64 0, .int .i64 0, .int .i64 0, .int .i64 0, .int .i64 0, .int .i64 0], .int .i64 2]) ∧ Below w.heap.size w w' :=
  dparse_any A 7 7 [[97], [114, 97, 110, 103, 101], [49], [50], [48, 57], [57], [52]] w rfl (by omega) (fun x hx => s04_len x (by revert x; decide)) h ⟨0, 0, 0, 0, 0, 0, 0, 0, 0, 0, 0, 0, 0⟩ 2 s04_p3
theorem s04_c4 (A : Option Addr) (w : World) (h : Sl w w.heap.size 1 A 4 4 (vs [[100], [99, 111, 110, 116, 97, 99, 116], [55], [56]])) : Calls Tryd.prog 11 #[.slice A 4 4] w fun e w' => e = .returned (.tuple #[.agg #[.int .i64 0, .int .i64 0, .int .i64 0, .int .i64 0, .int .i64 0, .int .i64 0, .int .i64 0, .int .i64 0, .int .i64 0, .int .i64 0, .int .i64 0, .int .i64 0, .int .i64 0], .int .i64 2]) ∧ Below w.heap.size w w' :=
  dparse_any A 4 4 [[100], [99, 111, 110, 116, 97, 99, 116], [55], [56]] w rfl (by omega) (fun x hx => s04_len x (by revert x; decide)) h ⟨0, 0, 0, 0, 0, 0, 0, 0, 0, 0, 0, 0, 0⟩ 2 s04_p4
theorem s04_c5 (A : Option Addr) (w : World) (h : Sl w w.heap.size 1 A 0 0 (vs [])) : Calls Tryd.prog 11 #[.slice A 0 0] w fun e w' => e = .returned (.tuple #[.agg #[.int .i64 0, .int .i64 0, .int .i64 0, .int .i64 0, .int .i64 0, .int .i64 0, .int .i64 0, .int .i64 0, .int .i64 0, .int .i64 0, .int .i64 0, .int .i64 0, .int .i64 0], .int .i64 2]) ∧ Below w.heap.size w w' :=
  dparse_any A 0 0 [] w rfl (by omega) (fun x hx => s04_len x (by revert x; decide)) h ⟨0, 0, 0, 0, 0, 0, 0, 0, 0, 0, 0, 0, 0⟩ 2 s04_p5
theorem s04_c6 (A : Option Addr) (w : World) (h : Sl w w.heap.size 1 A 6 6 (vs [[99], [114, 97, 110, 103, 101], [49], [50], [48], [53]])) : Calls Tryd.prog 11 #[.slice A 6 6] w fun e w' => e = .returned (.tuple #[.agg #[.int .i64 3, .int .i64 2, .int .i64 0, .int .i64 0, .int .i64 0, .int .i64 0, .int .i64 0, .int .i64 0, .int .i64 1, .int .i64 2, .int .i64 0, .int .i64 0, .int .i64 5], .int .i64 0]) ∧ Below w.heap.size w w' :=
  dparse_any A 6 6 [[99], [114, 97, 110, 103, 101], [49], [50], [48], [53]] w rfl (by omega) (fun x hx => s04_len x (by revert x; decide)) h ⟨3, 2, 0, 0, 0, 0, 0, 0, 1, 2, 0, 0, 5⟩ 0 s04_p6
theorem s04_ra (w : World) : Calls Tryd.prog 13 #[.agg #[.int .i64 1, .int .i64 1, .int .i64 7, .int .i64 1, .int .i64 2, .int .i64 10, .int .i64 20, .int .i64 3, .int .i64 0, .int .i64 0, .int .i64 0, .int .i64 0, .int .i64 0]] w fun e w' => e = .returned (.bool true) ∧ Below w.heap.size w w' := dright_any s04_a w (by decide) (by decide) true s04_right
theorem s04_rz (w : World) : Calls Tryd.prog 13 #[.agg #[.int .i64 0, .int .i64 0, .int .i64 0, .int .i64 0, .int .i64 0, .int .i64 0, .int .i64 0, .int .i64 0, .int .i64 0, .int .i64 0, .int .i64 0, .int .i64 0, .int .i64 0]] w fun e w' => e = .returned (.bool false) ∧ Below w.heap.size w w' := dright_any zeroDr w (by decide) (by decide) false s04_zero
set_option maxHeartbeats 16000000 in
set_option maxRecDepth 100000 in
theorem small04_any (w : World) (ht : TenTab w) : Calls Tryd.prog 8 #[] w fun e w' => e = .returned (.bool true) ∧ Below w.heap.size w w' := by
  have hxd : ∀ w0 : World, (binOp .eql 27 (.agg #[.int .i64 2, .int .i64 1, .int .i64 7, .int .i64 0, .int .i64 0, .int .i64 0, .int .i64 0, .int .i64 0, .int .i64 0, .int .i64 0, .int .i64 0, .int .i64 0, .int .i64 0]) (.agg #[.int .i64 2, .int .i64 1, .int .i64 7, .int .i64 0, .int .i64 0, .int .i64 0, .int .i64 0, .int .i64 0, .int .i64 0, .int .i64 0, .int .i64 0, .int .i64 0, .int .i64 0])).run Tryd.prog w0 = .ok (.bool true) w0 := fun w0 => by have h := eqlDr ⟨2, 1, 7, 0, 0, 0, 0, 0, 0, 0, 0, 0, 0⟩ ⟨2, 1, 7, 0, 0, 0, 0, 0, 0, 0, 0, 0, 0⟩ w0; simpa using h
  go_enter Tryd.func8, Tryd.ntmps8
  go_upto_region 2 with fail
  have ba := Blok.new w 27 #[.int .i64 1, .int .i64 1, .int .i64 7, .int .i64 1, .int .i64 2, .int .i64 10, .int .i64 20, .int .i64 3, .int .i64 0, .int .i64 0, .int .i64 0, .int .i64 0, .int .i64 0]
  have hB : Below w.heap.size w (w.alloc (.cells #[.int .i64 1, .int .i64 1, .int .i64 7, .int .i64 1, .int .i64 2, .int .i64 10, .int .i64 20, .int .i64 3, .int .i64 0, .int .i64 0, .int .i64 0, .int .i64 0, .int .i64 0] 27)) := by (repeat (first | exact Below.refl _ _ | refine Below.alloc ?_ (by first | omega | (simp; done) | (simp; omega)) _ | refine Below.setCell ?_ (by first | omega | (simp; done) | (simp; omega)) _ | refine Below.drew ?_))
  have hs := hB.size
  have HT := Lib.hid (ht.below hB)
  clear ht
  generalize w.alloc (.cells #[.int .i64 1, .int .i64 1, .int .i64 7, .int .i64 1, .int .i64 2, .int .i64 10, .int .i64 20, .int .i64 3, .int .i64 0, .int .i64 0, .int .i64 0, .int .i64 0, .int .i64 0] 27) = x0 at *
  have a_0 : x0.cell? ⟨w.heap.size, 0, none⟩ = some (.int .i64 1) := ba.cell 0
  have a_1 : x0.cell? ⟨w.heap.size, 1, none⟩ = some (.int .i64 1) := ba.cell 1
  have a_2 : x0.cell? ⟨w.heap.size, 2, none⟩ = some (.int .i64 7) := ba.cell 2
  have a_3 : x0.cell? ⟨w.heap.size, 3, none⟩ = some (.int .i64 1) := ba.cell 3
  have a_4 : x0.cell? ⟨w.heap.size, 4, none⟩ = some (.int .i64 2) := ba.cell 4
  have a_5 : x0.cell? ⟨w.heap.size, 5, none⟩ = some (.int .i64 10) := ba.cell 5
  have a_6 : x0.cell? ⟨w.heap.size, 6, none⟩ = some (.int .i64 20) := ba.cell 6
  have a_7 : x0.cell? ⟨w.heap.size, 7, none⟩ = some (.int .i64 3) := ba.cell 7
  have a_8 : x0.cell? ⟨w.heap.size, 8, none⟩ = some (.int .i64 0) := ba.cell 8
  have a_9 : x0.cell? ⟨w.heap.size, 9, none⟩ = some (.int .i64 0) := ba.cell 9
  have a_10 : x0.cell? ⟨w.heap.size, 10, none⟩ = some (.int .i64 0) := ba.cell 10
  have a_11 : x0.cell? ⟨w.heap.size, 11, none⟩ = some (.int .i64 0) := ba.cell 11
  have a_12 : x0.cell? ⟨w.heap.size, 12, none⟩ = some (.int .i64 0) := ba.cell 12
  have lt_a := ba.lt
  go_wp2_with fail
  clear a_0 a_1 a_2 a_3 a_4 a_5 a_6 a_7 a_8 a_9 a_10 a_11 a_12 lt_a
  refine (dwords_yes s04_a x0 (by decide) (by decide) s04_right HT.out).mono ?_
  rintro e y0 ⟨v, rfl, hv, hb⟩
  rw [s04_words] at hv
  replace hv : y0.ownsRow x0.heap.size 9 1 v 8 (vs s04_w) := hv
  clear HT
  replace ba := ba.below hb ba.lt
  replace hB := hB.trans (hb.mono hs)
  replace hs := hB.size
  clear hb
  obtain ⟨Av, cv, rfl⟩ := slice_of_own hv
  have hl := Sl.of_own hv
  clear hv
  go_wp2_with fail
  have ho := own_lit y0 0 9 1 3 #[.string ⟨#[100]⟩, .string ⟨#[99, 111, 110, 116, 97, 99, 116]⟩, .string ⟨#[55]⟩] (Nat.zero_le _) rfl (by simp [maxLen])
  have hb : Below y0.heap.size y0 (y0.alloc (.cells #[.string ⟨#[100]⟩, .string ⟨#[99, 111, 110, 116, 97, 99, 116]⟩, .string ⟨#[55]⟩] 9)) := by (repeat (first | exact Below.refl _ _ | refine Below.alloc ?_ (by first | omega | (simp; done) | (simp; omega)) _ | refine Below.setCell ?_ (by first | omega | (simp; done) | (simp; omega)) _ | refine Below.drew ?_))
  replace hl := hl.up hb
  replace ba := ba.below hb ba.lt
  replace hB := hB.trans (hb.mono hs)
  replace hs := hB.size
  clear hb
  generalize y0.alloc (.cells #[.string ⟨#[100]⟩, .string ⟨#[99, 111, 110, 116, 97, 99, 116]⟩, .string ⟨#[55]⟩] 9) = u0 at *
  have hq : Sl u0 u0.heap.size 1 (some ⟨y0.heap.size, 0, none⟩) 3 3 (vs [[100], [99, 111, 110, 116, 97, 99, 116], [55]]) := Sl.of_own ho
  refine (s04_c0 (some ⟨y0.heap.size, 0, none⟩) u0 hq).mono ?_
  rintro e v0 ⟨rfl, hb⟩
  clear ho hq
  replace hl := hl.up hb
  replace ba := ba.below hb ba.lt
  replace hB := hB.trans (hb.mono hs)
  replace hs := hB.size
  clear hb
  go_upto_region 4 with fail
  have bc := Blok.new v0 27 #[.int .i64 2, .int .i64 1, .int .i64 7, .int .i64 0, .int .i64 0, .int .i64 0, .int .i64 0, .int .i64 0, .int .i64 0, .int .i64 0, .int .i64 0, .int .i64 0, .int .i64 0]
  have hb : Below v0.heap.size v0 (v0.alloc (.cells #[.int .i64 2, .int .i64 1, .int .i64 7, .int .i64 0, .int .i64 0, .int .i64 0, .int .i64 0, .int .i64 0, .int .i64 0, .int .i64 0, .int .i64 0, .int .i64 0, .int .i64 0] 27)) := by (repeat (first | exact Below.refl _ _ | refine Below.alloc ?_ (by first | omega | (simp; done) | (simp; omega)) _ | refine Below.setCell ?_ (by first | omega | (simp; done) | (simp; omega)) _ | refine Below.drew ?_))
  replace hl := hl.up hb
  replace ba := ba.below hb ba.lt
  replace hB := hB.trans (hb.mono hs)
  replace hs := hB.size
  clear hb
  generalize v0.alloc (.cells #[.int .i64 2, .int .i64 1, .int .i64 7, .int .i64 0, .int .i64 0, .int .i64 0, .int .i64 0, .int .i64 0, .int .i64 0, .int .i64 0, .int .i64 0, .int .i64 0, .int .i64 0] 27) = t0 at *
  generalize hz_c : v0.heap.size = Bc at *
  clear hz_c
  go_wp2_with fail
  have ho := own_lit t0 0 9 1 7 #[.string ⟨#[97]⟩, .string ⟨#[114, 97, 110, 103, 101]⟩, .string ⟨#[49]⟩, .string ⟨#[50]⟩, .string ⟨#[48]⟩, .string ⟨#[57]⟩, .string ⟨#[52]⟩] (Nat.zero_le _) rfl (by simp [maxLen])
  have hb : Below t0.heap.size t0 (t0.alloc (.cells #[.string ⟨#[97]⟩, .string ⟨#[114, 97, 110, 103, 101]⟩, .string ⟨#[49]⟩, .string ⟨#[50]⟩, .string ⟨#[48]⟩, .string ⟨#[57]⟩, .string ⟨#[52]⟩] 9)) := by (repeat (first | exact Below.refl _ _ | refine Below.alloc ?_ (by first | omega | (simp; done) | (simp; omega)) _ | refine Below.setCell ?_ (by first | omega | (simp; done) | (simp; omega)) _ | refine Below.drew ?_))
  replace hl := hl.up hb
  replace ba := ba.below hb ba.lt
  replace bc := bc.below hb bc.lt
  replace hB := hB.trans (hb.mono hs)
  replace hs := hB.size
  clear hb
  generalize t0.alloc (.cells #[.string ⟨#[97]⟩, .string ⟨#[114, 97, 110, 103, 101]⟩, .string ⟨#[49]⟩, .string ⟨#[50]⟩, .string ⟨#[48]⟩, .string ⟨#[57]⟩, .string ⟨#[52]⟩] 9) = u1 at *
  have hq : Sl u1 u1.heap.size 1 (some ⟨t0.heap.size, 0, none⟩) 7 7 (vs [[97], [114, 97, 110, 103, 101], [49], [50], [48], [57], [52]]) := Sl.of_own ho
  refine (s04_c1 (some ⟨t0.heap.size, 0, none⟩) u1 hq).mono ?_
  rintro e v1 ⟨rfl, hb⟩
  clear ho hq
  replace hl := hl.up hb
  replace ba := ba.below hb ba.lt
  replace bc := bc.below hb bc.lt
  replace hB := hB.trans (hb.mono hs)
  replace hs := hB.size
  clear hb
  go_upto_region 5 with fail
  have be := Blok.new v1 27 #[.int .i64 1, .int .i64 2, .int .i64 0, .int .i64 0, .int .i64 0, .int .i64 0, .int .i64 0, .int .i64 0, .int .i64 1, .int .i64 2, .int .i64 0, .int .i64 9, .int .i64 4]
  have hb : Below v1.heap.size v1 (v1.alloc (.cells #[.int .i64 1, .int .i64 2, .int .i64 0, .int .i64 0, .int .i64 0, .int .i64 0, .int .i64 0, .int .i64 0, .int .i64 1, .int .i64 2, .int .i64 0, .int .i64 9, .int .i64 4] 27)) := by (repeat (first | exact Below.refl _ _ | refine Below.alloc ?_ (by first | omega | (simp; done) | (simp; omega)) _ | refine Below.setCell ?_ (by first | omega | (simp; done) | (simp; omega)) _ | refine Below.drew ?_))
  replace hl := hl.up hb
  replace ba := ba.below hb ba.lt
  replace bc := bc.below hb bc.lt
  replace hB := hB.trans (hb.mono hs)
  replace hs := hB.size
  clear hb
  generalize v1.alloc (.cells #[.int .i64 1, .int .i64 2, .int .i64 0, .int .i64 0, .int .i64 0, .int .i64 0, .int .i64 0, .int .i64 0, .int .i64 1, .int .i64 2, .int .i64 0, .int .i64 9, .int .i64 4] 27) = t1 at *
  generalize hz_e : v1.heap.size = Be at *
  clear hz_e
  go_wp2_with fail
  have ho := own_lit t1 0 9 1 7 #[.string ⟨#[97]⟩, .string ⟨#[114, 97, 110, 103, 101]⟩, .string ⟨#[49]⟩, .string ⟨#[50]⟩, .string ⟨#[57]⟩, .string ⟨#[57]⟩, .string ⟨#[52]⟩] (Nat.zero_le _) rfl (by simp [maxLen])
  have hb : Below t1.heap.size t1 (t1.alloc (.cells #[.string ⟨#[97]⟩, .string ⟨#[114, 97, 110, 103, 101]⟩, .string ⟨#[49]⟩, .string ⟨#[50]⟩, .string ⟨#[57]⟩, .string ⟨#[57]⟩, .string ⟨#[52]⟩] 9)) := by (repeat (first | exact Below.refl _ _ | refine Below.alloc ?_ (by first | omega | (simp; done) | (simp; omega)) _ | refine Below.setCell ?_ (by first | omega | (simp; done) | (simp; omega)) _ | refine Below.drew ?_))
  replace hl := hl.up hb
  replace ba := ba.below hb ba.lt
  replace bc := bc.below hb bc.lt
  replace be := be.below hb be.lt
  replace hB := hB.trans (hb.mono hs)
  replace hs := hB.size
  clear hb
  generalize t1.alloc (.cells #[.string ⟨#[97]⟩, .string ⟨#[114, 97, 110, 103, 101]⟩, .string ⟨#[49]⟩, .string ⟨#[50]⟩, .string ⟨#[57]⟩, .string ⟨#[57]⟩, .string ⟨#[52]⟩] 9) = u2 at *
  have hq : Sl u2 u2.heap.size 1 (some ⟨t1.heap.size, 0, none⟩) 7 7 (vs [[97], [114, 97, 110, 103, 101], [49], [50], [57], [57], [52]]) := Sl.of_own ho
  refine (s04_c2 (some ⟨t1.heap.size, 0, none⟩) u2 hq).mono ?_
  rintro e v2 ⟨rfl, hb⟩
  clear ho hq
  replace hl := hl.up hb
  replace ba := ba.below hb ba.lt
  replace bc := bc.below hb bc.lt
  replace be := be.below hb be.lt
  replace hB := hB.trans (hb.mono hs)
  replace hs := hB.size
  clear hb
  go_upto_region 6 with fail
  have hb : Below v2.heap.size v2 (v2.alloc (.cells #[.int .i64 0, .int .i64 0, .int .i64 0, .int .i64 0, .int .i64 0, .int .i64 0, .int .i64 0, .int .i64 0, .int .i64 0, .int .i64 0, .int .i64 0, .int .i64 0, .int .i64 0] 27)) := by (repeat (first | exact Below.refl _ _ | refine Below.alloc ?_ (by first | omega | (simp; done) | (simp; omega)) _ | refine Below.setCell ?_ (by first | omega | (simp; done) | (simp; omega)) _ | refine Below.drew ?_))
  replace hl := hl.up hb
  replace ba := ba.below hb ba.lt
  replace bc := bc.below hb bc.lt
  replace be := be.below hb be.lt
  replace hB := hB.trans (hb.mono hs)
  replace hs := hB.size
  clear hb
  generalize v2.alloc (.cells #[.int .i64 0, .int .i64 0, .int .i64 0, .int .i64 0, .int .i64 0, .int .i64 0, .int .i64 0, .int .i64 0, .int .i64 0, .int .i64 0, .int .i64 0, .int .i64 0, .int .i64 0] 27) = t2 at *
  go_wp2_with fail
  have ho := own_lit t2 0 9 1 7 #[.string ⟨#[97]⟩, .string ⟨#[114, 97, 110, 103, 101]⟩, .string ⟨#[49]⟩, .string ⟨#[50]⟩, .string ⟨#[48, 57]⟩, .string ⟨#[57]⟩, .string ⟨#[52]⟩] (Nat.zero_le _) rfl (by simp [maxLen])
  have hb : Below t2.heap.size t2 (t2.alloc (.cells #[.string ⟨#[97]⟩, .string ⟨#[114, 97, 110, 103, 101]⟩, .string ⟨#[49]⟩, .string ⟨#[50]⟩, .string ⟨#[48, 57]⟩, .string ⟨#[57]⟩, .string ⟨#[52]⟩] 9)) := by (repeat (first | exact Below.refl _ _ | refine Below.alloc ?_ (by first | omega | (simp; done) | (simp; omega)) _ | refine Below.setCell ?_ (by first | omega | (simp; done) | (simp; omega)) _ | refine Below.drew ?_))
  replace hl := hl.up hb
  replace ba := ba.below hb ba.lt
  replace bc := bc.below hb bc.lt
  replace be := be.below hb be.lt
  replace hB := hB.trans (hb.mono hs)
  replace hs := hB.size
  clear hb
  generalize t2.alloc (.cells #[.string ⟨#[97]⟩, .string ⟨#[114, 97, 110, 103, 101]⟩, .string ⟨#[49]⟩, .string ⟨#[50]⟩, .string ⟨#[48, 57]⟩, .string ⟨#[57]⟩, .string ⟨#[52]⟩] 9) = u3 at *
  have hq : Sl u3 u3.heap.size 1 (some ⟨t2.heap.size, 0, none⟩) 7 7 (vs [[97], [114, 97, 110, 103, 101], [49], [50], [48, 57], [57], [52]]) := Sl.of_own ho
  refine (s04_c3 (some ⟨t2.heap.size, 0, none⟩) u3 hq).mono ?_
  rintro e v3 ⟨rfl, hb⟩
  clear ho hq
  replace hl := hl.up hb
  replace ba := ba.below hb ba.lt
  replace bc := bc.below hb bc.lt
  replace be := be.below hb be.lt
  replace hB := hB.trans (hb.mono hs)
  replace hs := hB.size
  clear hb
  go_upto_region 7 with fail
  have hb : Below v3.heap.size v3 (v3.alloc (.cells #[.int .i64 0, .int .i64 0, .int .i64 0, .int .i64 0, .int .i64 0, .int .i64 0, .int .i64 0, .int .i64 0, .int .i64 0, .int .i64 0, .int .i64 0, .int .i64 0, .int .i64 0] 27)) := by (repeat (first | exact Below.refl _ _ | refine Below.alloc ?_ (by first | omega | (simp; done) | (simp; omega)) _ | refine Below.setCell ?_ (by first | omega | (simp; done) | (simp; omega)) _ | refine Below.drew ?_))
  replace hl := hl.up hb
  replace ba := ba.below hb ba.lt
  replace bc := bc.below hb bc.lt
  replace be := be.below hb be.lt
  replace hB := hB.trans (hb.mono hs)
  replace hs := hB.size
  clear hb
  generalize v3.alloc (.cells #[.int .i64 0, .int .i64 0, .int .i64 0, .int .i64 0, .int .i64 0, .int .i64 0, .int .i64 0, .int .i64 0, .int .i64 0, .int .i64 0, .int .i64 0, .int .i64 0, .int .i64 0] 27) = t3 at *
  go_wp2_with fail
  have ho := own_lit t3 0 9 1 4 #[.string ⟨#[100]⟩, .string ⟨#[99, 111, 110, 116, 97, 99, 116]⟩, .string ⟨#[55]⟩, .string ⟨#[56]⟩] (Nat.zero_le _) rfl (by simp [maxLen])
  have hb : Below t3.heap.size t3 (t3.alloc (.cells #[.string ⟨#[100]⟩, .string ⟨#[99, 111, 110, 116, 97, 99, 116]⟩, .string ⟨#[55]⟩, .string ⟨#[56]⟩] 9)) := by (repeat (first | exact Below.refl _ _ | refine Below.alloc ?_ (by first | omega | (simp; done) | (simp; omega)) _ | refine Below.setCell ?_ (by first | omega | (simp; done) | (simp; omega)) _ | refine Below.drew ?_))
  replace hl := hl.up hb
  replace ba := ba.below hb ba.lt
  replace bc := bc.below hb bc.lt
  replace be := be.below hb be.lt
  replace hB := hB.trans (hb.mono hs)
  replace hs := hB.size
  clear hb
  generalize t3.alloc (.cells #[.string ⟨#[100]⟩, .string ⟨#[99, 111, 110, 116, 97, 99, 116]⟩, .string ⟨#[55]⟩, .string ⟨#[56]⟩] 9) = u4 at *
  have hq : Sl u4 u4.heap.size 1 (some ⟨t3.heap.size, 0, none⟩) 4 4 (vs [[100], [99, 111, 110, 116, 97, 99, 116], [55], [56]]) := Sl.of_own ho
  refine (s04_c4 (some ⟨t3.heap.size, 0, none⟩) u4 hq).mono ?_
  rintro e v4 ⟨rfl, hb⟩
  clear ho hq
  replace hl := hl.up hb
  replace ba := ba.below hb ba.lt
  replace bc := bc.below hb bc.lt
  replace be := be.below hb be.lt
  replace hB := hB.trans (hb.mono hs)
  replace hs := hB.size
  clear hb
  go_upto_region 8 with fail
  have hb : Below v4.heap.size v4 (v4.alloc (.cells #[.int .i64 0, .int .i64 0, .int .i64 0, .int .i64 0, .int .i64 0, .int .i64 0, .int .i64 0, .int .i64 0, .int .i64 0, .int .i64 0, .int .i64 0, .int .i64 0, .int .i64 0] 27)) := by (repeat (first | exact Below.refl _ _ | refine Below.alloc ?_ (by first | omega | (simp; done) | (simp; omega)) _ | refine Below.setCell ?_ (by first | omega | (simp; done) | (simp; omega)) _ | refine Below.drew ?_))
  replace hl := hl.up hb
  replace ba := ba.below hb ba.lt
  replace bc := bc.below hb bc.lt
  replace be := be.below hb be.lt
  replace hB := hB.trans (hb.mono hs)
  replace hs := hB.size
  clear hb
  generalize v4.alloc (.cells #[.int .i64 0, .int .i64 0, .int .i64 0, .int .i64 0, .int .i64 0, .int .i64 0, .int .i64 0, .int .i64 0, .int .i64 0, .int .i64 0, .int .i64 0, .int .i64 0, .int .i64 0] 27) = t4 at *
  go_wp2_with fail
  refine (s04_c5 none t4 (Sl.nil0 _ _ _)).mono ?_
  rintro e v5 ⟨rfl, hb⟩
  replace hl := hl.up hb
  replace ba := ba.below hb ba.lt
  replace bc := bc.below hb bc.lt
  replace be := be.below hb be.lt
  replace hB := hB.trans (hb.mono hs)
  replace hs := hB.size
  clear hb
  go_upto_region 9 with fail
  have hb : Below v5.heap.size v5 (v5.alloc (.cells #[.int .i64 0, .int .i64 0, .int .i64 0, .int .i64 0, .int .i64 0, .int .i64 0, .int .i64 0, .int .i64 0, .int .i64 0, .int .i64 0, .int .i64 0, .int .i64 0, .int .i64 0] 27)) := by (repeat (first | exact Below.refl _ _ | refine Below.alloc ?_ (by first | omega | (simp; done) | (simp; omega)) _ | refine Below.setCell ?_ (by first | omega | (simp; done) | (simp; omega)) _ | refine Below.drew ?_))
  replace hl := hl.up hb
  replace ba := ba.below hb ba.lt
  replace bc := bc.below hb bc.lt
  replace be := be.below hb be.lt
  replace hB := hB.trans (hb.mono hs)
  replace hs := hB.size
  clear hb
  generalize v5.alloc (.cells #[.int .i64 0, .int .i64 0, .int .i64 0, .int .i64 0, .int .i64 0, .int .i64 0, .int .i64 0, .int .i64 0, .int .i64 0, .int .i64 0, .int .i64 0, .int .i64 0, .int .i64 0] 27) = t5 at *
  go_wp2_with fail
  have ho := own_lit t5 0 9 1 6 #[.string ⟨#[99]⟩, .string ⟨#[114, 97, 110, 103, 101]⟩, .string ⟨#[49]⟩, .string ⟨#[50]⟩, .string ⟨#[48]⟩, .string ⟨#[53]⟩] (Nat.zero_le _) rfl (by simp [maxLen])
  have hb : Below t5.heap.size t5 (t5.alloc (.cells #[.string ⟨#[99]⟩, .string ⟨#[114, 97, 110, 103, 101]⟩, .string ⟨#[49]⟩, .string ⟨#[50]⟩, .string ⟨#[48]⟩, .string ⟨#[53]⟩] 9)) := by (repeat (first | exact Below.refl _ _ | refine Below.alloc ?_ (by first | omega | (simp; done) | (simp; omega)) _ | refine Below.setCell ?_ (by first | omega | (simp; done) | (simp; omega)) _ | refine Below.drew ?_))
  replace hl := hl.up hb
  replace ba := ba.below hb ba.lt
  replace bc := bc.below hb bc.lt
  replace be := be.below hb be.lt
  replace hB := hB.trans (hb.mono hs)
  replace hs := hB.size
  clear hb
  generalize t5.alloc (.cells #[.string ⟨#[99]⟩, .string ⟨#[114, 97, 110, 103, 101]⟩, .string ⟨#[49]⟩, .string ⟨#[50]⟩, .string ⟨#[48]⟩, .string ⟨#[53]⟩] 9) = u6 at *
  have hq : Sl u6 u6.heap.size 1 (some ⟨t5.heap.size, 0, none⟩) 6 6 (vs [[99], [114, 97, 110, 103, 101], [49], [50], [48], [53]]) := Sl.of_own ho
  refine (s04_c6 (some ⟨t5.heap.size, 0, none⟩) u6 hq).mono ?_
  rintro e v6 ⟨rfl, hb⟩
  clear ho hq
  replace hl := hl.up hb
  replace ba := ba.below hb ba.lt
  replace bc := bc.below hb bc.lt
  replace be := be.below hb be.lt
  replace hB := hB.trans (hb.mono hs)
  replace hs := hB.size
  clear hb
  go_upto_region 10 with fail
  have bm := Blok.new v6 27 #[.int .i64 3, .int .i64 2, .int .i64 0, .int .i64 0, .int .i64 0, .int .i64 0, .int .i64 0, .int .i64 0, .int .i64 1, .int .i64 2, .int .i64 0, .int .i64 0, .int .i64 5]
  have hb : Below v6.heap.size v6 (v6.alloc (.cells #[.int .i64 3, .int .i64 2, .int .i64 0, .int .i64 0, .int .i64 0, .int .i64 0, .int .i64 0, .int .i64 0, .int .i64 1, .int .i64 2, .int .i64 0, .int .i64 0, .int .i64 5] 27)) := by (repeat (first | exact Below.refl _ _ | refine Below.alloc ?_ (by first | omega | (simp; done) | (simp; omega)) _ | refine Below.setCell ?_ (by first | omega | (simp; done) | (simp; omega)) _ | refine Below.drew ?_))
  replace hl := hl.up hb
  replace ba := ba.below hb ba.lt
  replace bc := bc.below hb bc.lt
  replace be := be.below hb be.lt
  replace hB := hB.trans (hb.mono hs)
  replace hs := hB.size
  clear hb
  generalize v6.alloc (.cells #[.int .i64 3, .int .i64 2, .int .i64 0, .int .i64 0, .int .i64 0, .int .i64 0, .int .i64 0, .int .i64 0, .int .i64 1, .int .i64 2, .int .i64 0, .int .i64 0, .int .i64 5] 27) = t6 at *
  generalize hz_m : v6.heap.size = Bm at *
  clear hz_m
  go_wp2_with fail
  have ho := own_lit t6 0 9 1 8 #[.string ⟨#[97]⟩, .string ⟨#[99, 111, 110, 116, 97, 99, 116]⟩, .string ⟨#[55]⟩, .string ⟨#[49]⟩, .string ⟨#[50]⟩, .string ⟨#[49, 48]⟩, .string ⟨#[50, 48]⟩, .string ⟨#[51]⟩] (Nat.zero_le _) rfl (by simp [maxLen])
  have hb : Below t6.heap.size t6 (t6.alloc (.cells #[.string ⟨#[97]⟩, .string ⟨#[99, 111, 110, 116, 97, 99, 116]⟩, .string ⟨#[55]⟩, .string ⟨#[49]⟩, .string ⟨#[50]⟩, .string ⟨#[49, 48]⟩, .string ⟨#[50, 48]⟩, .string ⟨#[51]⟩] 9)) := by (repeat (first | exact Below.refl _ _ | refine Below.alloc ?_ (by first | omega | (simp; done) | (simp; omega)) _ | refine Below.setCell ?_ (by first | omega | (simp; done) | (simp; omega)) _ | refine Below.drew ?_))
  replace hl := hl.up hb
  replace ba := ba.below hb ba.lt
  replace bc := bc.below hb bc.lt
  replace be := be.below hb be.lt
  replace bm := bm.below hb bm.lt
  replace hB := hB.trans (hb.mono hs)
  replace hs := hB.size
  clear hb
  generalize t6.alloc (.cells #[.string ⟨#[97]⟩, .string ⟨#[99, 111, 110, 116, 97, 99, 116]⟩, .string ⟨#[55]⟩, .string ⟨#[49]⟩, .string ⟨#[50]⟩, .string ⟨#[49, 48]⟩, .string ⟨#[50, 48]⟩, .string ⟨#[51]⟩] 9) = z1 at *
  have hq : Sl z1 z1.heap.size 1 (some ⟨t6.heap.size, 0, none⟩) 8 8 (vs s04_w) := Sl.of_own ho
  have hsame := rsame_any Av (some ⟨t6.heap.size, 0, none⟩) 8 cv 8 8 s04_w s04_w z1 rfl rfl (by omega) hl hq
  rw [show decide (s04_w = s04_w) = true by simp] at hsame
  refine hsame.mono ?_
  clear hsame
  rintro e z2 ⟨rfl, hb⟩
  clear ho hq
  replace ba := ba.below hb ba.lt
  replace bc := bc.below hb bc.lt
  replace be := be.below hb be.lt
  replace bm := bm.below hb bm.lt
  replace hB := hB.trans (hb.mono hs)
  replace hs := hB.size
  clear hb
  clear hl
  go_simp
  rename_i K hK
  refine hK _ _ ?_
  clear hK K
  have a_0 : z2.cell? ⟨w.heap.size, 0, none⟩ = some (.int .i64 1) := ba.cell 0
  have a_1 : z2.cell? ⟨w.heap.size, 1, none⟩ = some (.int .i64 1) := ba.cell 1
  have a_2 : z2.cell? ⟨w.heap.size, 2, none⟩ = some (.int .i64 7) := ba.cell 2
  have a_3 : z2.cell? ⟨w.heap.size, 3, none⟩ = some (.int .i64 1) := ba.cell 3
  have a_4 : z2.cell? ⟨w.heap.size, 4, none⟩ = some (.int .i64 2) := ba.cell 4
  have a_5 : z2.cell? ⟨w.heap.size, 5, none⟩ = some (.int .i64 10) := ba.cell 5
  have a_6 : z2.cell? ⟨w.heap.size, 6, none⟩ = some (.int .i64 20) := ba.cell 6
  have a_7 : z2.cell? ⟨w.heap.size, 7, none⟩ = some (.int .i64 3) := ba.cell 7
  have a_8 : z2.cell? ⟨w.heap.size, 8, none⟩ = some (.int .i64 0) := ba.cell 8
  have a_9 : z2.cell? ⟨w.heap.size, 9, none⟩ = some (.int .i64 0) := ba.cell 9
  have a_10 : z2.cell? ⟨w.heap.size, 10, none⟩ = some (.int .i64 0) := ba.cell 10
  have a_11 : z2.cell? ⟨w.heap.size, 11, none⟩ = some (.int .i64 0) := ba.cell 11
  have a_12 : z2.cell? ⟨w.heap.size, 12, none⟩ = some (.int .i64 0) := ba.cell 12
  have lt_a := ba.lt
  have c_0 : z2.cell? ⟨Bc, 0, none⟩ = some (.int .i64 2) := bc.cell 0
  have c_1 : z2.cell? ⟨Bc, 1, none⟩ = some (.int .i64 1) := bc.cell 1
  have c_2 : z2.cell? ⟨Bc, 2, none⟩ = some (.int .i64 7) := bc.cell 2
  have c_3 : z2.cell? ⟨Bc, 3, none⟩ = some (.int .i64 0) := bc.cell 3
  have c_4 : z2.cell? ⟨Bc, 4, none⟩ = some (.int .i64 0) := bc.cell 4
  have c_5 : z2.cell? ⟨Bc, 5, none⟩ = some (.int .i64 0) := bc.cell 5
  have c_6 : z2.cell? ⟨Bc, 6, none⟩ = some (.int .i64 0) := bc.cell 6
  have c_7 : z2.cell? ⟨Bc, 7, none⟩ = some (.int .i64 0) := bc.cell 7
  have c_8 : z2.cell? ⟨Bc, 8, none⟩ = some (.int .i64 0) := bc.cell 8
  have c_9 : z2.cell? ⟨Bc, 9, none⟩ = some (.int .i64 0) := bc.cell 9
  have c_10 : z2.cell? ⟨Bc, 10, none⟩ = some (.int .i64 0) := bc.cell 10
  have c_11 : z2.cell? ⟨Bc, 11, none⟩ = some (.int .i64 0) := bc.cell 11
  have c_12 : z2.cell? ⟨Bc, 12, none⟩ = some (.int .i64 0) := bc.cell 12
  have lt_c := bc.lt
  have e_0 : z2.cell? ⟨Be, 0, none⟩ = some (.int .i64 1) := be.cell 0
  have e_1 : z2.cell? ⟨Be, 1, none⟩ = some (.int .i64 2) := be.cell 1
  have e_2 : z2.cell? ⟨Be, 2, none⟩ = some (.int .i64 0) := be.cell 2
  have e_3 : z2.cell? ⟨Be, 3, none⟩ = some (.int .i64 0) := be.cell 3
  have e_4 : z2.cell? ⟨Be, 4, none⟩ = some (.int .i64 0) := be.cell 4
  have e_5 : z2.cell? ⟨Be, 5, none⟩ = some (.int .i64 0) := be.cell 5
  have e_6 : z2.cell? ⟨Be, 6, none⟩ = some (.int .i64 0) := be.cell 6
  have e_7 : z2.cell? ⟨Be, 7, none⟩ = some (.int .i64 0) := be.cell 7
  have e_8 : z2.cell? ⟨Be, 8, none⟩ = some (.int .i64 1) := be.cell 8
  have e_9 : z2.cell? ⟨Be, 9, none⟩ = some (.int .i64 2) := be.cell 9
  have e_10 : z2.cell? ⟨Be, 10, none⟩ = some (.int .i64 0) := be.cell 10
  have e_11 : z2.cell? ⟨Be, 11, none⟩ = some (.int .i64 9) := be.cell 11
  have e_12 : z2.cell? ⟨Be, 12, none⟩ = some (.int .i64 4) := be.cell 12
  have lt_e := be.lt
  have m_0 : z2.cell? ⟨Bm, 0, none⟩ = some (.int .i64 3) := bm.cell 0
  have m_1 : z2.cell? ⟨Bm, 1, none⟩ = some (.int .i64 2) := bm.cell 1
  have m_2 : z2.cell? ⟨Bm, 2, none⟩ = some (.int .i64 0) := bm.cell 2
  have m_3 : z2.cell? ⟨Bm, 3, none⟩ = some (.int .i64 0) := bm.cell 3
  have m_4 : z2.cell? ⟨Bm, 4, none⟩ = some (.int .i64 0) := bm.cell 4
  have m_5 : z2.cell? ⟨Bm, 5, none⟩ = some (.int .i64 0) := bm.cell 5
  have m_6 : z2.cell? ⟨Bm, 6, none⟩ = some (.int .i64 0) := bm.cell 6
  have m_7 : z2.cell? ⟨Bm, 7, none⟩ = some (.int .i64 0) := bm.cell 7
  have m_8 : z2.cell? ⟨Bm, 8, none⟩ = some (.int .i64 1) := bm.cell 8
  have m_9 : z2.cell? ⟨Bm, 9, none⟩ = some (.int .i64 2) := bm.cell 9
  have m_10 : z2.cell? ⟨Bm, 10, none⟩ = some (.int .i64 0) := bm.cell 10
  have m_11 : z2.cell? ⟨Bm, 11, none⟩ = some (.int .i64 0) := bm.cell 11
  have m_12 : z2.cell? ⟨Bm, 12, none⟩ = some (.int .i64 5) := bm.cell 12
  have lt_m := bm.lt
  have hbx := hB
  clear ba bc be bm hB
  have hxr : ∀ w0 : World, (binOp .eql 25 (.agg #[.int .i64 1, .int .i64 2, .int .i64 0, .int .i64 9, .int .i64 4]) (.agg #[.int .i64 1, .int .i64 2, .int .i64 0, .int .i64 9, .int .i64 4])).run Tryd.prog w0 = .ok (.bool true) w0 := fun w0 => by kernel_rfl
  refine wpList_quietN ?_
  try simp only [List.append]
  have q_a_0 := fun d os => cell_regrown a_0 d os
  have q_a_1 := fun d os => cell_regrown a_1 d os
  have q_a_2 := fun d os => cell_regrown a_2 d os
  have q_a_3 := fun d os => cell_regrown a_3 d os
  have q_a_4 := fun d os => cell_regrown a_4 d os
  have q_a_5 := fun d os => cell_regrown a_5 d os
  have q_a_6 := fun d os => cell_regrown a_6 d os
  have q_a_7 := fun d os => cell_regrown a_7 d os
  have q_a_8 := fun d os => cell_regrown a_8 d os
  have q_a_9 := fun d os => cell_regrown a_9 d os
  have q_a_10 := fun d os => cell_regrown a_10 d os
  have q_a_11 := fun d os => cell_regrown a_11 d os
  have q_a_12 := fun d os => cell_regrown a_12 d os
  have q_c_0 := fun d os => cell_regrown c_0 d os
  have q_c_1 := fun d os => cell_regrown c_1 d os
  have q_c_2 := fun d os => cell_regrown c_2 d os
  have q_c_3 := fun d os => cell_regrown c_3 d os
  have q_c_4 := fun d os => cell_regrown c_4 d os
  have q_c_5 := fun d os => cell_regrown c_5 d os
  have q_c_6 := fun d os => cell_regrown c_6 d os
  have q_c_7 := fun d os => cell_regrown c_7 d os
  have q_c_8 := fun d os => cell_regrown c_8 d os
  have q_c_9 := fun d os => cell_regrown c_9 d os
  have q_c_10 := fun d os => cell_regrown c_10 d os
  have q_c_11 := fun d os => cell_regrown c_11 d os
  have q_c_12 := fun d os => cell_regrown c_12 d os
  have q_e_0 := fun d os => cell_regrown e_0 d os
  have q_e_1 := fun d os => cell_regrown e_1 d os
  have q_e_2 := fun d os => cell_regrown e_2 d os
  have q_e_3 := fun d os => cell_regrown e_3 d os
  have q_e_4 := fun d os => cell_regrown e_4 d os
  have q_e_5 := fun d os => cell_regrown e_5 d os
  have q_e_6 := fun d os => cell_regrown e_6 d os
  have q_e_7 := fun d os => cell_regrown e_7 d os
  have q_e_8 := fun d os => cell_regrown e_8 d os
  have q_e_9 := fun d os => cell_regrown e_9 d os
  have q_e_10 := fun d os => cell_regrown e_10 d os
  have q_e_11 := fun d os => cell_regrown e_11 d os
  have q_e_12 := fun d os => cell_regrown e_12 d os
  have q_m_0 := fun d os => cell_regrown m_0 d os
  have q_m_1 := fun d os => cell_regrown m_1 d os
  have q_m_2 := fun d os => cell_regrown m_2 d os
  have q_m_3 := fun d os => cell_regrown m_3 d os
  have q_m_4 := fun d os => cell_regrown m_4 d os
  have q_m_5 := fun d os => cell_regrown m_5 d os
  have q_m_6 := fun d os => cell_regrown m_6 d os
  have q_m_7 := fun d os => cell_regrown m_7 d os
  have q_m_8 := fun d os => cell_regrown m_8 d os
  have q_m_9 := fun d os => cell_regrown m_9 d os
  have q_m_10 := fun d os => cell_regrown m_10 d os
  have q_m_11 := fun d os => cell_regrown m_11 d os
  have q_m_12 := fun d os => cell_regrown m_12 d os
  repeat (go_big_quiet_step ((first
    | (go_at_call 13; with_reducible exact Calls.regrown_of (s04_ra _))
    | (go_at_call 13; with_reducible exact Calls.regrown_of (s04_rz _)))))
  refine wpQuiet_nil ?_
  intro _ hqw
  obtain ⟨pq, hqw⟩ := hqw
  subst hqw
  have hfin := hbx.trans ((below_regrown z2 pq.d pq.os).mono hs)
  clear q_a_0 q_a_1 q_a_2 q_a_3 q_a_4 q_a_5 q_a_6 q_a_7 q_a_8 q_a_9 q_a_10 q_a_11 q_a_12 q_c_0 q_c_1 q_c_2 q_c_3 q_c_4 q_c_5 q_c_6 q_c_7 q_c_8 q_c_9 q_c_10 q_c_11 q_c_12 q_e_0 q_e_1 q_e_2 q_e_3 q_e_4 q_e_5 q_e_6 q_e_7 q_e_8 q_e_9 q_e_10 q_e_11 q_e_12 q_m_0 q_m_1 q_m_2 q_m_3 q_m_4 q_m_5 q_m_6 q_m_7 q_m_8 q_m_9 q_m_10 q_m_11 q_m_12 a_0 a_1 a_2 a_3 a_4 a_5 a_6 a_7 a_8 a_9 a_10 a_11 a_12 c_0 c_1 c_2 c_3 c_4 c_5 c_6 c_7 c_8 c_9 c_10 c_11 c_12 e_0 e_1 e_2 e_3 e_4 e_5 e_6 e_7 e_8 e_9 e_10 e_11 e_12 m_0 m_1 m_2 m_3 m_4 m_5 m_6 m_7 m_8 m_9 m_10 m_11 m_12
  generalize grow (redrawn z2 pq.d) pq.os = z3 at *
  go_wp2
  go_ret
  exact ⟨rfl, hfin⟩
end Go.Proofs.YtkdfloeglknmnaaDoor
