
/- What may be added may be deleted and changed by its numbers, and has all it is told to have: DirectKinds returns true. It reads a table of the library's. -/
import Derived.Test.YtkdfloeglknmnaaDoorRows
import Derived.Test.YtkdfloeglknmnaaDoorTie
import Derived.Test.YtkdfloeglknmnaaDoorCards
import Derived.Test.YtkdfloeglknmnaaDoorSmall04
import Derived.Test.YtkdfloeglknmnaaDoorTen04
namespace Go.Proofs.YtkdfloeglknmnaaDoor
open Go.ChangeShapes Go.WideShapes Go.ChangeAt Go.RowKit Go.Sort
set_option linter.unusedSimpArgs false
set_option linter.unusedVariables false
theorem k_add (i f t s e r : Int) : rightD ⟨1, 1, i, f, t, s, e, r, 0, 0, 0, 0, 0⟩ = contactB i f t s e r := by
  have k1 : knownD ⟨1, 1, i, f, t, s, e, r, 0, 0, 0, 0, 0⟩ = true := rfl
  have k3 : (⟨1, 1, i, f, t, s, e, r, 0, 0, 0, 0, 0⟩ : Dr) = keepD ⟨1, 1, i, f, t, s, e, r, 0, 0, 0, 0, 0⟩ := rfl
  unfold rightD
  rw [k1, ← k3]
  simp
  rfl
theorem k_del (i : Int) : rightD ⟨2, 1, i, 0, 0, 0, 0, 0, 0, 0, 0, 0, 0⟩ = inB i 1 1048576 := by
  have k1 : knownD ⟨2, 1, i, 0, 0, 0, 0, 0, 0, 0, 0, 0, 0⟩ = true := rfl
  have k3 : (⟨2, 1, i, 0, 0, 0, 0, 0, 0, 0, 0, 0, 0⟩ : Dr) = keepD ⟨2, 1, i, 0, 0, 0, 0, 0, 0, 0, 0, 0, 0⟩ := rfl
  unfold rightD
  rw [k1, ← k3]
  simp
  rfl
theorem k_chg (i r : Int) : rightD ⟨3, 1, i, 0, 0, 0, 0, r, 0, 0, 0, 0, 0⟩ = (inB i 1 1048576 && inB r 1 2147483647) := by
  have k1 : knownD ⟨3, 1, i, 0, 0, 0, 0, r, 0, 0, 0, 0, 0⟩ = true := rfl
  have k3 : (⟨3, 1, i, 0, 0, 0, 0, r, 0, 0, 0, 0, 0⟩ : Dr) = keepD ⟨3, 1, i, 0, 0, 0, 0, r, 0, 0, 0, 0, 0⟩ := rfl
  unfold rightD
  rw [k1, ← k3]
  simp
  rfl
theorem k_addR (f t s e o : Int) : rightD ⟨1, 2, 0, 0, 0, 0, 0, 0, f, t, s, e, o⟩ = rangeB f t s e o := by
  have k1 : knownD ⟨1, 2, 0, 0, 0, 0, 0, 0, f, t, s, e, o⟩ = true := rfl
  have k3 : (⟨1, 2, 0, 0, 0, 0, 0, 0, f, t, s, e, o⟩ : Dr) = keepD ⟨1, 2, 0, 0, 0, 0, 0, 0, f, t, s, e, o⟩ := rfl
  unfold rightD
  rw [k1, ← k3]
  simp
  rfl
theorem k_delR (f t s : Int) : rightD ⟨2, 2, 0, 0, 0, 0, 0, 0, f, t, s, 0, 0⟩ = beginB f t s := by
  have k1 : knownD ⟨2, 2, 0, 0, 0, 0, 0, 0, f, t, s, 0, 0⟩ = true := rfl
  have k3 : (⟨2, 2, 0, 0, 0, 0, 0, 0, f, t, s, 0, 0⟩ : Dr) = keepD ⟨2, 2, 0, 0, 0, 0, 0, 0, f, t, s, 0, 0⟩ := rfl
  unfold rightD
  rw [k1, ← k3]
  simp
  rfl
theorem k_chgR (f t s o : Int) : rightD ⟨3, 2, 0, 0, 0, 0, 0, 0, f, t, s, 0, o⟩ = (beginB f t s && inB o 0 2147483647) := by
  have k1 : knownD ⟨3, 2, 0, 0, 0, 0, 0, 0, f, t, s, 0, o⟩ = true := rfl
  have k3 : (⟨3, 2, 0, 0, 0, 0, 0, 0, f, t, s, 0, o⟩ : Dr) = keepD ⟨3, 2, 0, 0, 0, 0, 0, 0, f, t, s, 0, o⟩ := rfl
  unfold rightD
  rw [k1, ← k3]
  simp
  rfl
theorem k_bad (i f t s e r : Int) : rightD ⟨1, 1, i, f, t, s, e, r, 1, 0, 0, 0, 0⟩ = false := by
  have k3 : keepD ⟨1, 1, i, f, t, s, e, r, 1, 0, 0, 0, 0⟩ = ⟨1, 1, i, f, t, s, e, r, 0, 0, 0, 0, 0⟩ := rfl
  unfold rightD
  rw [k3]
  have : ¬ ((⟨1, 1, i, f, t, s, e, r, 1, 0, 0, 0, 0⟩ : Dr) = ⟨1, 1, i, f, t, s, e, r, 0, 0, 0, 0, 0⟩) := fun h => by injection h; omega
  simp [this]
structure Kinds (one b d : Bool) : Prop where
  f1 : one = true → b = true ∧ d = true
  f2 : d = true → b = true
theorem kinds_c (i f t s e r : Int) : Kinds (contactB i f t s e r) (inB i 1 1048576) (inB i 1 1048576 && inB r 1 2147483647) := by
  constructor
  · intro h
    unfold contactB at h
    simp only [Bool.and_eq_true] at h ⊢
    exact ⟨h.1.1.1, h.1.1.1, h.2⟩
  · intro h
    simp only [Bool.and_eq_true] at h
    exact h.1
theorem kinds_r (f t s e o : Int) : Kinds (rangeB f t s e o) (beginB f t s) (beginB f t s && inB o 0 2147483647) := by
  constructor
  · intro h
    have hb : beginB f t s = true := by
      unfold rangeB wayB spanB at h
      unfold beginB inB
      simp only [Bool.and_eq_true, decide_eq_true_eq] at h ⊢
      exact ⟨h.1.1.1.1, h.1.1.1.2, h.1.1.2, by omega⟩
    unfold rangeB at h
    simp only [Bool.and_eq_true] at h ⊢
    exact ⟨hb, hb, h.2⟩
  · intro h
    simp only [Bool.and_eq_true] at h
    exact h.1
set_option maxHeartbeats 16000000 in
set_option maxRecDepth 100000 in
theorem directKinds_walk (i0 i1 i2 i3 i4 i5 j0 j1 j2 j3 j4 : Int) (_ : ∀ m ∈ [i0, i1, i2, i3, i4, i5], (Lit.int .i64 m).wf = true) (_ : ∀ m ∈ [j0, j1, j2, j3, j4], (Lit.int .i64 m).wf = true) (w : World) (ht : TenTab w) :
    Calls Tryd.prog 6 #[.agg #[.int .i64 i0, .int .i64 i1, .int .i64 i2, .int .i64 i3, .int .i64 i4, .int .i64 i5], .agg #[.int .i64 j0, .int .i64 j1, .int .i64 j2, .int .i64 j3, .int .i64 j4]] w fun e w' => e = .returned (.bool true) ∧ Below w.heap.size w w' := by
  obtain ⟨one, h1⟩ : ∃ b, contactB i0 i1 i2 i3 i4 i5 = b := ⟨_, rfl⟩
  obtain ⟨two, h2⟩ : ∃ b, rangeB j0 j1 j2 j3 j4 = b := ⟨_, rfl⟩
  obtain ⟨q1, h3⟩ : ∃ b, inB i0 1 1048576 = b := ⟨_, rfl⟩
  obtain ⟨q2, h4⟩ : ∃ b, (inB i0 1 1048576 && inB i5 1 2147483647) = b := ⟨_, rfl⟩
  obtain ⟨q3, h5⟩ : ∃ b, beginB j0 j1 j2 = b := ⟨_, rfl⟩
  obtain ⟨q4, h6⟩ : ∃ b, (beginB j0 j1 j2 && inB j4 0 2147483647) = b := ⟨_, rfl⟩
  have hk1 := kinds_c i0 i1 i2 i3 i4 i5
  have hk2 := kinds_r j0 j1 j2 j3 j4
  rw [h1, h4, h3] at hk1
  rw [h2, h6, h5] at hk2
  have K1 := Lib.hid hk1
  have K2 := Lib.hid hk2
  have HO := Lib.hid h1
  have HW := Lib.hid h2
  have H3 := Lib.hid ((k_del i0).trans h3)
  have H4 := Lib.hid ((k_chg i0 i5).trans h4)
  have H5 := Lib.hid ((k_delR j0 j1 j2).trans h5)
  have H6 := Lib.hid ((k_chgR j0 j1 j2 j4).trans h6)
  have H1 := Lib.hid ((k_add i0 i1 i2 i3 i4 i5).trans h1)
  have H2 := Lib.hid ((k_addR j0 j1 j2 j3 j4).trans h2)
  clear h1 h2 h3 h4 h5 h6 hk1 hk2
  have hX := (Blok.new w 23 #[.int .i64 i0, .int .i64 i1, .int .i64 i2, .int .i64 i3, .int .i64 i4, .int .i64 i5]).alloc (.cells #[.int .i64 j0, .int .i64 j1, .int .i64 j2, .int .i64 j3, .int .i64 j4] 25)
  have hY := Blok.new (w.alloc (.cells #[.int .i64 i0, .int .i64 i1, .int .i64 i2, .int .i64 i3, .int .i64 i4, .int .i64 i5] 23)) 25 #[.int .i64 j0, .int .i64 j1, .int .i64 j2, .int .i64 j3, .int .i64 j4]
  simp only [World.size_alloc] at hY
  have hB : Below w.heap.size w ((w.alloc (.cells #[.int .i64 i0, .int .i64 i1, .int .i64 i2, .int .i64 i3, .int .i64 i4, .int .i64 i5] 23)).alloc (.cells #[.int .i64 j0, .int .i64 j1, .int .i64 j2, .int .i64 j3, .int .i64 j4] 25)) := by (repeat (first | exact Below.refl _ _ | refine Below.alloc ?_ (by first | omega | (simp; done) | (simp; omega)) _ | refine Below.setCell ?_ (by first | omega | (simp; done) | (simp; omega)) _ | refine Below.drew ?_))
  have hs := hB.size
  have HT := Lib.hid (ht.below hB)
  clear ht
  go_enter Tryd.func6, Tryd.ntmps6
  go_wp2_with fail
  generalize (w.alloc (.cells #[.int .i64 i0, .int .i64 i1, .int .i64 i2, .int .i64 i3, .int .i64 i4, .int .i64 i5] 23)).alloc (.cells #[.int .i64 j0, .int .i64 j1, .int .i64 j2, .int .i64 j3, .int .i64 j4] 25) = x0 at *
  refine (small04_any x0 HT.out).mono ?_
  rintro e y0 ⟨rfl, hb⟩
  clear HT
  replace hX := hX.below hb hX.lt
  replace hY := hY.below hb hY.lt
  replace hB := hB.trans (hb.mono hs)
  replace hs := hB.size
  clear hb
  have c_0 : y0.cell? ⟨w.heap.size, 0, none⟩ = some (.int .i64 i0) := hX.cell 0
  have c_1 : y0.cell? ⟨w.heap.size, 1, none⟩ = some (.int .i64 i1) := hX.cell 1
  have c_2 : y0.cell? ⟨w.heap.size, 2, none⟩ = some (.int .i64 i2) := hX.cell 2
  have c_3 : y0.cell? ⟨w.heap.size, 3, none⟩ = some (.int .i64 i3) := hX.cell 3
  have c_4 : y0.cell? ⟨w.heap.size, 4, none⟩ = some (.int .i64 i4) := hX.cell 4
  have c_5 : y0.cell? ⟨w.heap.size, 5, none⟩ = some (.int .i64 i5) := hX.cell 5
  have r_0 : y0.cell? ⟨w.heap.size + 1, 0, none⟩ = some (.int .i64 j0) := hY.cell 0
  have r_1 : y0.cell? ⟨w.heap.size + 1, 1, none⟩ = some (.int .i64 j1) := hY.cell 1
  have r_2 : y0.cell? ⟨w.heap.size + 1, 2, none⟩ = some (.int .i64 j2) := hY.cell 2
  have r_3 : y0.cell? ⟨w.heap.size + 1, 3, none⟩ = some (.int .i64 j3) := hY.cell 3
  have r_4 : y0.cell? ⟨w.heap.size + 1, 4, none⟩ = some (.int .i64 j4) := hY.cell 4
  have lt_c := hX.lt
  have lt_r := hY.lt
  go_wp2_with fail
  clear c_0 c_1 c_2 c_3 c_4 c_5 r_0 r_1 r_2 r_3 r_4 lt_c lt_r
  refine (contact_is one HO.out y0).mono ?_
  rintro e y1 ⟨rfl, hb⟩
  replace hX := hX.below hb hX.lt
  replace hY := hY.below hb hY.lt
  replace hB := hB.trans (hb.mono hs)
  replace hs := hB.size
  clear hb
  have c_0 : y1.cell? ⟨w.heap.size, 0, none⟩ = some (.int .i64 i0) := hX.cell 0
  have c_1 : y1.cell? ⟨w.heap.size, 1, none⟩ = some (.int .i64 i1) := hX.cell 1
  have c_2 : y1.cell? ⟨w.heap.size, 2, none⟩ = some (.int .i64 i2) := hX.cell 2
  have c_3 : y1.cell? ⟨w.heap.size, 3, none⟩ = some (.int .i64 i3) := hX.cell 3
  have c_4 : y1.cell? ⟨w.heap.size, 4, none⟩ = some (.int .i64 i4) := hX.cell 4
  have c_5 : y1.cell? ⟨w.heap.size, 5, none⟩ = some (.int .i64 i5) := hX.cell 5
  have r_0 : y1.cell? ⟨w.heap.size + 1, 0, none⟩ = some (.int .i64 j0) := hY.cell 0
  have r_1 : y1.cell? ⟨w.heap.size + 1, 1, none⟩ = some (.int .i64 j1) := hY.cell 1
  have r_2 : y1.cell? ⟨w.heap.size + 1, 2, none⟩ = some (.int .i64 j2) := hY.cell 2
  have r_3 : y1.cell? ⟨w.heap.size + 1, 3, none⟩ = some (.int .i64 j3) := hY.cell 3
  have r_4 : y1.cell? ⟨w.heap.size + 1, 4, none⟩ = some (.int .i64 j4) := hY.cell 4
  have lt_c := hX.lt
  have lt_r := hY.lt
  go_wp2_with fail
  clear c_0 c_1 c_2 c_3 c_4 c_5 r_0 r_1 r_2 r_3 r_4 lt_c lt_r
  refine (range_is two HW.out y1).mono ?_
  rintro e y2 ⟨rfl, hb⟩
  replace hX := hX.below hb hX.lt
  replace hY := hY.below hb hY.lt
  replace hB := hB.trans (hb.mono hs)
  replace hs := hB.size
  clear hb
  have c_0 : y2.cell? ⟨w.heap.size, 0, none⟩ = some (.int .i64 i0) := hX.cell 0
  have c_1 : y2.cell? ⟨w.heap.size, 1, none⟩ = some (.int .i64 i1) := hX.cell 1
  have c_2 : y2.cell? ⟨w.heap.size, 2, none⟩ = some (.int .i64 i2) := hX.cell 2
  have c_3 : y2.cell? ⟨w.heap.size, 3, none⟩ = some (.int .i64 i3) := hX.cell 3
  have c_4 : y2.cell? ⟨w.heap.size, 4, none⟩ = some (.int .i64 i4) := hX.cell 4
  have c_5 : y2.cell? ⟨w.heap.size, 5, none⟩ = some (.int .i64 i5) := hX.cell 5
  have r_0 : y2.cell? ⟨w.heap.size + 1, 0, none⟩ = some (.int .i64 j0) := hY.cell 0
  have r_1 : y2.cell? ⟨w.heap.size + 1, 1, none⟩ = some (.int .i64 j1) := hY.cell 1
  have r_2 : y2.cell? ⟨w.heap.size + 1, 2, none⟩ = some (.int .i64 j2) := hY.cell 2
  have r_3 : y2.cell? ⟨w.heap.size + 1, 3, none⟩ = some (.int .i64 j3) := hY.cell 3
  have r_4 : y2.cell? ⟨w.heap.size + 1, 4, none⟩ = some (.int .i64 j4) := hY.cell 4
  have lt_c := hX.lt
  have lt_r := hY.lt
  go_wp2_with fail
  clear c_0 c_1 c_2 c_3 c_4 c_5 r_0 r_1 r_2 r_3 r_4 lt_c lt_r
  refine (dright_any ⟨1, 1, i0, i1, i2, i3, i4, i5, 0, 0, 0, 0, 0⟩ y2 (show (Lit.int .i64 1).wf = true by decide) (show (Lit.int .i64 1).wf = true by decide) one H1.out).mono ?_
  rintro e y3 ⟨rfl, hb⟩
  replace hX := hX.below hb hX.lt
  replace hY := hY.below hb hY.lt
  replace hB := hB.trans (hb.mono hs)
  replace hs := hB.size
  clear hb
  have c_0 : y3.cell? ⟨w.heap.size, 0, none⟩ = some (.int .i64 i0) := hX.cell 0
  have c_1 : y3.cell? ⟨w.heap.size, 1, none⟩ = some (.int .i64 i1) := hX.cell 1
  have c_2 : y3.cell? ⟨w.heap.size, 2, none⟩ = some (.int .i64 i2) := hX.cell 2
  have c_3 : y3.cell? ⟨w.heap.size, 3, none⟩ = some (.int .i64 i3) := hX.cell 3
  have c_4 : y3.cell? ⟨w.heap.size, 4, none⟩ = some (.int .i64 i4) := hX.cell 4
  have c_5 : y3.cell? ⟨w.heap.size, 5, none⟩ = some (.int .i64 i5) := hX.cell 5
  have r_0 : y3.cell? ⟨w.heap.size + 1, 0, none⟩ = some (.int .i64 j0) := hY.cell 0
  have r_1 : y3.cell? ⟨w.heap.size + 1, 1, none⟩ = some (.int .i64 j1) := hY.cell 1
  have r_2 : y3.cell? ⟨w.heap.size + 1, 2, none⟩ = some (.int .i64 j2) := hY.cell 2
  have r_3 : y3.cell? ⟨w.heap.size + 1, 3, none⟩ = some (.int .i64 j3) := hY.cell 3
  have r_4 : y3.cell? ⟨w.heap.size + 1, 4, none⟩ = some (.int .i64 j4) := hY.cell 4
  have lt_c := hX.lt
  have lt_r := hY.lt
  go_wp2_with fail
  clear c_0 c_1 c_2 c_3 c_4 c_5 r_0 r_1 r_2 r_3 r_4 lt_c lt_r
  refine (dright_any ⟨2, 1, i0, 0, 0, 0, 0, 0, 0, 0, 0, 0, 0⟩ y3 (show (Lit.int .i64 2).wf = true by decide) (show (Lit.int .i64 1).wf = true by decide) q1 H3.out).mono ?_
  rintro e y4 ⟨rfl, hb⟩
  replace hX := hX.below hb hX.lt
  replace hY := hY.below hb hY.lt
  replace hB := hB.trans (hb.mono hs)
  replace hs := hB.size
  clear hb
  have c_0 : y4.cell? ⟨w.heap.size, 0, none⟩ = some (.int .i64 i0) := hX.cell 0
  have c_1 : y4.cell? ⟨w.heap.size, 1, none⟩ = some (.int .i64 i1) := hX.cell 1
  have c_2 : y4.cell? ⟨w.heap.size, 2, none⟩ = some (.int .i64 i2) := hX.cell 2
  have c_3 : y4.cell? ⟨w.heap.size, 3, none⟩ = some (.int .i64 i3) := hX.cell 3
  have c_4 : y4.cell? ⟨w.heap.size, 4, none⟩ = some (.int .i64 i4) := hX.cell 4
  have c_5 : y4.cell? ⟨w.heap.size, 5, none⟩ = some (.int .i64 i5) := hX.cell 5
  have r_0 : y4.cell? ⟨w.heap.size + 1, 0, none⟩ = some (.int .i64 j0) := hY.cell 0
  have r_1 : y4.cell? ⟨w.heap.size + 1, 1, none⟩ = some (.int .i64 j1) := hY.cell 1
  have r_2 : y4.cell? ⟨w.heap.size + 1, 2, none⟩ = some (.int .i64 j2) := hY.cell 2
  have r_3 : y4.cell? ⟨w.heap.size + 1, 3, none⟩ = some (.int .i64 j3) := hY.cell 3
  have r_4 : y4.cell? ⟨w.heap.size + 1, 4, none⟩ = some (.int .i64 j4) := hY.cell 4
  have lt_c := hX.lt
  have lt_r := hY.lt
  go_wp2_with fail
  clear c_0 c_1 c_2 c_3 c_4 c_5 r_0 r_1 r_2 r_3 r_4 lt_c lt_r
  refine (dright_any ⟨3, 1, i0, 0, 0, 0, 0, i5, 0, 0, 0, 0, 0⟩ y4 (show (Lit.int .i64 3).wf = true by decide) (show (Lit.int .i64 1).wf = true by decide) q2 H4.out).mono ?_
  rintro e y5 ⟨rfl, hb⟩
  replace hX := hX.below hb hX.lt
  replace hY := hY.below hb hY.lt
  replace hB := hB.trans (hb.mono hs)
  replace hs := hB.size
  clear hb
  have c_0 : y5.cell? ⟨w.heap.size, 0, none⟩ = some (.int .i64 i0) := hX.cell 0
  have c_1 : y5.cell? ⟨w.heap.size, 1, none⟩ = some (.int .i64 i1) := hX.cell 1
  have c_2 : y5.cell? ⟨w.heap.size, 2, none⟩ = some (.int .i64 i2) := hX.cell 2
  have c_3 : y5.cell? ⟨w.heap.size, 3, none⟩ = some (.int .i64 i3) := hX.cell 3
  have c_4 : y5.cell? ⟨w.heap.size, 4, none⟩ = some (.int .i64 i4) := hX.cell 4
  have c_5 : y5.cell? ⟨w.heap.size, 5, none⟩ = some (.int .i64 i5) := hX.cell 5
  have r_0 : y5.cell? ⟨w.heap.size + 1, 0, none⟩ = some (.int .i64 j0) := hY.cell 0
  have r_1 : y5.cell? ⟨w.heap.size + 1, 1, none⟩ = some (.int .i64 j1) := hY.cell 1
  have r_2 : y5.cell? ⟨w.heap.size + 1, 2, none⟩ = some (.int .i64 j2) := hY.cell 2
  have r_3 : y5.cell? ⟨w.heap.size + 1, 3, none⟩ = some (.int .i64 j3) := hY.cell 3
  have r_4 : y5.cell? ⟨w.heap.size + 1, 4, none⟩ = some (.int .i64 j4) := hY.cell 4
  have lt_c := hX.lt
  have lt_r := hY.lt
  go_wp2_with fail
  clear c_0 c_1 c_2 c_3 c_4 c_5 r_0 r_1 r_2 r_3 r_4 lt_c lt_r
  refine (dright_any ⟨1, 2, 0, 0, 0, 0, 0, 0, j0, j1, j2, j3, j4⟩ y5 (show (Lit.int .i64 1).wf = true by decide) (show (Lit.int .i64 2).wf = true by decide) two H2.out).mono ?_
  rintro e y6 ⟨rfl, hb⟩
  replace hX := hX.below hb hX.lt
  replace hY := hY.below hb hY.lt
  replace hB := hB.trans (hb.mono hs)
  replace hs := hB.size
  clear hb
  have c_0 : y6.cell? ⟨w.heap.size, 0, none⟩ = some (.int .i64 i0) := hX.cell 0
  have c_1 : y6.cell? ⟨w.heap.size, 1, none⟩ = some (.int .i64 i1) := hX.cell 1
  have c_2 : y6.cell? ⟨w.heap.size, 2, none⟩ = some (.int .i64 i2) := hX.cell 2
  have c_3 : y6.cell? ⟨w.heap.size, 3, none⟩ = some (.int .i64 i3) := hX.cell 3
  have c_4 : y6.cell? ⟨w.heap.size, 4, none⟩ = some (.int .i64 i4) := hX.cell 4
  have c_5 : y6.cell? ⟨w.heap.size, 5, none⟩ = some (.int .i64 i5) := hX.cell 5
  have r_0 : y6.cell? ⟨w.heap.size + 1, 0, none⟩ = some (.int .i64 j0) := hY.cell 0
  have r_1 : y6.cell? ⟨w.heap.size + 1, 1, none⟩ = some (.int .i64 j1) := hY.cell 1
  have r_2 : y6.cell? ⟨w.heap.size + 1, 2, none⟩ = some (.int .i64 j2) := hY.cell 2
  have r_3 : y6.cell? ⟨w.heap.size + 1, 3, none⟩ = some (.int .i64 j3) := hY.cell 3
  have r_4 : y6.cell? ⟨w.heap.size + 1, 4, none⟩ = some (.int .i64 j4) := hY.cell 4
  have lt_c := hX.lt
  have lt_r := hY.lt
  go_wp2_with fail
  clear c_0 c_1 c_2 c_3 c_4 c_5 r_0 r_1 r_2 r_3 r_4 lt_c lt_r
  refine (dright_any ⟨2, 2, 0, 0, 0, 0, 0, 0, j0, j1, j2, 0, 0⟩ y6 (show (Lit.int .i64 2).wf = true by decide) (show (Lit.int .i64 2).wf = true by decide) q3 H5.out).mono ?_
  rintro e y7 ⟨rfl, hb⟩
  replace hX := hX.below hb hX.lt
  replace hY := hY.below hb hY.lt
  replace hB := hB.trans (hb.mono hs)
  replace hs := hB.size
  clear hb
  have c_0 : y7.cell? ⟨w.heap.size, 0, none⟩ = some (.int .i64 i0) := hX.cell 0
  have c_1 : y7.cell? ⟨w.heap.size, 1, none⟩ = some (.int .i64 i1) := hX.cell 1
  have c_2 : y7.cell? ⟨w.heap.size, 2, none⟩ = some (.int .i64 i2) := hX.cell 2
  have c_3 : y7.cell? ⟨w.heap.size, 3, none⟩ = some (.int .i64 i3) := hX.cell 3
  have c_4 : y7.cell? ⟨w.heap.size, 4, none⟩ = some (.int .i64 i4) := hX.cell 4
  have c_5 : y7.cell? ⟨w.heap.size, 5, none⟩ = some (.int .i64 i5) := hX.cell 5
  have r_0 : y7.cell? ⟨w.heap.size + 1, 0, none⟩ = some (.int .i64 j0) := hY.cell 0
  have r_1 : y7.cell? ⟨w.heap.size + 1, 1, none⟩ = some (.int .i64 j1) := hY.cell 1
  have r_2 : y7.cell? ⟨w.heap.size + 1, 2, none⟩ = some (.int .i64 j2) := hY.cell 2
  have r_3 : y7.cell? ⟨w.heap.size + 1, 3, none⟩ = some (.int .i64 j3) := hY.cell 3
  have r_4 : y7.cell? ⟨w.heap.size + 1, 4, none⟩ = some (.int .i64 j4) := hY.cell 4
  have lt_c := hX.lt
  have lt_r := hY.lt
  go_wp2_with fail
  clear c_0 c_1 c_2 c_3 c_4 c_5 r_0 r_1 r_2 r_3 r_4 lt_c lt_r
  refine (dright_any ⟨3, 2, 0, 0, 0, 0, 0, 0, j0, j1, j2, 0, j4⟩ y7 (show (Lit.int .i64 3).wf = true by decide) (show (Lit.int .i64 2).wf = true by decide) q4 H6.out).mono ?_
  rintro e y8 ⟨rfl, hb⟩
  replace hX := hX.below hb hX.lt
  replace hY := hY.below hb hY.lt
  replace hB := hB.trans (hb.mono hs)
  replace hs := hB.size
  clear hb
  have c_0 : y8.cell? ⟨w.heap.size, 0, none⟩ = some (.int .i64 i0) := hX.cell 0
  have c_1 : y8.cell? ⟨w.heap.size, 1, none⟩ = some (.int .i64 i1) := hX.cell 1
  have c_2 : y8.cell? ⟨w.heap.size, 2, none⟩ = some (.int .i64 i2) := hX.cell 2
  have c_3 : y8.cell? ⟨w.heap.size, 3, none⟩ = some (.int .i64 i3) := hX.cell 3
  have c_4 : y8.cell? ⟨w.heap.size, 4, none⟩ = some (.int .i64 i4) := hX.cell 4
  have c_5 : y8.cell? ⟨w.heap.size, 5, none⟩ = some (.int .i64 i5) := hX.cell 5
  have r_0 : y8.cell? ⟨w.heap.size + 1, 0, none⟩ = some (.int .i64 j0) := hY.cell 0
  have r_1 : y8.cell? ⟨w.heap.size + 1, 1, none⟩ = some (.int .i64 j1) := hY.cell 1
  have r_2 : y8.cell? ⟨w.heap.size + 1, 2, none⟩ = some (.int .i64 j2) := hY.cell 2
  have r_3 : y8.cell? ⟨w.heap.size + 1, 3, none⟩ = some (.int .i64 j3) := hY.cell 3
  have r_4 : y8.cell? ⟨w.heap.size + 1, 4, none⟩ = some (.int .i64 j4) := hY.cell 4
  have lt_c := hX.lt
  have lt_r := hY.lt
  go_wp2_with fail
  clear c_0 c_1 c_2 c_3 c_4 c_5 r_0 r_1 r_2 r_3 r_4 lt_c lt_r
  refine (dright_any ⟨1, 1, i0, i1, i2, i3, i4, i5, 1, 0, 0, 0, 0⟩ y8 (show (Lit.int .i64 1).wf = true by decide) (show (Lit.int .i64 1).wf = true by decide) false (k_bad _ _ _ _ _ _)).mono ?_
  rintro e y9 ⟨rfl, hb⟩
  replace hX := hX.below hb hX.lt
  replace hY := hY.below hb hY.lt
  replace hB := hB.trans (hb.mono hs)
  replace hs := hB.size
  clear hb
  rcases K1 with ⟨f1, f2⟩
  rcases K2 with ⟨g1, g2⟩
  clear HO HW H1 H2 H3 H4 H5 H6 hX hY
  cases one <;> cases q1 <;> cases q2 <;> first | (exfalso; simp at f1 f2; done) | skip
  all_goals cases two <;> cases q3 <;> cases q4 <;> first | (exfalso; simp at g1 g2; done) | skip
  all_goals
    clear f1 f2 g1 g2
    go_wp2
    go_ret
    exact ⟨rfl, hB⟩
theorem directKinds_own : ownKnob Tryd.prog.godebug = none := by kernel_rfl
theorem directKinds_laidOut : laidOutB Tryd.prog = true := by kernel_rfl
theorem directKinds_door (os : Os) (args : Array Value) : laidMetH Tryd.prog Rows.directKindsRow.laid ((World.doorLaid Tryd.prog 400 os).forCall (fun _ _ => 0) ⟨#[], args, []⟩).memory :=
  laidMetH_of_parts3 (fuel := 8) (laidMet_of_run' 8 (by kernel_rfl) (by kernel_rfl)) (by kernel_rfl) (by kernel_rfl)

set_option maxHeartbeats 1000000 in
set_option maxRecDepth 100000 in
theorem directKinds_lifted (os : Os) (started : os.Started) (H : Type) (enc : TypeId × Value → H) :
    ReturnsInHanded {} Tryd.checked os 6 .any (fun w args => (Rows.directKindsSpec.pre enc Tryd.prog Tryd.f6 [] false w args ∧ laidMetH Tryd.prog Rows.directKindsRow.laid w) ∧ sizedMet enc Tryd.prog Tryd.f6 (OpenSpec.ofChange Rows.directKindsSpec) false w args)
      (Rows.directKindsSpec.post enc Tryd.prog Tryd.f6 false true false false) := by
  refine returnsInHanded_of_change_and (C := Tryd.checked) (X := fun w _ => laidMetH Tryd.prog Rows.directKindsRow.laid w) (fun _ _ _ hh h => h.of_heap hh) directKinds_own started (by kernel_rfl) Tryd.func6
    (ChangeSpec.witness_shaped (enc := enc) (C := Tryd.checked) (os := os) (X := fun w _ => laidMetH Tryd.prog Rows.directKindsRow.laid w) false (World.doorLaid Tryd.prog 400 os) #[.agg #[.int .i64 0, .int .i64 0, .int .i64 0, .int .i64 0, .int .i64 0, .int .i64 0], .agg #[.int .i64 0, .int .i64 0, .int .i64 0, .int .i64 0, .int .i64 0]] 8 rfl (World.shaped_of_RefB (by kernel_rfl) (by kernel_rfl)) (by kernel_rfl) (by kernel_rfl) (by kernel_rfl) (directKinds_door os _)) ?_
  intro W base args ds gs before hval0 hW _ _ hL _
  have hval : ∀ (j : Nat) t v, Tryd.f6.params[j]? = some t → args[j]? = some v → Value.okWide Tryd.prog W .any base t v := hval0
  have hW' := hW
  obtain ⟨p, q, hA0, hV, rfl, hfz, hnd⟩ := hW
  have hA : DataW.TrodAll enc Tryd.prog W 0 (fun _ => true) true Tryd.f6.params.toList args.toList ds p := hA0
  rw [Tryd.params6] at hA hval
  obtain ⟨v0, vs0, d0, ds0, p0, q0, hargs, rfl, rfl, h0, r0⟩ := trodAll_cons hA
  obtain ⟨v1, vs1, d1, ds1, p1, q1, rfl, rfl, rfl, h1, r1⟩ := trodAll_cons r0
  obtain ⟨rfl, rfl, rfl⟩ := trodAll_nil r1
  obtain rfl : args = #[v0, v1] := by cases args; simp_all
  obtain ⟨rfl, rfl⟩ := trodVars_none hV
  obtain ⟨n0, e0, l0, w0⟩ := open_flat 4 Tryd.underlying23 (by kernel_rfl) (hval 0 23 v0 rfl rfl) h0
  obtain ⟨a0_0, a0_1, a0_2, a0_3, a0_4, a0_5, rfl⟩ : ∃ a0_0 a0_1 a0_2 a0_3 a0_4 a0_5 : Int, n0 = [a0_0, a0_1, a0_2, a0_3, a0_4, a0_5] := by
    rw [show Tryd.prog.cellsOf 23 = 6 by kernel_rfl] at l0
    match n0, l0 with
    | [a0_0, a0_1, a0_2, a0_3, a0_4, a0_5], _ => exact ⟨_, _, _, _, _, _, rfl⟩
  obtain rfl : v0 = .agg #[.int .i64 a0_0, .int .i64 a0_1, .int .i64 a0_2, .int .i64 a0_3, .int .i64 a0_4, .int .i64 a0_5] := e0
  obtain ⟨n1, e1, l1, w1⟩ := open_flat 4 Tryd.underlying25 (by kernel_rfl) (hval 1 25 v1 rfl rfl) h1
  obtain ⟨a1_0, a1_1, a1_2, a1_3, a1_4, rfl⟩ : ∃ a1_0 a1_1 a1_2 a1_3 a1_4 : Int, n1 = [a1_0, a1_1, a1_2, a1_3, a1_4] := by
    rw [show Tryd.prog.cellsOf 25 = 5 by kernel_rfl] at l1
    match n1, l1 with
    | [a1_0, a1_1, a1_2, a1_3, a1_4], _ => exact ⟨_, _, _, _, _, rfl⟩
  obtain rfl : v1 = .agg #[.int .i64 a1_0, .int .i64 a1_1, .int .i64 a1_2, .int .i64 a1_3, .int .i64 a1_4] := e1
  clear hA0 hval0
  refine (directKinds_walk a0_0 a0_1 a0_2 a0_3 a0_4 a0_5 a1_0 a1_1 a1_2 a1_3 a1_4 w0 w1 W (ten_of_laid hL)).mono fun e W' ⟨he, bel⟩ => ?_
  subst he
  exact ⟨_, rfl, law_post directKinds_laidOut (by kernel_rfl) rfl Tryd.underlying4 rfl rfl hW' bel⟩

theorem directKinds_holds : Rows.DirectKindsSaid :=
  OpenClaim.holds_of_wide 6 Tryd.f6 rfl rfl rfl rfl rfl rfl rfl ⟨rfl, rfl, rfl, rfl, rfl⟩ rfl rfl rfl rfl rfl (by kernel_rfl) Tryd.func6 (by kernel_rfl)
    (of_decide_eq_true (by kernel_rfl)) (by unfold Func.isWrapper; first | (rw [if_pos (by decide +kernel)]; kernel_rfl) | (rw [if_neg (by decide +kernel)]; exact ⟨rfl, rfl⟩))
    (fun os started H enc _ => directKinds_lifted os started H enc)

theorem directKinds_proved : Rows.DirectKindsCardSaid :=
  Claim7.holds_tied_plain_at .later [] Rows.directKindsCard.laidKinds true Rows.directKindsCard.stood.harness false
    directKinds_holds (fun _ h => by cases h) (by kernel_rfl) (fun _ h => by cases h) directKinds_row_tie rfl ⟨rfl, rfl⟩ (by kernel_rfl) rfl
    (fun f fn hf hfn => by
      obtain rfl : f = 6 := Option.some.inj ((show Tryd.prog.funcNamed "felucca/feluccalaw04.DirectKinds" = some 6 by kernel_rfl).symm.trans hf) |>.symm
      obtain rfl : fn = Tryd.f6 := (Option.some.inj (Tryd.func6.symm.trans hfn)).symm
      exact ⟨by kernel_rfl, fun j t ht => by
        rw [Tryd.params6] at ht
        have hm : t ∈ [23, 25] := by simpa using Array.mem_of_getElem? ht
        have hall : ([23, 25].all fun u => !Tryd.prog.wantsStandIn u) = true := by kernel_rfl
        exact (show Tryd.prog.wantsStandIn t = false by simpa using List.all_eq_true.1 hall t hm)⟩)
    (by kernel_rfl)
#print axioms directKinds_proved
end Go.Proofs.YtkdfloeglknmnaaDoor
