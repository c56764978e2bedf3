
/- Package script: ids, lines. No condition but that bytes are bytes. -/
import Derived.Test.YtggdomeeienjbaaDoorScr1
import Derived.Test.YtggdomeeienjbaaDoorTx4
import Derived.Test.YtggdomeeienjbaaDoorInts
namespace Go.Proofs.YtggdomeeienjbaaDoor
open Go.ChangeShapes Go.WideShapes Go.ChangeAt Go.RowKit Go.Sort
set_option linter.unusedSimpArgs false
set_option linter.unusedVariables false
def idsF (b1 b2 b3 : Nat) : List Int := if b2 % 2 = 1 then [(1 + b1 % 16 : Nat), (1 + b3 % 16 : Nat)] else [((1 + b1 % 16 : Nat) : Int)]
theorem idsF_len (b1 b2 b3 : Nat) : (idsF b1 b2 b3).length ≤ 2 := by unfold idsF; split <;> simp
set_option maxHeartbeats 4000000 in
set_option maxRecDepth 100000 in
theorem sids_any (b0 b1 b2 b3 b4 b5 b6 b7 b8 b9 : Nat) (w : World) (h0 : b0 < 256) (h1 : b1 < 256) (h2 : b2 < 256) (h3 : b3 < 256) (h4 : b4 < 256) (h5 : b5 < 256) (h6 : b6 < 256) (h7 : b7 < 256) (h8 : b8 < 256) (h9 : b9 < 256) (l : List Int) (hl : idsF b1 b2 b3 = l) :
    Calls Tryd.prog 28 #[.agg #[.int .u8 (b0 : Nat), .int .u8 (b1 : Nat), .int .u8 (b2 : Nat), .int .u8 (b3 : Nat), .int .u8 (b4 : Nat), .int .u8 (b5 : Nat), .int .u8 (b6 : Nat), .int .u8 (b7 : Nat), .int .u8 (b8 : Nat), .int .u8 (b9 : Nat)]] w fun e w' => ∃ v, e = .returned v ∧ w'.ownsRow w.heap.size 3 1 v l.length (l.map (Value.int .i64)) ∧ Below w.heap.size w w' := by
  obtain ⟨i0, hi0, hz0, hz1, hz2⟩ := info_parts infoI04
  obtain ⟨q1, e1⟩ : ∃ q, b1 % 16 = q := ⟨_, rfl⟩
  obtain ⟨q3, e3⟩ : ∃ q, b3 % 16 = q := ⟨_, rfl⟩
  have l1 : q1 < 16 := by rw [← e1]; exact Nat.mod_lt _ (by omega)
  have l3 : q3 < 16 := by rw [← e3]; exact Nat.mod_lt _ (by omega)
  obtain ⟨od, eo⟩ : ∃ r, decide (b2 % 2 = 1) = r := ⟨_, rfl⟩
  have HL := Lib.hid (show l = if od = true then [((1 + q1 : Nat) : Int), ((1 + q3 : Nat) : Int)] else [((1 + q1 : Nat) : Int)] by rw [← hl, ← eo, ← e1, ← e3]; unfold idsF; simp)
  have E1 := Lib.hid e1
  have E3 := Lib.hid e3
  have EO := Lib.hid eo
  clear e1 e3 eo hl
  have w1_ : IntKind.i64.wrap (1 + (q1 : Int)) = 1 + (q1 : Int) := IntWalk.i64_in _ (by omega)
  have w3_ : IntKind.i64.wrap (1 + (q3 : Int)) = 1 + (q3 : Int) := IntWalk.i64_in _ (by omega)
  have H0 := Lib.hid h0
  have H1 := Lib.hid h1
  have H2 := Lib.hid h2
  have H3 := Lib.hid h3
  have H4 := Lib.hid h4
  have H5 := Lib.hid h5
  have H6 := Lib.hid h6
  have H7 := Lib.hid h7
  have H8 := Lib.hid h8
  have H9 := Lib.hid h9
  clear h0 h1 h2 h3 h4 h5 h6 h7 h8 h9 l1 l3
  have hB : Below w.heap.size w (w.alloc (.cells #[.int .u8 (b0 : Nat), .int .u8 (b1 : Nat), .int .u8 (b2 : Nat), .int .u8 (b3 : Nat), .int .u8 (b4 : Nat), .int .u8 (b5 : Nat), .int .u8 (b6 : Nat), .int .u8 (b7 : Nat), .int .u8 (b8 : Nat), .int .u8 (b9 : Nat)] 23)) := by (repeat (first | exact Below.refl _ _ | refine Below.alloc ?_ (by first | omega | (simp; done) | (simp; omega)) _ | refine Below.setCell ?_ (by first | omega | (simp; done) | (simp; omega)) _ | refine Below.drew ?_))
  have hX := Blok.new w 23 #[.int .u8 (b0 : Nat), .int .u8 (b1 : Nat), .int .u8 (b2 : Nat), .int .u8 (b3 : Nat), .int .u8 (b4 : Nat), .int .u8 (b5 : Nat), .int .u8 (b6 : Nat), .int .u8 (b7 : Nat), .int .u8 (b8 : Nat), .int .u8 (b9 : Nat)]
  have hs := hB.size
  go_enter Tryd.func28, Tryd.ntmps28
  go_upto_region 1 with fail
  generalize w.alloc (.cells #[.int .u8 (b0 : Nat), .int .u8 (b1 : Nat), .int .u8 (b2 : Nat), .int .u8 (b3 : Nat), .int .u8 (b4 : Nat), .int .u8 (b5 : Nat), .int .u8 (b6 : Nat), .int .u8 (b7 : Nat), .int .u8 (b8 : Nat), .int .u8 (b9 : Nat)] 23) = w1 at *
  have x1 : w1.cell? ⟨w.heap.size, 1, none⟩ = some (.int .u8 (b1 : Nat)) := hX.cell 1
  have x2 : w1.cell? ⟨w.heap.size, 2, none⟩ = some (.int .u8 (b2 : Nat)) := hX.cell 2
  have x3 : w1.cell? ⟨w.heap.size, 3, none⟩ = some (.int .u8 (b3 : Nat)) := hX.cell 3
  have lt_x := hX.lt
  go_upto_region 2 with (first | (go_at_call 19; first | ((with_reducible refine Calls.mono (rest_any b1 16 q1 16 k16_ _ H1.out (by decide) (by decide) E1.out) ?_); rintro e9 w9 ⟨rfl, rfl⟩) | ((with_reducible refine Calls.mono (rest_any b3 16 q3 16 k16_ _ H3.out (by decide) (by decide) E3.out) ?_); rintro e9 w9 ⟨rfl, rfl⟩)) | (go_at_call 37; (with_reducible refine Calls.mono (odd_any b2 _ H2.out _ EO.out) ?_); rintro e9 w9 ⟨rfl, rfl⟩))
  have ho := own_lit w1 w.heap.size 3 1 1 #[.int .i64 (1 + (q1 : Int))] hs rfl (by simp [maxLen])
  have hb1 : Below w1.heap.size w1 (w1.alloc (.cells #[.int .i64 (1 + (q1 : Int))] 3)) := by (repeat (first | exact Below.refl _ _ | refine Below.alloc ?_ (by first | omega | (simp; done) | (simp; omega)) _ | refine Below.setCell ?_ (by first | omega | (simp; done) | (simp; omega)) _ | refine Below.drew ?_))
  clear x1 x2 x3 lt_x
  replace hX := hX.below hb1 hX.lt
  replace hB := hB.trans (hb1.mono hs)
  replace hs := hB.size
  clear hb1
  generalize w1.alloc (.cells #[.int .i64 (1 + (q1 : Int))] 3) = w2 at *
  have x1 : w2.cell? ⟨w.heap.size, 1, none⟩ = some (.int .u8 (b1 : Nat)) := hX.cell 1
  have x2 : w2.cell? ⟨w.heap.size, 2, none⟩ = some (.int .u8 (b2 : Nat)) := hX.cell 2
  have x3 : w2.cell? ⟨w.heap.size, 3, none⟩ = some (.int .u8 (b3 : Nat)) := hX.cell 3
  have lt_x := hX.lt
  generalize w1.heap.size = g1 at *
  cases od
  · go_wp2_with (first | (go_at_call 19; first | ((with_reducible refine Calls.mono (rest_any b1 16 q1 16 k16_ _ H1.out (by decide) (by decide) E1.out) ?_); rintro e9 w9 ⟨rfl, rfl⟩) | ((with_reducible refine Calls.mono (rest_any b3 16 q3 16 k16_ _ H3.out (by decide) (by decide) E3.out) ?_); rintro e9 w9 ⟨rfl, rfl⟩)) | (go_at_call 37; (with_reducible refine Calls.mono (odd_any b2 _ H2.out _ EO.out) ?_); rintro e9 w9 ⟨rfl, rfl⟩))
    go_ret
    have hl : l = [((1 + q1 : Nat) : Int)] := by rw [HL.out]; simp
    exact ⟨_, rfl, by rw [hl]; simpa using ho, hB⟩
  · go_upto_region 3 with (first | (go_at_call 19; first | ((with_reducible refine Calls.mono (rest_any b1 16 q1 16 k16_ _ H1.out (by decide) (by decide) E1.out) ?_); rintro e9 w9 ⟨rfl, rfl⟩) | ((with_reducible refine Calls.mono (rest_any b3 16 q3 16 k16_ _ H3.out (by decide) (by decide) E3.out) ?_); rintro e9 w9 ⟨rfl, rfl⟩)) | (go_at_call 37; (with_reducible refine Calls.mono (odd_any b2 _ H2.out _ EO.out) ?_); rintro e9 w9 ⟨rfl, rfl⟩))
    clear x1 x2 x3 lt_x
    have hl : Hid (l = [((1 + q1 : Nat) : Int), ((1 + q3 : Nat) : Int)]) := by have h := HL.out; simp at h; exact h
    have x3 : w2.cell? ⟨w.heap.size, 3, none⟩ = some (.int .u8 (b3 : Nat)) := hX.cell 3
    have lt_x := hX.lt
    have hm := ho
    go_wp2_with (first | (at_builtin; refine wpList_append_own _ rfl _ _ 32 rfl w.heap.size 3 i0 _ 1 8 Tryd.underlying32 hi0 hz0 hz1 hz2 rfl (by decide) _ _ _ rfl (ho.alloc _) ⟨w2.heap.size, 0, none⟩ 1 1 [.int .i64 (1 + (q3 : Int))] rfl rfl (by exact lit_cells w2 #[.int .i64 (1 + (q3 : Int))] _ _ rfl) (by simp [Value.oneCell']) (by unfold maxLen; omega) (by omega) (by simp; omega) ?_; intro v' w3 hown' hgrow3 hnil3) | (first | (go_at_call 19; first | ((with_reducible refine Calls.mono (rest_any b1 16 q1 16 k16_ _ H1.out (by decide) (by decide) E1.out) ?_); rintro e9 w9 ⟨rfl, rfl⟩) | ((with_reducible refine Calls.mono (rest_any b3 16 q3 16 k16_ _ H3.out (by decide) (by decide) E3.out) ?_); rintro e9 w9 ⟨rfl, rfl⟩)) | (go_at_call 37; (with_reducible refine Calls.mono (odd_any b2 _ H2.out _ EO.out) ?_); rintro e9 w9 ⟨rfl, rfl⟩)))
    have hbN : Below w.heap.size w w3 := (hB.alloc hs _).grown hgrow3 (by simp; omega) (fun q hq => (ho.lt q hq).1)
    go_wp2_with fail
    go_ret
    exact ⟨_, rfl, by rw [hl.out]; simpa using hown', hbN⟩
/-- The text of the directive that bytes make. -/
def linesF (d : Dr) (b8 : Nat) : Bytes := ((printF (if b8 % 2 = 1 then [d, d] else [d])).getD [120, 10])
set_option maxHeartbeats 4000000 in
set_option maxRecDepth 100000 in
theorem slines_any (b0 b1 b2 b3 b4 b5 b6 b7 b8 b9 : Nat) (w : World) (ht : TenTab w) (h0 : b0 < 256) (h1 : b1 < 256) (h2 : b2 < 256) (h3 : b3 < 256) (h4 : b4 < 256) (h5 : b5 < 256) (h6 : b6 < 256) (h7 : b7 < 256) (h8 : b8 < 256) (h9 : b9 < 256) (D : Dr) (hD : dirF b1 b2 b3 b4 b5 b6 b7 = D) (t : Bytes) (hT : linesF D b8 = t) :
    Calls Tryd.prog 27 #[.agg #[.int .u8 (b0 : Nat), .int .u8 (b1 : Nat), .int .u8 (b2 : Nat), .int .u8 (b3 : Nat), .int .u8 (b4 : Nat), .int .u8 (b5 : Nat), .int .u8 (b6 : Nat), .int .u8 (b7 : Nat), .int .u8 (b8 : Nat), .int .u8 (b9 : Nat)]] w fun e w' => e = .returned (.string (bs t)) ∧ Below w.heap.size w w' := by
  obtain ⟨i0, hi0, hz0, hz1, hz2⟩ := info_parts infoDr
  have hwf : (Lit.int .i64 D.op).wf = true ∧ (Lit.int .i64 D.kd).wf = true := by
    rw [← hD]; unfold dirF; split
    · exact ⟨rfl, rfl⟩
    · split
      · exact ⟨rfl, rfl⟩
      · split
        · exact ⟨rfl, rfl⟩
        · split <;> exact ⟨rfl, rfl⟩
  have HWF := Lib.hid hwf
  obtain ⟨od, eo⟩ : ∃ r, decide (b8 % 2 = 1) = r := ⟨_, rfl⟩
  have HT := Lib.hid (show (printF (if od = true then [D, D] else [D])).getD [120, 10] = t by rw [← hT, ← eo]; unfold linesF; simp)
  have HD := Lib.hid hD
  have EO := Lib.hid eo
  have TT := Lib.hid ht
  clear eo hT hD hwf ht
  have H0 := Lib.hid h0
  have H1 := Lib.hid h1
  have H2 := Lib.hid h2
  have H3 := Lib.hid h3
  have H4 := Lib.hid h4
  have H5 := Lib.hid h5
  have H6 := Lib.hid h6
  have H7 := Lib.hid h7
  have H8 := Lib.hid h8
  have H9 := Lib.hid h9
  clear h0 h1 h2 h3 h4 h5 h6 h7 h8 h9
  have hB : Below w.heap.size w (w.alloc (.cells #[.int .u8 (b0 : Nat), .int .u8 (b1 : Nat), .int .u8 (b2 : Nat), .int .u8 (b3 : Nat), .int .u8 (b4 : Nat), .int .u8 (b5 : Nat), .int .u8 (b6 : Nat), .int .u8 (b7 : Nat), .int .u8 (b8 : Nat), .int .u8 (b9 : Nat)] 23)) := by (repeat (first | exact Below.refl _ _ | refine Below.alloc ?_ (by first | omega | (simp; done) | (simp; omega)) _ | refine Below.setCell ?_ (by first | omega | (simp; done) | (simp; omega)) _ | refine Below.drew ?_))
  have hX := Blok.new w 23 #[.int .u8 (b0 : Nat), .int .u8 (b1 : Nat), .int .u8 (b2 : Nat), .int .u8 (b3 : Nat), .int .u8 (b4 : Nat), .int .u8 (b5 : Nat), .int .u8 (b6 : Nat), .int .u8 (b7 : Nat), .int .u8 (b8 : Nat), .int .u8 (b9 : Nat)]
  have hs := hB.size
  go_enter Tryd.func27, Tryd.ntmps27
  go_upto_region 1 with fail
  generalize w.alloc (.cells #[.int .u8 (b0 : Nat), .int .u8 (b1 : Nat), .int .u8 (b2 : Nat), .int .u8 (b3 : Nat), .int .u8 (b4 : Nat), .int .u8 (b5 : Nat), .int .u8 (b6 : Nat), .int .u8 (b7 : Nat), .int .u8 (b8 : Nat), .int .u8 (b9 : Nat)] 23) = w1 at *
  have x0 : w1.cell? ⟨w.heap.size, 0, none⟩ = some (.int .u8 (b0 : Nat)) := hX.cell 0
  have x1 : w1.cell? ⟨w.heap.size, 1, none⟩ = some (.int .u8 (b1 : Nat)) := hX.cell 1
  have x2 : w1.cell? ⟨w.heap.size, 2, none⟩ = some (.int .u8 (b2 : Nat)) := hX.cell 2
  have x3 : w1.cell? ⟨w.heap.size, 3, none⟩ = some (.int .u8 (b3 : Nat)) := hX.cell 3
  have x4 : w1.cell? ⟨w.heap.size, 4, none⟩ = some (.int .u8 (b4 : Nat)) := hX.cell 4
  have x5 : w1.cell? ⟨w.heap.size, 5, none⟩ = some (.int .u8 (b5 : Nat)) := hX.cell 5
  have x6 : w1.cell? ⟨w.heap.size, 6, none⟩ = some (.int .u8 (b6 : Nat)) := hX.cell 6
  have x7 : w1.cell? ⟨w.heap.size, 7, none⟩ = some (.int .u8 (b7 : Nat)) := hX.cell 7
  have x8 : w1.cell? ⟨w.heap.size, 8, none⟩ = some (.int .u8 (b8 : Nat)) := hX.cell 8
  have x9 : w1.cell? ⟨w.heap.size, 9, none⟩ = some (.int .u8 (b9 : Nat)) := hX.cell 9
  have lt_x := hX.lt
  go_wp2_with fail
  refine (sdir_any b0 b1 b2 b3 b4 b5 b6 b7 b8 b9 w1 H0.out H1.out H2.out H3.out H4.out H5.out H6.out H7.out H8.out H9.out D HD.out).mono ?_
  rintro e w2 ⟨rfl, hb⟩
  replace hX := hX.below hb hX.lt
  replace hB := hB.trans (hb.mono hs)
  replace hs := hB.size
  clear hb x0 x1 x2 x3 x4 x5 x6 x7 x8 x9 lt_x
  go_upto_region 2 with fail
  have hY := Blok.new w2 31 #[.int .i64 D.op, .int .i64 D.kd, .int .i64 D.id, .int .i64 D.fr, .int .i64 D.tn, .int .i64 D.st, .int .i64 D.en, .int .i64 D.rt, .int .i64 D.rf, .int .i64 D.rn, .int .i64 D.rs, .int .i64 D.re, .int .i64 D.ro]
  have hb : Below w2.heap.size w2 (w2.alloc (.cells #[.int .i64 D.op, .int .i64 D.kd, .int .i64 D.id, .int .i64 D.fr, .int .i64 D.tn, .int .i64 D.st, .int .i64 D.en, .int .i64 D.rt, .int .i64 D.rf, .int .i64 D.rn, .int .i64 D.rs, .int .i64 D.re, .int .i64 D.ro] 31)) := by (repeat (first | exact Below.refl _ _ | refine Below.alloc ?_ (by first | omega | (simp; done) | (simp; omega)) _ | refine Below.setCell ?_ (by first | omega | (simp; done) | (simp; omega)) _ | refine Below.drew ?_))
  replace hX := hX.below hb hX.lt
  replace hB := hB.trans (hb.mono hs)
  replace hs := hB.size
  clear hb
  generalize w2.alloc (.cells #[.int .i64 D.op, .int .i64 D.kd, .int .i64 D.id, .int .i64 D.fr, .int .i64 D.tn, .int .i64 D.st, .int .i64 D.en, .int .i64 D.rt, .int .i64 D.rf, .int .i64 D.rn, .int .i64 D.rs, .int .i64 D.re, .int .i64 D.ro] 31) = w3 at *
  generalize w2.heap.size = bD at *
  have y0 : w3.cell? ⟨bD, 0, none⟩ = some (.int .i64 D.op) := hY.cell 0
  have y1 : w3.cell? ⟨bD, 1, none⟩ = some (.int .i64 D.kd) := hY.cell 1
  have y2 : w3.cell? ⟨bD, 2, none⟩ = some (.int .i64 D.id) := hY.cell 2
  have y3 : w3.cell? ⟨bD, 3, none⟩ = some (.int .i64 D.fr) := hY.cell 3
  have y4 : w3.cell? ⟨bD, 4, none⟩ = some (.int .i64 D.tn) := hY.cell 4
  have y5 : w3.cell? ⟨bD, 5, none⟩ = some (.int .i64 D.st) := hY.cell 5
  have y6 : w3.cell? ⟨bD, 6, none⟩ = some (.int .i64 D.en) := hY.cell 6
  have y7 : w3.cell? ⟨bD, 7, none⟩ = some (.int .i64 D.rt) := hY.cell 7
  have y8 : w3.cell? ⟨bD, 8, none⟩ = some (.int .i64 D.rf) := hY.cell 8
  have y9 : w3.cell? ⟨bD, 9, none⟩ = some (.int .i64 D.rn) := hY.cell 9
  have y10 : w3.cell? ⟨bD, 10, none⟩ = some (.int .i64 D.rs) := hY.cell 10
  have y11 : w3.cell? ⟨bD, 11, none⟩ = some (.int .i64 D.re) := hY.cell 11
  have y12 : w3.cell? ⟨bD, 12, none⟩ = some (.int .i64 D.ro) := hY.cell 12
  have lt_y := hY.lt
  go_upto_region 3 with fail
  clear y0 y1 y2 y3 y4 y5 y6 y7 y8 y9 y10 y11 y12 lt_y
  have ho := own_lit w3 w.heap.size 31 13 1 #[.int .i64 D.op, .int .i64 D.kd, .int .i64 D.id, .int .i64 D.fr, .int .i64 D.tn, .int .i64 D.st, .int .i64 D.en, .int .i64 D.rt, .int .i64 D.rf, .int .i64 D.rn, .int .i64 D.rs, .int .i64 D.re, .int .i64 D.ro] hs rfl (by simp [maxLen])
  have hb : Below w3.heap.size w3 (w3.alloc (.cells #[.int .i64 D.op, .int .i64 D.kd, .int .i64 D.id, .int .i64 D.fr, .int .i64 D.tn, .int .i64 D.st, .int .i64 D.en, .int .i64 D.rt, .int .i64 D.rf, .int .i64 D.rn, .int .i64 D.rs, .int .i64 D.re, .int .i64 D.ro] 31)) := by (repeat (first | exact Below.refl _ _ | refine Below.alloc ?_ (by first | omega | (simp; done) | (simp; omega)) _ | refine Below.setCell ?_ (by first | omega | (simp; done) | (simp; omega)) _ | refine Below.drew ?_))
  replace hX := hX.below hb hX.lt
  replace hY := hY.below hb hY.lt
  replace hB := hB.trans (hb.mono hs)
  replace hs := hB.size
  clear hb
  generalize w3.alloc (.cells #[.int .i64 D.op, .int .i64 D.kd, .int .i64 D.id, .int .i64 D.fr, .int .i64 D.tn, .int .i64 D.st, .int .i64 D.en, .int .i64 D.rt, .int .i64 D.rf, .int .i64 D.rn, .int .i64 D.rs, .int .i64 D.re, .int .i64 D.ro] 31) = w4 at *
  generalize w3.heap.size = g1 at *
  have x8 : w4.cell? ⟨w.heap.size, 8, none⟩ = some (.int .u8 (b8 : Nat)) := hX.cell 8
  have lt_x := hX.lt
  cases od
  · go_wp2_with (go_at_call 37; (with_reducible refine Calls.mono (odd_any b8 _ H8.out _ EO.out) ?_); rintro e9 w9 ⟨rfl, rfl⟩)
    clear x8 lt_x
    obtain ⟨p, hp⟩ : ∃ p, printF [D] = p := ⟨_, rfl⟩
    have hpt : p.getD [120, 10] = t := by rw [← hp]; have h := HT.out; simpa using h
    have HPT := Lib.hid hpt
    clear hpt
    refine (tprint_any _ _ _ [D] rfl (by simp) (fun x hx => by simp at hx; rw [hx]; exact HWF.out) w4 (TT.out.below hB) (Sl.of_own ho) p hp).mono ?_
    rintro e w8 ⟨rfl, hb⟩
    have hB8 := hB.trans (hb.mono hs)
    clear hb hB hs hX hY ho hp
    cases p with
    | none =>
      obtain rfl : [120, 10] = t := HPT.out
      simp only [printV]
      go_wp2_with fail
      go_ret
      exact ⟨rfl, hB8⟩
    | some s =>
      obtain rfl : s = t := HPT.out
      simp only [printV]
      go_wp2_with fail
      go_ret
      exact ⟨rfl, hB8⟩
  · go_upto_region 4 with (go_at_call 37; (with_reducible refine Calls.mono (odd_any b8 _ H8.out _ EO.out) ?_); rintro e9 w9 ⟨rfl, rfl⟩)
    clear x8 lt_x
    have y0 : w4.cell? ⟨bD, 0, none⟩ = some (.int .i64 D.op) := hY.cell 0
    have y1 : w4.cell? ⟨bD, 1, none⟩ = some (.int .i64 D.kd) := hY.cell 1
    have y2 : w4.cell? ⟨bD, 2, none⟩ = some (.int .i64 D.id) := hY.cell 2
    have y3 : w4.cell? ⟨bD, 3, none⟩ = some (.int .i64 D.fr) := hY.cell 3
    have y4 : w4.cell? ⟨bD, 4, none⟩ = some (.int .i64 D.tn) := hY.cell 4
    have y5 : w4.cell? ⟨bD, 5, none⟩ = some (.int .i64 D.st) := hY.cell 5
    have y6 : w4.cell? ⟨bD, 6, none⟩ = some (.int .i64 D.en) := hY.cell 6
    have y7 : w4.cell? ⟨bD, 7, none⟩ = some (.int .i64 D.rt) := hY.cell 7
    have y8 : w4.cell? ⟨bD, 8, none⟩ = some (.int .i64 D.rf) := hY.cell 8
    have y9 : w4.cell? ⟨bD, 9, none⟩ = some (.int .i64 D.rn) := hY.cell 9
    have y10 : w4.cell? ⟨bD, 10, none⟩ = some (.int .i64 D.rs) := hY.cell 10
    have y11 : w4.cell? ⟨bD, 11, none⟩ = some (.int .i64 D.re) := hY.cell 11
    have y12 : w4.cell? ⟨bD, 12, none⟩ = some (.int .i64 D.ro) := hY.cell 12
    have lt_y := hY.lt
    go_wp2_with (at_builtin; refine wpList_append_own _ rfl _ _ 46 rfl w.heap.size 31 i0 _ 13 104 Tryd.underlying46 hi0 hz0 hz1 hz2 rfl (by decide) _ _ _ rfl (ho.alloc _) ⟨w4.heap.size, 0, none⟩ 1 1 [.int .i64 D.op, .int .i64 D.kd, .int .i64 D.id, .int .i64 D.fr, .int .i64 D.tn, .int .i64 D.st, .int .i64 D.en, .int .i64 D.rt, .int .i64 D.rf, .int .i64 D.rn, .int .i64 D.rs, .int .i64 D.re, .int .i64 D.ro] rfl rfl (by exact lit_cells w4 #[.int .i64 D.op, .int .i64 D.kd, .int .i64 D.id, .int .i64 D.fr, .int .i64 D.tn, .int .i64 D.st, .int .i64 D.en, .int .i64 D.rt, .int .i64 D.rf, .int .i64 D.rn, .int .i64 D.rs, .int .i64 D.re, .int .i64 D.ro] _ _ rfl) (by simp [Value.oneCell']) (by unfold maxLen; omega) (by omega) (by simp; omega) ?_; intro v' w5 hown' hgrow5 hnil5)
    have hB5 : Below w.heap.size w w5 := (hB.alloc hs _).grown hgrow5 (by simp; omega) (fun q hq => (ho.lt q hq).1)
    clear y0 y1 y2 y3 y4 y5 y6 y7 y8 y9 y10 y11 y12 lt_y
    clear hB hs ho
    have hB := hB5
    have hs := hB.size
    have ho : w5.ownsRow w.heap.size 31 13 v' 2 (flatDr [D, D]) := by exact hown'
    obtain ⟨A5, c5, rfl⟩ := slice_of_own ho
    clear hown' hgrow5 hnil5 hB5
    go_wp2_with fail
    obtain ⟨p, hp⟩ : ∃ p, printF [D, D] = p := ⟨_, rfl⟩
    have hpt : p.getD [120, 10] = t := by rw [← hp]; have h := HT.out; simpa using h
    have HPT := Lib.hid hpt
    clear hpt
    refine (tprint_any _ _ _ [D, D] rfl (by simp) (fun x hx => by simp at hx; rw [hx]; exact HWF.out) w5 (TT.out.below hB) (Sl.of_own ho) p hp).mono ?_
    rintro e w8 ⟨rfl, hb⟩
    have hB8 := hB.trans (hb.mono hs)
    clear hb hB hs ho hp
    cases p with
    | none =>
      obtain rfl : [120, 10] = t := HPT.out
      simp only [printV]
      go_wp2_with fail
      go_ret
      exact ⟨rfl, hB8⟩
    | some s =>
      obtain rfl : s = t := HPT.out
      simp only [printV]
      go_wp2_with fail
      go_ret
      exact ⟨rfl, hB8⟩
end Go.Proofs.YtggdomeeienjbaaDoor
