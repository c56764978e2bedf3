
/- Contract of text.Print: a line for each right directive. It makes new memory alone. -/
import Derived.Test.YtggdomeeienjbaaDoorTx3
import Derived.Test.YtggdomeeienjbaaDoorDWords3
import Derived.Test.YtggdomeeienjbaaDoorTxB
namespace Go.Proofs.YtggdomeeienjbaaDoor
open Go.ChangeShapes Go.WideShapes Go.ChangeAt Go.RowKit Go.Sort
set_option linter.unusedSimpArgs false
set_option linter.unusedVariables false
theorem builder_below {T e : TypeId} {B b : Nat} {bs : List Value} {w w' : World} (h : Lib.IsBuilder T e B b bs w) (hb : Below w.heap.size w w') : Lib.IsBuilder T e B b bs w' := by
  rcases h with h | h
  · obtain ⟨h1, v, h2, h3, h4⟩ := h
    exact .inl ⟨h1, v, by rw [hb.block b (Lib.BuilderAt.lt ⟨h1, v, h2, h3, h4⟩)]; exact h2, own_below h3 hb, h4⟩
  · obtain ⟨h1, v, h2, h3, h4⟩ := h
    exact .inr ⟨h1, v, by rw [hb.block b (Lib.BuilderAt.lt ⟨h1, v, h2, h3, h4⟩)]; exact h2, own_below h3 hb, h4⟩
def printV : Option Bytes → Value
  | some s => .tuple #[.string (bs s), .bool true]
  | none => .tuple #[.string (bs []), .bool false]
theorem strCells_bs (s : Bytes) : Lib.strCells (bs s) = Lib.byteCells s := by unfold Lib.strCells; rw [bs_list]; rfl
theorem lnD_len {d : Dr} (h : rightD d = true) : (lineL (wordsD d)).length ≤ 200 := by
  have h1 := jn_len (B := 21) (wordsD d) (words_small h)
  rw [words_len_eq] at h1
  have h2 := nums_le d
  rw [lineL_eq, List.length_append]
  have h3 : (2 + (numsD d).length) * (21 + 1) ≤ 8 * 22 := Nat.mul_le_mul (by omega) (by omega)
  simp
  omega
set_option maxHeartbeats 8000000 in
set_option maxRecDepth 100000 in
theorem tprint_any (A : Option Addr) (n c : Nat) (ds : List Dr) (hd : ds.length = n) (hn : n ≤ 10000) (hwf : ∀ x ∈ ds, (Lit.int .i64 x.op).wf = true ∧ (Lit.int .i64 x.kd).wf = true) (w : World) (ht : TenTab w) (h : Sl w w.heap.size 13 A n c (flatDr ds)) (r : Option Bytes) (hr : printF ds = r) :
    Calls Tryd.prog 15 #[.slice A n c] w fun e w' => e = .returned (printV r) ∧ Below w.heap.size w w' := by
  have HD := Lib.hid hd
  have HR := Lib.hid hr
  have HWF := Lib.hid hwf
  have HL := Lib.hid h
  have HT := Lib.hid ht
  clear hd hr hwf h ht
  go_enter Tryd.func15, Tryd.ntmps15
  go_wp2_with fail
  have hb0 := Lib.fresh_isBuilder 55 5 w
  have hB0 : Below w.heap.size w (w.alloc (.cells #[.pointer none, .slice none 0 0] 55)) := by (repeat (first | exact Below.refl _ _ | refine Below.alloc ?_ (by first | omega | (simp; done) | (simp; omega)) _ | refine Below.setCell ?_ (by first | omega | (simp; done) | (simp; omega)) _ | refine Below.drew ?_))
  go_loopw [11] (fun iv wr => ∃ (i : Nat) (s : Bytes), iv = .int .i64 i ∧ i ≤ n ∧ Hid (printF ds = (printF (ds.drop i)).map (s ++ ·)) ∧ s.length ≤ i * 200 ∧ Lib.IsBuilder 55 5 w.heap.size w.heap.size (Lib.byteCells s) wr ∧ Below w.heap.size w wr) (fun iv _ => n - (intOf iv).toNat)
  case atStart => exact ⟨0, [], rfl, by omega, by simp [Hid], by simp, hb0, hB0⟩
  case round =>
    clear hb0 hB0
    obtain ⟨i, s, rfl, hi, HF, hsl, hbd, hB⟩ := hrel
    have hsz := hB.size
    by_cases hin : i < n
    · have hil : i < ds.length := by rw [HD.out]; exact hin
      obtain ⟨ad, rfl, hab, c_0, c_1, c_2, c_3, c_4, c_5, c_6, c_7, c_8, c_9, c_10, c_11, c_12⟩ := (HL.out.below hB).lst.atDr HD.out hin
      have hw1 := HWF.out _ (gDr_mem hil)
      have HIL := Lib.hid hil
      clear hil
      obtain ⟨x, hx⟩ : ∃ x, gDr ds i = x := ⟨_, rfl⟩
      rw [hx] at c_0 c_1 c_2 c_3 c_4 c_5 c_6 c_7 c_8 c_9 c_10 c_11 c_12 hw1
      obtain ⟨w1, w2⟩ := hw1
      have HX := Lib.hid hx
      clear hx
      have hX := Blok.new wr 31 #[.int .i64 x.op, .int .i64 x.kd, .int .i64 x.id, .int .i64 x.fr, .int .i64 x.tn, .int .i64 x.st, .int .i64 x.en, .int .i64 x.rt, .int .i64 x.rf, .int .i64 x.rn, .int .i64 x.rs, .int .i64 x.re, .int .i64 x.ro]
      have hb : Below wr.heap.size wr (wr.alloc (.cells #[.int .i64 x.op, .int .i64 x.kd, .int .i64 x.id, .int .i64 x.fr, .int .i64 x.tn, .int .i64 x.st, .int .i64 x.en, .int .i64 x.rt, .int .i64 x.rf, .int .i64 x.rn, .int .i64 x.rs, .int .i64 x.re, .int .i64 x.ro] 31)) := by (repeat (first | exact Below.refl _ _ | refine Below.alloc ?_ (by first | omega | (simp; done) | (simp; omega)) _ | refine Below.setCell ?_ (by first | omega | (simp; done) | (simp; omega)) _ | refine Below.drew ?_))
      replace hbd := builder_below hbd hb
      replace hB := hB.trans (hb.mono hsz)
      replace hsz := hB.size
      clear hb
      go_upto_region 5 with fail
      clear c_0 c_1 c_2 c_3 c_4 c_5 c_6 c_7 c_8 c_9 c_10 c_11 c_12
      generalize wr.alloc (.cells #[.int .i64 x.op, .int .i64 x.kd, .int .i64 x.id, .int .i64 x.fr, .int .i64 x.tn, .int .i64 x.st, .int .i64 x.en, .int .i64 x.rt, .int .i64 x.rf, .int .i64 x.rn, .int .i64 x.rs, .int .i64 x.re, .int .i64 x.ro] 31) = x0 at *
      generalize hbx : wr.heap.size = bx at *
      clear hbx
      have y0 : x0.cell? ⟨bx, 0, none⟩ = some (.int .i64 x.op) := hX.cell 0
      have y1 : x0.cell? ⟨bx, 1, none⟩ = some (.int .i64 x.kd) := hX.cell 1
      have y2 : x0.cell? ⟨bx, 2, none⟩ = some (.int .i64 x.id) := hX.cell 2
      have y3 : x0.cell? ⟨bx, 3, none⟩ = some (.int .i64 x.fr) := hX.cell 3
      have y4 : x0.cell? ⟨bx, 4, none⟩ = some (.int .i64 x.tn) := hX.cell 4
      have y5 : x0.cell? ⟨bx, 5, none⟩ = some (.int .i64 x.st) := hX.cell 5
      have y6 : x0.cell? ⟨bx, 6, none⟩ = some (.int .i64 x.en) := hX.cell 6
      have y7 : x0.cell? ⟨bx, 7, none⟩ = some (.int .i64 x.rt) := hX.cell 7
      have y8 : x0.cell? ⟨bx, 8, none⟩ = some (.int .i64 x.rf) := hX.cell 8
      have y9 : x0.cell? ⟨bx, 9, none⟩ = some (.int .i64 x.rn) := hX.cell 9
      have y10 : x0.cell? ⟨bx, 10, none⟩ = some (.int .i64 x.rs) := hX.cell 10
      have y11 : x0.cell? ⟨bx, 11, none⟩ = some (.int .i64 x.re) := hX.cell 11
      have y12 : x0.cell? ⟨bx, 12, none⟩ = some (.int .i64 x.ro) := hX.cell 12
      have lt_y := hX.lt
      go_wp2_with fail
      clear y0 y1 y2 y3 y4 y5 y6 y7 y8 y9 y10 y11 y12 lt_y hX
      cases hrx : rightD x
      · have HRX := Lib.hid hrx
        clear hrx
        refine (dwords_no x x0 w1 w2 HRX.out).mono ?_
        rintro e x1 ⟨rfl, hb⟩
        replace hB := hB.trans (hb.mono hsz)
        clear hb hbd
        have hf : printF ds = none := by rw [HF.out, print_no HIL.out (by rw [HX.out]; exact HRX.out)]; rfl
        rw [HR.out] at hf
        subst hf
        go_wp2_with fail
        go_ret2
        exact ⟨rfl, hB⟩
      · have HRX := Lib.hid hrx
        clear hrx
        refine (dwords_yes x x0 w1 w2 HRX.out (HT.out.below hB)).mono ?_
        rintro e x1 ⟨v, rfl, hv, hb⟩
        replace hbd := builder_below hbd hb
        replace hB := hB.trans (hb.mono hsz)
        replace hsz := hB.size
        obtain ⟨k, hk⟩ : ∃ k, 2 + (numsD x).length = k := ⟨_, rfl⟩
        rw [hk] at hv
        have hkb : k ≤ 10 := by have := nums_le x; omega
        have HK := Lib.hid (show (wordsD x).length = k by rw [words_len_eq]; exact hk)
        clear hk hb
        obtain ⟨A1, c1, rfl⟩ := slice_of_own hv
        have h1 := Sl.of_own hv
        clear hv
        go_wp2_with fail
        refine (line_any A1 k c1 (wordsD x) x1 HK.out (by omega) (fun y hy => Nat.le_trans (words_small HRX.out y hy) (by omega)) h1).mono ?_
        rintro e x2 ⟨rfl, hb⟩
        replace hbd := builder_below hbd hb
        replace hB := hB.trans (hb.mono hsz)
        replace hsz := hB.size
        clear hb h1
        have hll := lnD_len HRX.out
        obtain ⟨y, hy⟩ : ∃ y, lineL (wordsD x) = y := ⟨_, rfl⟩
        rw [hy] at hll
        have hn2 : printF ds = (printF (ds.drop (i + 1))).map ((s ++ y) ++ ·) := by
          rw [HF.out, print_ok HIL.out (by rw [HX.out]; exact HRX.out), HX.out, hy, Option.map_map]
          congr 1
          funext t
          simp
        have HN2 := Lib.hid hn2
        rw [hy]
        clear hy hn2
        go_wp2_with fail
        have hlen : (Lib.byteCells s).length + (bs y).size ≤ 140737488355328 := by rw [bs_size]; unfold Lib.byteCells; rw [List.length_map]; have : i * 200 ≤ 10000 * 200 := Nat.mul_le_mul (by omega) (by omega); omega
        refine (writeS_any w.heap.size w.heap.size (Lib.byteCells s) (bs y) x2 hbd hlen hsz).mono ?_
        rintro e x3 ⟨rfl, hbd2, hb⟩
        replace hB := hB.trans hb
        have hbd3 : Lib.IsBuilder 55 5 w.heap.size w.heap.size (Lib.byteCells (s ++ y)) x3 := .inr (by rw [strCells_bs] at hbd2; have h := hbd2; unfold Lib.byteCells at h ⊢; rw [List.map_append]; exact h)
        clear hbd2 hb hbd hlen
        go_wp2_with fail
        go_roundw
        case rel => exact ⟨i + 1, s ++ y, by go_num, by omega, HN2, by rw [List.length_append]; omega, hbd3, hB⟩
        case measure => simp [intOf]; omega
    · obtain rfl : n = i := by omega
      have hf : printF ds = some s := by rw [HF.out, List.drop_eq_nil_of_le (by rw [HD.out]; omega)]; simp [printF]
      rw [HR.out] at hf
      subst hf
      go_wp2_with fail
      refine (Tryd.Builder_String_any w.heap.size w.heap.size s wr hbd hsz).mono ?_
      rintro e x3 ⟨rfl, hb⟩
      replace hB := hB.trans hb
      clear hbd
      go_wp2_with fail
      go_ret2
      exact ⟨rfl, hB⟩
end Go.Proofs.YtggdomeeienjbaaDoor
