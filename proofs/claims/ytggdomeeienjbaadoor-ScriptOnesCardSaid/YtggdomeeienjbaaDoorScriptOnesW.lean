/- Each ten bytes make one act by themselves, and Directive is what is loaded, or edited, of them: ScriptOnes returns true. No condition. -/
import Derived.Test.YtggdomeeienjbaaDoorW2
import Derived.Test.YtggdomeeienjbaaDoorRows
import Derived.Test.YtggdomeeienjbaaDoorTxMath
namespace Go.Proofs.YtggdomeeienjbaaDoor
open Go.ChangeShapes Go.WideShapes Go.ChangeAt Go.RowKit Go.Sort
set_option linter.unusedSimpArgs false
set_option linter.unusedVariables false
theorem ten_ones {W : World} (h : laidMetH Tryd.prog Rows.scriptOnesRow.laid W) : TenTab W := by
  have h1 := laidMetH.filter (fun x => x.1 == "internal/strconv.uint64pow10") h
  rw [MakeChecks.laidMetH_plain _ _ _ (by kernel_rfl)] at h1
  have h2 : laidMet Tryd.prog [("internal/strconv.uint64pow10", Lib.tabData .u64 Lib.pow10Tab)] W := h1
  exact Lib.tabIs_of_head (g := 1) (t := 105) (e := 98) (n := 20) (by kernel_rfl) (by kernel_rfl) Tryd.underlying105 Tryd.underlying98 (by kernel_rfl) (by kernel_rfl) h2
theorem ten_sl {w : World} {g : Nat} {T : TypeId} {b0 b1 b2 b3 b4 b5 b6 b7 b8 b9 : Nat} (h : Blok w g T #[.int .u8 (b0 : Nat), .int .u8 (b1 : Nat), .int .u8 (b2 : Nat), .int .u8 (b3 : Nat), .int .u8 (b4 : Nat), .int .u8 (b5 : Nat), .int .u8 (b6 : Nat), .int .u8 (b7 : Nat), .int .u8 (b8 : Nat), .int .u8 (b9 : Nat)]) : Sl w w.heap.size 1 (some ⟨g, 0, none⟩) 10 10 (cB [b0, b1, b2, b3, b4, b5, b6, b7, b8, b9]) := by
  refine ⟨⟨rfl, fun _ => ⟨_, rfl, h.lt, fun j u hu => ?_⟩⟩, Nat.le_refl _, by simp [maxLen], fun e => by cases e⟩
  have hj : j < 10 := by
    have := (List.getElem?_eq_some_iff.1 hu).1
    simpa [cB] using this
  obtain rfl | rfl | rfl | rfl | rfl | rfl | rfl | rfl | rfl | rfl : j = 0 ∨ j = 1 ∨ j = 2 ∨ j = 3 ∨ j = 4 ∨ j = 5 ∨ j = 6 ∨ j = 7 ∨ j = 8 ∨ j = 9 := by omega
  all_goals
    simp [cB] at hu
    subst hu
    exact h.cell _
theorem printF_one {D : Dr} (t : Bytes) (h : printF [D] = some t) : printF [D, D] = some (t ++ t) ∧ t ≠ [] ∧ t.length ≤ 200 := by
  have hr : rightD D = true := by
    unfold printF at h
    split at h
    · assumption
    · cases h
  have ht : t = lineL (wordsD D) := by
    simp [printF, hr] at h
    exact h.symm
  subst ht
  refine ⟨by simp [printF, hr], ?_, lnD_len hr⟩
  unfold lineL
  simp
theorem printF_none {D : Dr} (h : printF [D] = none) : printF [D, D] = none := by
  have hr : rightD D ≠ true := by
    intro hr
    simp [printF, hr] at h
  simp [printF, hr]
set_option maxHeartbeats 4000000 in
theorem acts_n (n : Nat) (l : List Nat) (hl : l.length = n) (h1 : n / 10 = 1) (h2 : n % 10 = 0) (hby : ∀ m ∈ l, m < 256) (A : Option Addr) (w : World) (ht : TenTab w) (P : Pa) (hP : actsF l = [P]) (h : Sl w w.heap.size 1 A n n (cB l)) :
    Calls Tryd.prog 7 #[.slice A n n] w fun e w' => ∃ v x, e = .returned (.tuple #[v, .int .i64 0]) ∧ ActsI w w' [P] v 1 [x] ∧ x.p = P ∧ Below w.heap.size w w' := by
  refine Calls.mono (sacts_any A n n l hl (by omega) hby w ht h) ?_
  rintro e w' ⟨v, L, h1', h2', h3⟩
  have hl1 := h2'.len
  obtain ⟨x, rfl⟩ : ∃ x, L = [x] := List.length_eq_one_iff.1 (by rw [hl1, h1])
  refine ⟨v, x, by rw [h1', h2]; rfl, ?_, ?_, h3⟩
  · rw [hP, h1] at h2'; exact h2'
  · have h5 := h2'.rows; rw [hP] at h5; simpa using h5
theorem acts_ten {b0 b1 b2 b3 b4 b5 b6 b7 b8 b9 : Nat} (hby : ∀ m ∈ [b0, b1, b2, b3, b4, b5, b6, b7, b8, b9], m < 256) (g : Nat) (w : World) (ht : TenTab w) (P : Pa) (hP : actsF [b0, b1, b2, b3, b4, b5, b6, b7, b8, b9] = [P]) (h : Sl w w.heap.size 1 (some ⟨g, 0, none⟩) 10 10 (cB [b0, b1, b2, b3, b4, b5, b6, b7, b8, b9])) :
    Calls Tryd.prog 7 #[.slice (some ⟨g, 0, none⟩) 10 10] w fun e w' => ∃ v x, e = .returned (.tuple #[v, .int .i64 0]) ∧ ActsI w w' [P] v 1 [x] ∧ x.p = P ∧ Below w.heap.size w w' :=
  acts_n 10 _ rfl (by decide) (by decide) hby _ w ht P hP h
theorem beq_self_l (l : List UInt8) : (l == l) = true := by simp

set_option maxHeartbeats 16000000 in
set_option maxRecDepth 100000 in
theorem scriptOnes_walk (b0 b1 b2 b3 b4 b5 b6 b7 b8 b9 : Nat) (hby : ∀ m ∈ [b0, b1, b2, b3, b4, b5, b6, b7, b8, b9], m < 256) (w : World) (ht : TenTab w) :
    Calls Tryd.prog 5 #[.agg #[.int .u8 (b0 : Nat), .int .u8 (b1 : Nat), .int .u8 (b2 : Nat), .int .u8 (b3 : Nat), .int .u8 (b4 : Nat), .int .u8 (b5 : Nat), .int .u8 (b6 : Nat), .int .u8 (b7 : Nat), .int .u8 (b8 : Nat), .int .u8 (b9 : Nat)]] w fun e w' => e = .returned (.bool true) ∧ Below w.heap.size w w' := by
  have h0 : b0 < 256 := hby _ (by simp)
  have h1 : b1 < 256 := hby _ (by simp)
  have h2 : b2 < 256 := hby _ (by simp)
  have h3 : b3 < 256 := hby _ (by simp)
  have h4 : b4 < 256 := hby _ (by simp)
  have h5 : b5 < 256 := hby _ (by simp)
  have h6 : b6 < 256 := hby _ (by simp)
  have h7 : b7 < 256 := hby _ (by simp)
  have h8 : b8 < 256 := hby _ (by simp)
  have h9 : b9 < 256 := hby _ (by simp)
  obtain ⟨D, hD⟩ : ∃ D, dirF b1 b2 b3 b4 b5 b6 b7 = D := ⟨_, rfl⟩
  obtain ⟨P, hP⟩ : ∃ P, actF b0 b1 b2 b3 b4 b5 b6 b7 b8 = P := ⟨_, rfl⟩
  have hwf : (Lit.int .i64 D.op).wf = true ∧ (Lit.int .i64 D.kd).wf = true := by
    rw [← hD]; unfold dirF; split
    · exact ⟨rfl, rfl⟩
    · split
      · exact ⟨rfl, rfl⟩
      · split
        · exact ⟨rfl, rfl⟩
        · split <;> exact ⟨rfl, rfl⟩
  have hpl : actsF [b0, b1, b2, b3, b4, b5, b6, b7, b8, b9] = [P] := by
    rw [actsF_next (by simp), actsF_nil (by simp), ← hP]
    rfl
  have HPL := Lib.hid hpl
  have HWF := Lib.hid hwf
  have HD := Lib.hid hD
  have HP := Lib.hid hP
  have HBY := Lib.hid hby
  have TT := Lib.hid ht
  clear hpl hwf hD hP hby ht
  have H0 := Lib.hid h0
  have H1 := Lib.hid h1
  have H2 := Lib.hid h2
  have H3 := Lib.hid h3
  have H4 := Lib.hid h4
  have H5 := Lib.hid h5
  have H6 := Lib.hid h6
  have H7 := Lib.hid h7
  have H8 := Lib.hid h8
  have H9 := Lib.hid h9
  clear h0 h1 h2 h3 h4 h5 h6 h7 h8 h9
  have hB : Below w.heap.size w (w.alloc (.cells #[.int .u8 (b0 : Nat), .int .u8 (b1 : Nat), .int .u8 (b2 : Nat), .int .u8 (b3 : Nat), .int .u8 (b4 : Nat), .int .u8 (b5 : Nat), .int .u8 (b6 : Nat), .int .u8 (b7 : Nat), .int .u8 (b8 : Nat), .int .u8 (b9 : Nat)] 23)) := by (repeat (first | exact Below.refl _ _ | refine Below.alloc ?_ (by first | omega | (simp; done) | (simp; omega)) _ | refine Below.setCell ?_ (by first | omega | (simp; done) | (simp; omega)) _ | refine Below.drew ?_))
  have hX := Blok.new w 23 #[.int .u8 (b0 : Nat), .int .u8 (b1 : Nat), .int .u8 (b2 : Nat), .int .u8 (b3 : Nat), .int .u8 (b4 : Nat), .int .u8 (b5 : Nat), .int .u8 (b6 : Nat), .int .u8 (b7 : Nat), .int .u8 (b8 : Nat), .int .u8 (b9 : Nat)]
  have hs := hB.size
  go_enter Tryd.func5, Tryd.ntmps5
  go_upto_region 1 with fail
  generalize w.alloc (.cells #[.int .u8 (b0 : Nat), .int .u8 (b1 : Nat), .int .u8 (b2 : Nat), .int .u8 (b3 : Nat), .int .u8 (b4 : Nat), .int .u8 (b5 : Nat), .int .u8 (b6 : Nat), .int .u8 (b7 : Nat), .int .u8 (b8 : Nat), .int .u8 (b9 : Nat)] 23) = w1 at *
  go_wp2_with fail
  refine (small25_any w1 (TT.out.below hB)).mono ?_
  rintro e w2 ⟨rfl, hb⟩
  replace hX := hX.below hb hX.lt
  replace hB := hB.trans (hb.mono hs)
  replace hs := hB.size
  clear hb
  go_wp2_with fail
  refine (acts_ten HBY.out w.heap.size w2 (TT.out.below hB) P HPL.out (ten_sl hX)).mono ?_
  rintro e w3 ⟨v, x, rfl, hI, hxp, hb⟩
  replace hX := hX.below hb hX.lt
  replace hB := hB.trans (hb.mono hs)
  replace hs := hB.size
  clear hb
  have hown := hI.own
  obtain ⟨p9, A5, k5, c5⟩ := x
  have e9 : p9 = P := hxp
  subst e9
  rw [show flatAx [(⟨p9, A5, k5, c5⟩ : Ax)] = (⟨p9, A5, k5, c5⟩ : Ax).cs from by simp [flatAx]] at hown
  rcases hown.2 with ⟨_, h0⟩ | ⟨gA, cA, cur, rfl, hgb, hgh, _⟩
  · exact absurd h0 (by decide)
  have hcell : ∀ j u, (⟨p9, A5, k5, c5⟩ : Ax).cs[j]? = some u → w3.cell? ((⟨gA, 0, none⟩ : Addr).add j) = some u := fun j u hu => hown.cells (g := gA) rfl j u hu
  have hgl : gA < w3.heap.size := (hown.lt gA rfl).2
  clear hown hI hgh hgb
  have x0 : w3.cell? ⟨w.heap.size, 0, none⟩ = some (.int .u8 (b0 : Nat)) := hX.cell 0
  have x1 : w3.cell? ⟨w.heap.size, 1, none⟩ = some (.int .u8 (b1 : Nat)) := hX.cell 1
  have x2 : w3.cell? ⟨w.heap.size, 2, none⟩ = some (.int .u8 (b2 : Nat)) := hX.cell 2
  have x3 : w3.cell? ⟨w.heap.size, 3, none⟩ = some (.int .u8 (b3 : Nat)) := hX.cell 3
  have x4 : w3.cell? ⟨w.heap.size, 4, none⟩ = some (.int .u8 (b4 : Nat)) := hX.cell 4
  have x5 : w3.cell? ⟨w.heap.size, 5, none⟩ = some (.int .u8 (b5 : Nat)) := hX.cell 5
  have x6 : w3.cell? ⟨w.heap.size, 6, none⟩ = some (.int .u8 (b6 : Nat)) := hX.cell 6
  have x7 : w3.cell? ⟨w.heap.size, 7, none⟩ = some (.int .u8 (b7 : Nat)) := hX.cell 7
  have x8 : w3.cell? ⟨w.heap.size, 8, none⟩ = some (.int .u8 (b8 : Nat)) := hX.cell 8
  have x9 : w3.cell? ⟨w.heap.size, 9, none⟩ = some (.int .u8 (b9 : Nat)) := hX.cell 9
  have lt_x := hX.lt
  go_wp2_with fail
  refine (sdir_any b0 b1 b2 b3 b4 b5 b6 b7 b8 b9 w3 H0.out H1.out H2.out H3.out H4.out H5.out H6.out H7.out H8.out H9.out D HD.out).mono ?_
  rintro e w4 ⟨rfl, hb⟩
  replace hX := hX.below hb hX.lt
  replace hcell : ∀ j u, (⟨p9, A5, k5, c5⟩ : Ax).cs[j]? = some u → w4.cell? ((⟨gA, 0, none⟩ : Addr).add j) = some u := fun j u hu => (hb.cell (by rw [add_block]; exact hgl)).trans (hcell j u hu)
  replace hgl := Nat.lt_of_lt_of_le hgl hb.size
  replace hB := hB.trans (hb.mono hs)
  replace hs := hB.size
  clear hb
  clear x0 x1 x2 x3 x4 x5 x6 x7 x8 x9 lt_x
  go_upto_region 6 with fail
  have hY := Blok.new w4 31 #[.int .i64 D.op, .int .i64 D.kd, .int .i64 D.id, .int .i64 D.fr, .int .i64 D.tn, .int .i64 D.st, .int .i64 D.en, .int .i64 D.rt, .int .i64 D.rf, .int .i64 D.rn, .int .i64 D.rs, .int .i64 D.re, .int .i64 D.ro]
  have hb : Below w4.heap.size w4 (w4.alloc (.cells #[.int .i64 D.op, .int .i64 D.kd, .int .i64 D.id, .int .i64 D.fr, .int .i64 D.tn, .int .i64 D.st, .int .i64 D.en, .int .i64 D.rt, .int .i64 D.rf, .int .i64 D.rn, .int .i64 D.rs, .int .i64 D.re, .int .i64 D.ro] 31)) := by (repeat (first | exact Below.refl _ _ | refine Below.alloc ?_ (by first | omega | (simp; done) | (simp; omega)) _ | refine Below.setCell ?_ (by first | omega | (simp; done) | (simp; omega)) _ | refine Below.drew ?_))
  replace hX := hX.below hb hX.lt
  replace hcell : ∀ j u, (⟨p9, A5, k5, c5⟩ : Ax).cs[j]? = some u → (w4.alloc (.cells #[.int .i64 D.op, .int .i64 D.kd, .int .i64 D.id, .int .i64 D.fr, .int .i64 D.tn, .int .i64 D.st, .int .i64 D.en, .int .i64 D.rt, .int .i64 D.rf, .int .i64 D.rn, .int .i64 D.rs, .int .i64 D.re, .int .i64 D.ro] 31)).cell? ((⟨gA, 0, none⟩ : Addr).add j) = some u := fun j u hu => (hb.cell (by rw [add_block]; exact hgl)).trans (hcell j u hu)
  replace hgl := Nat.lt_of_lt_of_le hgl hb.size
  replace hB := hB.trans (hb.mono hs)
  replace hs := hB.size
  clear hb
  generalize w4.alloc (.cells #[.int .i64 D.op, .int .i64 D.kd, .int .i64 D.id, .int .i64 D.fr, .int .i64 D.tn, .int .i64 D.st, .int .i64 D.en, .int .i64 D.rt, .int .i64 D.rf, .int .i64 D.rn, .int .i64 D.rs, .int .i64 D.re, .int .i64 D.ro] 31) = w5 at *
  generalize w4.heap.size = bD at *
  go_upto_region 7 with (first | (first | (refine wpList_load_addr (by rfl) 36 (.tmp 26) (by rfl) ⟨gA, 0, none⟩ (by rfl) (⟨p9, A5, k5, c5⟩ : Ax).cs _ hcell Tryd.underlying36 rfl (by kernel_rfl) ?_) | (refine wpList_load_addr (by rfl) 36 (.tmp 26) (by rfl) ((⟨gA, 0, none⟩ : Addr).add 0) (by rfl) (⟨p9, A5, k5, c5⟩ : Ax).cs _ (by rw [add_zero_]; exact hcell) Tryd.underlying36 rfl (by kernel_rfl) ?_)) | (refine wpList_store_row (by rfl) 36 (.tmp 7) (.tmp 27) (by rfl) w5.heap.size #[.int .i64 p9.dk, .string (bs p9.tx), .int .i64 p9.D.op, .int .i64 p9.D.kd, .int .i64 p9.D.id, .int .i64 p9.D.fr, .int .i64 p9.D.tn, .int .i64 p9.D.st, .int .i64 p9.D.en, .int .i64 p9.D.rt, .int .i64 p9.D.rf, .int .i64 p9.D.rn, .int .i64 p9.D.rs, .int .i64 p9.D.re, .int .i64 p9.D.ro, .int .i64 p9.n, .slice A5 k5 c5, .int .i64 p9.cl, .int .i64 p9.sz, .int .i64 p9.bf, .int .i64 p9.bt, .int .i64 p9.bs_, .int .i64 p9.bc, .int .i64 p9.bd] (by rfl) (by rfl) 36 #[.int .i64 0, .string ⟨#[]⟩, .int .i64 0, .int .i64 0, .int .i64 0, .int .i64 0, .int .i64 0, .int .i64 0, .int .i64 0, .int .i64 0, .int .i64 0, .int .i64 0, .int .i64 0, .int .i64 0, .int .i64 0, .int .i64 0, .slice none 0 0, .int .i64 0, .int .i64 0, .int .i64 0, .int .i64 0, .int .i64 0, .int .i64 0, .int .i64 0] (heap_alloc_new _ _) (by kernel_rfl) rfl (by simp [Value.oneCell']) ?_; rw [World.setRow_alloc_new]))
  clear hcell hgl
  have hA := Blok.new w5 36 #[.int .i64 p9.dk, .string (bs p9.tx), .int .i64 p9.D.op, .int .i64 p9.D.kd, .int .i64 p9.D.id, .int .i64 p9.D.fr, .int .i64 p9.D.tn, .int .i64 p9.D.st, .int .i64 p9.D.en, .int .i64 p9.D.rt, .int .i64 p9.D.rf, .int .i64 p9.D.rn, .int .i64 p9.D.rs, .int .i64 p9.D.re, .int .i64 p9.D.ro, .int .i64 p9.n, .slice A5 k5 c5, .int .i64 p9.cl, .int .i64 p9.sz, .int .i64 p9.bf, .int .i64 p9.bt, .int .i64 p9.bs_, .int .i64 p9.bc, .int .i64 p9.bd]
  have hb : Below w5.heap.size w5 (w5.alloc (.cells #[.int .i64 p9.dk, .string (bs p9.tx), .int .i64 p9.D.op, .int .i64 p9.D.kd, .int .i64 p9.D.id, .int .i64 p9.D.fr, .int .i64 p9.D.tn, .int .i64 p9.D.st, .int .i64 p9.D.en, .int .i64 p9.D.rt, .int .i64 p9.D.rf, .int .i64 p9.D.rn, .int .i64 p9.D.rs, .int .i64 p9.D.re, .int .i64 p9.D.ro, .int .i64 p9.n, .slice A5 k5 c5, .int .i64 p9.cl, .int .i64 p9.sz, .int .i64 p9.bf, .int .i64 p9.bt, .int .i64 p9.bs_, .int .i64 p9.bc, .int .i64 p9.bd] 36)) := by (repeat (first | exact Below.refl _ _ | refine Below.alloc ?_ (by first | omega | (simp; done) | (simp; omega)) _ | refine Below.setCell ?_ (by first | omega | (simp; done) | (simp; omega)) _ | refine Below.drew ?_))
  replace hX := hX.below hb hX.lt
  replace hY := hY.below hb hY.lt
  replace hB := hB.trans (hb.mono hs)
  replace hs := hB.size
  clear hb
  generalize w5.alloc (.cells #[.int .i64 p9.dk, .string (bs p9.tx), .int .i64 p9.D.op, .int .i64 p9.D.kd, .int .i64 p9.D.id, .int .i64 p9.D.fr, .int .i64 p9.D.tn, .int .i64 p9.D.st, .int .i64 p9.D.en, .int .i64 p9.D.rt, .int .i64 p9.D.rf, .int .i64 p9.D.rn, .int .i64 p9.D.rs, .int .i64 p9.D.re, .int .i64 p9.D.ro, .int .i64 p9.n, .slice A5 k5 c5, .int .i64 p9.cl, .int .i64 p9.sz, .int .i64 p9.bf, .int .i64 p9.bt, .int .i64 p9.bs_, .int .i64 p9.bc, .int .i64 p9.bd] 36) = w6 at *
  generalize w5.heap.size = bA at *
  have y0 : w6.cell? ⟨bD, 0, none⟩ = some (.int .i64 D.op) := hY.cell 0
  have y1 : w6.cell? ⟨bD, 1, none⟩ = some (.int .i64 D.kd) := hY.cell 1
  have y2 : w6.cell? ⟨bD, 2, none⟩ = some (.int .i64 D.id) := hY.cell 2
  have y3 : w6.cell? ⟨bD, 3, none⟩ = some (.int .i64 D.fr) := hY.cell 3
  have y4 : w6.cell? ⟨bD, 4, none⟩ = some (.int .i64 D.tn) := hY.cell 4
  have y5 : w6.cell? ⟨bD, 5, none⟩ = some (.int .i64 D.st) := hY.cell 5
  have y6 : w6.cell? ⟨bD, 6, none⟩ = some (.int .i64 D.en) := hY.cell 6
  have y7 : w6.cell? ⟨bD, 7, none⟩ = some (.int .i64 D.rt) := hY.cell 7
  have y8 : w6.cell? ⟨bD, 8, none⟩ = some (.int .i64 D.rf) := hY.cell 8
  have y9 : w6.cell? ⟨bD, 9, none⟩ = some (.int .i64 D.rn) := hY.cell 9
  have y10 : w6.cell? ⟨bD, 10, none⟩ = some (.int .i64 D.rs) := hY.cell 10
  have y11 : w6.cell? ⟨bD, 11, none⟩ = some (.int .i64 D.re) := hY.cell 11
  have y12 : w6.cell? ⟨bD, 12, none⟩ = some (.int .i64 D.ro) := hY.cell 12
  have lt_y := hY.lt
  go_wp2_with fail
  clear y0 y1 y2 y3 y4 y5 y6 y7 y8 y9 y10 y11 y12 lt_y
  have ho := own_lit w6 w.heap.size 31 13 1 #[.int .i64 D.op, .int .i64 D.kd, .int .i64 D.id, .int .i64 D.fr, .int .i64 D.tn, .int .i64 D.st, .int .i64 D.en, .int .i64 D.rt, .int .i64 D.rf, .int .i64 D.rn, .int .i64 D.rs, .int .i64 D.re, .int .i64 D.ro] (by have := hX.lt; omega) rfl (by simp [maxLen])
  have hb : Below w6.heap.size w6 (w6.alloc (.cells #[.int .i64 D.op, .int .i64 D.kd, .int .i64 D.id, .int .i64 D.fr, .int .i64 D.tn, .int .i64 D.st, .int .i64 D.en, .int .i64 D.rt, .int .i64 D.rf, .int .i64 D.rn, .int .i64 D.rs, .int .i64 D.re, .int .i64 D.ro] 31)) := by (repeat (first | exact Below.refl _ _ | refine Below.alloc ?_ (by first | omega | (simp; done) | (simp; omega)) _ | refine Below.setCell ?_ (by first | omega | (simp; done) | (simp; omega)) _ | refine Below.drew ?_))
  replace hX := hX.below hb hX.lt
  replace hY := hY.below hb hY.lt
  replace hA := hA.below hb hA.lt
  replace hB := hB.trans (hb.mono hs)
  replace hs := hB.size
  clear hb
  generalize w6.alloc (.cells #[.int .i64 D.op, .int .i64 D.kd, .int .i64 D.id, .int .i64 D.fr, .int .i64 D.tn, .int .i64 D.st, .int .i64 D.en, .int .i64 D.rt, .int .i64 D.rf, .int .i64 D.rn, .int .i64 D.rs, .int .i64 D.re, .int .i64 D.ro] 31) = w7 at *
  generalize w6.heap.size = gl at *
  obtain ⟨r, hr⟩ : ∃ r, printF [D] = r := ⟨_, rfl⟩
  have HR := Lib.hid hr
  clear hr
  refine (tprint_any (some ⟨gl, 0, none⟩) 1 1 [D] rfl (by omega) (fun x hx => by rw [List.mem_singleton.1 hx]; exact HWF.out) w7 (TT.out.below hB) (Sl.of_own ho) r HR.out).mono ?_
  rintro e w8 ⟨rfl, hb⟩
  replace hX := hX.below hb hX.lt
  replace hY := hY.below hb hY.lt
  replace hA := hA.below hb hA.lt
  replace hB := hB.trans (hb.mono hs)
  replace hs := hB.size
  clear hb
  clear ho
  have a0 : w8.cell? ⟨bA, 0, none⟩ = some (.int .i64 p9.dk) := hA.cell 0
  have a1 : w8.cell? ⟨bA, 1, none⟩ = some (.string (bs p9.tx)) := hA.cell 1
  have a2 : w8.cell? ⟨bA, 2, none⟩ = some (.int .i64 p9.D.op) := hA.cell 2
  have a3 : w8.cell? ⟨bA, 3, none⟩ = some (.int .i64 p9.D.kd) := hA.cell 3
  have a4 : w8.cell? ⟨bA, 4, none⟩ = some (.int .i64 p9.D.id) := hA.cell 4
  have a5 : w8.cell? ⟨bA, 5, none⟩ = some (.int .i64 p9.D.fr) := hA.cell 5
  have a6 : w8.cell? ⟨bA, 6, none⟩ = some (.int .i64 p9.D.tn) := hA.cell 6
  have a7 : w8.cell? ⟨bA, 7, none⟩ = some (.int .i64 p9.D.st) := hA.cell 7
  have a8 : w8.cell? ⟨bA, 8, none⟩ = some (.int .i64 p9.D.en) := hA.cell 8
  have a9 : w8.cell? ⟨bA, 9, none⟩ = some (.int .i64 p9.D.rt) := hA.cell 9
  have a10 : w8.cell? ⟨bA, 10, none⟩ = some (.int .i64 p9.D.rf) := hA.cell 10
  have a11 : w8.cell? ⟨bA, 11, none⟩ = some (.int .i64 p9.D.rn) := hA.cell 11
  have a12 : w8.cell? ⟨bA, 12, none⟩ = some (.int .i64 p9.D.rs) := hA.cell 12
  have a13 : w8.cell? ⟨bA, 13, none⟩ = some (.int .i64 p9.D.re) := hA.cell 13
  have a14 : w8.cell? ⟨bA, 14, none⟩ = some (.int .i64 p9.D.ro) := hA.cell 14
  have lt_a := hA.lt
  have x0 : w8.cell? ⟨w.heap.size, 0, none⟩ = some (.int .u8 (b0 : Nat)) := hX.cell 0
  have x8 : w8.cell? ⟨w.heap.size, 8, none⟩ = some (.int .u8 (b8 : Nat)) := hX.cell 8
  have lt_x := hX.lt
  have y0 : w8.cell? ⟨bD, 0, none⟩ = some (.int .i64 D.op) := hY.cell 0
  have y1 : w8.cell? ⟨bD, 1, none⟩ = some (.int .i64 D.kd) := hY.cell 1
  have y2 : w8.cell? ⟨bD, 2, none⟩ = some (.int .i64 D.id) := hY.cell 2
  have y3 : w8.cell? ⟨bD, 3, none⟩ = some (.int .i64 D.fr) := hY.cell 3
  have y4 : w8.cell? ⟨bD, 4, none⟩ = some (.int .i64 D.tn) := hY.cell 4
  have y5 : w8.cell? ⟨bD, 5, none⟩ = some (.int .i64 D.st) := hY.cell 5
  have y6 : w8.cell? ⟨bD, 6, none⟩ = some (.int .i64 D.en) := hY.cell 6
  have y7 : w8.cell? ⟨bD, 7, none⟩ = some (.int .i64 D.rt) := hY.cell 7
  have y8 : w8.cell? ⟨bD, 8, none⟩ = some (.int .i64 D.rf) := hY.cell 8
  have y9 : w8.cell? ⟨bD, 9, none⟩ = some (.int .i64 D.rn) := hY.cell 9
  have y10 : w8.cell? ⟨bD, 10, none⟩ = some (.int .i64 D.rs) := hY.cell 10
  have y11 : w8.cell? ⟨bD, 11, none⟩ = some (.int .i64 D.re) := hY.cell 11
  have y12 : w8.cell? ⟨bD, 12, none⟩ = some (.int .i64 D.ro) := hY.cell 12
  have lt_y := hY.lt
  have hp7 : b0 % 7 < 7 := Nat.mod_lt _ (by omega)
  by_cases hq0 : b0 % 7 = 0
  · have e0 : p9 = ⟨1, linesF D b8, zeroDr, 0, [], 0, 0, 0, 0, 0, 0, 0⟩ := by rw [← HP.out, ← HD.out]; simp [actF, hq0]
    have g1 : (p9.dk == 1) = true := by rw [e0]; rfl
    have htx : p9.tx = linesF D b8 := by rw [e0]
    have t2 : (b8 : Int).tmod (2 : Int) = ((b8 % 2 : Nat) : Int) := tmod_nat b8 2
    clear e0
    cases r with
    | none =>
      have e1 : p9.tx = [120, 10] := by
        rw [htx]; unfold linesF
        split <;> simp [printF_none HR.out, HR.out]
      have g2 : ((bs p9.tx).toList == [120, 10]) = true := by rw [e1, bs_toList]; rfl
      clear htx e1
      dsimp only [printV]
      go_wp2_with fail
      go_ret
      exact ⟨rfl, hB⟩
    | some t =>
      obtain ⟨p2, p3, p4⟩ := printF_one t HR.out
      dsimp only [printV]
      have z1 : (bs t).size ≤ 200 := by rw [bs_size]; exact p4
      have hcat : bs t ++ bs t = bs (t ++ t) := bs_append t t
      have z2 : ¬ ((bs t).size + (bs t).size > 9223372036854775807) := by omega
      have z3 : ¬ (9223372036854775807 < (bs t).size + (bs t).size) := by omega
      rcases Nat.mod_two_eq_zero_or_one b8 with hb2 | hb2
      · rw [hb2] at t2
        have e1 : p9.tx = t := by
          rw [htx]; unfold linesF
          rw [if_neg (by omega), HR.out]; rfl
        have g2 : ((bs p9.tx).toList == (bs t).toList) = true := by rw [e1]; simp
        have t3 : (b8 : Int).tmod (2 : Int) = 0 := t2
        clear htx e1 t2
        go_wp2_with fail
        go_ret
        exact ⟨rfl, hB⟩
      · rw [hb2] at t2
        have e1 : p9.tx = t ++ t := by
          rw [htx]; unfold linesF
          rw [if_pos hb2, p2]; rfl
        have g2 : ((bs p9.tx).toList == (bs t).toList) = false := by
          rw [beq_eq_false_iff_ne]
          intro e
          have e2 := (str_ne _ _).1 e
          rw [e1] at e2
          exact p3 (by simpa using e2)
        have g3 : ((bs p9.tx).toList == (bs t ++ bs t).toList) = true := by rw [hcat, e1]; simp
        have g4 : ((bs p9.tx).toList == (bs t).toList ++ (bs t).toList) = true := by
          rw [e1, bs_toList, bs_toList]; simp
        have t3 : (b8 : Int).tmod (2 : Int) = 1 := t2
        clear htx e1 t2 hcat
        go_wp2_with fail
        go_ret
        exact ⟨rfl, hB⟩
  · by_cases hq1 : b0 % 7 = 1
    · have e0 : p9 = ⟨2, [], D, 0, [], 0, 0, 0, 0, 0, 0, 0⟩ := by rw [← HP.out, ← HD.out]; simp [actF, hq1]
      have g1 : (p9.dk == 1) = false := by rw [e0]; rfl
      have g2 : (p9.dk == 2) = true := by rw [e0]; rfl
      have g3 : ∀ w0, (binOp .eql 31 (.agg #[.int .i64 p9.D.op, .int .i64 p9.D.kd, .int .i64 p9.D.id, .int .i64 p9.D.fr, .int .i64 p9.D.tn, .int .i64 p9.D.st, .int .i64 p9.D.en, .int .i64 p9.D.rt, .int .i64 p9.D.rf, .int .i64 p9.D.rn, .int .i64 p9.D.rs, .int .i64 p9.D.re, .int .i64 p9.D.ro]) (.agg #[.int .i64 D.op, .int .i64 D.kd, .int .i64 D.id, .int .i64 D.fr, .int .i64 D.tn, .int .i64 D.st, .int .i64 D.en, .int .i64 D.rt, .int .i64 D.rf, .int .i64 D.rn, .int .i64 D.rs, .int .i64 D.re, .int .i64 D.ro])).run Tryd.prog w0 = .ok (.bool true) w0 := fun w0 => by rw [eqlDr]; rw [e0]; simp
      clear e0
      obtain ⟨s9, o9, hpv⟩ : ∃ s o, printV r = .tuple #[.string s, .bool o] := by cases r <;> exact ⟨_, _, rfl⟩
      rw [hpv]
      clear hpv
      go_wp2_with fail
      go_ret
      exact ⟨rfl, hB⟩
    · obtain ⟨q, hq⟩ : ∃ q, b0 % 7 = q := ⟨_, rfl⟩
      have e0 : p9.dk = 1 + (q : Int) ∧ p9.D = zeroDr := by
        rw [← HP.out]
        have h : q = 2 ∨ q = 3 ∨ q = 4 ∨ q = 5 ∨ q = 6 := by omega
        rcases h with rfl | rfl | rfl | rfl | rfl <;> simp [actF, hq]
      have g1 : (p9.dk == 1) = false := by rw [e0.1]; simp; omega
      have g2 : (p9.dk == 2) = false := by rw [e0.1]; simp; omega
      have g3 : ∀ w0, (binOp .eql 31 (.agg #[.int .i64 p9.D.op, .int .i64 p9.D.kd, .int .i64 p9.D.id, .int .i64 p9.D.fr, .int .i64 p9.D.tn, .int .i64 p9.D.st, .int .i64 p9.D.en, .int .i64 p9.D.rt, .int .i64 p9.D.rf, .int .i64 p9.D.rn, .int .i64 p9.D.rs, .int .i64 p9.D.re, .int .i64 p9.D.ro]) (.agg #[.int .i64 0, .int .i64 0, .int .i64 0, .int .i64 0, .int .i64 0, .int .i64 0, .int .i64 0, .int .i64 0, .int .i64 0, .int .i64 0, .int .i64 0, .int .i64 0, .int .i64 0])).run Tryd.prog w0 = .ok (.bool true) w0 := fun w0 => by
        rw [e0.2]
        have h := eqlDr zeroDr zeroDr w0
        simpa [zeroDr] using h
      have g4 : decide (p9.dk ≥ 1) = true := decide_eq_true (by rw [e0.1]; omega)
      have g5 : decide (p9.dk ≤ 7) = true := decide_eq_true (by rw [e0.1]; omega)
      have g6 : (p9.dk == 1 + (q : Int)) = true := by rw [e0.1]; simp
      have t1 : IntKind.i64.wrap (b0 : Int) = (b0 : Int) := IntWalk.i64_in _ (by have := H0.out; omega)
      have t2 : (b0 : Int).tmod 7 = (q : Int) := by rw [k7_, tmod_nat, hq]
      have t3 : IntKind.i64.wrap (q : Int) = (q : Int) := IntWalk.i64_in _ (by omega)
      have t4 : IntKind.i64.wrap (1 + (q : Int)) = 1 + (q : Int) := IntWalk.i64_in _ (by omega)
      clear e0 hq hq0 hq1
      obtain ⟨s9, o9, hpv⟩ : ∃ s o, printV r = .tuple #[.string s, .bool o] := by cases r <;> exact ⟨_, _, rfl⟩
      rw [hpv]
      clear hpv
      go_wp2_with fail
      go_ret
      exact ⟨rfl, hB⟩
theorem scriptOnes_own : ownKnob Tryd.prog.godebug = none := by kernel_rfl
theorem scriptOnes_laidOut : laidOutB Tryd.prog = true := by kernel_rfl
theorem scriptOnes_door (os : Os) (args : Array Value) : laidMetH Tryd.prog Rows.scriptOnesRow.laid ((World.doorLaid Tryd.prog 400 os).forCall (fun _ _ => 0) ⟨#[], args, []⟩).memory :=
  laidMetH_of_parts3 (fuel := 8) (laidMet_of_run' 8 (by kernel_rfl) (by kernel_rfl)) (by kernel_rfl) (by kernel_rfl)

set_option maxHeartbeats 1000000 in
set_option maxRecDepth 100000 in
theorem scriptOnes_lifted (os : Os) (started : os.Started) (H : Type) (enc : TypeId × Value → H) :
    ReturnsInHanded {} Tryd.checked os 5 .any (fun w args => (Rows.scriptOnesSpec.pre enc Tryd.prog Tryd.f5 [] false w args ∧ laidMetH Tryd.prog Rows.scriptOnesRow.laid w) ∧ sizedMet enc Tryd.prog Tryd.f5 (OpenSpec.ofChange Rows.scriptOnesSpec) false w args)
      (Rows.scriptOnesSpec.post enc Tryd.prog Tryd.f5 false true false false) := by
  refine returnsInHanded_of_change_and (C := Tryd.checked) (X := fun w _ => laidMetH Tryd.prog Rows.scriptOnesRow.laid w) (fun _ _ _ hh h => h.of_heap hh) scriptOnes_own started (by kernel_rfl) Tryd.func5
    (ChangeSpec.witness_shaped (enc := enc) (C := Tryd.checked) (os := os) (X := fun w _ => laidMetH Tryd.prog Rows.scriptOnesRow.laid w) false (World.doorLaid Tryd.prog 400 os) #[.agg #[.int .u8 0, .int .u8 0, .int .u8 0, .int .u8 0, .int .u8 0, .int .u8 0, .int .u8 0, .int .u8 0, .int .u8 0, .int .u8 0]] 8 rfl (World.shaped_of_RefB (by kernel_rfl) (by kernel_rfl)) (by kernel_rfl) (by kernel_rfl) (by kernel_rfl) (scriptOnes_door os _)) ?_
  intro W base args ds gs before hval0 hW _ _ hL _
  have hval : ∀ (j : Nat) t v, Tryd.f5.params[j]? = some t → args[j]? = some v → Value.okWide Tryd.prog W .any base t v := hval0
  have hW' := hW
  obtain ⟨p, q, hA0, hV, rfl, hfz, hnd⟩ := hW
  have hA : DataW.TrodAll enc Tryd.prog W 0 (fun _ => true) true Tryd.f5.params.toList args.toList ds p := hA0
  rw [Tryd.params5] at hA hval
  obtain ⟨v0, vs0, d0, ds0, p0, q0, hargs, rfl, rfl, h0, r0⟩ := trodAll_cons hA
  obtain ⟨rfl, rfl, rfl⟩ := trodAll_nil r0
  obtain rfl : args = #[v0] := by cases args; simp_all
  obtain ⟨rfl, rfl⟩ := trodVars_none hV
  obtain ⟨ns0, e0, l0, w0⟩ := open_arrB (k := 10) Tryd.underlying23 Tryd.underlying5 (by kernel_rfl) (by kernel_rfl) (hval 0 23 v0 rfl rfl) h0
  obtain ⟨b0_0, b0_1, b0_2, b0_3, b0_4, b0_5, b0_6, b0_7, b0_8, b0_9, rfl⟩ : ∃ b0_0 b0_1 b0_2 b0_3 b0_4 b0_5 b0_6 b0_7 b0_8 b0_9 : Nat, ns0 = [b0_0, b0_1, b0_2, b0_3, b0_4, b0_5, b0_6, b0_7, b0_8, b0_9] := by
    match ns0, l0 with
    | [b0_0, b0_1, b0_2, b0_3, b0_4, b0_5, b0_6, b0_7, b0_8, b0_9], _ => exact ⟨_, _, _, _, _, _, _, _, _, _, rfl⟩
  obtain rfl : v0 = .agg #[.int .u8 (b0_0 : Nat), .int .u8 (b0_1 : Nat), .int .u8 (b0_2 : Nat), .int .u8 (b0_3 : Nat), .int .u8 (b0_4 : Nat), .int .u8 (b0_5 : Nat), .int .u8 (b0_6 : Nat), .int .u8 (b0_7 : Nat), .int .u8 (b0_8 : Nat), .int .u8 (b0_9 : Nat)] := e0
  clear hA0 hval0
  refine (scriptOnes_walk b0_0 b0_1 b0_2 b0_3 b0_4 b0_5 b0_6 b0_7 b0_8 b0_9 w0 W (ten_ones hL)).mono fun e W' ⟨he, bel⟩ => ?_
  subst he
  exact ⟨_, rfl, law_post scriptOnes_laidOut (by kernel_rfl) rfl Tryd.underlying4 rfl rfl hW' bel⟩

theorem scriptOnes_holds : Rows.ScriptOnesSaid :=
  OpenClaim.holds_of_wide 5 Tryd.f5 rfl rfl rfl rfl rfl rfl rfl ⟨rfl, rfl, rfl, rfl, rfl⟩ rfl rfl rfl rfl rfl (by kernel_rfl) Tryd.func5 (by kernel_rfl)
    (of_decide_eq_true (by kernel_rfl)) (by unfold Func.isWrapper; first | (rw [if_pos (by decide +kernel)]; kernel_rfl) | (rw [if_neg (by decide +kernel)]; exact ⟨rfl, rfl⟩))
    (fun os started H enc _ => scriptOnes_lifted os started H enc)

theorem scriptOnes_proved : Rows.ScriptOnesCardSaid :=
  Claim7.holds_tied_plain_at .later [] Rows.scriptOnesCard.laidKinds true Rows.scriptOnesCard.stood.harness false
    scriptOnes_holds (fun _ h => by cases h) (by kernel_rfl) (fun _ h => by cases h) scriptOnes_row_tie rfl ⟨rfl, rfl⟩ (by kernel_rfl) rfl
    (fun f fn hf hfn => by
      obtain rfl : f = 5 := Option.some.inj ((show Tryd.prog.funcNamed "felucca/feluccalaw25.ScriptOnes" = some 5 by kernel_rfl).symm.trans hf) |>.symm
      obtain rfl : fn = Tryd.f5 := (Option.some.inj (Tryd.func5.symm.trans hfn)).symm
      exact ⟨by kernel_rfl, fun j t ht => by
        rw [Tryd.params5] at ht
        have hm : t ∈ [23] := by simpa using Array.mem_of_getElem? ht
        have hall : ([23].all fun u => !Tryd.prog.wantsStandIn u) = true := by kernel_rfl
        exact (show Tryd.prog.wantsStandIn t = false by simpa using List.all_eq_true.1 hall t hm)⟩)
    (by kernel_rfl)
#print axioms scriptOnes_proved
end Go.Proofs.YtggdomeeienjbaaDoor
