
/- Contract of text.Parse: the directives of a text, or its first fault. It makes new memory alone. -/
import Derived.Test.YtggdomeeienjbaaGreatDoorTx1
import Derived.Test.YtggdomeeienjbaaGreatDoorDFacts
namespace Go.Proofs.YtggdomeeienjbaaGreatDoor
open Go.ChangeShapes Go.WideShapes Go.ChangeAt Go.RowKit Go.Sort
set_option linter.unusedSimpArgs false
set_option linter.unusedVariables false
theorem flatDr_one_ (y : Dr) : flatDr [y] = [.int .i64 y.op, .int .i64 y.kd, .int .i64 y.id, .int .i64 y.fr, .int .i64 y.tn, .int .i64 y.st, .int .i64 y.en, .int .i64 y.rt, .int .i64 y.rf, .int .i64 y.rn, .int .i64 y.rs, .int .i64 y.re, .int .i64 y.ro] := rfl
theorem textF_bound : ∀ (rows : List Bytes) (k : Int), (textF rows k).2.2 = 0 → (textF rows k).2.1 = 0 ∧ (textF rows k).1.length ≤ rows.length
  | [], k, _ => ⟨rfl, by simp [textF]⟩
  | r :: rs, k, h => by
    have ih := textF_bound rs (k + 1)
    simp only [textF] at h ⊢
    split at h
    · rename_i h0
      rw [if_pos h0]
      obtain ⟨h1, h2⟩ := ih h
      exact ⟨h1, by simp; omega⟩
    · rename_i h0
      rw [if_neg h0]
      split at h
      · rename_i h1
        rw [if_pos h1]
        rw [addF_code] at h
        obtain ⟨h2, h3⟩ := ih h
        refine ⟨by rw [addF_code]; exact h2, ?_⟩
        unfold addF
        rw [if_pos h]
        simp
        omega
      · rename_i h1
        exact absurd h h1
set_option maxHeartbeats 8000000 in
set_option maxRecDepth 100000 in
theorem tparse_any (s0 : ByteArray) (rows : List Bytes) (n : Nat) (hr : linesL s0.data.toList = rows) (hn : rows.length = n) (w : World) (hm : MaxAt w) (hs : s0.data.toList.length ≤ 50000) (ds : List Dr) (ln cd : Int) (hz : textF rows 1 = (ds, ln, cd)) :
    Calls Tryz.prog 7 #[.string s0] w fun e w' => ∃ v, e = .returned (.tuple #[v, .agg #[.int .i64 ln, .int .i64 cd]]) ∧ w'.ownsRow w.heap.size 39 13 v ds.length (flatDr ds) ∧ Below w.heap.size w w' := by
  obtain ⟨i0, hi0, hz0, hz1, hz2⟩ := info_parts infoDr
  have hnb : n ≤ 50001 := by rw [← hn, ← hr]; have := lines_len s0.data.toList; omega
  have HSZ := Lib.hid (fun x (hx : x ∈ rows) => Nat.le_trans (lines_mem (s := s0.data.toList) (by rw [hr]; exact hx)) hs)
  have HN := Lib.hid hn
  have HR := Lib.hid hr
  have HS := Lib.hid hs
  have HZ := Lib.hid hz
  clear hn hr hs hz
  have hX := Blok.new w 31 #[.int .i64 0, .int .i64 0]
  have hB0 : Below w.heap.size w (w.alloc (.cells #[.int .i64 0, .int .i64 0] 31)) := by (repeat (first | exact Below.refl _ _ | refine Below.alloc ?_ (by first | omega | (simp; done) | (simp; omega)) _ | refine Below.setCell ?_ (by first | omega | (simp; done) | (simp; omega)) _ | refine Below.drew ?_))
  have hm0 := hm.below hB0
  clear hm
  have hs0 := hB0.size
  go_enter Tryz.func7, Tryz.ntmps7
  go_wp2_with fail
  generalize w.alloc (.cells #[.int .i64 0, .int .i64 0] 31) = w0 at *
  refine (lines_is s0 rows n HR.out HN.out w0 hm0 (by have := HS.out; omega)).mono ?_
  rintro e w1 ⟨A, c, rfl, hrow, hb⟩
  have hm := hm0.below hb
  clear hm0
  have hX1 := hX.below hb hX.lt
  have hB1 := hB0.trans (hb.mono hs0)
  have hs1 := hB1.size
  have hx1 := hX1.lt
  have HL := Lib.hid (Sl.of_own hrow)
  have HM := Lib.hid hm
  have HX1 := Lib.hid hX1
  clear hrow hm hX hb hX1 hB0 hs0
  go_wp2
  go_loopw [4, 13] (fun ev iv wr => ∃ (i m : Nat) (es : List Dr), iv = .int .i64 i ∧ i ≤ n ∧ m ≤ i ∧ Hid (es.length = m) ∧ Hid (textF rows 1 = addF es (textF (rows.drop i) ((i : Int) + 1))) ∧ wr.ownsRow w1.heap.size 39 13 ev m (flatDr es) ∧ Below w1.heap.size w1 wr) (fun _ iv _ => n - (intOf iv).toNat)
  case atStart => exact ⟨0, 0, [], rfl, by omega, by omega, rfl, by simp [Hid, addF_nil], World.ownsRow_nil _ _ _ _, Below.refl _ _⟩
  case round =>
    obtain ⟨i, m, es, rfl, hi, hmi, HLN, HF, hown, hB⟩ := hrel
    have hsz := hB.size
    obtain ⟨Ae, ce, rfl⟩ := slice_of_own hown
    by_cases hin : i < n
    · obtain ⟨ad, rfl, hab, c0⟩ := (HL.out.below hB).lst.atS HN.out hin
      have hil : i < rows.length := by rw [HN.out]; exact hin
      have hxs : (gS rows i).length ≤ 50000 := HSZ.out _ (by rw [gS_eq hil]; exact List.getElem_mem _)
      have HIL := Lib.hid hil
      clear hil
      obtain ⟨x, hx⟩ : ∃ x, gS rows i = x := ⟨_, rfl⟩
      rw [hx] at c0 hxs
      obtain ⟨k, hk⟩ : ∃ k, (wordsL x).length = k := ⟨_, rfl⟩
      have HX := Lib.hid hx
      have HK := Lib.hid hk
      have HXS := Lib.hid hxs
      clear hx hk hxs
      go_wp2_with fail
      clear c0
      refine (words_is (bs x) (wordsL x) k (by rw [bs_list]) HK.out wr (HM.out.below hB) (by rw [bs_list]; have := HXS.out; omega)).mono ?_
      rintro e w2 ⟨A2, c2, rfl, hw2, hb⟩
      replace hown := own_below hown hb
      replace hB := hB.trans (hb.mono hsz)
      replace hsz := hB.size
      clear hb
      by_cases hk0 : k = 0
      · subst hk0
        have HN2 : Hid (textF rows 1 = addF es (textF (rows.drop (i + 1)) ((i : Int) + 1 + 1))) := by
          show _ = _
          rw [HF.out, text_blank HIL.out (by rw [HX.out]; exact HK.out)]
        clear hw2
        go_wp2_with fail
        go_roundw
        case rel => exact ⟨i + 1, m, es, by go_num, by omega, by omega, HLN, by have h := HN2.out; simpa [Hid] using h, hown, hB⟩
        case measure => simp [intOf]; omega
      · have hk1 : ((k : Int) == 0) = false := by simp; omega
        have hkb : k ≤ 100000 := by rw [← HK.out]; have := words_len x; have := HXS.out; omega
        obtain ⟨z, q, hzq⟩ : ∃ z q, parseD (wordsL x) = (z, q) := ⟨_, _, rfl⟩
        have HZQ := Lib.hid hzq
        have hSW := Sl.of_own hw2
        clear hzq hw2
        go_wp2_with fail
        refine (dparse_any A2 k c2 (wordsL x) w2 HK.out hkb (fun y hy => by have := words_mem hy; have := HXS.out; unfold maxLen; omega) hSW z q HZQ.out).mono ?_
        rintro e w3 ⟨rfl, hb⟩
        replace hown := own_below hown hb
        replace hB := hB.trans (hb.mono hsz)
        replace hsz := hB.size
        clear hSW hb
        by_cases hq : q = 0
        · subst hq
          have HN2 : Hid (textF rows 1 = addF (es ++ [z]) (textF (rows.drop (i + 1)) ((i : Int) + 1 + 1))) := by
            show _ = _
            rw [HF.out, text_ok HIL.out (by rw [HX.out, HK.out]; exact hk0) (by rw [HX.out]; exact HZQ.out), addF_addF]
          go_upto_region 10 with fail
          have hZ := Blok.new w3 39 #[.int .i64 z.op, .int .i64 z.kd, .int .i64 z.id, .int .i64 z.fr, .int .i64 z.tn, .int .i64 z.st, .int .i64 z.en, .int .i64 z.rt, .int .i64 z.rf, .int .i64 z.rn, .int .i64 z.rs, .int .i64 z.re, .int .i64 z.ro]
          have hb : Below w3.heap.size w3 (w3.alloc (.cells #[.int .i64 z.op, .int .i64 z.kd, .int .i64 z.id, .int .i64 z.fr, .int .i64 z.tn, .int .i64 z.st, .int .i64 z.en, .int .i64 z.rt, .int .i64 z.rf, .int .i64 z.rn, .int .i64 z.rs, .int .i64 z.re, .int .i64 z.ro] 39)) := by (repeat (first | exact Below.refl _ _ | refine Below.alloc ?_ (by first | omega | (simp; done) | (simp; omega)) _ | refine Below.setCell ?_ (by first | omega | (simp; done) | (simp; omega)) _ | refine Below.drew ?_))
          replace hown := own_below hown hb
          replace hB := hB.trans (hb.mono hsz)
          replace hsz := hB.size
          clear hb
          generalize w3.alloc (.cells #[.int .i64 z.op, .int .i64 z.kd, .int .i64 z.id, .int .i64 z.fr, .int .i64 z.tn, .int .i64 z.st, .int .i64 z.en, .int .i64 z.rt, .int .i64 z.rf, .int .i64 z.rn, .int .i64 z.rs, .int .i64 z.re, .int .i64 z.ro] 39) = w4 at *
          generalize hbz : w3.heap.size = bz at *
          clear hbz
          have y0 : w4.cell? ⟨bz, 0, none⟩ = some (.int .i64 z.op) := hZ.cell 0
          have y1 : w4.cell? ⟨bz, 1, none⟩ = some (.int .i64 z.kd) := hZ.cell 1
          have y2 : w4.cell? ⟨bz, 2, none⟩ = some (.int .i64 z.id) := hZ.cell 2
          have y3 : w4.cell? ⟨bz, 3, none⟩ = some (.int .i64 z.fr) := hZ.cell 3
          have y4 : w4.cell? ⟨bz, 4, none⟩ = some (.int .i64 z.tn) := hZ.cell 4
          have y5 : w4.cell? ⟨bz, 5, none⟩ = some (.int .i64 z.st) := hZ.cell 5
          have y6 : w4.cell? ⟨bz, 6, none⟩ = some (.int .i64 z.en) := hZ.cell 6
          have y7 : w4.cell? ⟨bz, 7, none⟩ = some (.int .i64 z.rt) := hZ.cell 7
          have y8 : w4.cell? ⟨bz, 8, none⟩ = some (.int .i64 z.rf) := hZ.cell 8
          have y9 : w4.cell? ⟨bz, 9, none⟩ = some (.int .i64 z.rn) := hZ.cell 9
          have y10 : w4.cell? ⟨bz, 10, none⟩ = some (.int .i64 z.rs) := hZ.cell 10
          have y11 : w4.cell? ⟨bz, 11, none⟩ = some (.int .i64 z.re) := hZ.cell 11
          have y12 : w4.cell? ⟨bz, 12, none⟩ = some (.int .i64 z.ro) := hZ.cell 12
          have lt_y := hZ.lt
          go_wp2_with (first | (at_builtin; refine wpList_append_own _ rfl _ _ 28 rfl w1.heap.size 39 i0 _ 13 104 Tryz.underlying28 hi0 hz0 hz1 hz2 rfl (by decide) _ _ _ rfl (hown.alloc _) ⟨w4.heap.size, 0, none⟩ 1 1 [.int .i64 z.op, .int .i64 z.kd, .int .i64 z.id, .int .i64 z.fr, .int .i64 z.tn, .int .i64 z.st, .int .i64 z.en, .int .i64 z.rt, .int .i64 z.rf, .int .i64 z.rn, .int .i64 z.rs, .int .i64 z.re, .int .i64 z.ro] rfl rfl (by exact lit_cells w4 #[.int .i64 z.op, .int .i64 z.kd, .int .i64 z.id, .int .i64 z.fr, .int .i64 z.tn, .int .i64 z.st, .int .i64 z.en, .int .i64 z.rt, .int .i64 z.rf, .int .i64 z.rn, .int .i64 z.rs, .int .i64 z.re, .int .i64 z.ro] _ _ rfl) (by simp [Value.oneCell']) (by unfold maxLen; omega) (by omega) (by simp; omega) ?_; intro v' w5 hown' hgrow5 hnil5))
          have hbN : Below w1.heap.size w1 w5 := (hB.alloc hsz _).grown hgrow5 (by simp; omega) (fun q hq => (hown.lt q hq).1)
          clear hgrow5 hnil5 y0 y1 y2 y3 y4 y5 y6 y7 y8 y9 y10 y11 y12 lt_y hZ
          go_wp2_with fail
          go_roundw
          case rel => exact ⟨i + 1, m + 1, es ++ [z], by go_num, by omega, by omega, by simp [Hid, HLN.out], by have h := HN2.out; simpa [Hid] using h, (by rw [flatDr_append, flatDr_one_]; exact hown'), hbN⟩
          case measure => simp [intOf]; omega
        · have hqb : (q != 0) = true := by simpa using hq
          have hf : textF rows 1 = ([], (i : Int) + 1, q) := by
            rw [HF.out, text_bad HIL.out (by rw [HX.out, HK.out]; exact hk0) (by rw [HX.out]; exact HZQ.out) hq]
            unfold addF
            rw [if_neg hq]
          rw [HZ.out] at hf
          injection hf with f1 f2
          injection f2 with f2 f3
          subst f1 f2 f3
          have hwr : IntKind.i64.wrap ((i : Int) + 1) = (i : Int) + 1 := IntWalk.i64_in _ (by omega)
          have hb : Below w3.heap.size w3 (w3.alloc (.cells #[.int .i64 z.op, .int .i64 z.kd, .int .i64 z.id, .int .i64 z.fr, .int .i64 z.tn, .int .i64 z.st, .int .i64 z.en, .int .i64 z.rt, .int .i64 z.rf, .int .i64 z.rn, .int .i64 z.rs, .int .i64 z.re, .int .i64 z.ro] 39)) := by (repeat (first | exact Below.refl _ _ | refine Below.alloc ?_ (by first | omega | (simp; done) | (simp; omega)) _ | refine Below.setCell ?_ (by first | omega | (simp; done) | (simp; omega)) _ | refine Below.drew ?_))
          replace hB := hB.trans (hb.mono hsz)
          replace hsz := hB.size
          have hX3 := HX1.out.below hB HX1.out.lt
          have hXlt := hX3.lt
          have r_0 : (w3.alloc (.cells #[.int .i64 z.op, .int .i64 z.kd, .int .i64 z.id, .int .i64 z.fr, .int .i64 z.tn, .int .i64 z.st, .int .i64 z.en, .int .i64 z.rt, .int .i64 z.rf, .int .i64 z.rn, .int .i64 z.rs, .int .i64 z.re, .int .i64 z.ro] 39)).cell? ⟨w.heap.size, 0, none⟩ = some (.int .i64 0) := hX3.cell 0
          have r_1 : (w3.alloc (.cells #[.int .i64 z.op, .int .i64 z.kd, .int .i64 z.id, .int .i64 z.fr, .int .i64 z.tn, .int .i64 z.st, .int .i64 z.en, .int .i64 z.rt, .int .i64 z.rf, .int .i64 z.rn, .int .i64 z.rs, .int .i64 z.re, .int .i64 z.ro] 39)).cell? ⟨w.heap.size, 1, none⟩ = some (.int .i64 0) := hX3.cell 1
          have f_0 := hX3.free 0
          have f_1 := hX3.free 1
          have hB9 := hB1.trans (hB.mono hs1)
          clear hb
          go_wp2_with fail
          generalize w3.alloc (.cells #[.int .i64 z.op, .int .i64 z.kd, .int .i64 z.id, .int .i64 z.fr, .int .i64 z.tn, .int .i64 z.st, .int .i64 z.en, .int .i64 z.rt, .int .i64 z.rf, .int .i64 z.rn, .int .i64 z.rs, .int .i64 z.re, .int .i64 z.ro] 39) = w4 at *
          clear r_0 r_1 f_0 f_1 hXlt
          have hF : Blok ((w4.setCell ⟨w.heap.size, 0, none⟩ (.int .i64 ((i : Int) + 1))).setCell ⟨w.heap.size, 1, none⟩ (.int .i64 cd)) w.heap.size 31 #[.int .i64 ((i : Int) + 1), .int .i64 cd] := by have h := ((hX3.set_ 0 (.int .i64 ((i : Int) + 1))).set_ 1 (.int .i64 cd)); simpa using h
          have hle0 : w.heap.size ≤ w.heap.size := by first | exact Nat.le_refl _ | omega
          have hWf : Below w.heap.size w ((w4.setCell ⟨w.heap.size, 0, none⟩ (.int .i64 ((i : Int) + 1))).setCell ⟨w.heap.size, 1, none⟩ (.int .i64 cd)) := ((hB9.setCell (p := ⟨w.heap.size, 0, none⟩) hle0 (.int .i64 ((i : Int) + 1))).setCell (p := ⟨w.heap.size, 1, none⟩) hle0 (.int .i64 cd))
          have hlF := hF.lt
          generalize ((w4.setCell ⟨w.heap.size, 0, none⟩ (.int .i64 ((i : Int) + 1))).setCell ⟨w.heap.size, 1, none⟩ (.int .i64 cd)) = wf at *
          have r0 : wf.cell? ⟨w.heap.size, 0, none⟩ = some (.int .i64 ((i : Int) + 1)) := hF.cell 0
          have r1 : wf.cell? ⟨w.heap.size, 1, none⟩ = some (.int .i64 cd) := hF.cell 1
          refine bodyPost_ret (v := .tuple #[(.slice none 0 0), .agg #[.int .i64 ((i : Int) + 1), .int .i64 cd]]) (by simp [results, Tryz.results7, go_sem, r0, r1, hlF]) rfl ?_
          exact ⟨_, rfl, World.ownsRow_nil _ _ _ _, hWf⟩
    · obtain rfl : n = i := by omega
      have hf : textF rows 1 = (es, 0, 0) := by rw [HF.out, List.drop_eq_nil_of_le (by rw [HN.out]; omega)]; simp [textF, addF]
      rw [HZ.out] at hf
      injection hf with f1 f2
      injection f2 with f2 f3
      subst f1 f2 f3
      have hX3 := HX1.out.below hB HX1.out.lt
      have hXlt := hX3.lt
      have r_0 : wr.cell? ⟨w.heap.size, 0, none⟩ = some (.int .i64 0) := hX3.cell 0
      have r_1 : wr.cell? ⟨w.heap.size, 1, none⟩ = some (.int .i64 0) := hX3.cell 1
      have f_0 := hX3.free 0
      have f_1 := hX3.free 1
      have hB9 := hB1.trans (hB.mono hs1)
      have hown9 := hown
      go_wp2_with fail
      clear r_0 r_1 f_0 f_1 hXlt
      have hown1 := own_low (own_low hown (grown_set (g := w.heap.size) wr 0 (.int .i64 0)) (fun q hq => by injection hq with hq; omega)) (grown_set (g := w.heap.size) (wr.setCell ⟨w.heap.size, 0, none⟩ (.int .i64 0)) 1 (.int .i64 0)) (fun q hq => by injection hq with hq; omega)
      clear hown9
      have hF : Blok ((wr.setCell ⟨w.heap.size, 0, none⟩ (.int .i64 0)).setCell ⟨w.heap.size, 1, none⟩ (.int .i64 0)) w.heap.size 31 #[.int .i64 0, .int .i64 0] := by have h := ((hX3.set_ 0 (.int .i64 0)).set_ 1 (.int .i64 0)); simpa using h
      have hle0 : w.heap.size ≤ w.heap.size := by first | exact Nat.le_refl _ | omega
      have hWf : Below w.heap.size w ((wr.setCell ⟨w.heap.size, 0, none⟩ (.int .i64 0)).setCell ⟨w.heap.size, 1, none⟩ (.int .i64 0)) := ((hB9.setCell (p := ⟨w.heap.size, 0, none⟩) hle0 (.int .i64 0)).setCell (p := ⟨w.heap.size, 1, none⟩) hle0 (.int .i64 0))
      have hlF := hF.lt
      generalize ((wr.setCell ⟨w.heap.size, 0, none⟩ (.int .i64 0)).setCell ⟨w.heap.size, 1, none⟩ (.int .i64 0)) = wf at *
      have r0 : wf.cell? ⟨w.heap.size, 0, none⟩ = some (.int .i64 0) := hF.cell 0
      have r1 : wf.cell? ⟨w.heap.size, 1, none⟩ = some (.int .i64 0) := hF.cell 1
      refine bodyPost_ret (v := .tuple #[(.slice Ae m ce), .agg #[.int .i64 0, .int .i64 0]]) (by simp [results, Tryz.results7, go_sem, r0, r1, hlF]) rfl ?_
      exact ⟨_, rfl, by rw [HLN.out]; exact own_down hown1 hs1, hWf⟩
end Go.Proofs.YtggdomeeienjbaaGreatDoor
