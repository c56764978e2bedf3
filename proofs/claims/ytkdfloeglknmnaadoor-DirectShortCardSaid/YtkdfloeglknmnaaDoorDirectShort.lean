
/- No beginning of a directive's words is one of the same kind, and no more words may stand behind it: DirectShort returns true, for each directive, all numbers, all words. It reads a table of the library's. -/
import Derived.Test.YtkdfloeglknmnaaDoorRows
import Derived.Test.YtkdfloeglknmnaaDoorTie
import Derived.Test.YtkdfloeglknmnaaDoorCards
import Derived.Test.YtkdfloeglknmnaaDoorDLaw
import Derived.Test.YtkdfloeglknmnaaDoorTen04
namespace Go.Proofs.YtkdfloeglknmnaaDoor
open Go.ChangeShapes Go.WideShapes Go.ChangeAt Go.RowKit Go.Sort
set_option linter.unusedSimpArgs false
set_option linter.unusedVariables false
set_option maxHeartbeats 16000000 in
set_option maxRecDepth 100000 in
theorem directShort_any (d : Dr) (d1 : (Lit.int .i64 d.op).wf = true) (d2 : (Lit.int .i64 d.kd).wf = true) (k : Int) (A : Option Addr) (n c : Nat) (l : List Bytes) (hl : l.length = n) (hsz : ∀ x ∈ l, x.length ≤ maxLen) (w : World) (ht : TenTab w) (h : Sl w w.heap.size 1 A n c (vs l)) :
    Calls Tryd.prog 7 #[.agg #[.int .i64 d.op, .int .i64 d.kd, .int .i64 d.id, .int .i64 d.fr, .int .i64 d.tn, .int .i64 d.st, .int .i64 d.en, .int .i64 d.rt, .int .i64 d.rf, .int .i64 d.rn, .int .i64 d.rs, .int .i64 d.re, .int .i64 d.ro], .int .i64 k, .slice A n c] w fun e w' => e = .returned (.bool true) ∧ Below w.heap.size w w' := by
  obtain ⟨i0, hi0, hz0, hz1, hz2⟩ := info_parts infoS04
  have hX := Blok.new w 27 #[.int .i64 d.op, .int .i64 d.kd, .int .i64 d.id, .int .i64 d.fr, .int .i64 d.tn, .int .i64 d.st, .int .i64 d.en, .int .i64 d.rt, .int .i64 d.rf, .int .i64 d.rn, .int .i64 d.rs, .int .i64 d.re, .int .i64 d.ro]
  have hB : Below w.heap.size w (w.alloc (.cells #[.int .i64 d.op, .int .i64 d.kd, .int .i64 d.id, .int .i64 d.fr, .int .i64 d.tn, .int .i64 d.st, .int .i64 d.en, .int .i64 d.rt, .int .i64 d.rf, .int .i64 d.rn, .int .i64 d.rs, .int .i64 d.re, .int .i64 d.ro] 27)) := by (repeat (first | exact Below.refl _ _ | refine Below.alloc ?_ (by first | omega | (simp; done) | (simp; omega)) _ | refine Below.setCell ?_ (by first | omega | (simp; done) | (simp; omega)) _ | refine Below.drew ?_))
  have hs := hB.size
  have HT := Lib.hid (ht.below hB)
  replace h := h.up hB
  have HL := Lib.hid hl
  have HSZ := Lib.hid hsz
  clear ht hl hsz
  go_enter Tryd.func7, Tryd.ntmps7
  go_wp2_with fail
  generalize w.alloc (.cells #[.int .i64 d.op, .int .i64 d.kd, .int .i64 d.id, .int .i64 d.fr, .int .i64 d.tn, .int .i64 d.st, .int .i64 d.en, .int .i64 d.rt, .int .i64 d.rf, .int .i64 d.rn, .int .i64 d.rs, .int .i64 d.re, .int .i64 d.ro] 27) = x0 at *
  refine (small04_any x0 HT.out).mono ?_
  rintro e y0 ⟨rfl, hb⟩
  replace HT := Lib.hid (HT.out.below hb)
  replace h := h.up hb
  replace hX := hX.below hb hX.lt
  replace hB := hB.trans (hb.mono hs)
  replace hs := hB.size
  clear hb
  cases hdr : rightD d
  · have HD := Lib.hid hdr
    clear hdr
    have ca0 : y0.cell? ⟨w.heap.size, 0, none⟩ = some (.int .i64 d.op) := hX.cell 0
    have ca1 : y0.cell? ⟨w.heap.size, 1, none⟩ = some (.int .i64 d.kd) := hX.cell 1
    have ca2 : y0.cell? ⟨w.heap.size, 2, none⟩ = some (.int .i64 d.id) := hX.cell 2
    have ca3 : y0.cell? ⟨w.heap.size, 3, none⟩ = some (.int .i64 d.fr) := hX.cell 3
    have ca4 : y0.cell? ⟨w.heap.size, 4, none⟩ = some (.int .i64 d.tn) := hX.cell 4
    have ca5 : y0.cell? ⟨w.heap.size, 5, none⟩ = some (.int .i64 d.st) := hX.cell 5
    have ca6 : y0.cell? ⟨w.heap.size, 6, none⟩ = some (.int .i64 d.en) := hX.cell 6
    have ca7 : y0.cell? ⟨w.heap.size, 7, none⟩ = some (.int .i64 d.rt) := hX.cell 7
    have ca8 : y0.cell? ⟨w.heap.size, 8, none⟩ = some (.int .i64 d.rf) := hX.cell 8
    have ca9 : y0.cell? ⟨w.heap.size, 9, none⟩ = some (.int .i64 d.rn) := hX.cell 9
    have ca10 : y0.cell? ⟨w.heap.size, 10, none⟩ = some (.int .i64 d.rs) := hX.cell 10
    have ca11 : y0.cell? ⟨w.heap.size, 11, none⟩ = some (.int .i64 d.re) := hX.cell 11
    have ca12 : y0.cell? ⟨w.heap.size, 12, none⟩ = some (.int .i64 d.ro) := hX.cell 12
    have lt_ca := hX.lt
    go_wp2_with fail
    clear ca0 ca1 ca2 ca3 ca4 ca5 ca6 ca7 ca8 ca9 ca10 ca11 ca12 lt_ca
    refine (dwords_no d y0 d1 d2 HD.out).mono ?_
    rintro e y1 ⟨rfl, hb⟩
    replace hB := hB.trans (hb.mono hs)
    replace hs := hB.size
    clear hb
    clear hX h HT
    go_wp2
    go_ret
    exact ⟨rfl, hB⟩
  have HD := Lib.hid hdr
  clear hdr
  have ca0 : y0.cell? ⟨w.heap.size, 0, none⟩ = some (.int .i64 d.op) := hX.cell 0
  have ca1 : y0.cell? ⟨w.heap.size, 1, none⟩ = some (.int .i64 d.kd) := hX.cell 1
  have ca2 : y0.cell? ⟨w.heap.size, 2, none⟩ = some (.int .i64 d.id) := hX.cell 2
  have ca3 : y0.cell? ⟨w.heap.size, 3, none⟩ = some (.int .i64 d.fr) := hX.cell 3
  have ca4 : y0.cell? ⟨w.heap.size, 4, none⟩ = some (.int .i64 d.tn) := hX.cell 4
  have ca5 : y0.cell? ⟨w.heap.size, 5, none⟩ = some (.int .i64 d.st) := hX.cell 5
  have ca6 : y0.cell? ⟨w.heap.size, 6, none⟩ = some (.int .i64 d.en) := hX.cell 6
  have ca7 : y0.cell? ⟨w.heap.size, 7, none⟩ = some (.int .i64 d.rt) := hX.cell 7
  have ca8 : y0.cell? ⟨w.heap.size, 8, none⟩ = some (.int .i64 d.rf) := hX.cell 8
  have ca9 : y0.cell? ⟨w.heap.size, 9, none⟩ = some (.int .i64 d.rn) := hX.cell 9
  have ca10 : y0.cell? ⟨w.heap.size, 10, none⟩ = some (.int .i64 d.rs) := hX.cell 10
  have ca11 : y0.cell? ⟨w.heap.size, 11, none⟩ = some (.int .i64 d.re) := hX.cell 11
  have ca12 : y0.cell? ⟨w.heap.size, 12, none⟩ = some (.int .i64 d.ro) := hX.cell 12
  have lt_ca := hX.lt
  go_wp2_with fail
  clear ca0 ca1 ca2 ca3 ca4 ca5 ca6 ca7 ca8 ca9 ca10 ca11 ca12 lt_ca
  refine (dwords_yes d y0 d1 d2 HD.out HT.out).mono ?_
  rintro e y1 ⟨v, rfl, hv, hb⟩
  replace HT := Lib.hid (HT.out.below hb)
  obtain ⟨n1, hn1⟩ : ∃ n, 2 + (numsD d).length = n := ⟨_, rfl⟩
  rw [hn1] at hv
  have hb1 : n1 ≤ 10 := by have := nums_le d; omega
  have hb2 : 0 < n1 := by omega
  have HN1 := Lib.hid (show (wordsD d).length = n1 by rw [words_len_eq]; exact hn1)
  clear hn1
  obtain ⟨g1, c1, rfl, hnc1, hcm1, _, hg1⟩ := own_at hv hb2
  have h1 := Sl.of_own hv
  clear hv hg1
  replace h := h.up hb
  replace hB := hB.trans (hb.mono hs)
  replace hs := hB.size
  clear hb
  clear hX
  by_cases hk1 : k < 0
  · clear h h1
    go_wp2
    go_ret
    exact ⟨rfl, hB⟩
  by_cases hk2 : (n1 : Int) ≤ k
  · clear h h1
    go_wp2
    go_ret
    exact ⟨rfl, hB⟩
  by_cases hk3 : 20 < n
  · clear h h1
    go_wp2
    go_ret
    exact ⟨rfl, hB⟩
  obtain ⟨m, rfl⟩ : ∃ m : Nat, k = (m : Int) := ⟨k.toNat, by omega⟩
  have hm1 : m < n1 := by omega
  have hm2 : m ≤ c1 := by omega
  have hS := h1.upto (m := m) (by omega)
  rw [show (vs (wordsD d)).take (m * 1) = vs ((wordsD d).take m) by unfold vs; rw [Nat.mul_one, List.map_take]] at hS
  have HM := Lib.hid (show ((wordsD d).take m).length = m by rw [List.length_take, HN1.out]; omega)
  go_wp2_with fail
  refine (dparse_z (some ⟨g1, 0, none⟩) m c1 ((wordsD d).take m) y1 HM.out (by omega) (fun x hx => Nat.le_trans (words_small HD.out x (List.mem_of_mem_take hx)) (by unfold maxLen; omega)) hS 2 (parse_short HD.out (by rw [HN1.out]; exact hm1))).mono ?_
  rintro e y2 ⟨rfl, hb⟩
  replace HT := Lib.hid (HT.out.below hb)
  clear hS
  replace h := h.up hb
  replace h1 := h1.up hb
  replace hB := hB.trans (hb.mono hs)
  replace hs := hB.size
  clear hb
  go_upto_region 6 with fail
  have hb : Below y2.heap.size y2 (y2.alloc (.cells #[.int .i64 0, .int .i64 0, .int .i64 0, .int .i64 0, .int .i64 0, .int .i64 0, .int .i64 0, .int .i64 0, .int .i64 0, .int .i64 0, .int .i64 0, .int .i64 0, .int .i64 0] 27)) := by (repeat (first | exact Below.refl _ _ | refine Below.alloc ?_ (by first | omega | (simp; done) | (simp; omega)) _ | refine Below.setCell ?_ (by first | omega | (simp; done) | (simp; omega)) _ | refine Below.drew ?_))
  replace HT := Lib.hid (HT.out.below hb)
  replace h := h.up hb
  replace h1 := h1.up hb
  replace hB := hB.trans (hb.mono hs)
  replace hs := hB.size
  clear hb
  generalize y2.alloc (.cells #[.int .i64 0, .int .i64 0, .int .i64 0, .int .i64 0, .int .i64 0, .int .i64 0, .int .i64 0, .int .i64 0, .int .i64 0, .int .i64 0, .int .i64 0, .int .i64 0, .int .i64 0] 27) = y3 at *
  obtain ⟨b4, hb4⟩ : ∃ b, y3.heap.size = b := ⟨_, rfl⟩
  have hE : (y3.alloc (.cells #[] 9)).ownsRow b4 9 1 (.slice (some ⟨b4, 0, none⟩) 0 0) 0 [] := by rw [← hb4]; exact own_lit y3 y3.heap.size 9 1 0 #[] (Nat.le_refl _) rfl (by simp [maxLen])
  have hb : Below y3.heap.size y3 (y3.alloc (.cells #[] 9)) := by (repeat (first | exact Below.refl _ _ | refine Below.alloc ?_ (by first | omega | (simp; done) | (simp; omega)) _ | refine Below.setCell ?_ (by first | omega | (simp; done) | (simp; omega)) _ | refine Below.drew ?_))
  have hh1 := h1.below hb
  have hh := h.below hb
  replace HT := Lib.hid (HT.out.below hb)
  have hB4 := hB.trans (hb.mono hs)
  have hz4 : (y3.alloc (.cells #[] 9)).heap.size = b4 + 1 := by rw [World.size_alloc, hb4]
  have hwb : w.heap.size ≤ b4 := by rw [← hb4]; exact hs
  rw [hb4] at hh1 hh
  clear h h1 hB hs hb
  go_wp2_with (first
    | (at_builtin; refine wpList_append_lst_on _ (by rfl) (.tmp 46) (.tmp 47) 28 rfl b4 9 i0 (.string ByteArray.empty) 1 16 Tryd.underlying28 hi0 hz0 hz1 hz2 rfl (by decide) (.slice (some ⟨b4, 0, none⟩) 0 0) 0 [] (by simp [Act.eval, hb4]) hE _ (some ⟨g1, 0, none⟩) n1 c1 (vs (wordsD d)) rfl hh1.lst (vs_one _) (by unfold maxLen; omega) (by omega) (by omega) ?_
       intro v5 w5 hown5 hg5 hx5
       have r5 : ∀ q, (some b4 : Option Nat) = some q → b4 ≤ q := fun q hq => by injection hq with hq; omega
       have hbw := Below.grown (Below.refl b4 _) hg5 (by rw [hz4]; omega) r5
       replace hh := hh.below hbw
       replace hB4 := Below.grown hB4 hg5 (by omega) (fun q hq => by have := r5 q hq; omega)
       have hz5 := hg5.size
       rw [hz4] at hz5
       clear hE hh1 hz4 hx5 hg5)
    | (at_builtin; refine wpList_append_lst_on _ (by rfl) (.tmp 48) (.tmp 49) 28 rfl b4 9 i0 (.string ByteArray.empty) 1 16 Tryd.underlying28 hi0 hz0 hz1 hz2 rfl (by decide) v5 (0 + n1) ([] ++ vs (wordsD d)) rfl hown5 _ A n c (vs l) rfl hh.lst (vs_one l) (by unfold maxLen; omega) (by omega) (by omega) ?_
       intro v6 w6 hown6 hg6 hx6
       have r6 : ∀ q, v5.ownBlock = some q → b4 ≤ q := fun q hq => (hown5.lt q hq).1
       replace hB4 := Below.grown hB4 hg6 (by omega) (fun q hq => by have := r6 q hq; omega)
       have hs6 := hB4.size
       rw [Nat.zero_add, List.nil_append, ← vs_append] at hown6
       obtain ⟨A6, c6, rfl⟩ := slice_of_own hown6
       have hS6 := Sl.of_own hown6
       clear hown5 hown6 hh hx6 hg6))
  obtain ⟨z, q, hz, hzq⟩ : ∃ z q, parseD (wordsD d ++ l) = (z, q) ∧ ((n = 0 ∧ q = 0) ∨ (0 < n ∧ q = 2)) := by
    cases hle : l with
    | nil => exact ⟨d, 0, by rw [List.append_nil]; exact words_parse HD.out, .inl ⟨by have := HL.out; rw [hle] at this; exact this.symm, rfl⟩⟩
    | cons a r => exact ⟨zeroDr, 2, parse_long HD.out (by simp), .inr ⟨by have := HL.out; rw [hle] at this; simp at this; omega, rfl⟩⟩
  refine (dparse_any A6 (n1 + n) c6 (wordsD d ++ l) _ (by rw [List.length_append, HN1.out, HL.out]) (by omega) (fun x hx => by
    rcases List.mem_append.1 hx with hx | hx
    · exact Nat.le_trans (words_small HD.out x hx) (by unfold maxLen; omega)
    · exact HSZ.out x hx) hS6 z q hz).mono ?_
  rintro e w7 ⟨rfl, hb⟩
  replace hB4 := hB4.trans (hb.mono hs6)
  clear hz hS6 hb
  rcases hzq with ⟨hn0, rfl⟩ | ⟨hn0, rfl⟩
  · subst hn0
    go_wp2
    go_ret
    exact ⟨rfl, hB4.alloc hB4.size _⟩
  · have hne : (((n : Nat) : Int) == 0) = false := by simp; omega
    go_wp2
    go_ret
    exact ⟨rfl, hB4.alloc hB4.size _⟩
theorem directShort_walk (a0 a1 a2 a3 a4 a5 a6 a7 a8 a9 a10 a11 a12 : Int) (k : Int) (A : Option Addr) (n c : Nat) (l : List Bytes) (ha : ∀ m ∈ [a0, a1, a2, a3, a4, a5, a6, a7, a8, a9, a10, a11, a12], (Lit.int .i64 m).wf = true) (_ : (Lit.int .i64 k).wf = true) (hl : l.length = n) (hsz : ∀ x ∈ l, x.length ≤ maxLen) (w : World) (ht : TenTab w) (h : Sl w w.heap.size 1 A n c (vs l)) :
    Calls Tryd.prog 7 #[.agg #[.int .i64 a0, .int .i64 a1, .int .i64 a2, .int .i64 a3, .int .i64 a4, .int .i64 a5, .int .i64 a6, .int .i64 a7, .int .i64 a8, .int .i64 a9, .int .i64 a10, .int .i64 a11, .int .i64 a12], .int .i64 k, .slice A n c] w fun e w' => e = .returned (.bool true) ∧ Below w.heap.size w w' :=
  directShort_any ⟨a0, a1, a2, a3, a4, a5, a6, a7, a8, a9, a10, a11, a12⟩ (ha _ (by simp)) (ha _ (by simp)) k A n c l hl hsz w ht h
theorem directShort_own : ownKnob Tryd.prog.godebug = none := by kernel_rfl
theorem directShort_laidOut : laidOutB Tryd.prog = true := by kernel_rfl
theorem directShort_door (os : Os) (args : Array Value) : laidMetH Tryd.prog Rows.directShortRow.laid ((World.doorLaid Tryd.prog 400 os).forCall (fun _ _ => 0) ⟨#[], args, []⟩).memory :=
  laidMetH_of_parts3 (fuel := 8) (laidMet_of_run' 8 (by kernel_rfl) (by kernel_rfl)) (by kernel_rfl) (by kernel_rfl)

set_option maxHeartbeats 1000000 in
set_option maxRecDepth 100000 in
theorem directShort_lifted (os : Os) (started : os.Started) (H : Type) (enc : TypeId × Value → H) :
    ReturnsInHanded {} Tryd.checked os 7 .any (fun w args => (Rows.directShortSpec.pre enc Tryd.prog Tryd.f7 [] false w args ∧ laidMetH Tryd.prog Rows.directShortRow.laid w) ∧ sizedMet enc Tryd.prog Tryd.f7 (OpenSpec.ofChange Rows.directShortSpec) false w args)
      (Rows.directShortSpec.post enc Tryd.prog Tryd.f7 false true false false) := by
  refine returnsInHanded_of_change_and (C := Tryd.checked) (X := fun w _ => laidMetH Tryd.prog Rows.directShortRow.laid w) (fun _ _ _ hh h => h.of_heap hh) directShort_own started (by kernel_rfl) Tryd.func7
    (ChangeSpec.witness_shaped (enc := enc) (C := Tryd.checked) (os := os) (X := fun w _ => laidMetH Tryd.prog Rows.directShortRow.laid w) false (World.doorLaid Tryd.prog 400 os) #[.agg #[.int .i64 0, .int .i64 0, .int .i64 0, .int .i64 0, .int .i64 0, .int .i64 0, .int .i64 0, .int .i64 0, .int .i64 0, .int .i64 0, .int .i64 0, .int .i64 0, .int .i64 0], .int .i64 0, .slice none 0 0] 8 rfl (World.shaped_of_RefB (by kernel_rfl) (by kernel_rfl)) (by kernel_rfl) (by kernel_rfl) (by kernel_rfl) (directShort_door os _)) ?_
  intro W base args ds gs before hval0 hW _ _ hL _
  have hval : ∀ (j : Nat) t v, Tryd.f7.params[j]? = some t → args[j]? = some v → Value.okWide Tryd.prog W .any base t v := hval0
  have hW' := hW
  obtain ⟨p, q, hA0, hV, rfl, hfz, hnd⟩ := hW
  have hA : DataW.TrodAll enc Tryd.prog W 0 (fun _ => true) true Tryd.f7.params.toList args.toList ds p := hA0
  rw [Tryd.params7] at hA hval
  obtain ⟨v0, vs0, d0, ds0, p0, q0, hargs, rfl, rfl, h0, r0⟩ := trodAll_cons hA
  obtain ⟨v1, vs1, d1, ds1, p1, q1, rfl, rfl, rfl, h1, r1⟩ := trodAll_cons r0
  obtain ⟨v2, vs2, d2, ds2, p2, q2, rfl, rfl, rfl, h2, r2⟩ := trodAll_cons r1
  obtain ⟨rfl, rfl, rfl⟩ := trodAll_nil r2
  obtain rfl : args = #[v0, v1, v2] := by cases args; simp_all
  obtain ⟨rfl, rfl⟩ := trodVars_none hV
  obtain ⟨n0, e0, l0, w0⟩ := open_flat 4 Tryd.underlying27 (by kernel_rfl) (hval 0 27 v0 rfl rfl) h0
  obtain ⟨a0_0, a0_1, a0_2, a0_3, a0_4, a0_5, a0_6, a0_7, a0_8, a0_9, a0_10, a0_11, a0_12, rfl⟩ : ∃ a0_0 a0_1 a0_2 a0_3 a0_4 a0_5 a0_6 a0_7 a0_8 a0_9 a0_10 a0_11 a0_12 : Int, n0 = [a0_0, a0_1, a0_2, a0_3, a0_4, a0_5, a0_6, a0_7, a0_8, a0_9, a0_10, a0_11, a0_12] := by
    rw [show Tryd.prog.cellsOf 27 = 13 by kernel_rfl] at l0
    match n0, l0 with
    | [a0_0, a0_1, a0_2, a0_3, a0_4, a0_5, a0_6, a0_7, a0_8, a0_9, a0_10, a0_11, a0_12], _ => exact ⟨_, _, _, _, _, _, _, _, _, _, _, _, _, rfl⟩
  obtain rfl : v0 = .agg #[.int .i64 a0_0, .int .i64 a0_1, .int .i64 a0_2, .int .i64 a0_3, .int .i64 a0_4, .int .i64 a0_5, .int .i64 a0_6, .int .i64 a0_7, .int .i64 a0_8, .int .i64 a0_9, .int .i64 a0_10, .int .i64 a0_11, .int .i64 a0_12] := e0
  obtain ⟨a1, rfl, rfl, rfl, w1⟩ := open_int Tryd.underlying3 (hval 1 3 v1 rfl rfl) h1
  obtain ⟨A2, n2, c2, ns2, rfl, hl2, nl2, w2⟩ := open_texts Tryd.underlying28 Tryd.underlying9 (by kernel_rfl) (hval 2 28 v2 rfl rfl) h2
  clear hA0 hval0
  refine (directShort_walk a0_0 a0_1 a0_2 a0_3 a0_4 a0_5 a0_6 a0_7 a0_8 a0_9 a0_10 a0_11 a0_12 a1 A2 n2 c2 ns2 w0 w1 nl2 w2 W (ten_of_laid hL) hl2).mono fun e W' ⟨he, bel⟩ => ?_
  subst he
  exact ⟨_, rfl, law_post directShort_laidOut (by kernel_rfl) rfl Tryd.underlying4 rfl rfl hW' bel⟩

theorem directShort_holds : Rows.DirectShortSaid :=
  OpenClaim.holds_of_wide 7 Tryd.f7 rfl rfl rfl rfl rfl rfl rfl ⟨rfl, rfl, rfl, rfl, rfl⟩ rfl rfl rfl rfl rfl (by kernel_rfl) Tryd.func7 (by kernel_rfl)
    (of_decide_eq_true (by kernel_rfl)) (by unfold Func.isWrapper; first | (rw [if_pos (by decide +kernel)]; kernel_rfl) | (rw [if_neg (by decide +kernel)]; exact ⟨rfl, rfl⟩))
    (fun os started H enc _ => directShort_lifted os started H enc)

theorem directShort_proved : Rows.DirectShortCardSaid :=
  Claim7.holds_tied_plain_at .later [] Rows.directShortCard.laidKinds true Rows.directShortCard.stood.harness false
    directShort_holds (fun _ h => by cases h) (by kernel_rfl) (fun _ h => by cases h) directShort_row_tie rfl ⟨rfl, rfl⟩ (by kernel_rfl) rfl
    (fun f fn hf hfn => by
      obtain rfl : f = 7 := Option.some.inj ((show Tryd.prog.funcNamed "felucca/feluccalaw04.DirectShort" = some 7 by kernel_rfl).symm.trans hf) |>.symm
      obtain rfl : fn = Tryd.f7 := (Option.some.inj (Tryd.func7.symm.trans hfn)).symm
      exact ⟨by kernel_rfl, fun j t ht => by
        rw [Tryd.params7] at ht
        have hm : t ∈ [27, 3, 28] := by simpa using Array.mem_of_getElem? ht
        have hall : ([27, 3, 28].all fun u => !Tryd.prog.wantsStandIn u) = true := by kernel_rfl
        exact (show Tryd.prog.wantsStandIn t = false by simpa using List.all_eq_true.1 hall t hm)⟩)
    (by kernel_rfl)
#print axioms directShort_proved
end Go.Proofs.YtkdfloeglknmnaaDoor
