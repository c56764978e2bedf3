
/- Of two texts of lines the directives are those of both: TextJoins returns true for every two texts. It reads tables of the library's. -/
import Derived.Test.YtcclfmaockapjaaDoorRows
import Derived.Test.YtcclfmaockapjaaDoorTie
import Derived.Test.YtcclfmaockapjaaDoorCards
import Derived.Test.YtcclfmaockapjaaDoorTxMath
import Derived.Test.YtcclfmaockapjaaDoorTen05
import Derived.Test.YtcclfmaockapjaaDoorApOn
import Derived.Test.YtcclfmaockapjaaDoorFacts5
import Derived.Test.YtcclfmaockapjaaDoorQTail
namespace Go.Proofs.YtcclfmaockapjaaDoor
open Go.ChangeShapes Go.WideShapes Go.ChangeAt Go.RowKit Go.Sort
set_option linter.unusedSimpArgs false
set_option linter.unusedVariables false
theorem joins_plain (a b : List Bytes) (da db dc : List Dr) (la ca lb cb lc cc : Int) (ha : textF a 1 = (da, la, ca)) (hb : textF b 1 = (db, lb, cb)) (hc : textF (a ++ b) 1 = (dc, lc, cc)) :
    (ca ≠ 0 → dc = [] ∧ lc = la ∧ cc = ca) ∧ (ca = 0 → cb ≠ 0 → cc = cb ∧ lc = lb + a.length ∧ 1 ≤ lb ∧ lb ≤ b.length) ∧ (ca = 0 → cb = 0 → dc = da ++ db ∧ lc = 0 ∧ cc = 0) := by
  have hj := text_join a b 1
  rw [ha, hc, show (1 : Int) + (a.length : Int) = 1 + (a.length : Int) from rfl, text_shift b 1 a.length, hb] at hj
  dsimp only at hj
  refine ⟨fun h => ?_, fun h h2 => ?_, fun h h2 => ?_⟩
  · rw [if_neg h] at hj
    have hf := (text_fault a 1 (by rw [ha]; exact h)).1
    rw [ha] at hf
    dsimp only at hf
    subst hf
    injection hj with h1 h2
    injection h2 with h2 h3
    exact ⟨h1, h2, h3⟩
  · rw [if_pos h] at hj
    have hf := text_fault b 1 (by rw [hb]; exact h2)
    rw [hb] at hf
    dsimp only at hf
    unfold addF at hj
    rw [if_neg (by exact h2), if_neg h2] at hj
    injection hj with h3 h4
    injection h4 with h4 h5
    exact ⟨h5, h4, hf.2.1, by omega⟩
  · rw [if_pos h] at hj
    unfold addF at hj
    rw [if_pos (by exact h2), if_pos h2] at hj
    injection hj with h3 h4
    injection h4 with h4 h5
    exact ⟨h3, h4, by rw [h5]; exact h2⟩
set_option maxHeartbeats 16000000 in
set_option maxRecDepth 100000 in
theorem tjoins_law (s0 t0 : ByteArray) (w : World) (ht : TenTab w) (hm : MaxAt w) :
    Calls Tryd.prog 5 #[.string s0, .string t0] w fun e w' => e = .returned (.bool true) ∧ Below w.heap.size w w' := by
  obtain ⟨i0, hi0, hz0, hz1, hz2⟩ := info_parts infoDr
  have HT := Lib.hid (fun w' (hb : Below w.heap.size w w') => ht.below hb)
  have HM := Lib.hid (fun w' (hb : Below w.heap.size w w') => hm.below hb)
  have hB := Below.refl w.heap.size w
  have hs := Nat.le_refl w.heap.size
  clear ht hm
  go_enter Tryd.func5, Tryd.ntmps5
  go_wp2_with fail
  refine (small05_any w (HT.out w hB) (HM.out w hB)).mono ?_
  rintro e y0 ⟨rfl, hb⟩
  replace hB := hB.trans (hb.mono hs)
  replace hs := hB.size
  clear hb
  by_cases hn1 : 1000 < s0.size
  · go_wp2
    go_ret
    exact ⟨rfl, hB⟩
  by_cases hn2 : 1000 < t0.size
  · go_wp2
    go_ret
    exact ⟨rfl, hB⟩
  obtain ⟨u0, hu0⟩ : ∃ u, s0 ++ (⟨#[10]⟩ : ByteArray) = u := ⟨_, rfl⟩
  obtain ⟨v0, hv0⟩ : ∃ u, s0 ++ (⟨#[10]⟩ : ByteArray) ++ t0 = u := ⟨_, rfl⟩
  obtain ⟨s, hs0⟩ : ∃ s, s0.data.toList = s := ⟨_, rfl⟩
  obtain ⟨t, ht0⟩ : ∃ t, t0.data.toList = t := ⟨_, rfl⟩
  have hu : u0.data.toList = s ++ [10] := by rw [← hu0, ← bs_of s0, hs0, show (⟨#[10]⟩ : ByteArray) = bs [10] from rfl, bs_append, bs_list]
  have hv : v0.data.toList = s ++ [10] ++ t := by rw [← hv0, ← bs_of s0, ← bs_of t0, hs0, ht0, show (⟨#[10]⟩ : ByteArray) = bs [10] from rfl, bs_append, bs_append, bs_list]
  have hls : s.length ≤ 1000 := by rw [← hs0, ← size_list]; omega
  have hlt : t.length ≤ 1000 := by rw [← ht0, ← size_list]; omega
  have hus : (s0 ++ (⟨#[10]⟩ : ByteArray)).size ≤ 1001 := by rw [ByteArray.size_append]; have : (⟨#[10]⟩ : ByteArray).size = 1 := rfl; omega
  have hvs : (s0 ++ (⟨#[10]⟩ : ByteArray) ++ t0).size ≤ 2001 := by rw [ByteArray.size_append]; omega
  obtain ⟨a, ha⟩ : ∃ a, linesL (s ++ [10]) = a := ⟨_, rfl⟩
  obtain ⟨b, hb⟩ : ∃ b, linesL t = b := ⟨_, rfl⟩
  have hab : linesL (s ++ [10] ++ t) = a ++ b := by rw [lines_join, ha, hb]
  obtain ⟨na, hna⟩ : ∃ k, a.length = k := ⟨_, rfl⟩
  obtain ⟨nb, hnb⟩ : ∃ k, b.length = k := ⟨_, rfl⟩
  have hna1 : na ≤ 1002 := by rw [← hna, ← ha]; have := lines_len (s ++ [10]); simp at this; omega
  have hnb1 : nb ≤ 1001 := by rw [← hnb, ← hb]; have := lines_len t; omega
  obtain ⟨da, la, ca, hza⟩ : ∃ ds ln cd, textF a 1 = (ds, ln, cd) := ⟨_, _, _, rfl⟩
  obtain ⟨db, lb, cb, hzb⟩ : ∃ ds ln cd, textF b 1 = (ds, ln, cd) := ⟨_, _, _, rfl⟩
  obtain ⟨dc, lc, cc, hzc⟩ : ∃ ds ln cd, textF (a ++ b) 1 = (ds, ln, cd) := ⟨_, _, _, rfl⟩
  have HPL := Lib.hid (joins_plain a b da db dc la ca lb cb lc cc hza hzb hzc)
  have HLA := Lib.hid (fun (h : ca = 0) => (textF_bound a 1 (by rw [hza]; exact h)).2)
  have HLB := Lib.hid (fun (h : cb = 0) => (textF_bound b 1 (by rw [hzb]; exact h)).2)
  rw [hza, hna] at HLA
  rw [hzb, hnb] at HLB
  rw [hna, hnb] at HPL
  have HZA := Lib.hid hza
  have HZB := Lib.hid hzb
  have HZC := Lib.hid hzc
  have HNA := Lib.hid hna
  have HNB := Lib.hid hnb
  have HRA := Lib.hid (show linesL u0.data.toList = a by rw [hu]; exact ha)
  have HRB := Lib.hid (show linesL t0.data.toList = b by rw [ht0]; exact hb)
  have HRC := Lib.hid (show linesL v0.data.toList = a ++ b by rw [hv]; exact hab)
  have HU0 := Lib.hid hu0
  have HV0 := Lib.hid hv0
  have HSA := Lib.hid (show u0.data.toList.length ≤ 50000 by rw [hu]; simp; omega)
  have HSB := Lib.hid (show t0.data.toList.length ≤ 50000 by rw [ht0]; omega)
  have HSC := Lib.hid (show v0.data.toList.length ≤ 50000 by rw [hv]; simp; omega)
  clear hu0 hv0 hs0 ht0 hu hv hls hlt ha hb hab hna hnb hza hzb hzc
  go_wp2_with fail
  rw [HU0.out]
  refine (tparse_any u0 a na HRA.out HNA.out y0 (HM.out y0 hB) HSA.out da la ca HZA.out).mono ?_
  rintro e y1 ⟨v, rfl, hv, hb⟩
  obtain ⟨nda, hnda⟩ : ∃ k, da.length = k := ⟨_, rfl⟩
  rw [hnda] at hv
  have HNDA := Lib.hid hnda
  clear hnda
  obtain ⟨A1, c1, rfl⟩ := slice_of_own hv
  have l1 := Sl.of_own hv
  clear hv
  replace hB := hB.trans (hb.mono hs)
  replace hs := hB.size
  clear hb
  go_upto_region 5 with fail
  have hf := Blok.new y1 35 #[.int .i64 la, .int .i64 ca]
  have hb : Below y1.heap.size y1 (y1.alloc (.cells #[.int .i64 la, .int .i64 ca] 35)) := by (repeat (first | exact Below.refl _ _ | refine Below.alloc ?_ (by first | omega | (simp; done) | (simp; omega)) _ | refine Below.setCell ?_ (by first | omega | (simp; done) | (simp; omega)) _ | refine Below.drew ?_))
  replace l1 := l1.up hb
  replace hB := hB.trans (hb.mono hs)
  replace hs := hB.size
  clear hb
  generalize y1.alloc (.cells #[.int .i64 la, .int .i64 ca] 35) = y2 at *
  generalize hzz : y1.heap.size = bf at *
  clear hzz
  go_wp2_with fail
  refine (tparse_any t0 b nb HRB.out HNB.out y2 (HM.out y2 hB) HSB.out db lb cb HZB.out).mono ?_
  rintro e y3 ⟨v, rfl, hv, hb⟩
  obtain ⟨ndb, hndb⟩ : ∃ k, db.length = k := ⟨_, rfl⟩
  rw [hndb] at hv
  have HNDB := Lib.hid hndb
  clear hndb
  obtain ⟨A2, c2, rfl⟩ := slice_of_own hv
  have l2 := Sl.of_own hv
  clear hv
  replace l1 := l1.up hb
  replace hf := hf.below hb hf.lt
  replace hB := hB.trans (hb.mono hs)
  replace hs := hB.size
  clear hb
  go_upto_region 6 with fail
  have hg := Blok.new y3 35 #[.int .i64 lb, .int .i64 cb]
  have hb : Below y3.heap.size y3 (y3.alloc (.cells #[.int .i64 lb, .int .i64 cb] 35)) := by (repeat (first | exact Below.refl _ _ | refine Below.alloc ?_ (by first | omega | (simp; done) | (simp; omega)) _ | refine Below.setCell ?_ (by first | omega | (simp; done) | (simp; omega)) _ | refine Below.drew ?_))
  replace l1 := l1.up hb
  replace l2 := l2.up hb
  replace hf := hf.below hb hf.lt
  replace hB := hB.trans (hb.mono hs)
  replace hs := hB.size
  clear hb
  generalize y3.alloc (.cells #[.int .i64 lb, .int .i64 cb] 35) = y4 at *
  generalize hzz : y3.heap.size = bg at *
  clear hzz
  go_wp2_with fail
  rw [HV0.out]
  refine (tparse_any v0 (a ++ b) (na + nb) HRC.out (by rw [List.length_append, HNA.out, HNB.out]) y4 (HM.out y4 hB) HSC.out dc lc cc HZC.out).mono ?_
  rintro e y5 ⟨v, rfl, hv, hb⟩
  obtain ⟨ndc, hndc⟩ : ∃ k, dc.length = k := ⟨_, rfl⟩
  rw [hndc] at hv
  have HNDC := Lib.hid hndc
  clear hndc
  obtain ⟨A3, c3, rfl⟩ := slice_of_own hv
  have l3 := Sl.of_own hv
  clear hv
  replace l1 := l1.up hb
  replace l2 := l2.up hb
  replace hf := hf.below hb hf.lt
  replace hg := hg.below hb hg.lt
  replace hB := hB.trans (hb.mono hs)
  replace hs := hB.size
  clear hb
  go_upto_region 7 with fail
  have hh := Blok.new y5 35 #[.int .i64 lc, .int .i64 cc]
  have hb : Below y5.heap.size y5 (y5.alloc (.cells #[.int .i64 lc, .int .i64 cc] 35)) := by (repeat (first | exact Below.refl _ _ | refine Below.alloc ?_ (by first | omega | (simp; done) | (simp; omega)) _ | refine Below.setCell ?_ (by first | omega | (simp; done) | (simp; omega)) _ | refine Below.drew ?_))
  replace l1 := l1.up hb
  replace l2 := l2.up hb
  replace l3 := l3.up hb
  replace hf := hf.below hb hf.lt
  replace hg := hg.below hb hg.lt
  replace hB := hB.trans (hb.mono hs)
  replace hs := hB.size
  clear hb
  generalize y5.alloc (.cells #[.int .i64 lc, .int .i64 cc] 35) = y6 at *
  generalize hzz : y5.heap.size = bh at *
  clear hzz
  have k_f0 : y6.cell? ⟨bf, 0, none⟩ = some (.int .i64 la) := hf.cell 0
  have k_f1 : y6.cell? ⟨bf, 1, none⟩ = some (.int .i64 ca) := hf.cell 1
  have lt_f := hf.lt
  have k_g0 : y6.cell? ⟨bg, 0, none⟩ = some (.int .i64 lb) := hg.cell 0
  have k_g1 : y6.cell? ⟨bg, 1, none⟩ = some (.int .i64 cb) := hg.cell 1
  have lt_g := hg.lt
  have k_h0 : y6.cell? ⟨bh, 0, none⟩ = some (.int .i64 lc) := hh.cell 0
  have k_h1 : y6.cell? ⟨bh, 1, none⟩ = some (.int .i64 cc) := hh.cell 1
  have lt_h := hh.lt
  by_cases hca : ca = 0
  · subst hca
    by_cases hcb : cb = 0
    · subst hcb
      obtain ⟨q1, q2, q3⟩ := HPL.out.2.2 rfl rfl
      subst q1 q2 q3
      have hEQ : ∀ w0 : World, (binOp .eql 35 (.agg #[.int .i64 0, .int .i64 0]) (.agg #[.int .i64 0, .int .i64 0])).run Tryd.prog w0 = .ok (.bool true) w0 := fun w0 => by have h := eqlFt 0 0 0 0 w0; simpa using h
      have hba := HLA.out rfl
      have hbb := HLB.out rfl
      try dsimp only at hba hbb
      rw [HNDA.out] at hba
      rw [HNDB.out] at hbb
      have hndc : ndc = nda + ndb := by have := HNDC.out; rw [List.length_append, HNDA.out, HNDB.out] at this; exact this.symm
      subst hndc
      obtain ⟨b6, hb6⟩ : ∃ b, y6.heap.size = b := ⟨_, rfl⟩
      have hE : (y6.alloc (.cells #[] 32)).ownsRow b6 32 13 (.slice (some ⟨b6, 0, none⟩) 0 0) 0 [] := by rw [← hb6]; exact own_lit y6 y6.heap.size 32 13 0 #[] (Nat.le_refl _) rfl (by simp [maxLen])
      have hb : Below y6.heap.size y6 (y6.alloc (.cells #[] 32)) := by (repeat (first | exact Below.refl _ _ | refine Below.alloc ?_ (by first | omega | (simp; done) | (simp; omega)) _ | refine Below.setCell ?_ (by first | omega | (simp; done) | (simp; omega)) _ | refine Below.drew ?_))
      have k1 := l1.below hb
      have k2 := l2.below hb
      have k3 := l3.below hb
      have hB4 := hB.trans (hb.mono hs)
      have hz4 : (y6.alloc (.cells #[] 32)).heap.size = b6 + 1 := by rw [World.size_alloc, hb6]
      have hwb : w.heap.size ≤ b6 := by rw [← hb6]; exact hs
      rw [hb6] at k1 k2 k3
      clear hf hg hh l1 l2 l3 hB hs hb
      go_wp2_with (first
        | (at_builtin; refine wpList_append_lst_on _ (by rfl) (.tmp 86) (.tmp 87) 22 rfl b6 32 i0 _ 13 104 Tryd.underlying22 hi0 hz0 hz1 hz2 rfl (by decide) (.slice (some ⟨b6, 0, none⟩) 0 0) 0 [] (by simp [Act.eval, hb6]) hE _ A1 nda c1 (flatDr da) rfl k1.lst (flatDr_one _) (by unfold maxLen; omega) (by omega) (by omega) ?_
           intro v7 w7 hown7 hg7 hx7
           have r7 : ∀ q, (some b6 : Option Nat) = some q → b6 ≤ q := fun q hq => by injection hq with hq; omega
           have hbw := Below.grown (Below.refl b6 _) hg7 (by rw [hz4]; omega) r7
           replace k2 := k2.below hbw
           replace k3 := k3.below hbw
           replace hB4 := Below.grown hB4 hg7 (by omega) (fun q hq => by have := r7 q hq; omega)
           have hz7 := hg7.size
           rw [hz4] at hz7
           clear hE k1 hz4 hx7 hg7 hbw)
        | (at_builtin; refine wpList_append_lst_on _ (by rfl) (.tmp 88) (.tmp 89) 22 rfl b6 32 i0 _ 13 104 Tryd.underlying22 hi0 hz0 hz1 hz2 rfl (by decide) v7 (0 + nda) ([] ++ flatDr da) rfl hown7 _ A2 ndb c2 (flatDr db) rfl k2.lst (flatDr_one _) (by unfold maxLen; omega) (by omega) (by omega) ?_
           intro v8 w8 hown8 hg8 hx8
           have r8 : ∀ q, v7.ownBlock = some q → b6 ≤ q := fun q hq => (hown7.lt q hq).1
           have hbw := Below.grown (Below.refl b6 _) hg8 (by omega) r8
           replace k3 := k3.below hbw
           replace hB4 := Below.grown hB4 hg8 (by omega) (fun q hq => by have := r8 q hq; omega)
           have hs8 := hB4.size
           have hz8 := hg8.size
           rw [Nat.zero_add, List.nil_append, ← flatDr_append] at hown8
           obtain ⟨A8, c8, rfl⟩ := slice_of_own hown8
           have k8 := Sl.of_own hown8
           replace k3 := k3.more (show b6 ≤ w8.heap.size by omega)
           clear hown7 hown8 k2 hx8 hg8 hbw))
      refine (fsame_is A3 A8 (nda + ndb) c3 (nda + ndb) c8 (da ++ db) (da ++ db) true (decide_eq_true rfl) _ HNDC.out HNDC.out (by omega) k3 k8).mono ?_
      rintro e w9 ⟨rfl, hb⟩
      replace hB4 := hB4.trans (hb.mono hs8)
      clear k3 k8 hb
      go_wp2_with fail
      go_ret
      exact ⟨rfl, hB4⟩
    · obtain ⟨q1, q2, q3, q4⟩ := HPL.out.2.1 rfl hcb
      subst q1 q2
      have hcq : (cc != 0) = true := by simpa using hcb
      have hwr : IntKind.i64.wrap (lb + (na : Int)) = lb + (na : Int) := IntWalk.i64_in _ (by omega)
      have hlt0 : ¬ 9223372036854775807 < s0.size + 1 := by omega
      have hu9 := HU0.out
      clear hf hg hh l1 l2 l3 hcb
      go_upto_region 10 with fail
      have HB6 := Lib.hid (fun (w' : World) (hb : Below y6.heap.size y6 w') => hB.trans (hb.mono hs))
      clear HPL HLA HLB HZA HZB HZC HRB HRC
      refine gen_frame ?_
      intro a0 ha0
      try simp only [List.append]
      refine wp_region_frames rfl (by kernel_rfl) (by kernel_rfl) (fun V x w' => Below y6.heap.size y6 w' ∧ (V.getD 0 true = true → x 0 = .bool true) ∧ (V.getD 1 true = true → x 1 = .bool true) ∧ (V.getD 2 true = true → x 2 = .pointer (some ⟨bh, 1, none⟩)) ∧ (V.getD 3 true = true → x 3 = .int .i64 cc) ∧ (V.getD 4 true = true → x 4 = .pointer (some ⟨bg, 1, none⟩)) ∧ (V.getD 5 true = true → x 5 = .int .i64 cc) ∧ (V.getD 6 true = true → x 6 = .bool true) ∧ (V.getD 7 true = true → x 7 = .bool true) ∧ (V.getD 8 true = true → x 8 = .bool true) ∧ (V.getD 9 true = true → x 9 = .pointer (some ⟨bh, 0, none⟩)) ∧ (V.getD 10 true = true → x 10 = .int .i64 (lb + (na : Int))) ∧ (V.getD 11 true = true → x 11 = .pointer (some ⟨bg, 0, none⟩)) ∧ (V.getD 12 true = true → x 12 = .int .i64 lb) ∧ (V.getD 13 true = true → x 13 = .string s0) ∧ (V.getD 14 true = true → x 14 = .string u0) ∧ (V.getD 15 true = true → ∃ A8 c8, x 15 = .slice A8 na c8) ∧ (V.getD 16 true = true → x 16 = .int .i64 (na : Int)) ∧ (V.getD 17 true = true → x 17 = .int .i64 (lb + (na : Int))) ∧ (V.getD 18 true = true → x 18 = .bool true) ∧ (V.getD 19 true = true → x 19 = .bool true) ∧ (V.getD 20 true = true → x 20 = .bool true)) ?_ ?_ ?_
      · intro x
        refine ⟨(Below.refl _ _).drew, ?_, ?_, ?_, ?_, ?_, ?_, ?_, ?_, ?_, ?_, ?_, ?_, ?_, ?_, ?_, ?_, ?_, ?_, ?_, ?_, ?_⟩ <;> exact fun h => by simp at h
      · intro V x b w' hbq hsz hF i hi hun haf hcl
        obtain ⟨hBw, f0, f1, f2, f3, f4, f5, f6, f7, f8, f9, f10, f11, f12, f13, f14, f15, f16, f17, f18, f19, f20⟩ := hF
        have hbe : b = putAll a0 [some 58, some 59, some 60, some 61, some 62, some 63, some 64, some 65, some 66, some 67, some 68, some 69, some 70, some 71, some 72, some 73, some 74, some 75, some 76, some 77, some 4] x 0 := hbq
        have hz0 : a0.tmps.size = 93 := by rw [ha0]; rfl
        have e5 : b.eval (.tmp 5) = .bool true := by rw [hbe, eval_out _ _ _ (by decide), ha0]; rfl
        have t5 : b.tmps[5]?.getD undef = .bool true := by simpa [Act.eval] using e5
        have e11 : b.eval (.tmp 11) = .pointer (some ⟨bh, 0, none⟩) := by rw [hbe, eval_out _ _ _ (by decide), ha0]; rfl
        have t11 : b.tmps[11]?.getD undef = .pointer (some ⟨bh, 0, none⟩) := by simpa [Act.eval] using e11
        have e9 : b.eval (.tmp 9) = .pointer (some ⟨bg, 0, none⟩) := by rw [hbe, eval_out _ _ _ (by decide), ha0]; rfl
        have t9 : b.tmps[9]?.getD undef = .pointer (some ⟨bg, 0, none⟩) := by simpa [Act.eval] using e9
        have e0 : b.eval (.tmp 0) = .string s0 := by rw [hbe, eval_out _ _ _ (by decide), ha0]; rfl
        have t0 : b.tmps[0]?.getD undef = .string s0 := by simpa [Act.eval] using e0
        clear hbq
        have hi' : i < 21 := hi
        clear hi
        obtain rfl | rfl | rfl | rfl | rfl | rfl | rfl | rfl | rfl | rfl | rfl | rfl | rfl | rfl | rfl | rfl | rfl | rfl | rfl | rfl | rfl : i = 0 ∨ i = 1 ∨ i = 2 ∨ i = 3 ∨ i = 4 ∨ i = 5 ∨ i = 6 ∨ i = 7 ∨ i = 8 ∨ i = 9 ∨ i = 10 ∨ i = 11 ∨ i = 12 ∨ i = 13 ∨ i = 14 ∨ i = 15 ∨ i = 16 ∨ i = 17 ∨ i = 18 ∨ i = 19 ∨ i = 20 := by omega
        · refine wpOp_runs (v := .bool true) rfl rfl (by simp [execOp, go_sem, t5]) ⟨_, _, rfl, rfl, ⟨hBw, fun _ => upd_same _ _ _, fun h => by rw [upd_ne x _ (by decide)]; exact f1 (by rw [← getD_set_ne true (show 0 ≠ 1 by decide)]; exact h), fun h => by rw [upd_ne x _ (by decide)]; exact f2 (by rw [← getD_set_ne true (show 0 ≠ 2 by decide)]; exact h), fun h => by rw [upd_ne x _ (by decide)]; exact f3 (by rw [← getD_set_ne true (show 0 ≠ 3 by decide)]; exact h), fun h => by rw [upd_ne x _ (by decide)]; exact f4 (by rw [← getD_set_ne true (show 0 ≠ 4 by decide)]; exact h), fun h => by rw [upd_ne x _ (by decide)]; exact f5 (by rw [← getD_set_ne true (show 0 ≠ 5 by decide)]; exact h), fun h => by rw [upd_ne x _ (by decide)]; exact f6 (by rw [← getD_set_ne true (show 0 ≠ 6 by decide)]; exact h), fun h => by rw [upd_ne x _ (by decide)]; exact f7 (by rw [← getD_set_ne true (show 0 ≠ 7 by decide)]; exact h), fun h => by rw [upd_ne x _ (by decide)]; exact f8 (by rw [← getD_set_ne true (show 0 ≠ 8 by decide)]; exact h), fun h => by rw [upd_ne x _ (by decide)]; exact f9 (by rw [← getD_set_ne true (show 0 ≠ 9 by decide)]; exact h), fun h => by rw [upd_ne x _ (by decide)]; exact f10 (by rw [← getD_set_ne true (show 0 ≠ 10 by decide)]; exact h), fun h => by rw [upd_ne x _ (by decide)]; exact f11 (by rw [← getD_set_ne true (show 0 ≠ 11 by decide)]; exact h), fun h => by rw [upd_ne x _ (by decide)]; exact f12 (by rw [← getD_set_ne true (show 0 ≠ 12 by decide)]; exact h), fun h => by rw [upd_ne x _ (by decide)]; exact f13 (by rw [← getD_set_ne true (show 0 ≠ 13 by decide)]; exact h), fun h => by rw [upd_ne x _ (by decide)]; exact f14 (by rw [← getD_set_ne true (show 0 ≠ 14 by decide)]; exact h), fun h => by obtain ⟨A8, c8, hx⟩ := f15 (by rw [← getD_set_ne true (show 0 ≠ 15 by decide)]; exact h); exact ⟨A8, c8, by rw [upd_ne x _ (by decide)]; exact hx⟩, fun h => by rw [upd_ne x _ (by decide)]; exact f16 (by rw [← getD_set_ne true (show 0 ≠ 16 by decide)]; exact h), fun h => by rw [upd_ne x _ (by decide)]; exact f17 (by rw [← getD_set_ne true (show 0 ≠ 17 by decide)]; exact h), fun h => by rw [upd_ne x _ (by decide)]; exact f18 (by rw [← getD_set_ne true (show 0 ≠ 18 by decide)]; exact h), fun h => by rw [upd_ne x _ (by decide)]; exact f19 (by rw [← getD_set_ne true (show 0 ≠ 19 by decide)]; exact h), fun h => by rw [upd_ne x _ (by decide)]; exact f20 (by rw [← getD_set_ne true (show 0 ≠ 20 by decide)]; exact h)⟩⟩
        · have d0 := getD_ft (haf _ rfl ⟨0, .data⟩ (by simp) rfl)
          have e58 : b.eval (.tmp 58) = .bool true := by rw [hbe, eval_in _ _ _ 0 (by decide) rfl (by rw [hz0]; decide)]; exact f0 d0
          have t58 : b.tmps[58]?.getD undef = .bool true := by have tv := e58; simpa only [Act.eval, Array.getD_eq_getD_getElem?] using tv
          refine wpOp_runs (v := .bool true) rfl rfl (by simp [execOp, go_sem, t58]) ⟨_, _, rfl, rfl, ⟨hBw, fun h => by rw [upd_ne x _ (by decide)]; exact f0 (by rw [← getD_set_ne true (show 1 ≠ 0 by decide)]; exact h), fun _ => upd_same _ _ _, fun h => by rw [upd_ne x _ (by decide)]; exact f2 (by rw [← getD_set_ne true (show 1 ≠ 2 by decide)]; exact h), fun h => by rw [upd_ne x _ (by decide)]; exact f3 (by rw [← getD_set_ne true (show 1 ≠ 3 by decide)]; exact h), fun h => by rw [upd_ne x _ (by decide)]; exact f4 (by rw [← getD_set_ne true (show 1 ≠ 4 by decide)]; exact h), fun h => by rw [upd_ne x _ (by decide)]; exact f5 (by rw [← getD_set_ne true (show 1 ≠ 5 by decide)]; exact h), fun h => by rw [upd_ne x _ (by decide)]; exact f6 (by rw [← getD_set_ne true (show 1 ≠ 6 by decide)]; exact h), fun h => by rw [upd_ne x _ (by decide)]; exact f7 (by rw [← getD_set_ne true (show 1 ≠ 7 by decide)]; exact h), fun h => by rw [upd_ne x _ (by decide)]; exact f8 (by rw [← getD_set_ne true (show 1 ≠ 8 by decide)]; exact h), fun h => by rw [upd_ne x _ (by decide)]; exact f9 (by rw [← getD_set_ne true (show 1 ≠ 9 by decide)]; exact h), fun h => by rw [upd_ne x _ (by decide)]; exact f10 (by rw [← getD_set_ne true (show 1 ≠ 10 by decide)]; exact h), fun h => by rw [upd_ne x _ (by decide)]; exact f11 (by rw [← getD_set_ne true (show 1 ≠ 11 by decide)]; exact h), fun h => by rw [upd_ne x _ (by decide)]; exact f12 (by rw [← getD_set_ne true (show 1 ≠ 12 by decide)]; exact h), fun h => by rw [upd_ne x _ (by decide)]; exact f13 (by rw [← getD_set_ne true (show 1 ≠ 13 by decide)]; exact h), fun h => by rw [upd_ne x _ (by decide)]; exact f14 (by rw [← getD_set_ne true (show 1 ≠ 14 by decide)]; exact h), fun h => by obtain ⟨A8, c8, hx⟩ := f15 (by rw [← getD_set_ne true (show 1 ≠ 15 by decide)]; exact h); exact ⟨A8, c8, by rw [upd_ne x _ (by decide)]; exact hx⟩, fun h => by rw [upd_ne x _ (by decide)]; exact f16 (by rw [← getD_set_ne true (show 1 ≠ 16 by decide)]; exact h), fun h => by rw [upd_ne x _ (by decide)]; exact f17 (by rw [← getD_set_ne true (show 1 ≠ 17 by decide)]; exact h), fun h => by rw [upd_ne x _ (by decide)]; exact f18 (by rw [← getD_set_ne true (show 1 ≠ 18 by decide)]; exact h), fun h => by rw [upd_ne x _ (by decide)]; exact f19 (by rw [← getD_set_ne true (show 1 ≠ 19 by decide)]; exact h), fun h => by rw [upd_ne x _ (by decide)]; exact f20 (by rw [← getD_set_ne true (show 1 ≠ 20 by decide)]; exact h)⟩⟩
        · have d1 := getD_ft (haf _ rfl ⟨1, .guard⟩ (by simp) rfl)
          have e59 : b.eval (.tmp 59) = .bool true := by rw [hbe, eval_in _ _ _ 1 (by decide) rfl (by rw [hz0]; decide)]; exact f1 d1
          have t59 : b.tmps[59]?.getD undef = .bool true := by have tv := e59; simpa only [Act.eval, Array.getD_eq_getD_getElem?] using tv
          refine wpOp_runs_on (v := .pointer (some ⟨bh, 1, none⟩)) rfl (wanted_on rfl rfl rfl t59) (by simp [execOp, go_sem, t11]) ⟨_, _, rfl, rfl, ⟨hBw, fun h => by rw [upd_ne x _ (by decide)]; exact f0 (by rw [← getD_set_ne true (show 2 ≠ 0 by decide)]; exact h), fun h => by rw [upd_ne x _ (by decide)]; exact f1 (by rw [← getD_set_ne true (show 2 ≠ 1 by decide)]; exact h), fun _ => upd_same _ _ _, fun h => by rw [upd_ne x _ (by decide)]; exact f3 (by rw [← getD_set_ne true (show 2 ≠ 3 by decide)]; exact h), fun h => by rw [upd_ne x _ (by decide)]; exact f4 (by rw [← getD_set_ne true (show 2 ≠ 4 by decide)]; exact h), fun h => by rw [upd_ne x _ (by decide)]; exact f5 (by rw [← getD_set_ne true (show 2 ≠ 5 by decide)]; exact h), fun h => by rw [upd_ne x _ (by decide)]; exact f6 (by rw [← getD_set_ne true (show 2 ≠ 6 by decide)]; exact h), fun h => by rw [upd_ne x _ (by decide)]; exact f7 (by rw [← getD_set_ne true (show 2 ≠ 7 by decide)]; exact h), fun h => by rw [upd_ne x _ (by decide)]; exact f8 (by rw [← getD_set_ne true (show 2 ≠ 8 by decide)]; exact h), fun h => by rw [upd_ne x _ (by decide)]; exact f9 (by rw [← getD_set_ne true (show 2 ≠ 9 by decide)]; exact h), fun h => by rw [upd_ne x _ (by decide)]; exact f10 (by rw [← getD_set_ne true (show 2 ≠ 10 by decide)]; exact h), fun h => by rw [upd_ne x _ (by decide)]; exact f11 (by rw [← getD_set_ne true (show 2 ≠ 11 by decide)]; exact h), fun h => by rw [upd_ne x _ (by decide)]; exact f12 (by rw [← getD_set_ne true (show 2 ≠ 12 by decide)]; exact h), fun h => by rw [upd_ne x _ (by decide)]; exact f13 (by rw [← getD_set_ne true (show 2 ≠ 13 by decide)]; exact h), fun h => by rw [upd_ne x _ (by decide)]; exact f14 (by rw [← getD_set_ne true (show 2 ≠ 14 by decide)]; exact h), fun h => by obtain ⟨A8, c8, hx⟩ := f15 (by rw [← getD_set_ne true (show 2 ≠ 15 by decide)]; exact h); exact ⟨A8, c8, by rw [upd_ne x _ (by decide)]; exact hx⟩, fun h => by rw [upd_ne x _ (by decide)]; exact f16 (by rw [← getD_set_ne true (show 2 ≠ 16 by decide)]; exact h), fun h => by rw [upd_ne x _ (by decide)]; exact f17 (by rw [← getD_set_ne true (show 2 ≠ 17 by decide)]; exact h), fun h => by rw [upd_ne x _ (by decide)]; exact f18 (by rw [← getD_set_ne true (show 2 ≠ 18 by decide)]; exact h), fun h => by rw [upd_ne x _ (by decide)]; exact f19 (by rw [← getD_set_ne true (show 2 ≠ 19 by decide)]; exact h), fun h => by rw [upd_ne x _ (by decide)]; exact f20 (by rw [← getD_set_ne true (show 2 ≠ 20 by decide)]; exact h)⟩⟩
        · have d1 := getD_ft (haf _ rfl ⟨1, .guard⟩ (by simp) rfl)
          have e59 : b.eval (.tmp 59) = .bool true := by rw [hbe, eval_in _ _ _ 1 (by decide) rfl (by rw [hz0]; decide)]; exact f1 d1
          have t59 : b.tmps[59]?.getD undef = .bool true := by have tv := e59; simpa only [Act.eval, Array.getD_eq_getD_getElem?] using tv
          have d2 := getD_ft (haf _ rfl ⟨2, .data⟩ (by simp) rfl)
          have e60 : b.eval (.tmp 60) = .pointer (some ⟨bh, 1, none⟩) := by rw [hbe, eval_in _ _ _ 2 (by decide) rfl (by rw [hz0]; decide)]; exact f2 d2
          have t60 : b.tmps[60]?.getD undef = .pointer (some ⟨bh, 1, none⟩) := by have tv := e60; simpa only [Act.eval, Array.getD_eq_getD_getElem?] using tv
          have rr := (hBw.cell (block_lt_of_cell k_h1)).trans k_h1
          refine wpOp_runs_on (v := .int .i64 cc) rfl (wanted_on rfl rfl rfl t59) (by simp [execOp, go_sem, t60, rr]) ⟨_, _, rfl, rfl, ⟨hBw, fun h => by rw [upd_ne x _ (by decide)]; exact f0 (by rw [← getD_set_ne true (show 3 ≠ 0 by decide)]; exact h), fun h => by rw [upd_ne x _ (by decide)]; exact f1 (by rw [← getD_set_ne true (show 3 ≠ 1 by decide)]; exact h), fun h => by rw [upd_ne x _ (by decide)]; exact f2 (by rw [← getD_set_ne true (show 3 ≠ 2 by decide)]; exact h), fun _ => upd_same _ _ _, fun h => by rw [upd_ne x _ (by decide)]; exact f4 (by rw [← getD_set_ne true (show 3 ≠ 4 by decide)]; exact h), fun h => by rw [upd_ne x _ (by decide)]; exact f5 (by rw [← getD_set_ne true (show 3 ≠ 5 by decide)]; exact h), fun h => by rw [upd_ne x _ (by decide)]; exact f6 (by rw [← getD_set_ne true (show 3 ≠ 6 by decide)]; exact h), fun h => by rw [upd_ne x _ (by decide)]; exact f7 (by rw [← getD_set_ne true (show 3 ≠ 7 by decide)]; exact h), fun h => by rw [upd_ne x _ (by decide)]; exact f8 (by rw [← getD_set_ne true (show 3 ≠ 8 by decide)]; exact h), fun h => by rw [upd_ne x _ (by decide)]; exact f9 (by rw [← getD_set_ne true (show 3 ≠ 9 by decide)]; exact h), fun h => by rw [upd_ne x _ (by decide)]; exact f10 (by rw [← getD_set_ne true (show 3 ≠ 10 by decide)]; exact h), fun h => by rw [upd_ne x _ (by decide)]; exact f11 (by rw [← getD_set_ne true (show 3 ≠ 11 by decide)]; exact h), fun h => by rw [upd_ne x _ (by decide)]; exact f12 (by rw [← getD_set_ne true (show 3 ≠ 12 by decide)]; exact h), fun h => by rw [upd_ne x _ (by decide)]; exact f13 (by rw [← getD_set_ne true (show 3 ≠ 13 by decide)]; exact h), fun h => by rw [upd_ne x _ (by decide)]; exact f14 (by rw [← getD_set_ne true (show 3 ≠ 14 by decide)]; exact h), fun h => by obtain ⟨A8, c8, hx⟩ := f15 (by rw [← getD_set_ne true (show 3 ≠ 15 by decide)]; exact h); exact ⟨A8, c8, by rw [upd_ne x _ (by decide)]; exact hx⟩, fun h => by rw [upd_ne x _ (by decide)]; exact f16 (by rw [← getD_set_ne true (show 3 ≠ 16 by decide)]; exact h), fun h => by rw [upd_ne x _ (by decide)]; exact f17 (by rw [← getD_set_ne true (show 3 ≠ 17 by decide)]; exact h), fun h => by rw [upd_ne x _ (by decide)]; exact f18 (by rw [← getD_set_ne true (show 3 ≠ 18 by decide)]; exact h), fun h => by rw [upd_ne x _ (by decide)]; exact f19 (by rw [← getD_set_ne true (show 3 ≠ 19 by decide)]; exact h), fun h => by rw [upd_ne x _ (by decide)]; exact f20 (by rw [← getD_set_ne true (show 3 ≠ 20 by decide)]; exact h)⟩⟩
        · have d1 := getD_ft (haf _ rfl ⟨1, .guard⟩ (by simp) rfl)
          have e59 : b.eval (.tmp 59) = .bool true := by rw [hbe, eval_in _ _ _ 1 (by decide) rfl (by rw [hz0]; decide)]; exact f1 d1
          have t59 : b.tmps[59]?.getD undef = .bool true := by have tv := e59; simpa only [Act.eval, Array.getD_eq_getD_getElem?] using tv
          refine wpOp_runs_on (v := .pointer (some ⟨bg, 1, none⟩)) rfl (wanted_on rfl rfl rfl t59) (by simp [execOp, go_sem, t9]) ⟨_, _, rfl, rfl, ⟨hBw, fun h => by rw [upd_ne x _ (by decide)]; exact f0 (by rw [← getD_set_ne true (show 4 ≠ 0 by decide)]; exact h), fun h => by rw [upd_ne x _ (by decide)]; exact f1 (by rw [← getD_set_ne true (show 4 ≠ 1 by decide)]; exact h), fun h => by rw [upd_ne x _ (by decide)]; exact f2 (by rw [← getD_set_ne true (show 4 ≠ 2 by decide)]; exact h), fun h => by rw [upd_ne x _ (by decide)]; exact f3 (by rw [← getD_set_ne true (show 4 ≠ 3 by decide)]; exact h), fun _ => upd_same _ _ _, fun h => by rw [upd_ne x _ (by decide)]; exact f5 (by rw [← getD_set_ne true (show 4 ≠ 5 by decide)]; exact h), fun h => by rw [upd_ne x _ (by decide)]; exact f6 (by rw [← getD_set_ne true (show 4 ≠ 6 by decide)]; exact h), fun h => by rw [upd_ne x _ (by decide)]; exact f7 (by rw [← getD_set_ne true (show 4 ≠ 7 by decide)]; exact h), fun h => by rw [upd_ne x _ (by decide)]; exact f8 (by rw [← getD_set_ne true (show 4 ≠ 8 by decide)]; exact h), fun h => by rw [upd_ne x _ (by decide)]; exact f9 (by rw [← getD_set_ne true (show 4 ≠ 9 by decide)]; exact h), fun h => by rw [upd_ne x _ (by decide)]; exact f10 (by rw [← getD_set_ne true (show 4 ≠ 10 by decide)]; exact h), fun h => by rw [upd_ne x _ (by decide)]; exact f11 (by rw [← getD_set_ne true (show 4 ≠ 11 by decide)]; exact h), fun h => by rw [upd_ne x _ (by decide)]; exact f12 (by rw [← getD_set_ne true (show 4 ≠ 12 by decide)]; exact h), fun h => by rw [upd_ne x _ (by decide)]; exact f13 (by rw [← getD_set_ne true (show 4 ≠ 13 by decide)]; exact h), fun h => by rw [upd_ne x _ (by decide)]; exact f14 (by rw [← getD_set_ne true (show 4 ≠ 14 by decide)]; exact h), fun h => by obtain ⟨A8, c8, hx⟩ := f15 (by rw [← getD_set_ne true (show 4 ≠ 15 by decide)]; exact h); exact ⟨A8, c8, by rw [upd_ne x _ (by decide)]; exact hx⟩, fun h => by rw [upd_ne x _ (by decide)]; exact f16 (by rw [← getD_set_ne true (show 4 ≠ 16 by decide)]; exact h), fun h => by rw [upd_ne x _ (by decide)]; exact f17 (by rw [← getD_set_ne true (show 4 ≠ 17 by decide)]; exact h), fun h => by rw [upd_ne x _ (by decide)]; exact f18 (by rw [← getD_set_ne true (show 4 ≠ 18 by decide)]; exact h), fun h => by rw [upd_ne x _ (by decide)]; exact f19 (by rw [← getD_set_ne true (show 4 ≠ 19 by decide)]; exact h), fun h => by rw [upd_ne x _ (by decide)]; exact f20 (by rw [← getD_set_ne true (show 4 ≠ 20 by decide)]; exact h)⟩⟩
        · have d1 := getD_ft (haf _ rfl ⟨1, .guard⟩ (by simp) rfl)
          have e59 : b.eval (.tmp 59) = .bool true := by rw [hbe, eval_in _ _ _ 1 (by decide) rfl (by rw [hz0]; decide)]; exact f1 d1
          have t59 : b.tmps[59]?.getD undef = .bool true := by have tv := e59; simpa only [Act.eval, Array.getD_eq_getD_getElem?] using tv
          have d4 := getD_ft (haf _ rfl ⟨4, .data⟩ (by simp) rfl)
          have e62 : b.eval (.tmp 62) = .pointer (some ⟨bg, 1, none⟩) := by rw [hbe, eval_in _ _ _ 4 (by decide) rfl (by rw [hz0]; decide)]; exact f4 d4
          have t62 : b.tmps[62]?.getD undef = .pointer (some ⟨bg, 1, none⟩) := by have tv := e62; simpa only [Act.eval, Array.getD_eq_getD_getElem?] using tv
          have rr := (hBw.cell (block_lt_of_cell k_g1)).trans k_g1
          refine wpOp_runs_on (v := .int .i64 cc) rfl (wanted_on rfl rfl rfl t59) (by simp [execOp, go_sem, t62, rr]) ⟨_, _, rfl, rfl, ⟨hBw, fun h => by rw [upd_ne x _ (by decide)]; exact f0 (by rw [← getD_set_ne true (show 5 ≠ 0 by decide)]; exact h), fun h => by rw [upd_ne x _ (by decide)]; exact f1 (by rw [← getD_set_ne true (show 5 ≠ 1 by decide)]; exact h), fun h => by rw [upd_ne x _ (by decide)]; exact f2 (by rw [← getD_set_ne true (show 5 ≠ 2 by decide)]; exact h), fun h => by rw [upd_ne x _ (by decide)]; exact f3 (by rw [← getD_set_ne true (show 5 ≠ 3 by decide)]; exact h), fun h => by rw [upd_ne x _ (by decide)]; exact f4 (by rw [← getD_set_ne true (show 5 ≠ 4 by decide)]; exact h), fun _ => upd_same _ _ _, fun h => by rw [upd_ne x _ (by decide)]; exact f6 (by rw [← getD_set_ne true (show 5 ≠ 6 by decide)]; exact h), fun h => by rw [upd_ne x _ (by decide)]; exact f7 (by rw [← getD_set_ne true (show 5 ≠ 7 by decide)]; exact h), fun h => by rw [upd_ne x _ (by decide)]; exact f8 (by rw [← getD_set_ne true (show 5 ≠ 8 by decide)]; exact h), fun h => by rw [upd_ne x _ (by decide)]; exact f9 (by rw [← getD_set_ne true (show 5 ≠ 9 by decide)]; exact h), fun h => by rw [upd_ne x _ (by decide)]; exact f10 (by rw [← getD_set_ne true (show 5 ≠ 10 by decide)]; exact h), fun h => by rw [upd_ne x _ (by decide)]; exact f11 (by rw [← getD_set_ne true (show 5 ≠ 11 by decide)]; exact h), fun h => by rw [upd_ne x _ (by decide)]; exact f12 (by rw [← getD_set_ne true (show 5 ≠ 12 by decide)]; exact h), fun h => by rw [upd_ne x _ (by decide)]; exact f13 (by rw [← getD_set_ne true (show 5 ≠ 13 by decide)]; exact h), fun h => by rw [upd_ne x _ (by decide)]; exact f14 (by rw [← getD_set_ne true (show 5 ≠ 14 by decide)]; exact h), fun h => by obtain ⟨A8, c8, hx⟩ := f15 (by rw [← getD_set_ne true (show 5 ≠ 15 by decide)]; exact h); exact ⟨A8, c8, by rw [upd_ne x _ (by decide)]; exact hx⟩, fun h => by rw [upd_ne x _ (by decide)]; exact f16 (by rw [← getD_set_ne true (show 5 ≠ 16 by decide)]; exact h), fun h => by rw [upd_ne x _ (by decide)]; exact f17 (by rw [← getD_set_ne true (show 5 ≠ 17 by decide)]; exact h), fun h => by rw [upd_ne x _ (by decide)]; exact f18 (by rw [← getD_set_ne true (show 5 ≠ 18 by decide)]; exact h), fun h => by rw [upd_ne x _ (by decide)]; exact f19 (by rw [← getD_set_ne true (show 5 ≠ 19 by decide)]; exact h), fun h => by rw [upd_ne x _ (by decide)]; exact f20 (by rw [← getD_set_ne true (show 5 ≠ 20 by decide)]; exact h)⟩⟩
        · have d1 := getD_ft (haf _ rfl ⟨1, .guard⟩ (by simp) rfl)
          have e59 : b.eval (.tmp 59) = .bool true := by rw [hbe, eval_in _ _ _ 1 (by decide) rfl (by rw [hz0]; decide)]; exact f1 d1
          have t59 : b.tmps[59]?.getD undef = .bool true := by have tv := e59; simpa only [Act.eval, Array.getD_eq_getD_getElem?] using tv
          have d3 := getD_ft (haf _ rfl ⟨3, .data⟩ (by simp) rfl)
          have e61 : b.eval (.tmp 61) = .int .i64 cc := by rw [hbe, eval_in _ _ _ 3 (by decide) rfl (by rw [hz0]; decide)]; exact f3 d3
          have t61 : b.tmps[61]?.getD undef = .int .i64 cc := by have tv := e61; simpa only [Act.eval, Array.getD_eq_getD_getElem?] using tv
          have d5 := getD_ft (haf _ rfl ⟨5, .data⟩ (by simp) rfl)
          have e63 : b.eval (.tmp 63) = .int .i64 cc := by rw [hbe, eval_in _ _ _ 5 (by decide) rfl (by rw [hz0]; decide)]; exact f5 d5
          have t63 : b.tmps[63]?.getD undef = .int .i64 cc := by have tv := e63; simpa only [Act.eval, Array.getD_eq_getD_getElem?] using tv
          refine wpOp_runs_on (v := .bool true) rfl (wanted_on rfl rfl rfl t59) (by simp [execOp, go_sem, t61, t63]) ⟨_, _, rfl, rfl, ⟨hBw, fun h => by rw [upd_ne x _ (by decide)]; exact f0 (by rw [← getD_set_ne true (show 6 ≠ 0 by decide)]; exact h), fun h => by rw [upd_ne x _ (by decide)]; exact f1 (by rw [← getD_set_ne true (show 6 ≠ 1 by decide)]; exact h), fun h => by rw [upd_ne x _ (by decide)]; exact f2 (by rw [← getD_set_ne true (show 6 ≠ 2 by decide)]; exact h), fun h => by rw [upd_ne x _ (by decide)]; exact f3 (by rw [← getD_set_ne true (show 6 ≠ 3 by decide)]; exact h), fun h => by rw [upd_ne x _ (by decide)]; exact f4 (by rw [← getD_set_ne true (show 6 ≠ 4 by decide)]; exact h), fun h => by rw [upd_ne x _ (by decide)]; exact f5 (by rw [← getD_set_ne true (show 6 ≠ 5 by decide)]; exact h), fun _ => upd_same _ _ _, fun h => by rw [upd_ne x _ (by decide)]; exact f7 (by rw [← getD_set_ne true (show 6 ≠ 7 by decide)]; exact h), fun h => by rw [upd_ne x _ (by decide)]; exact f8 (by rw [← getD_set_ne true (show 6 ≠ 8 by decide)]; exact h), fun h => by rw [upd_ne x _ (by decide)]; exact f9 (by rw [← getD_set_ne true (show 6 ≠ 9 by decide)]; exact h), fun h => by rw [upd_ne x _ (by decide)]; exact f10 (by rw [← getD_set_ne true (show 6 ≠ 10 by decide)]; exact h), fun h => by rw [upd_ne x _ (by decide)]; exact f11 (by rw [← getD_set_ne true (show 6 ≠ 11 by decide)]; exact h), fun h => by rw [upd_ne x _ (by decide)]; exact f12 (by rw [← getD_set_ne true (show 6 ≠ 12 by decide)]; exact h), fun h => by rw [upd_ne x _ (by decide)]; exact f13 (by rw [← getD_set_ne true (show 6 ≠ 13 by decide)]; exact h), fun h => by rw [upd_ne x _ (by decide)]; exact f14 (by rw [← getD_set_ne true (show 6 ≠ 14 by decide)]; exact h), fun h => by obtain ⟨A8, c8, hx⟩ := f15 (by rw [← getD_set_ne true (show 6 ≠ 15 by decide)]; exact h); exact ⟨A8, c8, by rw [upd_ne x _ (by decide)]; exact hx⟩, fun h => by rw [upd_ne x _ (by decide)]; exact f16 (by rw [← getD_set_ne true (show 6 ≠ 16 by decide)]; exact h), fun h => by rw [upd_ne x _ (by decide)]; exact f17 (by rw [← getD_set_ne true (show 6 ≠ 17 by decide)]; exact h), fun h => by rw [upd_ne x _ (by decide)]; exact f18 (by rw [← getD_set_ne true (show 6 ≠ 18 by decide)]; exact h), fun h => by rw [upd_ne x _ (by decide)]; exact f19 (by rw [← getD_set_ne true (show 6 ≠ 19 by decide)]; exact h), fun h => by rw [upd_ne x _ (by decide)]; exact f20 (by rw [← getD_set_ne true (show 6 ≠ 20 by decide)]; exact h)⟩⟩
        · have d1 := getD_ft (haf _ rfl ⟨1, .data⟩ (by simp) rfl)
          have e59 : b.eval (.tmp 59) = .bool true := by rw [hbe, eval_in _ _ _ 1 (by decide) rfl (by rw [hz0]; decide)]; exact f1 d1
          have t59 : b.tmps[59]?.getD undef = .bool true := by have tv := e59; simpa only [Act.eval, Array.getD_eq_getD_getElem?] using tv
          have d6 := getD_ft (haf _ rfl ⟨6, .data⟩ (by simp) rfl)
          have e64 : b.eval (.tmp 64) = .bool true := by rw [hbe, eval_in _ _ _ 6 (by decide) rfl (by rw [hz0]; decide)]; exact f6 d6
          have t64 : b.tmps[64]?.getD undef = .bool true := by have tv := e64; simpa only [Act.eval, Array.getD_eq_getD_getElem?] using tv
          refine wpOp_runs (v := .bool true) rfl rfl (by simp [execOp, go_sem, t59, t64]) ⟨_, _, rfl, rfl, ⟨hBw, fun h => by rw [upd_ne x _ (by decide)]; exact f0 (by rw [← getD_set_ne true (show 7 ≠ 0 by decide)]; exact h), fun h => by rw [upd_ne x _ (by decide)]; exact f1 (by rw [← getD_set_ne true (show 7 ≠ 1 by decide)]; exact h), fun h => by rw [upd_ne x _ (by decide)]; exact f2 (by rw [← getD_set_ne true (show 7 ≠ 2 by decide)]; exact h), fun h => by rw [upd_ne x _ (by decide)]; exact f3 (by rw [← getD_set_ne true (show 7 ≠ 3 by decide)]; exact h), fun h => by rw [upd_ne x _ (by decide)]; exact f4 (by rw [← getD_set_ne true (show 7 ≠ 4 by decide)]; exact h), fun h => by rw [upd_ne x _ (by decide)]; exact f5 (by rw [← getD_set_ne true (show 7 ≠ 5 by decide)]; exact h), fun h => by rw [upd_ne x _ (by decide)]; exact f6 (by rw [← getD_set_ne true (show 7 ≠ 6 by decide)]; exact h), fun _ => upd_same _ _ _, fun h => by rw [upd_ne x _ (by decide)]; exact f8 (by rw [← getD_set_ne true (show 7 ≠ 8 by decide)]; exact h), fun h => by rw [upd_ne x _ (by decide)]; exact f9 (by rw [← getD_set_ne true (show 7 ≠ 9 by decide)]; exact h), fun h => by rw [upd_ne x _ (by decide)]; exact f10 (by rw [← getD_set_ne true (show 7 ≠ 10 by decide)]; exact h), fun h => by rw [upd_ne x _ (by decide)]; exact f11 (by rw [← getD_set_ne true (show 7 ≠ 11 by decide)]; exact h), fun h => by rw [upd_ne x _ (by decide)]; exact f12 (by rw [← getD_set_ne true (show 7 ≠ 12 by decide)]; exact h), fun h => by rw [upd_ne x _ (by decide)]; exact f13 (by rw [← getD_set_ne true (show 7 ≠ 13 by decide)]; exact h), fun h => by rw [upd_ne x _ (by decide)]; exact f14 (by rw [← getD_set_ne true (show 7 ≠ 14 by decide)]; exact h), fun h => by obtain ⟨A8, c8, hx⟩ := f15 (by rw [← getD_set_ne true (show 7 ≠ 15 by decide)]; exact h); exact ⟨A8, c8, by rw [upd_ne x _ (by decide)]; exact hx⟩, fun h => by rw [upd_ne x _ (by decide)]; exact f16 (by rw [← getD_set_ne true (show 7 ≠ 16 by decide)]; exact h), fun h => by rw [upd_ne x _ (by decide)]; exact f17 (by rw [← getD_set_ne true (show 7 ≠ 17 by decide)]; exact h), fun h => by rw [upd_ne x _ (by decide)]; exact f18 (by rw [← getD_set_ne true (show 7 ≠ 18 by decide)]; exact h), fun h => by rw [upd_ne x _ (by decide)]; exact f19 (by rw [← getD_set_ne true (show 7 ≠ 19 by decide)]; exact h), fun h => by rw [upd_ne x _ (by decide)]; exact f20 (by rw [← getD_set_ne true (show 7 ≠ 20 by decide)]; exact h)⟩⟩
        · have d7 := getD_ft (haf _ rfl ⟨7, .data⟩ (by simp) rfl)
          have e65 : b.eval (.tmp 65) = .bool true := by rw [hbe, eval_in _ _ _ 7 (by decide) rfl (by rw [hz0]; decide)]; exact f7 d7
          have t65 : b.tmps[65]?.getD undef = .bool true := by have tv := e65; simpa only [Act.eval, Array.getD_eq_getD_getElem?] using tv
          refine wpOp_runs (v := .bool true) rfl rfl (by simp [execOp, go_sem, t65]) ⟨_, _, rfl, rfl, ⟨hBw, fun h => by rw [upd_ne x _ (by decide)]; exact f0 (by rw [← getD_set_ne true (show 8 ≠ 0 by decide)]; exact h), fun h => by rw [upd_ne x _ (by decide)]; exact f1 (by rw [← getD_set_ne true (show 8 ≠ 1 by decide)]; exact h), fun h => by rw [upd_ne x _ (by decide)]; exact f2 (by rw [← getD_set_ne true (show 8 ≠ 2 by decide)]; exact h), fun h => by rw [upd_ne x _ (by decide)]; exact f3 (by rw [← getD_set_ne true (show 8 ≠ 3 by decide)]; exact h), fun h => by rw [upd_ne x _ (by decide)]; exact f4 (by rw [← getD_set_ne true (show 8 ≠ 4 by decide)]; exact h), fun h => by rw [upd_ne x _ (by decide)]; exact f5 (by rw [← getD_set_ne true (show 8 ≠ 5 by decide)]; exact h), fun h => by rw [upd_ne x _ (by decide)]; exact f6 (by rw [← getD_set_ne true (show 8 ≠ 6 by decide)]; exact h), fun h => by rw [upd_ne x _ (by decide)]; exact f7 (by rw [← getD_set_ne true (show 8 ≠ 7 by decide)]; exact h), fun _ => upd_same _ _ _, fun h => by rw [upd_ne x _ (by decide)]; exact f9 (by rw [← getD_set_ne true (show 8 ≠ 9 by decide)]; exact h), fun h => by rw [upd_ne x _ (by decide)]; exact f10 (by rw [← getD_set_ne true (show 8 ≠ 10 by decide)]; exact h), fun h => by rw [upd_ne x _ (by decide)]; exact f11 (by rw [← getD_set_ne true (show 8 ≠ 11 by decide)]; exact h), fun h => by rw [upd_ne x _ (by decide)]; exact f12 (by rw [← getD_set_ne true (show 8 ≠ 12 by decide)]; exact h), fun h => by rw [upd_ne x _ (by decide)]; exact f13 (by rw [← getD_set_ne true (show 8 ≠ 13 by decide)]; exact h), fun h => by rw [upd_ne x _ (by decide)]; exact f14 (by rw [← getD_set_ne true (show 8 ≠ 14 by decide)]; exact h), fun h => by obtain ⟨A8, c8, hx⟩ := f15 (by rw [← getD_set_ne true (show 8 ≠ 15 by decide)]; exact h); exact ⟨A8, c8, by rw [upd_ne x _ (by decide)]; exact hx⟩, fun h => by rw [upd_ne x _ (by decide)]; exact f16 (by rw [← getD_set_ne true (show 8 ≠ 16 by decide)]; exact h), fun h => by rw [upd_ne x _ (by decide)]; exact f17 (by rw [← getD_set_ne true (show 8 ≠ 17 by decide)]; exact h), fun h => by rw [upd_ne x _ (by decide)]; exact f18 (by rw [← getD_set_ne true (show 8 ≠ 18 by decide)]; exact h), fun h => by rw [upd_ne x _ (by decide)]; exact f19 (by rw [← getD_set_ne true (show 8 ≠ 19 by decide)]; exact h), fun h => by rw [upd_ne x _ (by decide)]; exact f20 (by rw [← getD_set_ne true (show 8 ≠ 20 by decide)]; exact h)⟩⟩
        · have d8 := getD_ft (haf _ rfl ⟨8, .guard⟩ (by simp) rfl)
          have e66 : b.eval (.tmp 66) = .bool true := by rw [hbe, eval_in _ _ _ 8 (by decide) rfl (by rw [hz0]; decide)]; exact f8 d8
          have t66 : b.tmps[66]?.getD undef = .bool true := by have tv := e66; simpa only [Act.eval, Array.getD_eq_getD_getElem?] using tv
          refine wpOp_runs_on (v := .pointer (some ⟨bh, 0, none⟩)) rfl (wanted_on rfl rfl rfl t66) (by simp [execOp, go_sem, t11]) ⟨_, _, rfl, rfl, ⟨hBw, fun h => by rw [upd_ne x _ (by decide)]; exact f0 (by rw [← getD_set_ne true (show 9 ≠ 0 by decide)]; exact h), fun h => by rw [upd_ne x _ (by decide)]; exact f1 (by rw [← getD_set_ne true (show 9 ≠ 1 by decide)]; exact h), fun h => by rw [upd_ne x _ (by decide)]; exact f2 (by rw [← getD_set_ne true (show 9 ≠ 2 by decide)]; exact h), fun h => by rw [upd_ne x _ (by decide)]; exact f3 (by rw [← getD_set_ne true (show 9 ≠ 3 by decide)]; exact h), fun h => by rw [upd_ne x _ (by decide)]; exact f4 (by rw [← getD_set_ne true (show 9 ≠ 4 by decide)]; exact h), fun h => by rw [upd_ne x _ (by decide)]; exact f5 (by rw [← getD_set_ne true (show 9 ≠ 5 by decide)]; exact h), fun h => by rw [upd_ne x _ (by decide)]; exact f6 (by rw [← getD_set_ne true (show 9 ≠ 6 by decide)]; exact h), fun h => by rw [upd_ne x _ (by decide)]; exact f7 (by rw [← getD_set_ne true (show 9 ≠ 7 by decide)]; exact h), fun h => by rw [upd_ne x _ (by decide)]; exact f8 (by rw [← getD_set_ne true (show 9 ≠ 8 by decide)]; exact h), fun _ => upd_same _ _ _, fun h => by rw [upd_ne x _ (by decide)]; exact f10 (by rw [← getD_set_ne true (show 9 ≠ 10 by decide)]; exact h), fun h => by rw [upd_ne x _ (by decide)]; exact f11 (by rw [← getD_set_ne true (show 9 ≠ 11 by decide)]; exact h), fun h => by rw [upd_ne x _ (by decide)]; exact f12 (by rw [← getD_set_ne true (show 9 ≠ 12 by decide)]; exact h), fun h => by rw [upd_ne x _ (by decide)]; exact f13 (by rw [← getD_set_ne true (show 9 ≠ 13 by decide)]; exact h), fun h => by rw [upd_ne x _ (by decide)]; exact f14 (by rw [← getD_set_ne true (show 9 ≠ 14 by decide)]; exact h), fun h => by obtain ⟨A8, c8, hx⟩ := f15 (by rw [← getD_set_ne true (show 9 ≠ 15 by decide)]; exact h); exact ⟨A8, c8, by rw [upd_ne x _ (by decide)]; exact hx⟩, fun h => by rw [upd_ne x _ (by decide)]; exact f16 (by rw [← getD_set_ne true (show 9 ≠ 16 by decide)]; exact h), fun h => by rw [upd_ne x _ (by decide)]; exact f17 (by rw [← getD_set_ne true (show 9 ≠ 17 by decide)]; exact h), fun h => by rw [upd_ne x _ (by decide)]; exact f18 (by rw [← getD_set_ne true (show 9 ≠ 18 by decide)]; exact h), fun h => by rw [upd_ne x _ (by decide)]; exact f19 (by rw [← getD_set_ne true (show 9 ≠ 19 by decide)]; exact h), fun h => by rw [upd_ne x _ (by decide)]; exact f20 (by rw [← getD_set_ne true (show 9 ≠ 20 by decide)]; exact h)⟩⟩
        · have d8 := getD_ft (haf _ rfl ⟨8, .guard⟩ (by simp) rfl)
          have e66 : b.eval (.tmp 66) = .bool true := by rw [hbe, eval_in _ _ _ 8 (by decide) rfl (by rw [hz0]; decide)]; exact f8 d8
          have t66 : b.tmps[66]?.getD undef = .bool true := by have tv := e66; simpa only [Act.eval, Array.getD_eq_getD_getElem?] using tv
          have d9 := getD_ft (haf _ rfl ⟨9, .data⟩ (by simp) rfl)
          have e67 : b.eval (.tmp 67) = .pointer (some ⟨bh, 0, none⟩) := by rw [hbe, eval_in _ _ _ 9 (by decide) rfl (by rw [hz0]; decide)]; exact f9 d9
          have t67 : b.tmps[67]?.getD undef = .pointer (some ⟨bh, 0, none⟩) := by have tv := e67; simpa only [Act.eval, Array.getD_eq_getD_getElem?] using tv
          have rr := (hBw.cell (block_lt_of_cell k_h0)).trans k_h0
          refine wpOp_runs_on (v := .int .i64 (lb + (na : Int))) rfl (wanted_on rfl rfl rfl t66) (by simp [execOp, go_sem, t67, rr]) ⟨_, _, rfl, rfl, ⟨hBw, fun h => by rw [upd_ne x _ (by decide)]; exact f0 (by rw [← getD_set_ne true (show 10 ≠ 0 by decide)]; exact h), fun h => by rw [upd_ne x _ (by decide)]; exact f1 (by rw [← getD_set_ne true (show 10 ≠ 1 by decide)]; exact h), fun h => by rw [upd_ne x _ (by decide)]; exact f2 (by rw [← getD_set_ne true (show 10 ≠ 2 by decide)]; exact h), fun h => by rw [upd_ne x _ (by decide)]; exact f3 (by rw [← getD_set_ne true (show 10 ≠ 3 by decide)]; exact h), fun h => by rw [upd_ne x _ (by decide)]; exact f4 (by rw [← getD_set_ne true (show 10 ≠ 4 by decide)]; exact h), fun h => by rw [upd_ne x _ (by decide)]; exact f5 (by rw [← getD_set_ne true (show 10 ≠ 5 by decide)]; exact h), fun h => by rw [upd_ne x _ (by decide)]; exact f6 (by rw [← getD_set_ne true (show 10 ≠ 6 by decide)]; exact h), fun h => by rw [upd_ne x _ (by decide)]; exact f7 (by rw [← getD_set_ne true (show 10 ≠ 7 by decide)]; exact h), fun h => by rw [upd_ne x _ (by decide)]; exact f8 (by rw [← getD_set_ne true (show 10 ≠ 8 by decide)]; exact h), fun h => by rw [upd_ne x _ (by decide)]; exact f9 (by rw [← getD_set_ne true (show 10 ≠ 9 by decide)]; exact h), fun _ => upd_same _ _ _, fun h => by rw [upd_ne x _ (by decide)]; exact f11 (by rw [← getD_set_ne true (show 10 ≠ 11 by decide)]; exact h), fun h => by rw [upd_ne x _ (by decide)]; exact f12 (by rw [← getD_set_ne true (show 10 ≠ 12 by decide)]; exact h), fun h => by rw [upd_ne x _ (by decide)]; exact f13 (by rw [← getD_set_ne true (show 10 ≠ 13 by decide)]; exact h), fun h => by rw [upd_ne x _ (by decide)]; exact f14 (by rw [← getD_set_ne true (show 10 ≠ 14 by decide)]; exact h), fun h => by obtain ⟨A8, c8, hx⟩ := f15 (by rw [← getD_set_ne true (show 10 ≠ 15 by decide)]; exact h); exact ⟨A8, c8, by rw [upd_ne x _ (by decide)]; exact hx⟩, fun h => by rw [upd_ne x _ (by decide)]; exact f16 (by rw [← getD_set_ne true (show 10 ≠ 16 by decide)]; exact h), fun h => by rw [upd_ne x _ (by decide)]; exact f17 (by rw [← getD_set_ne true (show 10 ≠ 17 by decide)]; exact h), fun h => by rw [upd_ne x _ (by decide)]; exact f18 (by rw [← getD_set_ne true (show 10 ≠ 18 by decide)]; exact h), fun h => by rw [upd_ne x _ (by decide)]; exact f19 (by rw [← getD_set_ne true (show 10 ≠ 19 by decide)]; exact h), fun h => by rw [upd_ne x _ (by decide)]; exact f20 (by rw [← getD_set_ne true (show 10 ≠ 20 by decide)]; exact h)⟩⟩
        · have d8 := getD_ft (haf _ rfl ⟨8, .guard⟩ (by simp) rfl)
          have e66 : b.eval (.tmp 66) = .bool true := by rw [hbe, eval_in _ _ _ 8 (by decide) rfl (by rw [hz0]; decide)]; exact f8 d8
          have t66 : b.tmps[66]?.getD undef = .bool true := by have tv := e66; simpa only [Act.eval, Array.getD_eq_getD_getElem?] using tv
          refine wpOp_runs_on (v := .pointer (some ⟨bg, 0, none⟩)) rfl (wanted_on rfl rfl rfl t66) (by simp [execOp, go_sem, t9]) ⟨_, _, rfl, rfl, ⟨hBw, fun h => by rw [upd_ne x _ (by decide)]; exact f0 (by rw [← getD_set_ne true (show 11 ≠ 0 by decide)]; exact h), fun h => by rw [upd_ne x _ (by decide)]; exact f1 (by rw [← getD_set_ne true (show 11 ≠ 1 by decide)]; exact h), fun h => by rw [upd_ne x _ (by decide)]; exact f2 (by rw [← getD_set_ne true (show 11 ≠ 2 by decide)]; exact h), fun h => by rw [upd_ne x _ (by decide)]; exact f3 (by rw [← getD_set_ne true (show 11 ≠ 3 by decide)]; exact h), fun h => by rw [upd_ne x _ (by decide)]; exact f4 (by rw [← getD_set_ne true (show 11 ≠ 4 by decide)]; exact h), fun h => by rw [upd_ne x _ (by decide)]; exact f5 (by rw [← getD_set_ne true (show 11 ≠ 5 by decide)]; exact h), fun h => by rw [upd_ne x _ (by decide)]; exact f6 (by rw [← getD_set_ne true (show 11 ≠ 6 by decide)]; exact h), fun h => by rw [upd_ne x _ (by decide)]; exact f7 (by rw [← getD_set_ne true (show 11 ≠ 7 by decide)]; exact h), fun h => by rw [upd_ne x _ (by decide)]; exact f8 (by rw [← getD_set_ne true (show 11 ≠ 8 by decide)]; exact h), fun h => by rw [upd_ne x _ (by decide)]; exact f9 (by rw [← getD_set_ne true (show 11 ≠ 9 by decide)]; exact h), fun h => by rw [upd_ne x _ (by decide)]; exact f10 (by rw [← getD_set_ne true (show 11 ≠ 10 by decide)]; exact h), fun _ => upd_same _ _ _, fun h => by rw [upd_ne x _ (by decide)]; exact f12 (by rw [← getD_set_ne true (show 11 ≠ 12 by decide)]; exact h), fun h => by rw [upd_ne x _ (by decide)]; exact f13 (by rw [← getD_set_ne true (show 11 ≠ 13 by decide)]; exact h), fun h => by rw [upd_ne x _ (by decide)]; exact f14 (by rw [← getD_set_ne true (show 11 ≠ 14 by decide)]; exact h), fun h => by obtain ⟨A8, c8, hx⟩ := f15 (by rw [← getD_set_ne true (show 11 ≠ 15 by decide)]; exact h); exact ⟨A8, c8, by rw [upd_ne x _ (by decide)]; exact hx⟩, fun h => by rw [upd_ne x _ (by decide)]; exact f16 (by rw [← getD_set_ne true (show 11 ≠ 16 by decide)]; exact h), fun h => by rw [upd_ne x _ (by decide)]; exact f17 (by rw [← getD_set_ne true (show 11 ≠ 17 by decide)]; exact h), fun h => by rw [upd_ne x _ (by decide)]; exact f18 (by rw [← getD_set_ne true (show 11 ≠ 18 by decide)]; exact h), fun h => by rw [upd_ne x _ (by decide)]; exact f19 (by rw [← getD_set_ne true (show 11 ≠ 19 by decide)]; exact h), fun h => by rw [upd_ne x _ (by decide)]; exact f20 (by rw [← getD_set_ne true (show 11 ≠ 20 by decide)]; exact h)⟩⟩
        · have d8 := getD_ft (haf _ rfl ⟨8, .guard⟩ (by simp) rfl)
          have e66 : b.eval (.tmp 66) = .bool true := by rw [hbe, eval_in _ _ _ 8 (by decide) rfl (by rw [hz0]; decide)]; exact f8 d8
          have t66 : b.tmps[66]?.getD undef = .bool true := by have tv := e66; simpa only [Act.eval, Array.getD_eq_getD_getElem?] using tv
          have d11 := getD_ft (haf _ rfl ⟨11, .data⟩ (by simp) rfl)
          have e69 : b.eval (.tmp 69) = .pointer (some ⟨bg, 0, none⟩) := by rw [hbe, eval_in _ _ _ 11 (by decide) rfl (by rw [hz0]; decide)]; exact f11 d11
          have t69 : b.tmps[69]?.getD undef = .pointer (some ⟨bg, 0, none⟩) := by have tv := e69; simpa only [Act.eval, Array.getD_eq_getD_getElem?] using tv
          have rr := (hBw.cell (block_lt_of_cell k_g0)).trans k_g0
          refine wpOp_runs_on (v := .int .i64 lb) rfl (wanted_on rfl rfl rfl t66) (by simp [execOp, go_sem, t69, rr]) ⟨_, _, rfl, rfl, ⟨hBw, fun h => by rw [upd_ne x _ (by decide)]; exact f0 (by rw [← getD_set_ne true (show 12 ≠ 0 by decide)]; exact h), fun h => by rw [upd_ne x _ (by decide)]; exact f1 (by rw [← getD_set_ne true (show 12 ≠ 1 by decide)]; exact h), fun h => by rw [upd_ne x _ (by decide)]; exact f2 (by rw [← getD_set_ne true (show 12 ≠ 2 by decide)]; exact h), fun h => by rw [upd_ne x _ (by decide)]; exact f3 (by rw [← getD_set_ne true (show 12 ≠ 3 by decide)]; exact h), fun h => by rw [upd_ne x _ (by decide)]; exact f4 (by rw [← getD_set_ne true (show 12 ≠ 4 by decide)]; exact h), fun h => by rw [upd_ne x _ (by decide)]; exact f5 (by rw [← getD_set_ne true (show 12 ≠ 5 by decide)]; exact h), fun h => by rw [upd_ne x _ (by decide)]; exact f6 (by rw [← getD_set_ne true (show 12 ≠ 6 by decide)]; exact h), fun h => by rw [upd_ne x _ (by decide)]; exact f7 (by rw [← getD_set_ne true (show 12 ≠ 7 by decide)]; exact h), fun h => by rw [upd_ne x _ (by decide)]; exact f8 (by rw [← getD_set_ne true (show 12 ≠ 8 by decide)]; exact h), fun h => by rw [upd_ne x _ (by decide)]; exact f9 (by rw [← getD_set_ne true (show 12 ≠ 9 by decide)]; exact h), fun h => by rw [upd_ne x _ (by decide)]; exact f10 (by rw [← getD_set_ne true (show 12 ≠ 10 by decide)]; exact h), fun h => by rw [upd_ne x _ (by decide)]; exact f11 (by rw [← getD_set_ne true (show 12 ≠ 11 by decide)]; exact h), fun _ => upd_same _ _ _, fun h => by rw [upd_ne x _ (by decide)]; exact f13 (by rw [← getD_set_ne true (show 12 ≠ 13 by decide)]; exact h), fun h => by rw [upd_ne x _ (by decide)]; exact f14 (by rw [← getD_set_ne true (show 12 ≠ 14 by decide)]; exact h), fun h => by obtain ⟨A8, c8, hx⟩ := f15 (by rw [← getD_set_ne true (show 12 ≠ 15 by decide)]; exact h); exact ⟨A8, c8, by rw [upd_ne x _ (by decide)]; exact hx⟩, fun h => by rw [upd_ne x _ (by decide)]; exact f16 (by rw [← getD_set_ne true (show 12 ≠ 16 by decide)]; exact h), fun h => by rw [upd_ne x _ (by decide)]; exact f17 (by rw [← getD_set_ne true (show 12 ≠ 17 by decide)]; exact h), fun h => by rw [upd_ne x _ (by decide)]; exact f18 (by rw [← getD_set_ne true (show 12 ≠ 18 by decide)]; exact h), fun h => by rw [upd_ne x _ (by decide)]; exact f19 (by rw [← getD_set_ne true (show 12 ≠ 19 by decide)]; exact h), fun h => by rw [upd_ne x _ (by decide)]; exact f20 (by rw [← getD_set_ne true (show 12 ≠ 20 by decide)]; exact h)⟩⟩
        · have d8 := getD_ft (haf _ rfl ⟨8, .guard⟩ (by simp) rfl)
          have e66 : b.eval (.tmp 66) = .bool true := by rw [hbe, eval_in _ _ _ 8 (by decide) rfl (by rw [hz0]; decide)]; exact f8 d8
          have t66 : b.tmps[66]?.getD undef = .bool true := by have tv := e66; simpa only [Act.eval, Array.getD_eq_getD_getElem?] using tv
          refine wpOp_runs_on (v := .string s0) rfl (wanted_on rfl rfl rfl t66) (by simp [execOp, go_sem, t0]) ⟨_, _, rfl, rfl, ⟨hBw, fun h => by rw [upd_ne x _ (by decide)]; exact f0 (by rw [← getD_set_ne true (show 13 ≠ 0 by decide)]; exact h), fun h => by rw [upd_ne x _ (by decide)]; exact f1 (by rw [← getD_set_ne true (show 13 ≠ 1 by decide)]; exact h), fun h => by rw [upd_ne x _ (by decide)]; exact f2 (by rw [← getD_set_ne true (show 13 ≠ 2 by decide)]; exact h), fun h => by rw [upd_ne x _ (by decide)]; exact f3 (by rw [← getD_set_ne true (show 13 ≠ 3 by decide)]; exact h), fun h => by rw [upd_ne x _ (by decide)]; exact f4 (by rw [← getD_set_ne true (show 13 ≠ 4 by decide)]; exact h), fun h => by rw [upd_ne x _ (by decide)]; exact f5 (by rw [← getD_set_ne true (show 13 ≠ 5 by decide)]; exact h), fun h => by rw [upd_ne x _ (by decide)]; exact f6 (by rw [← getD_set_ne true (show 13 ≠ 6 by decide)]; exact h), fun h => by rw [upd_ne x _ (by decide)]; exact f7 (by rw [← getD_set_ne true (show 13 ≠ 7 by decide)]; exact h), fun h => by rw [upd_ne x _ (by decide)]; exact f8 (by rw [← getD_set_ne true (show 13 ≠ 8 by decide)]; exact h), fun h => by rw [upd_ne x _ (by decide)]; exact f9 (by rw [← getD_set_ne true (show 13 ≠ 9 by decide)]; exact h), fun h => by rw [upd_ne x _ (by decide)]; exact f10 (by rw [← getD_set_ne true (show 13 ≠ 10 by decide)]; exact h), fun h => by rw [upd_ne x _ (by decide)]; exact f11 (by rw [← getD_set_ne true (show 13 ≠ 11 by decide)]; exact h), fun h => by rw [upd_ne x _ (by decide)]; exact f12 (by rw [← getD_set_ne true (show 13 ≠ 12 by decide)]; exact h), fun _ => upd_same _ _ _, fun h => by rw [upd_ne x _ (by decide)]; exact f14 (by rw [← getD_set_ne true (show 13 ≠ 14 by decide)]; exact h), fun h => by obtain ⟨A8, c8, hx⟩ := f15 (by rw [← getD_set_ne true (show 13 ≠ 15 by decide)]; exact h); exact ⟨A8, c8, by rw [upd_ne x _ (by decide)]; exact hx⟩, fun h => by rw [upd_ne x _ (by decide)]; exact f16 (by rw [← getD_set_ne true (show 13 ≠ 16 by decide)]; exact h), fun h => by rw [upd_ne x _ (by decide)]; exact f17 (by rw [← getD_set_ne true (show 13 ≠ 17 by decide)]; exact h), fun h => by rw [upd_ne x _ (by decide)]; exact f18 (by rw [← getD_set_ne true (show 13 ≠ 18 by decide)]; exact h), fun h => by rw [upd_ne x _ (by decide)]; exact f19 (by rw [← getD_set_ne true (show 13 ≠ 19 by decide)]; exact h), fun h => by rw [upd_ne x _ (by decide)]; exact f20 (by rw [← getD_set_ne true (show 13 ≠ 20 by decide)]; exact h)⟩⟩
        · have d8 := getD_ft (haf _ rfl ⟨8, .guard⟩ (by simp) rfl)
          have e66 : b.eval (.tmp 66) = .bool true := by rw [hbe, eval_in _ _ _ 8 (by decide) rfl (by rw [hz0]; decide)]; exact f8 d8
          have t66 : b.tmps[66]?.getD undef = .bool true := by have tv := e66; simpa only [Act.eval, Array.getD_eq_getD_getElem?] using tv
          have d13 := getD_ft (haf _ rfl ⟨13, .data⟩ (by simp) rfl)
          have e71 : b.eval (.tmp 71) = .string s0 := by rw [hbe, eval_in _ _ _ 13 (by decide) rfl (by rw [hz0]; decide)]; exact f13 d13
          have t71 : b.tmps[71]?.getD undef = .string s0 := by have tv := e71; simpa only [Act.eval, Array.getD_eq_getD_getElem?] using tv
          refine wpOp_runs_on (v := .string u0) rfl (wanted_on rfl rfl rfl t66) (by simp [execOp, go_sem, t71, hlt0, hu9]) ⟨_, _, rfl, rfl, ⟨hBw, fun h => by rw [upd_ne x _ (by decide)]; exact f0 (by rw [← getD_set_ne true (show 14 ≠ 0 by decide)]; exact h), fun h => by rw [upd_ne x _ (by decide)]; exact f1 (by rw [← getD_set_ne true (show 14 ≠ 1 by decide)]; exact h), fun h => by rw [upd_ne x _ (by decide)]; exact f2 (by rw [← getD_set_ne true (show 14 ≠ 2 by decide)]; exact h), fun h => by rw [upd_ne x _ (by decide)]; exact f3 (by rw [← getD_set_ne true (show 14 ≠ 3 by decide)]; exact h), fun h => by rw [upd_ne x _ (by decide)]; exact f4 (by rw [← getD_set_ne true (show 14 ≠ 4 by decide)]; exact h), fun h => by rw [upd_ne x _ (by decide)]; exact f5 (by rw [← getD_set_ne true (show 14 ≠ 5 by decide)]; exact h), fun h => by rw [upd_ne x _ (by decide)]; exact f6 (by rw [← getD_set_ne true (show 14 ≠ 6 by decide)]; exact h), fun h => by rw [upd_ne x _ (by decide)]; exact f7 (by rw [← getD_set_ne true (show 14 ≠ 7 by decide)]; exact h), fun h => by rw [upd_ne x _ (by decide)]; exact f8 (by rw [← getD_set_ne true (show 14 ≠ 8 by decide)]; exact h), fun h => by rw [upd_ne x _ (by decide)]; exact f9 (by rw [← getD_set_ne true (show 14 ≠ 9 by decide)]; exact h), fun h => by rw [upd_ne x _ (by decide)]; exact f10 (by rw [← getD_set_ne true (show 14 ≠ 10 by decide)]; exact h), fun h => by rw [upd_ne x _ (by decide)]; exact f11 (by rw [← getD_set_ne true (show 14 ≠ 11 by decide)]; exact h), fun h => by rw [upd_ne x _ (by decide)]; exact f12 (by rw [← getD_set_ne true (show 14 ≠ 12 by decide)]; exact h), fun h => by rw [upd_ne x _ (by decide)]; exact f13 (by rw [← getD_set_ne true (show 14 ≠ 13 by decide)]; exact h), fun _ => upd_same _ _ _, fun h => by obtain ⟨A8, c8, hx⟩ := f15 (by rw [← getD_set_ne true (show 14 ≠ 15 by decide)]; exact h); exact ⟨A8, c8, by rw [upd_ne x _ (by decide)]; exact hx⟩, fun h => by rw [upd_ne x _ (by decide)]; exact f16 (by rw [← getD_set_ne true (show 14 ≠ 16 by decide)]; exact h), fun h => by rw [upd_ne x _ (by decide)]; exact f17 (by rw [← getD_set_ne true (show 14 ≠ 17 by decide)]; exact h), fun h => by rw [upd_ne x _ (by decide)]; exact f18 (by rw [← getD_set_ne true (show 14 ≠ 18 by decide)]; exact h), fun h => by rw [upd_ne x _ (by decide)]; exact f19 (by rw [← getD_set_ne true (show 14 ≠ 19 by decide)]; exact h), fun h => by rw [upd_ne x _ (by decide)]; exact f20 (by rw [← getD_set_ne true (show 14 ≠ 20 by decide)]; exact h)⟩⟩
        · have d8 := getD_ft (haf _ rfl ⟨8, .guard⟩ (by simp) rfl)
          have e66 : b.eval (.tmp 66) = .bool true := by rw [hbe, eval_in _ _ _ 8 (by decide) rfl (by rw [hz0]; decide)]; exact f8 d8
          have t66 : b.tmps[66]?.getD undef = .bool true := by have tv := e66; simpa only [Act.eval, Array.getD_eq_getD_getElem?] using tv
          have d14 := getD_ft (haf _ rfl ⟨14, .data⟩ (by simp) rfl)
          have e72 : b.eval (.tmp 72) = .string u0 := by rw [hbe, eval_in _ _ _ 14 (by decide) rfl (by rw [hz0]; decide)]; exact f14 d14
          have t72 : b.tmps[72]?.getD undef = .string u0 := by have tv := e72; simpa only [Act.eval, Array.getD_eq_getD_getElem?] using tv
          refine wpOp_call_on rfl (wanted_on rfl rfl rfl t66) 12 #[.tmp 72] _ rfl #[.string u0] (by simp [e72]) Tryd.func12 rfl rfl ?_
          refine (lines_is u0 a na HRA.out HNA.out w' (HM.out w' (HB6.out w' hBw)) (by have := HSA.out; omega)).mono ?_
          rintro e w'' ⟨A8, c8, rfl, h8, hb⟩
          exact ⟨_, rfl, _, _, rfl, rfl, ⟨hBw.trans (hb.mono hBw.size), fun h => by rw [upd_ne x _ (by decide)]; exact f0 (by rw [← getD_set_ne true (show 15 ≠ 0 by decide)]; exact h), fun h => by rw [upd_ne x _ (by decide)]; exact f1 (by rw [← getD_set_ne true (show 15 ≠ 1 by decide)]; exact h), fun h => by rw [upd_ne x _ (by decide)]; exact f2 (by rw [← getD_set_ne true (show 15 ≠ 2 by decide)]; exact h), fun h => by rw [upd_ne x _ (by decide)]; exact f3 (by rw [← getD_set_ne true (show 15 ≠ 3 by decide)]; exact h), fun h => by rw [upd_ne x _ (by decide)]; exact f4 (by rw [← getD_set_ne true (show 15 ≠ 4 by decide)]; exact h), fun h => by rw [upd_ne x _ (by decide)]; exact f5 (by rw [← getD_set_ne true (show 15 ≠ 5 by decide)]; exact h), fun h => by rw [upd_ne x _ (by decide)]; exact f6 (by rw [← getD_set_ne true (show 15 ≠ 6 by decide)]; exact h), fun h => by rw [upd_ne x _ (by decide)]; exact f7 (by rw [← getD_set_ne true (show 15 ≠ 7 by decide)]; exact h), fun h => by rw [upd_ne x _ (by decide)]; exact f8 (by rw [← getD_set_ne true (show 15 ≠ 8 by decide)]; exact h), fun h => by rw [upd_ne x _ (by decide)]; exact f9 (by rw [← getD_set_ne true (show 15 ≠ 9 by decide)]; exact h), fun h => by rw [upd_ne x _ (by decide)]; exact f10 (by rw [← getD_set_ne true (show 15 ≠ 10 by decide)]; exact h), fun h => by rw [upd_ne x _ (by decide)]; exact f11 (by rw [← getD_set_ne true (show 15 ≠ 11 by decide)]; exact h), fun h => by rw [upd_ne x _ (by decide)]; exact f12 (by rw [← getD_set_ne true (show 15 ≠ 12 by decide)]; exact h), fun h => by rw [upd_ne x _ (by decide)]; exact f13 (by rw [← getD_set_ne true (show 15 ≠ 13 by decide)]; exact h), fun h => by rw [upd_ne x _ (by decide)]; exact f14 (by rw [← getD_set_ne true (show 15 ≠ 14 by decide)]; exact h), fun _ => ⟨A8, c8, upd_same _ _ _⟩, fun h => by rw [upd_ne x _ (by decide)]; exact f16 (by rw [← getD_set_ne true (show 15 ≠ 16 by decide)]; exact h), fun h => by rw [upd_ne x _ (by decide)]; exact f17 (by rw [← getD_set_ne true (show 15 ≠ 17 by decide)]; exact h), fun h => by rw [upd_ne x _ (by decide)]; exact f18 (by rw [← getD_set_ne true (show 15 ≠ 18 by decide)]; exact h), fun h => by rw [upd_ne x _ (by decide)]; exact f19 (by rw [← getD_set_ne true (show 15 ≠ 19 by decide)]; exact h), fun h => by rw [upd_ne x _ (by decide)]; exact f20 (by rw [← getD_set_ne true (show 15 ≠ 20 by decide)]; exact h)⟩⟩
        · have d8 := getD_ft (haf _ rfl ⟨8, .guard⟩ (by simp) rfl)
          have e66 : b.eval (.tmp 66) = .bool true := by rw [hbe, eval_in _ _ _ 8 (by decide) rfl (by rw [hz0]; decide)]; exact f8 d8
          have t66 : b.tmps[66]?.getD undef = .bool true := by have tv := e66; simpa only [Act.eval, Array.getD_eq_getD_getElem?] using tv
          have d15 := getD_ft (haf _ rfl ⟨15, .data⟩ (by simp) rfl)
          obtain ⟨A8, c8, hx⟩ := f15 d15
          have e73 : b.eval (.tmp 73) = .slice A8 na c8 := by rw [hbe, eval_in _ _ _ 15 (by decide) rfl (by rw [hz0]; decide)]; exact hx
          have t73 : b.tmps[73]?.getD undef = .slice A8 na c8 := by have tv := e73; simpa only [Act.eval, Array.getD_eq_getD_getElem?] using tv
          refine wpOp_runs_on (v := .int .i64 (na : Int)) rfl (wanted_on rfl rfl rfl t66) (by simp [execOp, go_sem, t73]) ⟨_, _, rfl, rfl, ⟨hBw, fun h => by rw [upd_ne x _ (by decide)]; exact f0 (by rw [← getD_set_ne true (show 16 ≠ 0 by decide)]; exact h), fun h => by rw [upd_ne x _ (by decide)]; exact f1 (by rw [← getD_set_ne true (show 16 ≠ 1 by decide)]; exact h), fun h => by rw [upd_ne x _ (by decide)]; exact f2 (by rw [← getD_set_ne true (show 16 ≠ 2 by decide)]; exact h), fun h => by rw [upd_ne x _ (by decide)]; exact f3 (by rw [← getD_set_ne true (show 16 ≠ 3 by decide)]; exact h), fun h => by rw [upd_ne x _ (by decide)]; exact f4 (by rw [← getD_set_ne true (show 16 ≠ 4 by decide)]; exact h), fun h => by rw [upd_ne x _ (by decide)]; exact f5 (by rw [← getD_set_ne true (show 16 ≠ 5 by decide)]; exact h), fun h => by rw [upd_ne x _ (by decide)]; exact f6 (by rw [← getD_set_ne true (show 16 ≠ 6 by decide)]; exact h), fun h => by rw [upd_ne x _ (by decide)]; exact f7 (by rw [← getD_set_ne true (show 16 ≠ 7 by decide)]; exact h), fun h => by rw [upd_ne x _ (by decide)]; exact f8 (by rw [← getD_set_ne true (show 16 ≠ 8 by decide)]; exact h), fun h => by rw [upd_ne x _ (by decide)]; exact f9 (by rw [← getD_set_ne true (show 16 ≠ 9 by decide)]; exact h), fun h => by rw [upd_ne x _ (by decide)]; exact f10 (by rw [← getD_set_ne true (show 16 ≠ 10 by decide)]; exact h), fun h => by rw [upd_ne x _ (by decide)]; exact f11 (by rw [← getD_set_ne true (show 16 ≠ 11 by decide)]; exact h), fun h => by rw [upd_ne x _ (by decide)]; exact f12 (by rw [← getD_set_ne true (show 16 ≠ 12 by decide)]; exact h), fun h => by rw [upd_ne x _ (by decide)]; exact f13 (by rw [← getD_set_ne true (show 16 ≠ 13 by decide)]; exact h), fun h => by rw [upd_ne x _ (by decide)]; exact f14 (by rw [← getD_set_ne true (show 16 ≠ 14 by decide)]; exact h), fun h => by obtain ⟨A8, c8, hx⟩ := f15 (by rw [← getD_set_ne true (show 16 ≠ 15 by decide)]; exact h); exact ⟨A8, c8, by rw [upd_ne x _ (by decide)]; exact hx⟩, fun _ => upd_same _ _ _, fun h => by rw [upd_ne x _ (by decide)]; exact f17 (by rw [← getD_set_ne true (show 16 ≠ 17 by decide)]; exact h), fun h => by rw [upd_ne x _ (by decide)]; exact f18 (by rw [← getD_set_ne true (show 16 ≠ 18 by decide)]; exact h), fun h => by rw [upd_ne x _ (by decide)]; exact f19 (by rw [← getD_set_ne true (show 16 ≠ 19 by decide)]; exact h), fun h => by rw [upd_ne x _ (by decide)]; exact f20 (by rw [← getD_set_ne true (show 16 ≠ 20 by decide)]; exact h)⟩⟩
        · have d8 := getD_ft (haf _ rfl ⟨8, .guard⟩ (by simp) rfl)
          have e66 : b.eval (.tmp 66) = .bool true := by rw [hbe, eval_in _ _ _ 8 (by decide) rfl (by rw [hz0]; decide)]; exact f8 d8
          have t66 : b.tmps[66]?.getD undef = .bool true := by have tv := e66; simpa only [Act.eval, Array.getD_eq_getD_getElem?] using tv
          have d12 := getD_ft (haf _ rfl ⟨12, .data⟩ (by simp) rfl)
          have e70 : b.eval (.tmp 70) = .int .i64 lb := by rw [hbe, eval_in _ _ _ 12 (by decide) rfl (by rw [hz0]; decide)]; exact f12 d12
          have t70 : b.tmps[70]?.getD undef = .int .i64 lb := by have tv := e70; simpa only [Act.eval, Array.getD_eq_getD_getElem?] using tv
          have d16 := getD_ft (haf _ rfl ⟨16, .data⟩ (by simp) rfl)
          have e74 : b.eval (.tmp 74) = .int .i64 (na : Int) := by rw [hbe, eval_in _ _ _ 16 (by decide) rfl (by rw [hz0]; decide)]; exact f16 d16
          have t74 : b.tmps[74]?.getD undef = .int .i64 (na : Int) := by have tv := e74; simpa only [Act.eval, Array.getD_eq_getD_getElem?] using tv
          refine wpOp_runs_on (v := .int .i64 (lb + (na : Int))) rfl (wanted_on rfl rfl rfl t66) (by simp [execOp, go_sem, t70, t74, hwr]) ⟨_, _, rfl, rfl, ⟨hBw, fun h => by rw [upd_ne x _ (by decide)]; exact f0 (by rw [← getD_set_ne true (show 17 ≠ 0 by decide)]; exact h), fun h => by rw [upd_ne x _ (by decide)]; exact f1 (by rw [← getD_set_ne true (show 17 ≠ 1 by decide)]; exact h), fun h => by rw [upd_ne x _ (by decide)]; exact f2 (by rw [← getD_set_ne true (show 17 ≠ 2 by decide)]; exact h), fun h => by rw [upd_ne x _ (by decide)]; exact f3 (by rw [← getD_set_ne true (show 17 ≠ 3 by decide)]; exact h), fun h => by rw [upd_ne x _ (by decide)]; exact f4 (by rw [← getD_set_ne true (show 17 ≠ 4 by decide)]; exact h), fun h => by rw [upd_ne x _ (by decide)]; exact f5 (by rw [← getD_set_ne true (show 17 ≠ 5 by decide)]; exact h), fun h => by rw [upd_ne x _ (by decide)]; exact f6 (by rw [← getD_set_ne true (show 17 ≠ 6 by decide)]; exact h), fun h => by rw [upd_ne x _ (by decide)]; exact f7 (by rw [← getD_set_ne true (show 17 ≠ 7 by decide)]; exact h), fun h => by rw [upd_ne x _ (by decide)]; exact f8 (by rw [← getD_set_ne true (show 17 ≠ 8 by decide)]; exact h), fun h => by rw [upd_ne x _ (by decide)]; exact f9 (by rw [← getD_set_ne true (show 17 ≠ 9 by decide)]; exact h), fun h => by rw [upd_ne x _ (by decide)]; exact f10 (by rw [← getD_set_ne true (show 17 ≠ 10 by decide)]; exact h), fun h => by rw [upd_ne x _ (by decide)]; exact f11 (by rw [← getD_set_ne true (show 17 ≠ 11 by decide)]; exact h), fun h => by rw [upd_ne x _ (by decide)]; exact f12 (by rw [← getD_set_ne true (show 17 ≠ 12 by decide)]; exact h), fun h => by rw [upd_ne x _ (by decide)]; exact f13 (by rw [← getD_set_ne true (show 17 ≠ 13 by decide)]; exact h), fun h => by rw [upd_ne x _ (by decide)]; exact f14 (by rw [← getD_set_ne true (show 17 ≠ 14 by decide)]; exact h), fun h => by obtain ⟨A8, c8, hx⟩ := f15 (by rw [← getD_set_ne true (show 17 ≠ 15 by decide)]; exact h); exact ⟨A8, c8, by rw [upd_ne x _ (by decide)]; exact hx⟩, fun h => by rw [upd_ne x _ (by decide)]; exact f16 (by rw [← getD_set_ne true (show 17 ≠ 16 by decide)]; exact h), fun _ => upd_same _ _ _, fun h => by rw [upd_ne x _ (by decide)]; exact f18 (by rw [← getD_set_ne true (show 17 ≠ 18 by decide)]; exact h), fun h => by rw [upd_ne x _ (by decide)]; exact f19 (by rw [← getD_set_ne true (show 17 ≠ 19 by decide)]; exact h), fun h => by rw [upd_ne x _ (by decide)]; exact f20 (by rw [← getD_set_ne true (show 17 ≠ 20 by decide)]; exact h)⟩⟩
        · have d8 := getD_ft (haf _ rfl ⟨8, .guard⟩ (by simp) rfl)
          have e66 : b.eval (.tmp 66) = .bool true := by rw [hbe, eval_in _ _ _ 8 (by decide) rfl (by rw [hz0]; decide)]; exact f8 d8
          have t66 : b.tmps[66]?.getD undef = .bool true := by have tv := e66; simpa only [Act.eval, Array.getD_eq_getD_getElem?] using tv
          have d10 := getD_ft (haf _ rfl ⟨10, .data⟩ (by simp) rfl)
          have e68 : b.eval (.tmp 68) = .int .i64 (lb + (na : Int)) := by rw [hbe, eval_in _ _ _ 10 (by decide) rfl (by rw [hz0]; decide)]; exact f10 d10
          have t68 : b.tmps[68]?.getD undef = .int .i64 (lb + (na : Int)) := by have tv := e68; simpa only [Act.eval, Array.getD_eq_getD_getElem?] using tv
          have d17 := getD_ft (haf _ rfl ⟨17, .data⟩ (by simp) rfl)
          have e75 : b.eval (.tmp 75) = .int .i64 (lb + (na : Int)) := by rw [hbe, eval_in _ _ _ 17 (by decide) rfl (by rw [hz0]; decide)]; exact f17 d17
          have t75 : b.tmps[75]?.getD undef = .int .i64 (lb + (na : Int)) := by have tv := e75; simpa only [Act.eval, Array.getD_eq_getD_getElem?] using tv
          refine wpOp_runs_on (v := .bool true) rfl (wanted_on rfl rfl rfl t66) (by simp [execOp, go_sem, t68, t75]) ⟨_, _, rfl, rfl, ⟨hBw, fun h => by rw [upd_ne x _ (by decide)]; exact f0 (by rw [← getD_set_ne true (show 18 ≠ 0 by decide)]; exact h), fun h => by rw [upd_ne x _ (by decide)]; exact f1 (by rw [← getD_set_ne true (show 18 ≠ 1 by decide)]; exact h), fun h => by rw [upd_ne x _ (by decide)]; exact f2 (by rw [← getD_set_ne true (show 18 ≠ 2 by decide)]; exact h), fun h => by rw [upd_ne x _ (by decide)]; exact f3 (by rw [← getD_set_ne true (show 18 ≠ 3 by decide)]; exact h), fun h => by rw [upd_ne x _ (by decide)]; exact f4 (by rw [← getD_set_ne true (show 18 ≠ 4 by decide)]; exact h), fun h => by rw [upd_ne x _ (by decide)]; exact f5 (by rw [← getD_set_ne true (show 18 ≠ 5 by decide)]; exact h), fun h => by rw [upd_ne x _ (by decide)]; exact f6 (by rw [← getD_set_ne true (show 18 ≠ 6 by decide)]; exact h), fun h => by rw [upd_ne x _ (by decide)]; exact f7 (by rw [← getD_set_ne true (show 18 ≠ 7 by decide)]; exact h), fun h => by rw [upd_ne x _ (by decide)]; exact f8 (by rw [← getD_set_ne true (show 18 ≠ 8 by decide)]; exact h), fun h => by rw [upd_ne x _ (by decide)]; exact f9 (by rw [← getD_set_ne true (show 18 ≠ 9 by decide)]; exact h), fun h => by rw [upd_ne x _ (by decide)]; exact f10 (by rw [← getD_set_ne true (show 18 ≠ 10 by decide)]; exact h), fun h => by rw [upd_ne x _ (by decide)]; exact f11 (by rw [← getD_set_ne true (show 18 ≠ 11 by decide)]; exact h), fun h => by rw [upd_ne x _ (by decide)]; exact f12 (by rw [← getD_set_ne true (show 18 ≠ 12 by decide)]; exact h), fun h => by rw [upd_ne x _ (by decide)]; exact f13 (by rw [← getD_set_ne true (show 18 ≠ 13 by decide)]; exact h), fun h => by rw [upd_ne x _ (by decide)]; exact f14 (by rw [← getD_set_ne true (show 18 ≠ 14 by decide)]; exact h), fun h => by obtain ⟨A8, c8, hx⟩ := f15 (by rw [← getD_set_ne true (show 18 ≠ 15 by decide)]; exact h); exact ⟨A8, c8, by rw [upd_ne x _ (by decide)]; exact hx⟩, fun h => by rw [upd_ne x _ (by decide)]; exact f16 (by rw [← getD_set_ne true (show 18 ≠ 16 by decide)]; exact h), fun h => by rw [upd_ne x _ (by decide)]; exact f17 (by rw [← getD_set_ne true (show 18 ≠ 17 by decide)]; exact h), fun _ => upd_same _ _ _, fun h => by rw [upd_ne x _ (by decide)]; exact f19 (by rw [← getD_set_ne true (show 18 ≠ 19 by decide)]; exact h), fun h => by rw [upd_ne x _ (by decide)]; exact f20 (by rw [← getD_set_ne true (show 18 ≠ 20 by decide)]; exact h)⟩⟩
        · have d8 := getD_ft (haf _ rfl ⟨8, .data⟩ (by simp) rfl)
          have e66 : b.eval (.tmp 66) = .bool true := by rw [hbe, eval_in _ _ _ 8 (by decide) rfl (by rw [hz0]; decide)]; exact f8 d8
          have t66 : b.tmps[66]?.getD undef = .bool true := by have tv := e66; simpa only [Act.eval, Array.getD_eq_getD_getElem?] using tv
          have d18 := getD_ft (haf _ rfl ⟨18, .data⟩ (by simp) rfl)
          have e76 : b.eval (.tmp 76) = .bool true := by rw [hbe, eval_in _ _ _ 18 (by decide) rfl (by rw [hz0]; decide)]; exact f18 d18
          have t76 : b.tmps[76]?.getD undef = .bool true := by have tv := e76; simpa only [Act.eval, Array.getD_eq_getD_getElem?] using tv
          refine wpOp_runs (v := .bool true) rfl rfl (by simp [execOp, go_sem, t66, t76]) ⟨_, _, rfl, rfl, ⟨hBw, fun h => by rw [upd_ne x _ (by decide)]; exact f0 (by rw [← getD_set_ne true (show 19 ≠ 0 by decide)]; exact h), fun h => by rw [upd_ne x _ (by decide)]; exact f1 (by rw [← getD_set_ne true (show 19 ≠ 1 by decide)]; exact h), fun h => by rw [upd_ne x _ (by decide)]; exact f2 (by rw [← getD_set_ne true (show 19 ≠ 2 by decide)]; exact h), fun h => by rw [upd_ne x _ (by decide)]; exact f3 (by rw [← getD_set_ne true (show 19 ≠ 3 by decide)]; exact h), fun h => by rw [upd_ne x _ (by decide)]; exact f4 (by rw [← getD_set_ne true (show 19 ≠ 4 by decide)]; exact h), fun h => by rw [upd_ne x _ (by decide)]; exact f5 (by rw [← getD_set_ne true (show 19 ≠ 5 by decide)]; exact h), fun h => by rw [upd_ne x _ (by decide)]; exact f6 (by rw [← getD_set_ne true (show 19 ≠ 6 by decide)]; exact h), fun h => by rw [upd_ne x _ (by decide)]; exact f7 (by rw [← getD_set_ne true (show 19 ≠ 7 by decide)]; exact h), fun h => by rw [upd_ne x _ (by decide)]; exact f8 (by rw [← getD_set_ne true (show 19 ≠ 8 by decide)]; exact h), fun h => by rw [upd_ne x _ (by decide)]; exact f9 (by rw [← getD_set_ne true (show 19 ≠ 9 by decide)]; exact h), fun h => by rw [upd_ne x _ (by decide)]; exact f10 (by rw [← getD_set_ne true (show 19 ≠ 10 by decide)]; exact h), fun h => by rw [upd_ne x _ (by decide)]; exact f11 (by rw [← getD_set_ne true (show 19 ≠ 11 by decide)]; exact h), fun h => by rw [upd_ne x _ (by decide)]; exact f12 (by rw [← getD_set_ne true (show 19 ≠ 12 by decide)]; exact h), fun h => by rw [upd_ne x _ (by decide)]; exact f13 (by rw [← getD_set_ne true (show 19 ≠ 13 by decide)]; exact h), fun h => by rw [upd_ne x _ (by decide)]; exact f14 (by rw [← getD_set_ne true (show 19 ≠ 14 by decide)]; exact h), fun h => by obtain ⟨A8, c8, hx⟩ := f15 (by rw [← getD_set_ne true (show 19 ≠ 15 by decide)]; exact h); exact ⟨A8, c8, by rw [upd_ne x _ (by decide)]; exact hx⟩, fun h => by rw [upd_ne x _ (by decide)]; exact f16 (by rw [← getD_set_ne true (show 19 ≠ 16 by decide)]; exact h), fun h => by rw [upd_ne x _ (by decide)]; exact f17 (by rw [← getD_set_ne true (show 19 ≠ 17 by decide)]; exact h), fun h => by rw [upd_ne x _ (by decide)]; exact f18 (by rw [← getD_set_ne true (show 19 ≠ 18 by decide)]; exact h), fun _ => upd_same _ _ _, fun h => by rw [upd_ne x _ (by decide)]; exact f20 (by rw [← getD_set_ne true (show 19 ≠ 20 by decide)]; exact h)⟩⟩
        · have d19 := getD_ft (haf _ rfl ⟨19, .data⟩ (by simp) rfl)
          have e77 : b.eval (.tmp 77) = .bool true := by rw [hbe, eval_in _ _ _ 19 (by decide) rfl (by rw [hz0]; decide)]; exact f19 d19
          have t77 : b.tmps[77]?.getD undef = .bool true := by have tv := e77; simpa only [Act.eval, Array.getD_eq_getD_getElem?] using tv
          refine wpOp_runs (v := .bool true) rfl rfl (by simp [execOp, go_sem, t77]) ⟨_, _, rfl, rfl, ⟨hBw, fun h => by rw [upd_ne x _ (by decide)]; exact f0 (by rw [← getD_set_ne true (show 20 ≠ 0 by decide)]; exact h), fun h => by rw [upd_ne x _ (by decide)]; exact f1 (by rw [← getD_set_ne true (show 20 ≠ 1 by decide)]; exact h), fun h => by rw [upd_ne x _ (by decide)]; exact f2 (by rw [← getD_set_ne true (show 20 ≠ 2 by decide)]; exact h), fun h => by rw [upd_ne x _ (by decide)]; exact f3 (by rw [← getD_set_ne true (show 20 ≠ 3 by decide)]; exact h), fun h => by rw [upd_ne x _ (by decide)]; exact f4 (by rw [← getD_set_ne true (show 20 ≠ 4 by decide)]; exact h), fun h => by rw [upd_ne x _ (by decide)]; exact f5 (by rw [← getD_set_ne true (show 20 ≠ 5 by decide)]; exact h), fun h => by rw [upd_ne x _ (by decide)]; exact f6 (by rw [← getD_set_ne true (show 20 ≠ 6 by decide)]; exact h), fun h => by rw [upd_ne x _ (by decide)]; exact f7 (by rw [← getD_set_ne true (show 20 ≠ 7 by decide)]; exact h), fun h => by rw [upd_ne x _ (by decide)]; exact f8 (by rw [← getD_set_ne true (show 20 ≠ 8 by decide)]; exact h), fun h => by rw [upd_ne x _ (by decide)]; exact f9 (by rw [← getD_set_ne true (show 20 ≠ 9 by decide)]; exact h), fun h => by rw [upd_ne x _ (by decide)]; exact f10 (by rw [← getD_set_ne true (show 20 ≠ 10 by decide)]; exact h), fun h => by rw [upd_ne x _ (by decide)]; exact f11 (by rw [← getD_set_ne true (show 20 ≠ 11 by decide)]; exact h), fun h => by rw [upd_ne x _ (by decide)]; exact f12 (by rw [← getD_set_ne true (show 20 ≠ 12 by decide)]; exact h), fun h => by rw [upd_ne x _ (by decide)]; exact f13 (by rw [← getD_set_ne true (show 20 ≠ 13 by decide)]; exact h), fun h => by rw [upd_ne x _ (by decide)]; exact f14 (by rw [← getD_set_ne true (show 20 ≠ 14 by decide)]; exact h), fun h => by obtain ⟨A8, c8, hx⟩ := f15 (by rw [← getD_set_ne true (show 20 ≠ 15 by decide)]; exact h); exact ⟨A8, c8, by rw [upd_ne x _ (by decide)]; exact hx⟩, fun h => by rw [upd_ne x _ (by decide)]; exact f16 (by rw [← getD_set_ne true (show 20 ≠ 16 by decide)]; exact h), fun h => by rw [upd_ne x _ (by decide)]; exact f17 (by rw [← getD_set_ne true (show 20 ≠ 17 by decide)]; exact h), fun h => by rw [upd_ne x _ (by decide)]; exact f18 (by rw [← getD_set_ne true (show 20 ≠ 18 by decide)]; exact h), fun h => by rw [upd_ne x _ (by decide)]; exact f19 (by rw [← getD_set_ne true (show 20 ≠ 19 by decide)]; exact h), fun _ => upd_same _ _ _⟩⟩
      intro V x w' hall hF
      obtain ⟨hbF, f0, f1, f2, f3, f4, f5, f6, f7, f8, f9, f10, f11, f12, f13, f14, f15, f16, f17, f18, f19, f20⟩ := hF
      have hx20 := f20 (hall 20 (by decide))
      clear hall f0 f1 f2 f3 f4 f5 f6 f7 f8 f9 f10 f11 f12 f13 f14 f15 f16 f17 f18 f19 f20
      subst ha0
      simp only [List.map_cons, List.map_nil, putAll, hx20]
      clear hx20
      go_simp
      go_wp2_with fail
      go_ret
      exact ⟨rfl, HB6.out _ hbF⟩
  · obtain ⟨q1, q2, q3⟩ := HPL.out.1 hca
    subst q1 q2 q3
    have hndc : ndc = 0 := HNDC.out.symm
    subst hndc
    have hcq : (cc != 0) = true := by simpa using hca
    have hEQ : ∀ w0 : World, (binOp .eql 35 (.agg #[.int .i64 lc, .int .i64 cc]) (.agg #[.int .i64 lc, .int .i64 cc])).run Tryd.prog w0 = .ok (.bool true) w0 := fun w0 => by have h := eqlFt lc cc lc cc w0; simpa using h
    clear hf hg hh l1 l2 l3 hca
    go_wp2_with fail
    go_ret
    exact ⟨rfl, hB⟩
theorem textJoins_walk (s0 t0 : ByteArray) (_ : s0.size ≤ maxLen) (_ : t0.size ≤ maxLen) (w : World) (h : TenTab w ∧ MaxAt w) :
    Calls Tryd.prog 5 #[.string s0, .string t0] w fun e w' => e = .returned (.bool true) ∧ Below w.heap.size w w' := tjoins_law s0 t0 w h.1 h.2
theorem textJoins_own : ownKnob Tryd.prog.godebug = none := by kernel_rfl
theorem textJoins_laidOut : laidOutB Tryd.prog = true := by kernel_rfl
set_option maxHeartbeats 1000000 in
set_option maxRecDepth 100000 in
theorem textJoins_lifted (os : Os) (started : os.Started) (H : Type) (enc : TypeId × Value → H) :
    ReturnsInHanded {} Tryd.checked os 5 .any (fun w args => (Rows.textJoinsSpec.pre enc Tryd.prog Tryd.f5 [] false w args ∧ laidMetH Tryd.prog Rows.textJoinsRow.laid w) ∧ sizedMet enc Tryd.prog Tryd.f5 (OpenSpec.ofChange Rows.textJoinsSpec) false w args)
      (Rows.textJoinsSpec.post enc Tryd.prog Tryd.f5 false true false false) := by
  refine returnsInHanded_of_change_and_shaped (C := Tryd.checked) (X := fun w _ => laidMetH Tryd.prog Rows.textJoinsRow.laid w) (fun _ _ _ hh h => h.of_heap hh) textJoins_own started (by kernel_rfl) Tryd.func5
    (ChangeSpec.witness_shaped (enc := enc) (C := Tryd.checked) (os := os) (X := fun w _ => laidMetH Tryd.prog Rows.textJoinsRow.laid w) false (World.laidAll Tryd.prog os Rows.textJoinsRow.laid) #[.string ByteArray.empty, .string ByteArray.empty] 8 (World.laidAll_os _ _ _) (World.shaped_of_ZipB (by kernel_rfl) (by kernel_rfl)) (by kernel_rfl) (by kernel_rfl) (by kernel_rfl) (by rw [MakeChecks.laidMetH_plain _ _ _ (by kernel_rfl)]; exact laidMet_laidAll _ (by kernel_rfl) (by kernel_rfl))) ?_
  intro W base args ds gs before hval0 hW _ _ hX hL _
  have hval : ∀ (j : Nat) t v, Tryd.f5.params[j]? = some t → args[j]? = some v → Value.okWide Tryd.prog W .any base t v := hval0
  have hW' := hW
  obtain ⟨p, q, hA0, hV, rfl, hfz, hnd⟩ := hW
  have hA : DataW.TrodAll enc Tryd.prog W 0 (fun _ => true) true Tryd.f5.params.toList args.toList ds p := hA0
  rw [Tryd.params5] at hA hval
  obtain ⟨v0, vs0, d0, ds0, p0, q0, hargs, rfl, rfl, h0, r0⟩ := trodAll_cons hA
  obtain ⟨v1, vs1, d1, ds1, p1, q1, rfl, rfl, rfl, h1, r1⟩ := trodAll_cons r0
  obtain ⟨rfl, rfl, rfl⟩ := trodAll_nil r1
  obtain rfl : args = #[v0, v1] := by cases args; simp_all
  obtain ⟨rfl, rfl⟩ := trodVars_none hV
  obtain ⟨s0, rfl, rfl, rfl, w0⟩ := Go.ChangeMaps.open_string Tryd.underlying9 (hval 0 9 v0 rfl rfl) h0
  obtain ⟨s1, rfl, rfl, rfl, w1⟩ := Go.ChangeMaps.open_string Tryd.underlying9 (hval 1 9 v1 rfl rfl) h1
  clear hA0 hval0
  refine (textJoins_walk s0 s1 w0 w1 W (ten_max hX hL)).mono fun e W' ⟨he, bel⟩ => ?_
  subst he
  exact ⟨_, rfl, law_post textJoins_laidOut (by kernel_rfl) rfl Tryd.underlying4 rfl rfl hW' bel⟩

theorem textJoins_holds : Rows.TextJoinsSaid :=
  OpenClaim.holds_of_wide 5 Tryd.f5 rfl rfl rfl rfl rfl rfl rfl ⟨rfl, rfl, rfl, rfl, rfl⟩ rfl rfl rfl rfl rfl (by kernel_rfl) Tryd.func5 (by kernel_rfl)
    (of_decide_eq_true (by kernel_rfl)) (by unfold Func.isWrapper; first | (rw [if_pos (by decide +kernel)]; kernel_rfl) | (rw [if_neg (by decide +kernel)]; exact ⟨rfl, rfl⟩))
    (fun os started H enc _ => textJoins_lifted os started H enc)

theorem textJoins_proved : Rows.TextJoinsCardSaid :=
  Claim7.holds_tied_plain_at .later [] Rows.textJoinsCard.laidKinds true Rows.textJoinsCard.stood.harness false
    textJoins_holds (fun _ h => by cases h) (by kernel_rfl) (fun _ h => by cases h) textJoins_row_tie rfl ⟨rfl, rfl⟩ (by kernel_rfl) rfl
    (fun f fn hf hfn => by
      obtain rfl : f = 5 := Option.some.inj ((show Tryd.prog.funcNamed "felucca/feluccalaw05.TextJoins" = some 5 by kernel_rfl).symm.trans hf) |>.symm
      obtain rfl : fn = Tryd.f5 := (Option.some.inj (Tryd.func5.symm.trans hfn)).symm
      exact ⟨by kernel_rfl, fun j t ht => by
        rw [Tryd.params5] at ht
        have hm : t ∈ [9, 9] := by simpa using Array.mem_of_getElem? ht
        have hall : ([9, 9].all fun u => !Tryd.prog.wantsStandIn u) = true := by kernel_rfl
        exact (show Tryd.prog.wantsStandIn t = false by simpa using List.all_eq_true.1 hall t hm)⟩)
    (by kernel_rfl)
#print axioms textJoins_proved
end Go.Proofs.YtcclfmaockapjaaDoor
