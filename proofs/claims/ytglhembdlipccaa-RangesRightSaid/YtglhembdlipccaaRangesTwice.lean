/- What was added, changed and deleted leaves all as it was. No condition. -/
import Derived.Test.YtglhembdlipccaaRows
import Derived.Test.YtglhembdlipccaaSmall07
import Derived.Test.YtglhembdlipccaaOpenS
namespace Go.Proofs.Ytglhembdlipccaa
open Go.ChangeShapes Go.WideShapes Go.ChangeAt Go.RowKit Go.Sort
set_option linter.unusedSimpArgs false
set_option linter.unusedVariables false
def insR (d : List Rg) (i : Nat) (r : Rg) : List Rg := d.take i ++ [r] ++ d.drop i
theorem insR_length {d : List Rg} {i : Nat} (r : Rg) (hi : i ≤ d.length) : (insR d i r).length = d.length + 1 := by
  unfold insR
  simp only [List.length_append, List.length_take, List.length_drop, List.length_cons, List.length_nil]
  omega
theorem insR_lt {d : List Rg} {i j : Nat} (r : Rg) (hi : i ≤ d.length) (hj : j < i) : gRg (insR d i r) j = gRg d j := by
  unfold gRg insR
  rw [List.append_assoc, List.getD_eq_getElem?_getD, List.getD_eq_getElem?_getD, List.getElem?_append_left (by simp; omega), List.getElem?_take_of_lt hj]
theorem insR_at {d : List Rg} {i : Nat} (r : Rg) (hi : i ≤ d.length) : gRg (insR d i r) i = r := by
  unfold gRg insR
  rw [List.append_assoc, List.getD_eq_getElem?_getD, List.getElem?_append_right (by simp; omega)]
  have : i - (d.take i).length = 0 := by simp; omega
  rw [this]
  rfl
theorem insR_set {d : List Rg} {i : Nat} (r x : Rg) (hi : i ≤ d.length) : (insR d i r).set i x = insR d i x := by
  unfold insR
  rw [List.append_assoc, List.append_assoc, List.set_append, if_neg (by simp; omega)]
  have : i - (d.take i).length = 0 := by simp; omega
  rw [this]
  rfl
theorem insR_filter {d : List Rg} {i : Nat} (x : Rg) (p : Rg → Bool) (hd : ∀ y ∈ d, p y = true) (hx : p x = false) : (insR d i x).filter p = d := by
  unfold insR
  rw [List.filter_append, List.filter_append, List.filter_eq_self.2 (fun y hy => hd y (List.mem_of_mem_take hy)), List.filter_eq_self.2 (fun y hy => hd y (List.mem_of_mem_drop hy)), List.filter_cons, if_neg (by simp [hx])]
  simp
theorem okR_span {r : Rg} (h : okR r = true) : r.st < r.en ∧ 0 ≤ r.ow ∧ r.ow ≤ 2147483647 := by
  unfold okR rangeB spanB inB at h
  simp at h
  omega
theorem mem_gRg {d : List Rg} {y : Rg} (h : y ∈ d) : ∃ j, j < d.length ∧ gRg d j = y := by
  obtain ⟨j, hj, e⟩ := List.mem_iff_getElem.1 h
  exact ⟨j, hj, by unfold gRg; rw [List.getD_eq_getElem?_getD, List.getElem?_eq_getElem hj, e]; rfl⟩
/-- Who may be added is like no range that is there. -/
theorem fresh_of {d : List Rg} {r : Rg} (hr : rightB d = true) (hm : mayF d r = 0) : okR r = true ∧ ∀ y ∈ d, sameR y r = false := by
  have hok : okR r = true := by
    unfold mayF at hm
    cases h : okR r
    · rw [h] at hm; simp at hm
    · rfl
  refine ⟨hok, fun y hy => ?_⟩
  have hy2 : overR y r = false := by
    unfold mayF at hm
    rw [if_neg (by rw [hok]; decide)] at hm
    split at hm
    · cases hm
    · by_cases h : d.any (fun o => overR o r) = true
      · rw [if_pos h] at hm; cases hm
      · rw [List.any_eq_true] at h
        cases e : overR y r
        · rfl
        · exact absurd ⟨y, hy, e⟩ h
  obtain ⟨j, hj, rfl⟩ := mem_gRg hy
  have hok2 : okR (gRg d j) = true := by
    have := (rightB_true.1 hr).2 j hj
    unfold stepB at this
    simp at this
    exact this.1
  have h1 := okR_span hok
  have h2 := okR_span hok2
  unfold overR at hy2
  unfold sameR
  simp at hy2 ⊢
  intro e1 e2 e3
  have := hy2 e1 e2
  omega
theorem sameR_ow (y r : Rg) (x : Int) : sameR y ⟨r.fr, r.tn, r.st, r.en, x⟩ = sameR y r := rfl
set_option maxHeartbeats 4000000 in
set_option maxRecDepth 100000 in
theorem rangesTwice_walk (A : Option Addr) (n c : Nat) (ns : List Int) (a0 a1 a2 a3 a4 o : Int) (hnl : ns.length = n * 5) (hw : ∀ m ∈ ns, (Lit.int .i64 m).wf = true) (hw1 : ∀ m ∈ [a0, a1, a2, a3, a4], (Lit.int .i64 m).wf = true) (hk : (Lit.int .i64 o).wf = true) (w : World) (hl : Sl w w.heap.size 5 A n c (ns.map (Value.int .i64))) :
    Calls Try.prog 5 #[.slice A n c, .agg #[.int .i64 a0, .int .i64 a1, .int .i64 a2, .int .i64 a3, .int .i64 a4], .int .i64 o] w fun e w' => e = .returned (.bool true) ∧ Below w.heap.size w w' := by
  clear hw hw1 hk
  obtain ⟨d, hd, hlf⟩ := rowsRg_of n ns hnl
  rw [hlf] at hl
  clear hlf hnl
  obtain ⟨r, hr⟩ : ∃ r : Rg, r = ⟨a0, a1, a2, a3, a4⟩ := ⟨_, rfl⟩
  have hB0 : Below w.heap.size w (w.alloc (.cells #[.int .i64 a0, .int .i64 a1, .int .i64 a2, .int .i64 a3, .int .i64 a4] 27)) := by (repeat (first | exact Below.refl _ _ | refine Below.alloc ?_ (by first | omega | (simp; done) | (simp; omega)) _ | refine Below.setCell ?_ (by first | omega | (simp; done) | (simp; omega)) _ | refine Below.drew ?_))
  have hX0 := Blok.new w 27 #[.int .i64 a0, .int .i64 a1, .int .i64 a2, .int .i64 a3, .int .i64 a4]
  have hl0 := hl.below hB0
  by_cases hn : 50 < n ∨ o < 0 ∨ 2147483647 < o
  · have hn' : 50 < n ∨ (n ≤ 50 ∧ o < 0) ∨ (n ≤ 50 ∧ 0 ≤ o ∧ 2147483647 < o) := by omega
    clear hn
    rcases hn' with hn | ⟨hn, ho⟩ | ⟨hn, ho, ho2⟩
    all_goals
      go_enter Try.func5, Try.ntmps5
      go_wp2_with fail
      refine (small07 _).mono ?_
      rintro e w1 ⟨rfl, hB⟩
      go_wp2
      go_ret
      exact ⟨rfl, by (repeat (first | exact Below.refl _ _ | exact hB | refine Below.alloc ?_ (by first | omega | (simp; done) | (simp; omega)) _ | refine Below.setCell ?_ (by first | omega | (simp; done) | (simp; omega)) _ | refine Below.drew ?_ | refine Below.trans ?_ (hB.mono (by first | omega | (simp; done) | (simp; omega)))))⟩
  · have hn1 : n ≤ 50 := by omega
    have ho1 : 0 ≤ o := by omega
    have ho2 : o ≤ 2147483647 := by omega
    clear hn
    have g1 : decide ((n : Int) > 50) = false := by simp; omega
    have g2 : decide (o < 0) = false := by simp; omega
    have g3 : decide (o > 2147483647) = false := by simp; omega
    go_enter Try.func5, Try.ntmps5
    go_wp2_with fail
    have hs0 := hB0.size
    generalize w.alloc (.cells #[.int .i64 a0, .int .i64 a1, .int .i64 a2, .int .i64 a3, .int .i64 a4] 27) = w0 at *
    refine (small07 _).mono ?_
    rintro e w1 ⟨rfl, hb⟩
    have hl1 := hl0.below (hb.mono hs0)
    have hX1 := hX0.below hb hX0.lt
    have hB1 := hB0.trans (hb.mono hs0)
    have hs1 := hB1.size
    clear hb hl0 hX0 hB0 hs0
    go_wp2_with fail
    refine (right_any A n c d w1 hd (by omega) (hl1.more hs1)).mono ?_
    rintro e w2 ⟨rfl, hb⟩
    have hl2 := hl1.below (hb.mono hs1)
    have hX2 := hX1.below hb hX1.lt
    have hB2 := hB1.trans (hb.mono hs1)
    have hs2 := hB2.size
    clear hb hl1 hX1 hB1 hs1
    cases hrt : rightB d
    · go_wp2_with fail
      go_ret
      exact ⟨rfl, hB2⟩
    · have k0 : w2.cell? ⟨w.heap.size, 0, none⟩ = some (.int .i64 a0) := hX2.cell 0
      have k1 : w2.cell? ⟨w.heap.size, 1, none⟩ = some (.int .i64 a1) := hX2.cell 1
      have k2 : w2.cell? ⟨w.heap.size, 2, none⟩ = some (.int .i64 a2) := hX2.cell 2
      have k3 : w2.cell? ⟨w.heap.size, 3, none⟩ = some (.int .i64 a3) := hX2.cell 3
      have k4 : w2.cell? ⟨w.heap.size, 4, none⟩ = some (.int .i64 a4) := hX2.cell 4
      go_wp2_with fail
      clear k0 k1 k2 k3 k4
      by_cases hm : mayF d r = 0
      · subst hr
        obtain ⟨hok, hfr⟩ := fresh_of hrt hm
        have hsp := okR_span hok
        have hrow : inB a4 0 2147483647 = true := by
          have h1 := hsp.2.1
          have h2 := hsp.2.2
          unfold inB
          simp at h1 h2 ⊢
          omega
        have horow : inB o 0 2147483647 = true := by
          unfold inB
          simp
          omega
        refine (add_yes A n c d ⟨a0, a1, a2, a3, a4⟩ w2 hd (by omega) (hl2.more hs2) hm).mono ?_
        rintro e w3 ⟨v, i, rfl, hi, _, _, hv, hb⟩
        replace hv : w3.ownsRow w2.heap.size 27 5 v (n + 1) (flatRg (insR d i ⟨a0, a1, a2, a3, a4⟩)) := hv
        have hl3 := hl2.below (hb.mono hs2)
        have hX3 := hX2.below hb hX2.lt
        have hB3 := hB2.trans (hb.mono hs2)
        have hs3 := hB3.size
        clear hb hl2 hX2 hB2 hs2
        obtain ⟨A1, c1, rfl⟩ := slice_of_own hv
        have k0 : w3.cell? ⟨w.heap.size, 0, none⟩ = some (.int .i64 a0) := hX3.cell 0
        have k1 : w3.cell? ⟨w.heap.size, 1, none⟩ = some (.int .i64 a1) := hX3.cell 1
        have k2 : w3.cell? ⟨w.heap.size, 2, none⟩ = some (.int .i64 a2) := hX3.cell 2
        have k3 : w3.cell? ⟨w.heap.size, 3, none⟩ = some (.int .i64 a3) := hX3.cell 3
        have k4 : w3.cell? ⟨w.heap.size, 4, none⟩ = some (.int .i64 a4) := hX3.cell 4
        go_wp2_with fail
        clear k0 k1 k2 k3 k4
        have hi' : i ≤ d.length := by omega
        have hin : ∀ y, (insR d i y).length = n + 1 := fun y => by rw [insR_length y hi', hd]
        have hbef : ∀ y, ∀ j, j < i → sameR (gRg (insR d i y) j) ⟨a0, a1, a2, a3, a4⟩ = false := fun y j hj => by
          rw [insR_lt y hi' hj]
          exact hfr _ (gRg_mem (by omega))
        have hat : ∀ x, sameR (gRg (insR d i ⟨a0, a1, a2, a3, x⟩) i) ⟨a0, a1, a2, a3, a4⟩ = true := fun x => by
          rw [insR_at _ hi']
          simp [sameR]
        have hset : ∀ x y, (insR d i ⟨a0, a1, a2, a3, x⟩).set i (withOw (gRg (insR d i ⟨a0, a1, a2, a3, x⟩) i) y) = insR d i ⟨a0, a1, a2, a3, y⟩ := fun x y => by
          rw [insR_set _ _ hi', insR_at _ hi']
          rfl
        have hfil : (insR d i ⟨a0, a1, a2, a3, o⟩).filter (fun x => !sameR x ⟨a0, a1, a2, a3, a4⟩) = d := insR_filter _ _ (fun y hy => by rw [hfr y hy]; rfl) (by simp [sameR])
        have hb : Below w3.heap.size w3 (w3.alloc (.cells #[.int .i64 a0, .int .i64 a1, .int .i64 a2, .int .i64 a3, .int .i64 o] 27)) := by (repeat (first | exact Below.refl _ _ | refine Below.alloc ?_ (by first | omega | (simp; done) | (simp; omega)) _ | refine Below.setCell ?_ (by first | omega | (simp; done) | (simp; omega)) _ | refine Below.drew ?_))
        generalize w3.alloc (.cells #[.int .i64 a0, .int .i64 a1, .int .i64 a2, .int .i64 a3, .int .i64 o] 27) = w4 at *
        have hl4 := hl3.below (hb.mono hs3)
        have hX4 := hX3.below hb hX3.lt
        have hB4 := hB3.trans (hb.mono hs3)
        have hs4 := hB4.size
        replace hv := own_below hv hb
        clear hb hl3 hX3 hB3 hs3
        refine (change_yes A1 (n + 1) c1 (insR d i ⟨a0, a1, a2, a3, a4⟩) ⟨a0, a1, a2, a3, o⟩ w4 i (hin _) (by omega) (Sl.of_own hv) horow (by omega) (hbef _) (hat _)).mono ?_
        rw [hset]
        rintro e w5 ⟨v2, rfl, hv2, hb⟩
        have hl5 := hl4.below (hb.mono hs4)
        have hX5 := hX4.below hb hX4.lt
        have hB5 := hB4.trans (hb.mono hs4)
        have hs5 := hB5.size
        replace hv := own_below hv hb
        clear hb hl4 hX4 hB4 hs4
        obtain ⟨A2, c2, rfl⟩ := slice_of_own hv2
        have k0 : w5.cell? ⟨w.heap.size, 0, none⟩ = some (.int .i64 a0) := hX5.cell 0
        have k1 : w5.cell? ⟨w.heap.size, 1, none⟩ = some (.int .i64 a1) := hX5.cell 1
        have k2 : w5.cell? ⟨w.heap.size, 2, none⟩ = some (.int .i64 a2) := hX5.cell 2
        have k3 : w5.cell? ⟨w.heap.size, 3, none⟩ = some (.int .i64 a3) := hX5.cell 3
        have k4 : w5.cell? ⟨w.heap.size, 4, none⟩ = some (.int .i64 a4) := hX5.cell 4
        go_wp2_with fail
        clear k0 k1 k2 k3 k4
        refine (change_yes A2 (n + 1) c2 (insR d i ⟨a0, a1, a2, a3, o⟩) ⟨a0, a1, a2, a3, a4⟩ w5 i (hin _) (by omega) (Sl.of_own hv2) hrow (by omega) (hbef _) (hat _)).mono ?_
        rw [hset]
        rintro e w6 ⟨v3, rfl, hv3, hb⟩
        have hl6 := hl5.below (hb.mono hs5)
        have hX6 := hX5.below hb hX5.lt
        have hB6 := hB5.trans (hb.mono hs5)
        have hs6 := hB6.size
        replace hv := own_below hv hb
        replace hv2 := own_below hv2 hb
        clear hb hl5 hX5 hB5 hs5
        obtain ⟨A3, c3, rfl⟩ := slice_of_own hv3
        have k0 : w6.cell? ⟨w.heap.size, 0, none⟩ = some (.int .i64 a0) := hX6.cell 0
        have k1 : w6.cell? ⟨w.heap.size, 1, none⟩ = some (.int .i64 a1) := hX6.cell 1
        have k2 : w6.cell? ⟨w.heap.size, 2, none⟩ = some (.int .i64 a2) := hX6.cell 2
        have k3 : w6.cell? ⟨w.heap.size, 3, none⟩ = some (.int .i64 a3) := hX6.cell 3
        have k4 : w6.cell? ⟨w.heap.size, 4, none⟩ = some (.int .i64 a4) := hX6.cell 4
        go_wp2_with fail
        clear k0 k1 k2 k3 k4
        refine (del_any A2 (n + 1) c2 (insR d i ⟨a0, a1, a2, a3, o⟩) ⟨a0, a1, a2, a3, a4⟩ w6 (hin _) (by omega) (Sl.of_own hv2)).mono ?_
        rw [hfil, hd, show delCode n (n + 1) = 0 from by unfold delCode; rw [if_neg (by omega)]]
        rintro e w7 ⟨v4, rfl, hv4, hb⟩
        have hl7 := hl6.below (hb.mono hs6)
        have hB7 := hB6.trans (hb.mono hs6)
        have hs7 := hB7.size
        replace hv := own_below hv hb
        replace hv3 := own_below hv3 hb
        clear hb hl6 hX6 hB6 hs6 hv2
        obtain ⟨A4, c4, rfl⟩ := slice_of_own hv4
        go_wp2_with fail
        refine (same_any A3 A1 (n + 1) c3 (n + 1) c1 _ _ w7 (hin _) (hin _) (by omega) (by omega) (Sl.of_own hv3) (Sl.of_own hv)).mono ?_
        rw [show decide (insR d i ⟨a0, a1, a2, a3, a4⟩ = insR d i ⟨a0, a1, a2, a3, a4⟩) = true from by simp]
        rintro e w8 ⟨rfl, hb⟩
        have hl8 := hl7.below (hb.mono hs7)
        have hB8 := hB7.trans (hb.mono hs7)
        have hs8 := hB8.size
        replace hv4 := own_below hv4 hb
        clear hb hl7 hB7 hs7 hv hv3
        go_wp2_with fail
        refine (same_any A4 A n c4 n c d d w8 hd hd (by omega) (by omega) (Sl.of_own hv4) (hl8.more hs8)).mono ?_
        rw [show decide (d = d) = true from by simp]
        rintro e w9 ⟨rfl, hb⟩
        have hB9 := hB8.trans (hb.mono hs8)
        go_wp2_with fail
        go_ret
        exact ⟨rfl, hB9⟩
      · subst hr
        refine (add_no A n c d ⟨a0, a1, a2, a3, a4⟩ w2 _ hd (by omega) (hl2.more hs2) rfl hm).mono ?_
        rintro e w3 ⟨v, rfl, hv, hb⟩
        generalize mayF d ⟨a0, a1, a2, a3, a4⟩ = q at *
        have hq : (q != 0) = true := by simpa using hm
        have hl3 := hl2.below (hb.mono hs2)
        have hB3 := hB2.trans (hb.mono hs2)
        have hs3 := hB3.size
        clear hb hl2 hX2 hB2 hs2
        obtain ⟨A1, c1, rfl⟩ := slice_of_own hv
        go_wp2_with fail
        refine (same_any A1 A n c1 n c d d w3 hd hd (by omega) (by omega) (Sl.of_own hv) (hl3.more hs3)).mono ?_
        rw [show decide (d = d) = true from by simp]
        rintro e w4 ⟨rfl, hb⟩
        have hB4 := hB3.trans (hb.mono hs3)
        go_wp2_with fail
        go_ret
        exact ⟨rfl, hB4⟩
theorem rangesTwice_own : ownKnob Try.prog.godebug = none := by kernel_rfl
theorem rangesTwice_laidOut : laidOutB Try.prog = true := by kernel_rfl

set_option maxHeartbeats 1000000 in
set_option maxRecDepth 100000 in
theorem rangesTwice_lifted (os : Os) (started : os.Started) (H : Type) (enc : TypeId × Value → H) :
    ReturnsInHanded {} Try.checked os 5 .any (Rows.rangesTwiceSpec.pre6 enc Try.prog Try.f5 Rows.rangesTwiceRow.domain false) (Rows.rangesTwiceSpec.post enc Try.prog Try.f5 false true false false) := by
  refine returnsInHanded_of_change (C := Try.checked) rangesTwice_own started (by kernel_rfl) Try.func5
    (ChangeSpec.witness6 (enc := enc) (C := Try.checked) false ⟨#[], #[.slice none 0 0, .agg #[.int .i64 0, .int .i64 0, .int .i64 0, .int .i64 0, .int .i64 0], .int .i64 0], []⟩ 8 (by kernel_rfl) (by kernel_rfl) (by kernel_rfl) (by kernel_rfl)) ?_
  intro W base args ds gs before hval0 hW hcnd _
  have hval : ∀ (j : Nat) t v, Try.f5.params[j]? = some t → args[j]? = some v → Value.okWide Try.prog W .any base t v := hval0
  have hW' := hW
  obtain ⟨p, q, hA0, hV, rfl, hfz, hnd⟩ := hW
  have hA : DataW.TrodAll enc Try.prog W 0 (fun _ => true) true Try.f5.params.toList args.toList ds p := hA0
  rw [Try.params5] at hA hval
  obtain ⟨v0, vs0, d0, ds0, p0, q0, hargs, rfl, rfl, h0, r0⟩ := trodAll_cons hA
  obtain ⟨v1, vs1, d1, ds1, p1, q1, rfl, rfl, rfl, h1, r1⟩ := trodAll_cons r0
  obtain ⟨v2, vs2, d2, ds2, p2, q2, rfl, rfl, rfl, h2, r2⟩ := trodAll_cons r1
  obtain ⟨rfl, rfl, rfl⟩ := trodAll_nil r2
  obtain rfl : args = #[v0, v1, v2] := by cases args; simp_all
  obtain ⟨rfl, rfl⟩ := trodVars_none hV
  obtain ⟨A0, n0, c0, ns0, rfl, hl0, nl0, w0⟩ := open_rowsS 4 (K := 5) Try.underlying22 (by kernel_rfl) (by kernel_rfl) (by omega) (hval 0 22 v0 rfl rfl) h0
  obtain ⟨n1, e1, l1, w1⟩ := open_flat 4 Try.underlying27 (by kernel_rfl) (hval 1 27 v1 rfl rfl) h1
  obtain ⟨a1_0, a1_1, a1_2, a1_3, a1_4, rfl⟩ : ∃ a1_0 a1_1 a1_2 a1_3 a1_4 : Int, n1 = [a1_0, a1_1, a1_2, a1_3, a1_4] := by
    rw [show Try.prog.cellsOf 27 = 5 by kernel_rfl] at l1
    match n1, l1 with
    | [a1_0, a1_1, a1_2, a1_3, a1_4], _ => exact ⟨_, _, _, _, _, rfl⟩
  obtain rfl : v1 = .agg #[.int .i64 a1_0, .int .i64 a1_1, .int .i64 a1_2, .int .i64 a1_3, .int .i64 a1_4] := e1
  obtain ⟨a2, rfl, rfl, rfl, w2⟩ := open_int Try.underlying3 (hval 2 3 v2 rfl rfl) h2
  clear hA0 hval0
  refine (rangesTwice_walk A0 n0 c0 ns0 a1_0 a1_1 a1_2 a1_3 a1_4 a2 nl0 w0 w1 w2 W hl0).mono fun e W' ⟨he, bel⟩ => ?_
  subst he
  exact ⟨_, rfl, law_post rangesTwice_laidOut (by kernel_rfl) rfl Try.underlying4 rfl rfl hW' bel⟩

theorem rangesTwice_proved : Rows.RangesTwiceSaid :=
  OpenClaim.holds_of_wide 5 Try.f5 rfl rfl rfl rfl rfl rfl rfl ⟨rfl, rfl, rfl, rfl, rfl⟩ rfl rfl rfl rfl rfl (by kernel_rfl) Try.func5 (by kernel_rfl)
    (of_decide_eq_true (by kernel_rfl)) (by unfold Func.isWrapper; first | (rw [if_pos (by decide +kernel)]; kernel_rfl) | (rw [if_neg (by decide +kernel)]; exact ⟨rfl, rfl⟩))
    (fun os started H enc _ => rangesTwice_lifted os started H enc)
#print axioms rangesTwice_proved
end Go.Proofs.Ytglhembdlipccaa
