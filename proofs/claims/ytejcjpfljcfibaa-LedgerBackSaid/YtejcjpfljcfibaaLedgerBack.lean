/- What was booked may be released, and then all is as it was: LedgerBack returns true. No condition. -/
import Derived.Test.YtejcjpfljcfibaaRows
import Derived.Test.YtejcjpfljcfibaaLedgerMath
import Derived.Test.YtejcjpfljcfibaaSmall09
import Derived.Test.YtejcjpfljcfibaaOpenS
import Derived.Deep.RegionWith
namespace Go.Proofs.Ytejcjpfljcfibaa
open Go.ChangeShapes Go.WideShapes Go.ChangeAt Go.RowKit Go.Sort
set_option linter.unusedSimpArgs false
set_option linter.unusedVariables false
theorem index3_cl (y : Bk) {cl : Int} (h : inB cl 0 2 = true) (w : World) : (Instr.index 38 (.agg #[.int .i64 y.ua, .int .i64 y.ub, .int .i64 y.uc]) (.int .i64 cl)).run Try.prog w = .ok (.int .i64 (getU y cl)) w := by
  rcases class_cases h with rfl | rfl | rfl
  · rw [index3_0]; simp [getU]
  · rw [index3_1]; simp [getU]
  · rw [index3_2]; simp [getU]
theorem getU_bump (x : Bk) {cl : Int} (sz : Int) (h : inB cl 0 2 = true) : getU (bump x cl sz) cl = getU x cl + sz := by
  rcases class_cases h with rfl | rfl | rfl <;> simp [getU, bump]
theorem bump_back (x : Bk) (cl sz : Int) : bump (bump x cl sz) cl (-sz) = x := by
  obtain ⟨a, b, d, e⟩ := x
  unfold bump
  by_cases h0 : cl = 0
  · simp [h0]; omega
  · by_cases h1 : cl = 1
    · simp [h1]; omega
    · simp [h0, h1]; omega
theorem room_bump {c : Ct} {x : Bk} {cl sz : Int} (hx : okU x) (hc : inB cl 0 2 = true) (h0 : 0 ≤ sz) (h1 : sz ≤ roomF c x cl) : roomF c (bump x cl sz) cl = roomF c x cl - sz := by
  have hv := volC_ok c
  unfold roomF at h1 ⊢
  rw [if_pos hc] at h1 ⊢
  rw [if_pos hc]
  obtain ⟨a0, a1, b0, b1, c0, c1⟩ := hx
  rcases class_cases hc with rfl | rfl | rfl
  · simp only [backF, bump, capAdd, if_true] at h1 ⊢; omega
  · simp [backF, bump, capAdd] at h1 ⊢; omega
  · simp [backF, bump, capAdd] at h1 ⊢; omega
theorem back_facts {l : List Bk} {c : Ct} {cl s : Int} (hr : rightB l = true) (hb : bookB l c cl s = true) (m : List Bk) (hm : bookL l c cl s = m) :
    inB cl 0 2 = true ∧ 0 ≤ s ∧ s ≤ roomF c (rowB l c.id) cl ∧ relB m c.id cl s = true ∧ relL m c.id cl s = l ∧ relB m c.id cl (getU (rowB m c.id) cl + 1) = false ∧ roomF c (rowB m c.id) cl = roomF c (rowB l c.id) cl - s := by
  obtain ⟨h1, h2, h3, h4, h5⟩ := book_facts hr hb
  have hrm : rightB m = true := by rw [← hm]; exact book_right hr
  have hrow : rowB m c.id = bump (rowB l c.id) cl s := by rw [← hm, book_row hr]; simp [hb]
  have hgu := getU_ok (right_ok hr c.id) cl
  have hg2 : getU (rowB m c.id) cl = getU (rowB l c.id) cl + s := by rw [hrow, getU_bump _ _ h2]
  have hrel : relB m c.id cl s = true := by unfold relB inB; rw [hg2]; unfold inB at h2; simp only [Bool.and_eq_true, decide_eq_true_eq] at h2 ⊢; omega
  refine ⟨h2, h3, h4, hrel, right_ext (rel_right hrm) hr (fun j => ?_), ?_, by rw [hrow]; exact room_bump (right_ok hr c.id) h2 h3 h4⟩
  · rw [rel_row hrm]
    by_cases e : j = c.id
    · subst e; rw [if_pos ⟨hrel, rfl⟩, hrow, bump_back]
    · rw [if_neg (fun h => e h.2), ← hm, book_row hr, if_neg (fun h => e h.2)]
  · unfold relB
    rw [Bool.and_eq_false_iff]
    right
    unfold inB
    simp
    omega
theorem back_no {l : List Bk} {c : Ct} {cl s : Int} (hb : bookB l c cl s = false) : okC c = false ∨ (okC c = true ∧ cl < 0) ∨ (okC c = true ∧ 0 ≤ cl ∧ 2 < cl) ∨ (okC c = true ∧ 0 ≤ cl ∧ cl ≤ 2 ∧ s < 0) ∨ (okC c = true ∧ 0 ≤ cl ∧ cl ≤ 2 ∧ 0 ≤ s ∧ roomF c (rowB l c.id) cl < s) := by
  unfold bookB inB at hb
  cases ho : okC c
  · exact .inl rfl
  · rw [ho] at hb
    simp at hb
    have := fun (a : 0 ≤ cl) (b : cl ≤ 2) (d : 0 ≤ s) => hb a b d
    by_cases h1 : cl < 0
    · exact .inr (.inl ⟨rfl, h1⟩)
    · by_cases h2 : 2 < cl
      · exact .inr (.inr (.inl ⟨rfl, by omega, h2⟩))
      · by_cases h3 : s < 0
        · exact .inr (.inr (.inr (.inl ⟨rfl, by omega, by omega, h3⟩)))
        · exact .inr (.inr (.inr (.inr ⟨rfl, by omega, by omega, by omega, this (by omega) (by omega) (by omega)⟩)))
set_option maxHeartbeats 8000000 in
set_option maxRecDepth 100000 in
theorem back_walk (A : Option Addr) (n k : Nat) (l : List Bk) (c : Ct) (cl s : Int) (hd : l.length = n) (w : World) (hl : Sl w w.heap.size 4 A n k (flatBk l)) :
    Calls Try.prog 4 #[.slice A n k, .agg #[.int .i64 c.id, .int .i64 c.fr, .int .i64 c.tn, .int .i64 c.st, .int .i64 c.en, .int .i64 c.rt], .int .i64 cl, .int .i64 s] w fun e w' => e = .returned (.bool true) ∧ Below w.heap.size w w' := by
  have hB : Below w.heap.size w (w.alloc (.cells #[.int .i64 c.id, .int .i64 c.fr, .int .i64 c.tn, .int .i64 c.st, .int .i64 c.en, .int .i64 c.rt] 29)) := by (repeat (first | exact Below.refl _ _ | refine Below.alloc ?_ (by first | omega | (simp; done) | (simp; omega)) _ | refine Below.setCell ?_ (by first | omega | (simp; done) | (simp; omega)) _ | refine Below.drew ?_))
  have hXc := Blok.new w 29 #[.int .i64 c.id, .int .i64 c.fr, .int .i64 c.tn, .int .i64 c.st, .int .i64 c.en, .int .i64 c.rt]
  replace hl := hl.below hB
  have hs := hB.size
  by_cases hn : 50 < n
  · skip
    go_enter Try.func4, Try.ntmps4
    go_wp2_with fail
    generalize (w.alloc (.cells #[.int .i64 c.id, .int .i64 c.fr, .int .i64 c.tn, .int .i64 c.st, .int .i64 c.en, .int .i64 c.rt] 29)) = w0 at *
    refine (small09 w0).mono ?_
    rintro e w1 ⟨rfl, hb⟩
    replace hl := hl.below (hb.mono hs)
    replace hXc := hXc.below hb hXc.lt
    replace hB := hB.trans (hb.mono hs)
    replace hs := hB.size
    clear hb
    go_wp2
    go_ret
    exact ⟨rfl, hB⟩
  · skip
    go_enter Try.func4, Try.ntmps4
    go_wp2_with fail
    generalize (w.alloc (.cells #[.int .i64 c.id, .int .i64 c.fr, .int .i64 c.tn, .int .i64 c.st, .int .i64 c.en, .int .i64 c.rt] 29)) = w0 at *
    refine (small09 w0).mono ?_
    rintro e w1 ⟨rfl, hb⟩
    replace hl := hl.below (hb.mono hs)
    replace hXc := hXc.below hb hXc.lt
    replace hB := hB.trans (hb.mono hs)
    replace hs := hB.size
    clear hb
    go_wp2_with fail
    refine (right_any A n k l w1 hd (by omega) (hl.more hs)).mono ?_
    rintro e w2 ⟨rfl, hb⟩
    replace hl := hl.below (hb.mono hs)
    replace hXc := hXc.below hb hXc.lt
    replace hB := hB.trans (hb.mono hs)
    replace hs := hB.size
    clear hb
    cases hrt : rightB l
    · go_wp2_with fail
      go_ret
      exact ⟨rfl, hB⟩
    · skip
      obtain ⟨rm, hrm⟩ : ∃ r, roomF c (rowB l c.id) cl = r := ⟨_, rfl⟩
      have HRM := Lib.hid hrm
      have HRT := Lib.hid hrt
      clear hrt hrm
      have c0 : w2.cell? ⟨w.heap.size, 0, none⟩ = some (.int .i64 c.id) := hXc.cell 0
      have c1 : w2.cell? ⟨w.heap.size, 1, none⟩ = some (.int .i64 c.fr) := hXc.cell 1
      have c2 : w2.cell? ⟨w.heap.size, 2, none⟩ = some (.int .i64 c.tn) := hXc.cell 2
      have c3 : w2.cell? ⟨w.heap.size, 3, none⟩ = some (.int .i64 c.st) := hXc.cell 3
      have c4 : w2.cell? ⟨w.heap.size, 4, none⟩ = some (.int .i64 c.en) := hXc.cell 4
      have c5 : w2.cell? ⟨w.heap.size, 5, none⟩ = some (.int .i64 c.rt) := hXc.cell 5
      have lt_c := hXc.lt
      go_wp2_with fail
      clear c0 c1 c2 c3 c4 c5 lt_c
      refine (room_any A n k l c cl w2 hd (by omega) (hl.more hs) (right_sort HRT.out) _ rfl (right_ok HRT.out _) rm HRM.out).mono ?_
      rintro e w3 ⟨rfl, hb⟩
      replace hl := hl.below (hb.mono hs)
      replace hXc := hXc.below hb hXc.lt
      replace hB := hB.trans (hb.mono hs)
      replace hs := hB.size
      clear hb
      obtain ⟨p, hp⟩ : ∃ p, bookB l c cl s = p := ⟨_, rfl⟩
      obtain ⟨m, hm⟩ : ∃ x, bookL l c cl s = x := ⟨_, rfl⟩
      obtain ⟨nm, hnm⟩ : ∃ q, m.length = q := ⟨_, rfl⟩
      have nm1 : nm ≤ 51 := by
        have h1 := bookL_len l c cl s
        rw [hm] at h1
        omega
      have HP := Lib.hid hp
      have HM := Lib.hid hm
      have HNM := Lib.hid hnm
      clear hp hm hnm
      have c0 : w3.cell? ⟨w.heap.size, 0, none⟩ = some (.int .i64 c.id) := hXc.cell 0
      have c1 : w3.cell? ⟨w.heap.size, 1, none⟩ = some (.int .i64 c.fr) := hXc.cell 1
      have c2 : w3.cell? ⟨w.heap.size, 2, none⟩ = some (.int .i64 c.tn) := hXc.cell 2
      have c3 : w3.cell? ⟨w.heap.size, 3, none⟩ = some (.int .i64 c.st) := hXc.cell 3
      have c4 : w3.cell? ⟨w.heap.size, 4, none⟩ = some (.int .i64 c.en) := hXc.cell 4
      have c5 : w3.cell? ⟨w.heap.size, 5, none⟩ = some (.int .i64 c.rt) := hXc.cell 5
      have lt_c := hXc.lt
      go_wp2_with fail
      clear c0 c1 c2 c3 c4 c5 lt_c
      refine (book_any A n k l c cl s w3 hd (by omega) (hl.more hs) HRT.out p HP.out m HM.out).mono ?_
      rintro e w4 ⟨vm, rfl, hvm, hb⟩
      rw [HNM.out] at hvm
      replace hl := hl.below (hb.mono hs)
      replace hXc := hXc.below hb hXc.lt
      replace hB := hB.trans (hb.mono hs)
      replace hs := hB.size
      clear hb
      obtain ⟨Am, cm, rfl⟩ := slice_of_own hvm
      cases p
      · skip
        have hml : m = l := by rw [← HM.out]; unfold bookL; rw [if_neg (by rw [HP.out]; simp)]
        have hno := back_no HP.out
        rw [HRM.out] at hno
        obtain ⟨ok, hok⟩ : ∃ b, okC c = b := ⟨_, rfl⟩
        rw [hok] at hno
        have hok' : contactB c.id c.fr c.tn c.st c.en c.rt = ok := hok
        have HOK := Lib.hid hok'
        have HML := Lib.hid hml
        clear hml hok hok'
        go_wp2_with fail
        refine (same_any Am A nm cm n k m l w4 HNM.out hd (by omega) (by omega) (Sl.of_own hvm) (hl.more hs)).mono ?_
        rw [decide_eq_true HML.out]
        rintro e w5 ⟨rfl, hb⟩
        replace hvm := own_below hvm hb
        replace hl := hl.below (hb.mono hs)
        replace hXc := hXc.below hb hXc.lt
        replace hB := hB.trans (hb.mono hs)
        replace hs := hB.size
        clear hb
        have c0 : w5.cell? ⟨w.heap.size, 0, none⟩ = some (.int .i64 c.id) := hXc.cell 0
        have c1 : w5.cell? ⟨w.heap.size, 1, none⟩ = some (.int .i64 c.fr) := hXc.cell 1
        have c2 : w5.cell? ⟨w.heap.size, 2, none⟩ = some (.int .i64 c.tn) := hXc.cell 2
        have c3 : w5.cell? ⟨w.heap.size, 3, none⟩ = some (.int .i64 c.st) := hXc.cell 3
        have c4 : w5.cell? ⟨w.heap.size, 4, none⟩ = some (.int .i64 c.en) := hXc.cell 4
        have c5 : w5.cell? ⟨w.heap.size, 5, none⟩ = some (.int .i64 c.rt) := hXc.cell 5
        have lt_c := hXc.lt
        rcases hno with rfl | ⟨rfl, h1⟩ | ⟨rfl, h1, h2⟩ | ⟨rfl, h1, h2, h3⟩ | ⟨rfl, h1, h2, h3, h4⟩
        · go_wp2_with fail
          refine (contact_is false HOK.out _).mono ?_
          rintro e w6 ⟨rfl, hb⟩
          replace hB := hB.trans (hb.mono hs)
          clear hb c0 c1 c2 c3 c4 c5 lt_c hXc hvm hl
          go_wp2
          go_ret
          exact ⟨rfl, hB⟩
        · go_wp2_with fail
          refine (contact_is true HOK.out _).mono ?_
          rintro e w6 ⟨rfl, hb⟩
          replace hB := hB.trans (hb.mono hs)
          clear hb c0 c1 c2 c3 c4 c5 lt_c hXc hvm hl
          go_wp2
          go_ret
          exact ⟨rfl, hB⟩
        · go_wp2_with fail
          refine (contact_is true HOK.out _).mono ?_
          rintro e w6 ⟨rfl, hb⟩
          replace hB := hB.trans (hb.mono hs)
          clear hb c0 c1 c2 c3 c4 c5 lt_c hXc hvm hl
          go_wp2
          go_ret
          exact ⟨rfl, hB⟩
        · go_wp2_with fail
          refine (contact_is true HOK.out _).mono ?_
          rintro e w6 ⟨rfl, hb⟩
          replace hB := hB.trans (hb.mono hs)
          clear hb c0 c1 c2 c3 c4 c5 lt_c hXc hvm hl
          go_wp2
          go_ret
          exact ⟨rfl, hB⟩
        · go_wp2_with fail
          refine (contact_is true HOK.out _).mono ?_
          rintro e w6 ⟨rfl, hb⟩
          replace hB := hB.trans (hb.mono hs)
          clear hb c0 c1 c2 c3 c4 c5 lt_c hXc hvm hl
          go_wp2
          go_ret
          exact ⟨rfl, hB⟩
      · skip
        obtain ⟨f1, f2, f3, f4, f5, f6, f7⟩ := back_facts HRT.out HP.out m HM.out
        rw [HRM.out] at f3 f7
        obtain ⟨y, hy⟩ : ∃ y, rowB m c.id = y := ⟨_, rfl⟩
        rw [hy] at f6
        have hrmm : rightB m = true := by rw [← HM.out]; exact book_right HRT.out
        have hgu := getU_ok (right_ok hrmm c.id) cl
        rw [hy] at hgu
        obtain ⟨u, hu⟩ : ∃ u, getU y cl = u := ⟨_, rfl⟩
        rw [hu] at hgu f6
        obtain ⟨u0, u1⟩ := hgu
        have HY := Lib.hid hy
        have HU := Lib.hid hu
        have HRR := Lib.hid hrmm
        have F1 := Lib.hid f1
        have F4 := Lib.hid f4
        have F5 := Lib.hid f5
        have F6 := Lib.hid f6
        have F7 := Lib.hid f7
        clear f1 f4 f5 f6 f7 hy hu hrmm
        have c0 : w4.cell? ⟨w.heap.size, 0, none⟩ = some (.int .i64 c.id) := hXc.cell 0
        have c1 : w4.cell? ⟨w.heap.size, 1, none⟩ = some (.int .i64 c.fr) := hXc.cell 1
        have c2 : w4.cell? ⟨w.heap.size, 2, none⟩ = some (.int .i64 c.tn) := hXc.cell 2
        have c3 : w4.cell? ⟨w.heap.size, 3, none⟩ = some (.int .i64 c.st) := hXc.cell 3
        have c4 : w4.cell? ⟨w.heap.size, 4, none⟩ = some (.int .i64 c.en) := hXc.cell 4
        have c5 : w4.cell? ⟨w.heap.size, 5, none⟩ = some (.int .i64 c.rt) := hXc.cell 5
        have lt_c := hXc.lt
        go_wp2_with fail
        clear c0 c1 c2 c3 c4 c5 lt_c
        refine (rel_any Am nm cm m c.id cl s w4 HNM.out (by omega) (Sl.of_own hvm) HRR.out true F4.out l F5.out).mono ?_
        rintro e w5 ⟨vn, rfl, hvn, hb⟩
        rw [hd] at hvn
        replace hvm := own_below hvm hb
        replace hl := hl.below (hb.mono hs)
        replace hXc := hXc.below hb hXc.lt
        replace hB := hB.trans (hb.mono hs)
        replace hs := hB.size
        clear hb
        obtain ⟨An, cn, rfl⟩ := slice_of_own hvn
        have hrm0 : 0 ≤ rm ∧ rm ≤ 4611686018427387904 := by
          have h1 := HRM.out
          have h2 := volC_ok c
          have h3 := backF_ok (right_ok HRT.out c.id) cl
          unfold roomF at h1
          rw [if_pos F1.out] at h1
          omega
        obtain ⟨hr0, hr1⟩ := hrm0
        have hix := index3_cl y F1.out
        rw [HU.out] at hix
        have hwr : IntKind.i64.wrap (u + 1) = u + 1 := IntWalk.i64_in _ (by omega)
        have c0 : w5.cell? ⟨w.heap.size, 0, none⟩ = some (.int .i64 c.id) := hXc.cell 0
        have c1 : w5.cell? ⟨w.heap.size, 1, none⟩ = some (.int .i64 c.fr) := hXc.cell 1
        have c2 : w5.cell? ⟨w.heap.size, 2, none⟩ = some (.int .i64 c.tn) := hXc.cell 2
        have c3 : w5.cell? ⟨w.heap.size, 3, none⟩ = some (.int .i64 c.st) := hXc.cell 3
        have c4 : w5.cell? ⟨w.heap.size, 4, none⟩ = some (.int .i64 c.en) := hXc.cell 4
        have c5 : w5.cell? ⟨w.heap.size, 5, none⟩ = some (.int .i64 c.rt) := hXc.cell 5
        have lt_c := hXc.lt
        go_wp2_with fail
        have hb : Below w5.heap.size w5 w5.drew := ⟨rfl, rfl, rfl, Nat.le_refl _, fun _ _ => rfl⟩
        replace hl := hl.below (hb.mono hs)
        replace hvm := own_below hvm hb
        replace hvn := own_below hvn hb
        replace hXc := hXc.below hb hXc.lt
        replace hB := hB.trans (hb.mono hs)
        replace hs := hB.size
        clear hb c0 c1 c2 c3 c4 c5 lt_c
        have c0 : w5.drew.cell? ⟨w.heap.size, 0, none⟩ = some (.int .i64 c.id) := hXc.cell 0
        have c1 : w5.drew.cell? ⟨w.heap.size, 1, none⟩ = some (.int .i64 c.fr) := hXc.cell 1
        have c2 : w5.drew.cell? ⟨w.heap.size, 2, none⟩ = some (.int .i64 c.tn) := hXc.cell 2
        have c3 : w5.drew.cell? ⟨w.heap.size, 3, none⟩ = some (.int .i64 c.st) := hXc.cell 3
        have c4 : w5.drew.cell? ⟨w.heap.size, 4, none⟩ = some (.int .i64 c.en) := hXc.cell 4
        have c5 : w5.drew.cell? ⟨w.heap.size, 5, none⟩ = some (.int .i64 c.rt) := hXc.cell 5
        have lt_c := hXc.lt
        go_region_with (first
          | (go_at_call 21; refine Calls.mono (used_any Am nm cm m c.id _ HNM.out (by omega) (Sl.of_own hvm) (right_sort HRR.out) y HY.out) ?_; rintro e wN ⟨rfl, hb⟩; replace hl := hl.below (hb.mono hs); replace hvm := own_below hvm hb; replace hvn := own_below hvn hb; replace hXc := hXc.below hb hXc.lt; replace hB := hB.trans (hb.mono hs); replace hs := hB.size; clear hb c0 c1 c2 c3 c4 c5 lt_c; have c0 : wN.cell? ⟨w.heap.size, 0, none⟩ = some (.int .i64 c.id) := hXc.cell 0; have c1 : wN.cell? ⟨w.heap.size, 1, none⟩ = some (.int .i64 c.fr) := hXc.cell 1; have c2 : wN.cell? ⟨w.heap.size, 2, none⟩ = some (.int .i64 c.tn) := hXc.cell 2; have c3 : wN.cell? ⟨w.heap.size, 3, none⟩ = some (.int .i64 c.st) := hXc.cell 3; have c4 : wN.cell? ⟨w.heap.size, 4, none⟩ = some (.int .i64 c.en) := hXc.cell 4; have c5 : wN.cell? ⟨w.heap.size, 5, none⟩ = some (.int .i64 c.rt) := hXc.cell 5; have lt_c := hXc.lt)
          | (go_at_call 15; refine Calls.mono (rel_any Am nm cm m c.id cl (u + 1) _ HNM.out (by omega) (Sl.of_own hvm) HRR.out false F6.out m (by unfold relL; rw [if_neg (by rw [F6.out]; simp)])) ?_; rintro e wN ⟨v9, rfl, hv9, hb⟩; obtain ⟨A9, c9, rfl⟩ := slice_of_own hv9; clear hv9; replace hl := hl.below (hb.mono hs); replace hvm := own_below hvm hb; replace hvn := own_below hvn hb; replace hXc := hXc.below hb hXc.lt; replace hB := hB.trans (hb.mono hs); replace hs := hB.size; clear hb c0 c1 c2 c3 c4 c5 lt_c; have c0 : wN.cell? ⟨w.heap.size, 0, none⟩ = some (.int .i64 c.id) := hXc.cell 0; have c1 : wN.cell? ⟨w.heap.size, 1, none⟩ = some (.int .i64 c.fr) := hXc.cell 1; have c2 : wN.cell? ⟨w.heap.size, 2, none⟩ = some (.int .i64 c.tn) := hXc.cell 2; have c3 : wN.cell? ⟨w.heap.size, 3, none⟩ = some (.int .i64 c.st) := hXc.cell 3; have c4 : wN.cell? ⟨w.heap.size, 4, none⟩ = some (.int .i64 c.en) := hXc.cell 4; have c5 : wN.cell? ⟨w.heap.size, 5, none⟩ = some (.int .i64 c.rt) := hXc.cell 5; have lt_c := hXc.lt))
        all_goals
          clear hix hwr
          go_wp2_with fail
          refine (same_any An A n cn n k l l _ hd hd (by omega) (by omega) (Sl.of_own hvn) (hl.more hs)).mono ?_
          rw [decide_eq_true (rfl : l = l)]
          rintro e wN ⟨rfl, hb⟩
          clear hvn
          replace hl := hl.below (hb.mono hs)
          replace hvm := own_below hvm hb
          replace hXc := hXc.below hb hXc.lt
          replace hB := hB.trans (hb.mono hs)
          replace hs := hB.size
          clear hb c0 c1 c2 c3 c4 c5 lt_c
          have c0 : wN.cell? ⟨w.heap.size, 0, none⟩ = some (.int .i64 c.id) := hXc.cell 0
          have c1 : wN.cell? ⟨w.heap.size, 1, none⟩ = some (.int .i64 c.fr) := hXc.cell 1
          have c2 : wN.cell? ⟨w.heap.size, 2, none⟩ = some (.int .i64 c.tn) := hXc.cell 2
          have c3 : wN.cell? ⟨w.heap.size, 3, none⟩ = some (.int .i64 c.st) := hXc.cell 3
          have c4 : wN.cell? ⟨w.heap.size, 4, none⟩ = some (.int .i64 c.en) := hXc.cell 4
          have c5 : wN.cell? ⟨w.heap.size, 5, none⟩ = some (.int .i64 c.rt) := hXc.cell 5
          have lt_c := hXc.lt
          go_wp2_with fail
          refine (room_any Am nm cm m c cl _ HNM.out (by omega) (Sl.of_own hvm) (right_sort HRR.out) _ rfl (right_ok HRR.out _) (rm - s) F7.out).mono ?_
          rintro e wN ⟨rfl, hb⟩
          replace hl := hl.below (hb.mono hs)
          replace hvm := own_below hvm hb
          replace hXc := hXc.below hb hXc.lt
          replace hB := hB.trans (hb.mono hs)
          replace hs := hB.size
          clear hb c0 c1 c2 c3 c4 c5 lt_c
          have c0 : wN.cell? ⟨w.heap.size, 0, none⟩ = some (.int .i64 c.id) := hXc.cell 0
          have c1 : wN.cell? ⟨w.heap.size, 1, none⟩ = some (.int .i64 c.fr) := hXc.cell 1
          have c2 : wN.cell? ⟨w.heap.size, 2, none⟩ = some (.int .i64 c.tn) := hXc.cell 2
          have c3 : wN.cell? ⟨w.heap.size, 3, none⟩ = some (.int .i64 c.st) := hXc.cell 3
          have c4 : wN.cell? ⟨w.heap.size, 4, none⟩ = some (.int .i64 c.en) := hXc.cell 4
          have c5 : wN.cell? ⟨w.heap.size, 5, none⟩ = some (.int .i64 c.rt) := hXc.cell 5
          have lt_c := hXc.lt
          go_wp2_with fail
          refine (right_any Am nm cm m _ HNM.out (by omega) (Sl.of_own hvm)).mono ?_
          rw [HRR.out]
          rintro e wN ⟨rfl, hb⟩
          replace hB := hB.trans (hb.mono hs)
          clear hb c0 c1 c2 c3 c4 c5 lt_c hXc hvm hl
          go_wp2
          go_ret
          exact ⟨rfl, hB⟩
theorem ledgerBack_walk (A : Option Addr) (n k : Nat) (ns : List Int) (a0 a1 a2 a3 a4 a5 x y : Int) (hnl : ns.length = n * 4) (_ : ∀ m ∈ ns, (Lit.int .i64 m).wf = true) (_ : ∀ m ∈ [a0, a1, a2, a3, a4, a5], (Lit.int .i64 m).wf = true) (_ : (Lit.int .i64 x).wf = true) (_ : (Lit.int .i64 y).wf = true) (w : World) (hl : Sl w w.heap.size 4 A n k (ns.map (Value.int .i64))) :
    Calls Try.prog 4 #[.slice A n k, .agg #[.int .i64 a0, .int .i64 a1, .int .i64 a2, .int .i64 a3, .int .i64 a4, .int .i64 a5], .int .i64 x, .int .i64 y] w fun e w' => e = .returned (.bool true) ∧ Below w.heap.size w w' := by
  obtain ⟨d, hd, hlf⟩ := rowsBk_of n ns hnl
  rw [hlf] at hl
  exact back_walk A n k d ⟨a0, a1, a2, a3, a4, a5⟩ x y hd w hl
theorem ledgerBack_own : ownKnob Try.prog.godebug = none := by kernel_rfl
theorem ledgerBack_laidOut : laidOutB Try.prog = true := by kernel_rfl

set_option maxHeartbeats 1000000 in
set_option maxRecDepth 100000 in
theorem ledgerBack_lifted (os : Os) (started : os.Started) (H : Type) (enc : TypeId × Value → H) :
    ReturnsInHanded {} Try.checked os 4 .any (Rows.ledgerBackSpec.pre6 enc Try.prog Try.f4 Rows.ledgerBackRow.domain false) (Rows.ledgerBackSpec.post enc Try.prog Try.f4 false true false false) := by
  refine returnsInHanded_of_change (C := Try.checked) ledgerBack_own started (by kernel_rfl) Try.func4
    (ChangeSpec.witness6 (enc := enc) (C := Try.checked) false ⟨#[], #[.slice none 0 0, .agg #[.int .i64 0, .int .i64 0, .int .i64 0, .int .i64 0, .int .i64 0, .int .i64 0], .int .i64 0, .int .i64 0], []⟩ 8 (by kernel_rfl) (by kernel_rfl) (by kernel_rfl) (by kernel_rfl)) ?_
  intro W base args ds gs before hval0 hW hcnd _
  have hval : ∀ (j : Nat) t v, Try.f4.params[j]? = some t → args[j]? = some v → Value.okWide Try.prog W .any base t v := hval0
  have hW' := hW
  obtain ⟨p, q, hA0, hV, rfl, hfz, hnd⟩ := hW
  have hA : DataW.TrodAll enc Try.prog W 0 (fun _ => true) true Try.f4.params.toList args.toList ds p := hA0
  rw [Try.params4] at hA hval
  obtain ⟨v0, vs0, d0, ds0, p0, q0, hargs, rfl, rfl, h0, r0⟩ := trodAll_cons hA
  obtain ⟨v1, vs1, d1, ds1, p1, q1, rfl, rfl, rfl, h1, r1⟩ := trodAll_cons r0
  obtain ⟨v2, vs2, d2, ds2, p2, q2, rfl, rfl, rfl, h2, r2⟩ := trodAll_cons r1
  obtain ⟨v3, vs3, d3, ds3, p3, q3, rfl, rfl, rfl, h3, r3⟩ := trodAll_cons r2
  obtain ⟨rfl, rfl, rfl⟩ := trodAll_nil r3
  obtain rfl : args = #[v0, v1, v2, v3] := by cases args; simp_all
  obtain ⟨rfl, rfl⟩ := trodVars_none hV
  obtain ⟨A0, n0, c0, ns0, rfl, hl0, nl0, w0⟩ := open_rowsS 4 (K := 4) Try.underlying22 (by kernel_rfl) (by kernel_rfl) (by omega) (hval 0 22 v0 rfl rfl) h0
  obtain ⟨n1, e1, l1, w1⟩ := open_flat 4 Try.underlying29 (by kernel_rfl) (hval 1 29 v1 rfl rfl) h1
  obtain ⟨a1_0, a1_1, a1_2, a1_3, a1_4, a1_5, rfl⟩ : ∃ a1_0 a1_1 a1_2 a1_3 a1_4 a1_5 : Int, n1 = [a1_0, a1_1, a1_2, a1_3, a1_4, a1_5] := by
    rw [show Try.prog.cellsOf 29 = 6 by kernel_rfl] at l1
    match n1, l1 with
    | [a1_0, a1_1, a1_2, a1_3, a1_4, a1_5], _ => exact ⟨_, _, _, _, _, _, rfl⟩
  obtain rfl : v1 = .agg #[.int .i64 a1_0, .int .i64 a1_1, .int .i64 a1_2, .int .i64 a1_3, .int .i64 a1_4, .int .i64 a1_5] := e1
  obtain ⟨a2, rfl, rfl, rfl, w2⟩ := open_int Try.underlying3 (hval 2 3 v2 rfl rfl) h2
  obtain ⟨a3, rfl, rfl, rfl, w3⟩ := open_int Try.underlying3 (hval 3 3 v3 rfl rfl) h3
  clear hA0 hval0
  refine (ledgerBack_walk A0 n0 c0 ns0 a1_0 a1_1 a1_2 a1_3 a1_4 a1_5 a2 a3 nl0 w0 w1 w2 w3 W hl0).mono fun e W' ⟨he, bel⟩ => ?_
  subst he
  exact ⟨_, rfl, law_post ledgerBack_laidOut (by kernel_rfl) rfl Try.underlying4 rfl rfl hW' bel⟩

theorem ledgerBack_proved : Rows.LedgerBackSaid :=
  OpenClaim.holds_of_wide 4 Try.f4 rfl rfl rfl rfl rfl rfl rfl ⟨rfl, rfl, rfl, rfl, rfl⟩ rfl rfl rfl rfl rfl (by kernel_rfl) Try.func4 (by kernel_rfl)
    (of_decide_eq_true (by kernel_rfl)) (by unfold Func.isWrapper; first | (rw [if_pos (by decide +kernel)]; kernel_rfl) | (rw [if_neg (by decide +kernel)]; exact ⟨rfl, rfl⟩))
    (fun os started H enc _ => ledgerBack_lifted os started H enc)
#print axioms ledgerBack_proved
end Go.Proofs.Ytejcjpfljcfibaa
