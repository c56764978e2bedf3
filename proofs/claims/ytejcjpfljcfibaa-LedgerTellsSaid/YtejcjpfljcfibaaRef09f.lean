/- The document's own ledger: Book. -/
import Derived.Test.YtejcjpfljcfibaaRef09e
import Derived.Deep.CutBlock
namespace Go.Proofs.Ytejcjpfljcfibaa
open Go.ChangeShapes Go.WideShapes Go.ChangeAt Go.RowKit Go.Sort
set_option linter.unusedSimpArgs false
set_option linter.unusedVariables false
theorem bookL_no {d : List Bk} {c : Ct} {cl sz : Int} (h : bookB d c cl sz = false) : bookL d c cl sz = d := by unfold bookL; rw [if_neg (by rw [h]; simp)]
theorem bookL_yes {d : List Bk} {c : Ct} {cl sz : Int} (h : bookB d c cl sz = true) : bookL d c cl sz = moreB d c.id (bump (rowB d c.id) cl sz) := by unfold bookL; rw [if_pos h]
set_option maxHeartbeats 8000000 in
set_option maxRecDepth 100000 in
theorem rbook_any (A : Option Addr) (n k : Nat) (d : List Bk) (c : Ct) (cl sz : Int) (w : World) (hd : d.length = n) (hn : n ≤ 100000) (h : Sl w w.heap.size 4 A n k (flatBk d)) (hr : rightB d = true) (b : Bool) (hb : bookB d c cl sz = b) (l : List Bk) (hl : bookL d c cl sz = l) :
    Calls Try.prog 18 #[.slice A n k, .agg #[.int .i64 c.id, .int .i64 c.fr, .int .i64 c.tn, .int .i64 c.st, .int .i64 c.en, .int .i64 c.rt], .int .i64 cl, .int .i64 sz] w fun e w' => ∃ v, e = .returned (.tuple #[v, .bool b]) ∧ w'.ownsRow w.heap.size 43 4 v l.length (flatBk l) ∧ Below w.heap.size w w' := by
  obtain ⟨x, hx⟩ : ∃ x, rowB d c.id = x := ⟨_, rfl⟩
  have hsd := right_sort hr
  have hxid : x.id = c.id := by rw [← hx]; exact rowB_id hsd
  have hok : okU x := by rw [← hx]; exact right_ok hr c.id
  obtain ⟨rm, hrm⟩ : ∃ r, roomF c x cl = r := ⟨_, rfl⟩
  have hrb : 0 ≤ rm ∧ rm ≤ 4611686014132420609 := by
    have h1 := volC_ok c
    have h2 := backF_ok hok cl
    rw [← hrm]
    unfold roomF
    split <;> omega
  have HD := Lib.hid hd
  have HSD := Lib.hid hsd
  have HOKU := Lib.hid hok
  have HRM := Lib.hid hrm
  have HR := Lib.hid (show bookB d c cl sz = (okC c && (inB cl 0 2 && inB sz 0 rm)) by unfold bookB; rw [hx, hrm])
  have HRY := Lib.hid (fun hq : bookB d c cl sz = true => (bookL_yes hq).symm.trans hl)
  have HRN := Lib.hid (fun hq : bookB d c cl sz = false => (bookL_no hq).symm.trans hl)
  have HBB := Lib.hid hb
  have HXX := Lib.hid hx
  have HXI := Lib.hid hxid
  obtain ⟨a0, a1, b0, b1, e0, e1⟩ := hok
  obtain ⟨m0, m1⟩ := hrb
  have hB : Below w.heap.size w (w.alloc (.cells #[.int .i64 c.id, .int .i64 c.fr, .int .i64 c.tn, .int .i64 c.st, .int .i64 c.en, .int .i64 c.rt] 29)) := by (repeat (first | exact Below.refl _ _ | refine Below.alloc ?_ (by first | omega | (simp; done) | (simp; omega)) _ | refine Below.setCell ?_ (by first | omega | (simp; done) | (simp; omega)) _ | refine Below.drew ?_))
  have hX := Blok.new w 29 #[.int .i64 c.id, .int .i64 c.fr, .int .i64 c.tn, .int .i64 c.st, .int .i64 c.en, .int .i64 c.rt]
  have hl := h.up hB
  have hs := hB.size
  clear hd hx hsd h hr hxid hb hrm
  obtain ⟨ok, hok⟩ : ∃ q, okC c = q := ⟨_, rfl⟩
  have hok' : contactB c.id c.fr c.tn c.st c.en c.rt = ok := hok
  have HOK := Lib.hid hok
  have HOK2 := Lib.hid hok'
  clear hok hok'
  cases ok
  · skip
    have hbf : bookB d c cl sz = false := by rw [HR.out]; rw [HOK.out]; rfl
    have hb2 : b = false := by rw [← HBB.out]; exact hbf
    subst hb2
    have HLD := Lib.hid (HRN.out hbf).symm
    clear hbf
    go_enter Try.func18, Try.ntmps18
    go_wp2_with fail
    generalize w.alloc (.cells #[.int .i64 c.id, .int .i64 c.fr, .int .i64 c.tn, .int .i64 c.st, .int .i64 c.en, .int .i64 c.rt] 29) = w1 at *
    refine (rcontact_is false HOK2.out _).mono ?_
    rintro e w2 ⟨rfl, hb⟩
    replace hX := hX.below hb hX.lt
    replace hl := hl.up hb
    replace hB := hB.trans (hb.mono hs)
    replace hs := hB.size
    clear hb
    go_wp2_with fail
    refine (rcopy_any A n k d _ HD.out (by omega) hl).mono ?_
    rintro e wc ⟨vc, rfl, hvc, hb⟩
    go_wp2_with fail
    go_ret2
    refine ⟨_, rfl, ?_, hB.trans (hb.mono hs)⟩
    rw [HLD.out, HD.out]
    exact ownB hvc hs
  · cases hc : inB cl 0 2 with
    | false =>
      have hbf : bookB d c cl sz = false := by rw [HR.out]; rw [HOK.out, hc]; rfl
      have hb2 : b = false := by rw [← HBB.out]; exact hbf
      subst hb2
      have HLD := Lib.hid (HRN.out hbf).symm
      clear hbf
      have HC := Lib.hid hc
      clear hc
      go_enter Try.func18, Try.ntmps18
      go_wp2_with fail
      generalize w.alloc (.cells #[.int .i64 c.id, .int .i64 c.fr, .int .i64 c.tn, .int .i64 c.st, .int .i64 c.en, .int .i64 c.rt] 29) = w1 at *
      refine (rcontact_is true HOK2.out _).mono ?_
      rintro e w2 ⟨rfl, hb⟩
      replace hX := hX.below hb hX.lt
      replace hl := hl.up hb
      replace hB := hB.trans (hb.mono hs)
      replace hs := hB.size
      clear hb
      go_wp2_with fail
      refine (rclass_any cl w2 false HC.out).mono ?_
      rintro e w4 ⟨rfl, rfl⟩
      go_wp2_with fail
      refine (rcopy_any A n k d _ HD.out (by omega) hl).mono ?_
      rintro e wc ⟨vc, rfl, hvc, hb⟩
      go_wp2_with fail
      go_ret2
      refine ⟨_, rfl, ?_, hB.trans (hb.mono hs)⟩
      rw [HLD.out, HD.out]
      exact ownB hvc hs
    | true =>
      have hcc := class_cases hc
      clear hc
      rcases hcc with rfl | rfl | rfl
      · skip
        go_enter Try.func18, Try.ntmps18
        go_wp2_with fail
        generalize w.alloc (.cells #[.int .i64 c.id, .int .i64 c.fr, .int .i64 c.tn, .int .i64 c.st, .int .i64 c.en, .int .i64 c.rt] 29) = w1 at *
        refine (rcontact_is true HOK2.out _).mono ?_
        rintro e w2 ⟨rfl, hb⟩
        replace hX := hX.below hb hX.lt
        replace hl := hl.up hb
        replace hB := hB.trans (hb.mono hs)
        replace hs := hB.size
        clear hb
        go_wp2_with fail
        refine (rclass_any 0 w2 true (by decide +kernel)).mono ?_
        rintro e w4 ⟨rfl, rfl⟩
        by_cases h0 : sz < 0
        · skip
          have hbf : bookB d c 0 sz = false := by rw [HR.out]; rw [HOK.out]; unfold inB; simp; omega
          have hb2 : b = false := by rw [← HBB.out]; exact hbf
          subst hb2
          have HLD := Lib.hid (HRN.out hbf).symm
          clear hbf
          go_wp2_with fail
          refine (rcopy_any A n k d _ HD.out (by omega) hl).mono ?_
          rintro e wc ⟨vc, rfl, hvc, hb⟩
          go_wp2_with fail
          go_ret2
          refine ⟨_, rfl, ?_, hB.trans (hb.mono hs)⟩
          rw [HLD.out, HD.out]
          exact ownB hvc hs
        · skip
          have k0 : w2.cell? ⟨w.heap.size, 0, none⟩ = some (.int .i64 c.id) := hX.cell 0
          have k1 : w2.cell? ⟨w.heap.size, 1, none⟩ = some (.int .i64 c.fr) := hX.cell 1
          have k2 : w2.cell? ⟨w.heap.size, 2, none⟩ = some (.int .i64 c.tn) := hX.cell 2
          have k3 : w2.cell? ⟨w.heap.size, 3, none⟩ = some (.int .i64 c.st) := hX.cell 3
          have k4 : w2.cell? ⟨w.heap.size, 4, none⟩ = some (.int .i64 c.en) := hX.cell 4
          have k5 : w2.cell? ⟨w.heap.size, 5, none⟩ = some (.int .i64 c.rt) := hX.cell 5
          have lt_c := hX.lt
          go_wp2_with fail
          refine (rroom_any A n k d c 0 w2 HD.out (by omega) hl HSD.out x HXX.out HOKU.out rm HRM.out).mono ?_
          rintro e w4 ⟨rfl, hb⟩
          replace hX := hX.below hb hX.lt
          replace hl := hl.up hb
          replace hB := hB.trans (hb.mono hs)
          replace hs := hB.size
          clear hb
          clear k0 k1 k2 k3 k4 k5 lt_c
          by_cases h1 : rm < sz
          · skip
            have hbf : bookB d c 0 sz = false := by rw [HR.out]; rw [HOK.out]; unfold inB; simp; omega
            have hb2 : b = false := by rw [← HBB.out]; exact hbf
            subst hb2
            have HLD := Lib.hid (HRN.out hbf).symm
            clear hbf
            go_wp2_with fail
            refine (rcopy_any A n k d _ HD.out (by omega) hl).mono ?_
            rintro e wc ⟨vc, rfl, hvc, hb⟩
            go_wp2_with fail
            go_ret2
            refine ⟨_, rfl, ?_, hB.trans (hb.mono hs)⟩
            rw [HLD.out, HD.out]
            exact ownB hvc hs
          · have hbt : bookB d c 0 sz = true := by rw [HR.out, HOK.out]; unfold inB; simp; omega
            have hb2 : b = true := by rw [← HBB.out]; exact hbt
            subst hb2
            have hml : moreB d c.id ⟨c.id, x.ua + sz, x.ub, x.uc⟩ = l := by
              rw [← HRY.out hbt, HXX.out, show (⟨c.id, x.ua + sz, x.ub, x.uc⟩ : Bk) = bump x 0 sz by simp [bump, HXI.out]]
            have HML := Lib.hid hml
            have hwr : IntKind.i64.wrap (x.ua + sz) = x.ua + sz := IntWalk.i64_in _ (by omega)
            clear hbt hml
            have k0 : w4.cell? ⟨w.heap.size, 0, none⟩ = some (.int .i64 c.id) := hX.cell 0
            have lt_c := hX.lt
            go_wp2_with fail
            refine (rused_any A n k d c.id w4 HD.out (by omega) hl HSD.out x HXX.out).mono ?_
            rintro e w6 ⟨rfl, hb⟩
            replace hX := hX.below hb hX.lt
            replace hl := hl.up hb
            replace hB := hB.trans (hb.mono hs)
            replace hs := hB.size
            clear hb k0 lt_c
            have hbA : Below w6.heap.size w6 (w6.alloc (.cells #[.int .i64 x.ua, .int .i64 x.ub, .int .i64 x.uc] 38)) := by (repeat (first | exact Below.refl _ _ | refine Below.alloc ?_ (by first | omega | (simp; done) | (simp; omega)) _ | refine Below.setCell ?_ (by first | omega | (simp; done) | (simp; omega)) _ | refine Below.drew ?_))
            have hU := Blok.new w6 38 #[.int .i64 x.ua, .int .i64 x.ub, .int .i64 x.uc]
            go_upto_region 5 with fail
            generalize w6.alloc (.cells #[.int .i64 x.ua, .int .i64 x.ub, .int .i64 x.uc] 38) = w5 at *
            obtain ⟨bu, hbu⟩ : ∃ q, w6.heap.size = q := ⟨_, rfl⟩
            rw [hbu] at hbA hU ⊢
            have u0 : w5.cell? ⟨bu, 0, none⟩ = some (.int .i64 x.ua) := hU.cell 0
            have u1 : w5.cell? ⟨bu, 1, none⟩ = some (.int .i64 x.ub) := hU.cell 1
            have u2 : w5.cell? ⟨bu, 2, none⟩ = some (.int .i64 x.uc) := hU.cell 2
            have uf : w5.frozen? ⟨bu, 0, none⟩ = false := hU.free 0
            have lt_u := hU.lt
            have hlc := hX.lt
            have hX5 := hX.below hbA (by omega)
            have k0 : w5.cell? ⟨w.heap.size, 0, none⟩ = some (.int .i64 c.id) := hX5.cell 0
            have lt_c := hX5.lt
            have hne : w.heap.size ≠ bu := by omega
            go_upto_region 6 with fail
            have hU8 : Blok (w5.setCell ⟨bu, 0, none⟩ (.int .i64 (x.ua + sz))) bu 38 #[.int .i64 (x.ua + sz), .int .i64 x.ub, .int .i64 x.uc] := by have h := Blok.set_ hU 0 (.int .i64 (x.ua + sz)); simpa using h
            have hX8 : Blok (w5.setCell ⟨bu, 0, none⟩ (.int .i64 (x.ua + sz))) w.heap.size 29 #[.int .i64 c.id, .int .i64 c.fr, .int .i64 c.tn, .int .i64 c.st, .int .i64 c.en, .int .i64 c.rt] := hX5.far (p := ⟨bu, 0, none⟩) hne (.int .i64 (x.ua + sz))
            have hb8 : Below bu w6 (w5.setCell ⟨bu, 0, none⟩ (.int .i64 (x.ua + sz))) := by (repeat (first | exact Below.refl _ _ | exact hbA | refine Below.alloc ?_ (by first | omega | (simp; done) | (simp; omega)) _ | refine Below.setCell ?_ (by first | omega | (simp; done) | (simp; omega)) _ | refine Below.drew ?_ | refine Below.trans ?_ (hbA.mono (by first | omega | (simp; done) | (simp; omega)))))
            have hB8 := hB.trans (hb8.mono (by omega))
            have hl8 := (hl.more (Nat.le_of_eq hbu)).below hb8
            have hz8 := hb8.size
            have hs8 := hB8.size
            clear u0 u1 u2 uf lt_u k0 lt_c hU hX hX5 hbA hb8 hl hB
            generalize (w5.setCell ⟨bu, 0, none⟩ (.int .i64 (x.ua + sz))) = w8 at *
            have u0 : w8.cell? ⟨bu, 0, none⟩ = some (.int .i64 (x.ua + sz)) := hU8.cell 0
            have u1 : w8.cell? ⟨bu, 1, none⟩ = some (.int .i64 (x.ub)) := hU8.cell 1
            have u2 : w8.cell? ⟨bu, 2, none⟩ = some (.int .i64 (x.uc)) := hU8.cell 2
            have lt_u := hU8.lt
            have k0 : w8.cell? ⟨w.heap.size, 0, none⟩ = some (.int .i64 c.id) := hX8.cell 0
            have lt_c := hX8.lt
            go_wp2_with fail
            refine (rwith_any A n k d ⟨c.id, x.ua + sz, x.ub, x.uc⟩ w8 HD.out (by omega) (hl8.more (by omega)) HSD.out l HML.out).mono ?_
            rintro e w9 ⟨v9, rfl, hv9, hb9⟩
            go_wp2_with fail
            go_ret2
            exact ⟨_, rfl, ownB hv9 hs8, hB8.trans (hb9.mono hs8)⟩
      · skip
        go_enter Try.func18, Try.ntmps18
        go_wp2_with fail
        generalize w.alloc (.cells #[.int .i64 c.id, .int .i64 c.fr, .int .i64 c.tn, .int .i64 c.st, .int .i64 c.en, .int .i64 c.rt] 29) = w1 at *
        refine (rcontact_is true HOK2.out _).mono ?_
        rintro e w2 ⟨rfl, hb⟩
        replace hX := hX.below hb hX.lt
        replace hl := hl.up hb
        replace hB := hB.trans (hb.mono hs)
        replace hs := hB.size
        clear hb
        go_wp2_with fail
        refine (rclass_any 1 w2 true (by decide +kernel)).mono ?_
        rintro e w4 ⟨rfl, rfl⟩
        by_cases h0 : sz < 0
        · skip
          have hbf : bookB d c 1 sz = false := by rw [HR.out]; rw [HOK.out]; unfold inB; simp; omega
          have hb2 : b = false := by rw [← HBB.out]; exact hbf
          subst hb2
          have HLD := Lib.hid (HRN.out hbf).symm
          clear hbf
          go_wp2_with fail
          refine (rcopy_any A n k d _ HD.out (by omega) hl).mono ?_
          rintro e wc ⟨vc, rfl, hvc, hb⟩
          go_wp2_with fail
          go_ret2
          refine ⟨_, rfl, ?_, hB.trans (hb.mono hs)⟩
          rw [HLD.out, HD.out]
          exact ownB hvc hs
        · skip
          have k0 : w2.cell? ⟨w.heap.size, 0, none⟩ = some (.int .i64 c.id) := hX.cell 0
          have k1 : w2.cell? ⟨w.heap.size, 1, none⟩ = some (.int .i64 c.fr) := hX.cell 1
          have k2 : w2.cell? ⟨w.heap.size, 2, none⟩ = some (.int .i64 c.tn) := hX.cell 2
          have k3 : w2.cell? ⟨w.heap.size, 3, none⟩ = some (.int .i64 c.st) := hX.cell 3
          have k4 : w2.cell? ⟨w.heap.size, 4, none⟩ = some (.int .i64 c.en) := hX.cell 4
          have k5 : w2.cell? ⟨w.heap.size, 5, none⟩ = some (.int .i64 c.rt) := hX.cell 5
          have lt_c := hX.lt
          go_wp2_with fail
          refine (rroom_any A n k d c 1 w2 HD.out (by omega) hl HSD.out x HXX.out HOKU.out rm HRM.out).mono ?_
          rintro e w4 ⟨rfl, hb⟩
          replace hX := hX.below hb hX.lt
          replace hl := hl.up hb
          replace hB := hB.trans (hb.mono hs)
          replace hs := hB.size
          clear hb
          clear k0 k1 k2 k3 k4 k5 lt_c
          by_cases h1 : rm < sz
          · skip
            have hbf : bookB d c 1 sz = false := by rw [HR.out]; rw [HOK.out]; unfold inB; simp; omega
            have hb2 : b = false := by rw [← HBB.out]; exact hbf
            subst hb2
            have HLD := Lib.hid (HRN.out hbf).symm
            clear hbf
            go_wp2_with fail
            refine (rcopy_any A n k d _ HD.out (by omega) hl).mono ?_
            rintro e wc ⟨vc, rfl, hvc, hb⟩
            go_wp2_with fail
            go_ret2
            refine ⟨_, rfl, ?_, hB.trans (hb.mono hs)⟩
            rw [HLD.out, HD.out]
            exact ownB hvc hs
          · have hbt : bookB d c 1 sz = true := by rw [HR.out, HOK.out]; unfold inB; simp; omega
            have hb2 : b = true := by rw [← HBB.out]; exact hbt
            subst hb2
            have hml : moreB d c.id ⟨c.id, x.ua, x.ub + sz, x.uc⟩ = l := by
              rw [← HRY.out hbt, HXX.out, show (⟨c.id, x.ua, x.ub + sz, x.uc⟩ : Bk) = bump x 1 sz by simp [bump, HXI.out]]
            have HML := Lib.hid hml
            have hwr : IntKind.i64.wrap (x.ub + sz) = x.ub + sz := IntWalk.i64_in _ (by omega)
            clear hbt hml
            have k0 : w4.cell? ⟨w.heap.size, 0, none⟩ = some (.int .i64 c.id) := hX.cell 0
            have lt_c := hX.lt
            go_wp2_with fail
            refine (rused_any A n k d c.id w4 HD.out (by omega) hl HSD.out x HXX.out).mono ?_
            rintro e w6 ⟨rfl, hb⟩
            replace hX := hX.below hb hX.lt
            replace hl := hl.up hb
            replace hB := hB.trans (hb.mono hs)
            replace hs := hB.size
            clear hb k0 lt_c
            have hbA : Below w6.heap.size w6 (w6.alloc (.cells #[.int .i64 x.ua, .int .i64 x.ub, .int .i64 x.uc] 38)) := by (repeat (first | exact Below.refl _ _ | refine Below.alloc ?_ (by first | omega | (simp; done) | (simp; omega)) _ | refine Below.setCell ?_ (by first | omega | (simp; done) | (simp; omega)) _ | refine Below.drew ?_))
            have hU := Blok.new w6 38 #[.int .i64 x.ua, .int .i64 x.ub, .int .i64 x.uc]
            go_upto_region 5 with fail
            generalize w6.alloc (.cells #[.int .i64 x.ua, .int .i64 x.ub, .int .i64 x.uc] 38) = w5 at *
            obtain ⟨bu, hbu⟩ : ∃ q, w6.heap.size = q := ⟨_, rfl⟩
            rw [hbu] at hbA hU ⊢
            have u0 : w5.cell? ⟨bu, 0, none⟩ = some (.int .i64 x.ua) := hU.cell 0
            have u1 : w5.cell? ⟨bu, 1, none⟩ = some (.int .i64 x.ub) := hU.cell 1
            have u2 : w5.cell? ⟨bu, 2, none⟩ = some (.int .i64 x.uc) := hU.cell 2
            have uf : w5.frozen? ⟨bu, 1, none⟩ = false := hU.free 1
            have lt_u := hU.lt
            have hlc := hX.lt
            have hX5 := hX.below hbA (by omega)
            have k0 : w5.cell? ⟨w.heap.size, 0, none⟩ = some (.int .i64 c.id) := hX5.cell 0
            have lt_c := hX5.lt
            have hne : w.heap.size ≠ bu := by omega
            go_upto_region 6 with fail
            have hU8 : Blok (w5.setCell ⟨bu, 1, none⟩ (.int .i64 (x.ub + sz))) bu 38 #[.int .i64 x.ua, .int .i64 (x.ub + sz), .int .i64 x.uc] := by have h := Blok.set_ hU 1 (.int .i64 (x.ub + sz)); simpa using h
            have hX8 : Blok (w5.setCell ⟨bu, 1, none⟩ (.int .i64 (x.ub + sz))) w.heap.size 29 #[.int .i64 c.id, .int .i64 c.fr, .int .i64 c.tn, .int .i64 c.st, .int .i64 c.en, .int .i64 c.rt] := hX5.far (p := ⟨bu, 1, none⟩) hne (.int .i64 (x.ub + sz))
            have hb8 : Below bu w6 (w5.setCell ⟨bu, 1, none⟩ (.int .i64 (x.ub + sz))) := by (repeat (first | exact Below.refl _ _ | exact hbA | refine Below.alloc ?_ (by first | omega | (simp; done) | (simp; omega)) _ | refine Below.setCell ?_ (by first | omega | (simp; done) | (simp; omega)) _ | refine Below.drew ?_ | refine Below.trans ?_ (hbA.mono (by first | omega | (simp; done) | (simp; omega)))))
            have hB8 := hB.trans (hb8.mono (by omega))
            have hl8 := (hl.more (Nat.le_of_eq hbu)).below hb8
            have hz8 := hb8.size
            have hs8 := hB8.size
            clear u0 u1 u2 uf lt_u k0 lt_c hU hX hX5 hbA hb8 hl hB
            generalize (w5.setCell ⟨bu, 1, none⟩ (.int .i64 (x.ub + sz))) = w8 at *
            have u0 : w8.cell? ⟨bu, 0, none⟩ = some (.int .i64 (x.ua)) := hU8.cell 0
            have u1 : w8.cell? ⟨bu, 1, none⟩ = some (.int .i64 (x.ub + sz)) := hU8.cell 1
            have u2 : w8.cell? ⟨bu, 2, none⟩ = some (.int .i64 (x.uc)) := hU8.cell 2
            have lt_u := hU8.lt
            have k0 : w8.cell? ⟨w.heap.size, 0, none⟩ = some (.int .i64 c.id) := hX8.cell 0
            have lt_c := hX8.lt
            go_wp2_with fail
            refine (rwith_any A n k d ⟨c.id, x.ua, x.ub + sz, x.uc⟩ w8 HD.out (by omega) (hl8.more (by omega)) HSD.out l HML.out).mono ?_
            rintro e w9 ⟨v9, rfl, hv9, hb9⟩
            go_wp2_with fail
            go_ret2
            exact ⟨_, rfl, ownB hv9 hs8, hB8.trans (hb9.mono hs8)⟩
      · skip
        go_enter Try.func18, Try.ntmps18
        go_wp2_with fail
        generalize w.alloc (.cells #[.int .i64 c.id, .int .i64 c.fr, .int .i64 c.tn, .int .i64 c.st, .int .i64 c.en, .int .i64 c.rt] 29) = w1 at *
        refine (rcontact_is true HOK2.out _).mono ?_
        rintro e w2 ⟨rfl, hb⟩
        replace hX := hX.below hb hX.lt
        replace hl := hl.up hb
        replace hB := hB.trans (hb.mono hs)
        replace hs := hB.size
        clear hb
        go_wp2_with fail
        refine (rclass_any 2 w2 true (by decide +kernel)).mono ?_
        rintro e w4 ⟨rfl, rfl⟩
        by_cases h0 : sz < 0
        · skip
          have hbf : bookB d c 2 sz = false := by rw [HR.out]; rw [HOK.out]; unfold inB; simp; omega
          have hb2 : b = false := by rw [← HBB.out]; exact hbf
          subst hb2
          have HLD := Lib.hid (HRN.out hbf).symm
          clear hbf
          go_wp2_with fail
          refine (rcopy_any A n k d _ HD.out (by omega) hl).mono ?_
          rintro e wc ⟨vc, rfl, hvc, hb⟩
          go_wp2_with fail
          go_ret2
          refine ⟨_, rfl, ?_, hB.trans (hb.mono hs)⟩
          rw [HLD.out, HD.out]
          exact ownB hvc hs
        · skip
          have k0 : w2.cell? ⟨w.heap.size, 0, none⟩ = some (.int .i64 c.id) := hX.cell 0
          have k1 : w2.cell? ⟨w.heap.size, 1, none⟩ = some (.int .i64 c.fr) := hX.cell 1
          have k2 : w2.cell? ⟨w.heap.size, 2, none⟩ = some (.int .i64 c.tn) := hX.cell 2
          have k3 : w2.cell? ⟨w.heap.size, 3, none⟩ = some (.int .i64 c.st) := hX.cell 3
          have k4 : w2.cell? ⟨w.heap.size, 4, none⟩ = some (.int .i64 c.en) := hX.cell 4
          have k5 : w2.cell? ⟨w.heap.size, 5, none⟩ = some (.int .i64 c.rt) := hX.cell 5
          have lt_c := hX.lt
          go_wp2_with fail
          refine (rroom_any A n k d c 2 w2 HD.out (by omega) hl HSD.out x HXX.out HOKU.out rm HRM.out).mono ?_
          rintro e w4 ⟨rfl, hb⟩
          replace hX := hX.below hb hX.lt
          replace hl := hl.up hb
          replace hB := hB.trans (hb.mono hs)
          replace hs := hB.size
          clear hb
          clear k0 k1 k2 k3 k4 k5 lt_c
          by_cases h1 : rm < sz
          · skip
            have hbf : bookB d c 2 sz = false := by rw [HR.out]; rw [HOK.out]; unfold inB; simp; omega
            have hb2 : b = false := by rw [← HBB.out]; exact hbf
            subst hb2
            have HLD := Lib.hid (HRN.out hbf).symm
            clear hbf
            go_wp2_with fail
            refine (rcopy_any A n k d _ HD.out (by omega) hl).mono ?_
            rintro e wc ⟨vc, rfl, hvc, hb⟩
            go_wp2_with fail
            go_ret2
            refine ⟨_, rfl, ?_, hB.trans (hb.mono hs)⟩
            rw [HLD.out, HD.out]
            exact ownB hvc hs
          · have hbt : bookB d c 2 sz = true := by rw [HR.out, HOK.out]; unfold inB; simp; omega
            have hb2 : b = true := by rw [← HBB.out]; exact hbt
            subst hb2
            have hml : moreB d c.id ⟨c.id, x.ua, x.ub, x.uc + sz⟩ = l := by
              rw [← HRY.out hbt, HXX.out, show (⟨c.id, x.ua, x.ub, x.uc + sz⟩ : Bk) = bump x 2 sz by simp [bump, HXI.out]]
            have HML := Lib.hid hml
            have hwr : IntKind.i64.wrap (x.uc + sz) = x.uc + sz := IntWalk.i64_in _ (by omega)
            clear hbt hml
            have k0 : w4.cell? ⟨w.heap.size, 0, none⟩ = some (.int .i64 c.id) := hX.cell 0
            have lt_c := hX.lt
            go_wp2_with fail
            refine (rused_any A n k d c.id w4 HD.out (by omega) hl HSD.out x HXX.out).mono ?_
            rintro e w6 ⟨rfl, hb⟩
            replace hX := hX.below hb hX.lt
            replace hl := hl.up hb
            replace hB := hB.trans (hb.mono hs)
            replace hs := hB.size
            clear hb k0 lt_c
            have hbA : Below w6.heap.size w6 (w6.alloc (.cells #[.int .i64 x.ua, .int .i64 x.ub, .int .i64 x.uc] 38)) := by (repeat (first | exact Below.refl _ _ | refine Below.alloc ?_ (by first | omega | (simp; done) | (simp; omega)) _ | refine Below.setCell ?_ (by first | omega | (simp; done) | (simp; omega)) _ | refine Below.drew ?_))
            have hU := Blok.new w6 38 #[.int .i64 x.ua, .int .i64 x.ub, .int .i64 x.uc]
            go_upto_region 5 with fail
            generalize w6.alloc (.cells #[.int .i64 x.ua, .int .i64 x.ub, .int .i64 x.uc] 38) = w5 at *
            obtain ⟨bu, hbu⟩ : ∃ q, w6.heap.size = q := ⟨_, rfl⟩
            rw [hbu] at hbA hU ⊢
            have u0 : w5.cell? ⟨bu, 0, none⟩ = some (.int .i64 x.ua) := hU.cell 0
            have u1 : w5.cell? ⟨bu, 1, none⟩ = some (.int .i64 x.ub) := hU.cell 1
            have u2 : w5.cell? ⟨bu, 2, none⟩ = some (.int .i64 x.uc) := hU.cell 2
            have uf : w5.frozen? ⟨bu, 2, none⟩ = false := hU.free 2
            have lt_u := hU.lt
            have hlc := hX.lt
            have hX5 := hX.below hbA (by omega)
            have k0 : w5.cell? ⟨w.heap.size, 0, none⟩ = some (.int .i64 c.id) := hX5.cell 0
            have lt_c := hX5.lt
            have hne : w.heap.size ≠ bu := by omega
            go_upto_region 6 with fail
            have hU8 : Blok (w5.setCell ⟨bu, 2, none⟩ (.int .i64 (x.uc + sz))) bu 38 #[.int .i64 x.ua, .int .i64 x.ub, .int .i64 (x.uc + sz)] := by have h := Blok.set_ hU 2 (.int .i64 (x.uc + sz)); simpa using h
            have hX8 : Blok (w5.setCell ⟨bu, 2, none⟩ (.int .i64 (x.uc + sz))) w.heap.size 29 #[.int .i64 c.id, .int .i64 c.fr, .int .i64 c.tn, .int .i64 c.st, .int .i64 c.en, .int .i64 c.rt] := hX5.far (p := ⟨bu, 2, none⟩) hne (.int .i64 (x.uc + sz))
            have hb8 : Below bu w6 (w5.setCell ⟨bu, 2, none⟩ (.int .i64 (x.uc + sz))) := by (repeat (first | exact Below.refl _ _ | exact hbA | refine Below.alloc ?_ (by first | omega | (simp; done) | (simp; omega)) _ | refine Below.setCell ?_ (by first | omega | (simp; done) | (simp; omega)) _ | refine Below.drew ?_ | refine Below.trans ?_ (hbA.mono (by first | omega | (simp; done) | (simp; omega)))))
            have hB8 := hB.trans (hb8.mono (by omega))
            have hl8 := (hl.more (Nat.le_of_eq hbu)).below hb8
            have hz8 := hb8.size
            have hs8 := hB8.size
            clear u0 u1 u2 uf lt_u k0 lt_c hU hX hX5 hbA hb8 hl hB
            generalize (w5.setCell ⟨bu, 2, none⟩ (.int .i64 (x.uc + sz))) = w8 at *
            have u0 : w8.cell? ⟨bu, 0, none⟩ = some (.int .i64 (x.ua)) := hU8.cell 0
            have u1 : w8.cell? ⟨bu, 1, none⟩ = some (.int .i64 (x.ub)) := hU8.cell 1
            have u2 : w8.cell? ⟨bu, 2, none⟩ = some (.int .i64 (x.uc + sz)) := hU8.cell 2
            have lt_u := hU8.lt
            have k0 : w8.cell? ⟨w.heap.size, 0, none⟩ = some (.int .i64 c.id) := hX8.cell 0
            have lt_c := hX8.lt
            go_wp2_with fail
            refine (rwith_any A n k d ⟨c.id, x.ua, x.ub, x.uc + sz⟩ w8 HD.out (by omega) (hl8.more (by omega)) HSD.out l HML.out).mono ?_
            rintro e w9 ⟨v9, rfl, hv9, hb9⟩
            go_wp2_with fail
            go_ret2
            exact ⟨_, rfl, ownB hv9 hs8, hB8.trans (hb9.mono hs8)⟩
end Go.Proofs.Ytejcjpfljcfibaa
