/- The document's own ledger: Release and Book. -/
import Derived.Test.YtejcjpfljcfibaaRef09d
namespace Go.Proofs.Ytejcjpfljcfibaa
open Go.ChangeShapes Go.WideShapes Go.ChangeAt Go.RowKit Go.Sort
set_option linter.unusedSimpArgs false
set_option linter.unusedVariables false

theorem relL_no {d : List Bk} {id cl sz : Int} (h : relB d id cl sz = false) : relL d id cl sz = d := by unfold relL; rw [if_neg (by rw [h]; simp)]
theorem relL_yes {d : List Bk} {id cl sz : Int} (h : relB d id cl sz = true) : relL d id cl sz = moreB d id (bump (rowB d id) cl (-sz)) := by unfold relL; rw [if_pos h]
set_option maxHeartbeats 8000000 in
set_option maxRecDepth 100000 in
theorem rrel_any (A : Option Addr) (n k : Nat) (d : List Bk) (id cl sz : Int) (w : World) (hd : d.length = n) (hn : n ≤ 100000) (h : Sl w w.heap.size 4 A n k (flatBk d)) (hr : rightB d = true) (b : Bool) (hb : relB d id cl sz = b) (l : List Bk) (hl : relL d id cl sz = l) :
    Calls Try.prog 16 #[.slice A n k, .int .i64 id, .int .i64 cl, .int .i64 sz] w fun e w' => ∃ v, e = .returned (.tuple #[v, .bool b]) ∧ w'.ownsRow w.heap.size 43 4 v l.length (flatBk l) ∧ Below w.heap.size w w' := by
  obtain ⟨x, hx⟩ : ∃ x, rowB d id = x := ⟨_, rfl⟩
  have hsd := right_sort hr
  have hxid : x.id = id := by rw [← hx]; exact rowB_id hsd
  have hok : okU x := by rw [← hx]; exact right_ok hr id
  have HU := Lib.hid (rused_any A n k d id w hd (by omega) h hsd x hx)
  have HD := Lib.hid hd
  have HSD := Lib.hid hsd
  have HL0 := Lib.hid h
  have HR := Lib.hid (show relB d id cl sz = (inB cl 0 2 && inB sz 0 (getU x cl)) by unfold relB; rw [hx])
  have HRY := Lib.hid (fun hq : relB d id cl sz = true => (relL_yes hq).symm.trans hl)
  have HRN := Lib.hid (fun hq : relB d id cl sz = false => (relL_no hq).symm.trans hl)
  have HBB := Lib.hid hb
  have HXX := Lib.hid hx
  have HXI := Lib.hid hxid
  obtain ⟨a0, a1, b0, b1, e0, e1⟩ := hok
  clear hd hx hsd h hr hl hxid hb
  cases hc : inB cl 0 2 with
  | false =>
    have hbf : relB d id cl sz = false := by rw [HR.out, hc]; rfl
    have hb2 : b = false := by rw [← HBB.out]; exact hbf
    subst hb2
    have HLD := Lib.hid (HRN.out hbf).symm
    have HC := Lib.hid hc
    clear hc hbf
    go_enter Try.func16, Try.ntmps16
    go_wp2_with fail
    refine HU.out.mono ?_
    rintro e w2 ⟨rfl, hB2⟩
    go_wp2_with fail
    have hB := hB2.alloc hB2.size (.cells #[.int .i64 x.ua, .int .i64 x.ub, .int .i64 x.uc] 38)
    generalize w2.alloc (.cells #[.int .i64 x.ua, .int .i64 x.ub, .int .i64 x.uc] 38) = w3 at *
    have hl := HL0.out.up hB
    have hs := hB.size
    refine (rclass_any cl w3 false HC.out).mono ?_
    rintro e w4 ⟨rfl, rfl⟩
    go_wp2_with fail
    refine (rcopy_any A n k d _ HD.out (by omega) (hl)).mono ?_
    rintro e wc ⟨vc, rfl, hvc, hb⟩
    go_wp2_with fail
    go_ret2
    refine ⟨_, rfl, ?_, hB.trans (hb.mono hs)⟩
    rw [HLD.out, HD.out]
    exact ownB hvc hs
  | true =>
    have hcc := class_cases hc
    clear hc
    rcases hcc with rfl | rfl | rfl
    · have hg : getU x 0 = x.ua := by simp [getU]
      go_enter Try.func16, Try.ntmps16
      go_wp2_with fail
      refine HU.out.mono ?_
      rintro e w2 ⟨rfl, hB2⟩
      go_wp2_with fail
      have hB := hB2.alloc hB2.size (.cells #[.int .i64 x.ua, .int .i64 x.ub, .int .i64 x.uc] 38)
      have hbA : Below w2.heap.size w2 (w2.alloc (.cells #[.int .i64 x.ua, .int .i64 x.ub, .int .i64 x.uc] 38)) := by (repeat (first | exact Below.refl _ _ | refine Below.alloc ?_ (by first | omega | (simp; done) | (simp; omega)) _ | refine Below.setCell ?_ (by first | omega | (simp; done) | (simp; omega)) _ | refine Below.drew ?_))
      have hU := Blok.new w2 38 #[.int .i64 x.ua, .int .i64 x.ub, .int .i64 x.uc]
      have hs2 := hB2.size
      generalize w2.alloc (.cells #[.int .i64 x.ua, .int .i64 x.ub, .int .i64 x.uc] 38) = w3 at *
      obtain ⟨bu, hbu⟩ : ∃ q, w2.heap.size = q := ⟨_, rfl⟩
      rw [hbu] at hbA hU hs2 ⊢
      have hl := HL0.out.up hB
      have hs := hB.size
      refine (rclass_any 0 w3 true (by decide +kernel)).mono ?_
      rintro e w4 ⟨rfl, rfl⟩
      have u0 : w3.cell? ⟨bu, 0, none⟩ = some (.int .i64 x.ua) := hU.cell 0
      have u1 : w3.cell? ⟨bu, 1, none⟩ = some (.int .i64 x.ub) := hU.cell 1
      have u2 : w3.cell? ⟨bu, 2, none⟩ = some (.int .i64 x.uc) := hU.cell 2
      have lt_u := hU.lt
      by_cases h0 : sz < 0
      · have hbf : relB d id 0 sz = false := by rw [HR.out, hg]; unfold inB; simp; omega
        have hb2 : b = false := by rw [← HBB.out]; exact hbf
        subst hb2
        have HLD := Lib.hid (HRN.out hbf).symm
        clear hbf
        go_wp2_with fail
        refine (rcopy_any A n k d _ HD.out (by omega) (hl)).mono ?_
        rintro e wc ⟨vc, rfl, hvc, hb⟩
        go_wp2_with fail
        go_ret2
        refine ⟨_, rfl, ?_, hB.trans (hb.mono hs)⟩
        rw [HLD.out, HD.out]
        exact ownB hvc hs
      · by_cases h1 : x.ua < sz
        · have hbf : relB d id 0 sz = false := by rw [HR.out, hg]; unfold inB; simp; omega
          have hb2 : b = false := by rw [← HBB.out]; exact hbf
          subst hb2
          have HLD := Lib.hid (HRN.out hbf).symm
          clear hbf
          go_wp2_with fail
          refine (rcopy_any A n k d _ HD.out (by omega) (hl)).mono ?_
          rintro e wc ⟨vc, rfl, hvc, hb⟩
          go_wp2_with fail
          go_ret2
          refine ⟨_, rfl, ?_, hB.trans (hb.mono hs)⟩
          rw [HLD.out, HD.out]
          exact ownB hvc hs
        · have hbt : relB d id 0 sz = true := by rw [HR.out, hg]; unfold inB; simp; omega
          have hb2 : b = true := by rw [← HBB.out]; exact hbt
          subst hb2
          have hml : moreB d id ⟨id, x.ua - sz, x.ub, x.uc⟩ = l := by
            rw [← HRY.out hbt, HXX.out, show (⟨id, x.ua - sz, x.ub, x.uc⟩ : Bk) = bump x 0 (-sz) by simp [bump, HXI.out]; try omega]
          have HML := Lib.hid hml
          have uf : w3.frozen? ⟨bu, 0, none⟩ = false := hU.free 0
          have hwr : IntKind.i64.wrap (x.ua - sz) = x.ua - sz := IntWalk.i64_in _ (by omega)
          clear hbt hml
          go_wp2_with fail
          have hU8 : Blok (w3.setCell ⟨bu, 0, none⟩ (.int .i64 (x.ua - sz))) bu 38 #[.int .i64 (x.ua - sz), .int .i64 x.ub, .int .i64 x.uc] := by have h := Blok.set_ hU 0 (.int .i64 (x.ua - sz)); simpa using h
          have hb8 : Below bu w2 (w3.setCell ⟨bu, 0, none⟩ (.int .i64 (x.ua - sz))) := by (repeat (first | exact Below.refl _ _ | exact hbA | refine Below.alloc ?_ (by first | omega | (simp; done) | (simp; omega)) _ | refine Below.setCell ?_ (by first | omega | (simp; done) | (simp; omega)) _ | refine Below.drew ?_ | refine Below.trans ?_ (hbA.mono (by first | omega | (simp; done) | (simp; omega)))))
          have hB8 := hB2.trans (hb8.mono hs2)
          have hl8 := HL0.out.up hB8
          have hs8 := hB8.size
          refine (rwith_any A n k d ⟨id, x.ua - sz, x.ub, x.uc⟩ _ HD.out (by omega) hl8 HSD.out l HML.out).mono ?_
          rintro e w9 ⟨v9, rfl, hv9, hb9⟩
          go_wp2_with fail
          go_ret2
          exact ⟨_, rfl, ownB hv9 hs8, hB8.trans (hb9.mono hs8)⟩
    · have hg : getU x 1 = x.ub := by simp [getU]
      go_enter Try.func16, Try.ntmps16
      go_wp2_with fail
      refine HU.out.mono ?_
      rintro e w2 ⟨rfl, hB2⟩
      go_wp2_with fail
      have hB := hB2.alloc hB2.size (.cells #[.int .i64 x.ua, .int .i64 x.ub, .int .i64 x.uc] 38)
      have hbA : Below w2.heap.size w2 (w2.alloc (.cells #[.int .i64 x.ua, .int .i64 x.ub, .int .i64 x.uc] 38)) := by (repeat (first | exact Below.refl _ _ | refine Below.alloc ?_ (by first | omega | (simp; done) | (simp; omega)) _ | refine Below.setCell ?_ (by first | omega | (simp; done) | (simp; omega)) _ | refine Below.drew ?_))
      have hU := Blok.new w2 38 #[.int .i64 x.ua, .int .i64 x.ub, .int .i64 x.uc]
      have hs2 := hB2.size
      generalize w2.alloc (.cells #[.int .i64 x.ua, .int .i64 x.ub, .int .i64 x.uc] 38) = w3 at *
      obtain ⟨bu, hbu⟩ : ∃ q, w2.heap.size = q := ⟨_, rfl⟩
      rw [hbu] at hbA hU hs2 ⊢
      have hl := HL0.out.up hB
      have hs := hB.size
      refine (rclass_any 1 w3 true (by decide +kernel)).mono ?_
      rintro e w4 ⟨rfl, rfl⟩
      have u0 : w3.cell? ⟨bu, 0, none⟩ = some (.int .i64 x.ua) := hU.cell 0
      have u1 : w3.cell? ⟨bu, 1, none⟩ = some (.int .i64 x.ub) := hU.cell 1
      have u2 : w3.cell? ⟨bu, 2, none⟩ = some (.int .i64 x.uc) := hU.cell 2
      have lt_u := hU.lt
      by_cases h0 : sz < 0
      · have hbf : relB d id 1 sz = false := by rw [HR.out, hg]; unfold inB; simp; omega
        have hb2 : b = false := by rw [← HBB.out]; exact hbf
        subst hb2
        have HLD := Lib.hid (HRN.out hbf).symm
        clear hbf
        go_wp2_with fail
        refine (rcopy_any A n k d _ HD.out (by omega) (hl)).mono ?_
        rintro e wc ⟨vc, rfl, hvc, hb⟩
        go_wp2_with fail
        go_ret2
        refine ⟨_, rfl, ?_, hB.trans (hb.mono hs)⟩
        rw [HLD.out, HD.out]
        exact ownB hvc hs
      · by_cases h1 : x.ub < sz
        · have hbf : relB d id 1 sz = false := by rw [HR.out, hg]; unfold inB; simp; omega
          have hb2 : b = false := by rw [← HBB.out]; exact hbf
          subst hb2
          have HLD := Lib.hid (HRN.out hbf).symm
          clear hbf
          go_wp2_with fail
          refine (rcopy_any A n k d _ HD.out (by omega) (hl)).mono ?_
          rintro e wc ⟨vc, rfl, hvc, hb⟩
          go_wp2_with fail
          go_ret2
          refine ⟨_, rfl, ?_, hB.trans (hb.mono hs)⟩
          rw [HLD.out, HD.out]
          exact ownB hvc hs
        · have hbt : relB d id 1 sz = true := by rw [HR.out, hg]; unfold inB; simp; omega
          have hb2 : b = true := by rw [← HBB.out]; exact hbt
          subst hb2
          have hml : moreB d id ⟨id, x.ua, x.ub - sz, x.uc⟩ = l := by
            rw [← HRY.out hbt, HXX.out, show (⟨id, x.ua, x.ub - sz, x.uc⟩ : Bk) = bump x 1 (-sz) by simp [bump, HXI.out]; try omega]
          have HML := Lib.hid hml
          have uf : w3.frozen? ⟨bu, 1, none⟩ = false := hU.free 1
          have hwr : IntKind.i64.wrap (x.ub - sz) = x.ub - sz := IntWalk.i64_in _ (by omega)
          clear hbt hml
          go_wp2_with fail
          have hU8 : Blok (w3.setCell ⟨bu, 1, none⟩ (.int .i64 (x.ub - sz))) bu 38 #[.int .i64 x.ua, .int .i64 (x.ub - sz), .int .i64 x.uc] := by have h := Blok.set_ hU 1 (.int .i64 (x.ub - sz)); simpa using h
          have hb8 : Below bu w2 (w3.setCell ⟨bu, 1, none⟩ (.int .i64 (x.ub - sz))) := by (repeat (first | exact Below.refl _ _ | exact hbA | refine Below.alloc ?_ (by first | omega | (simp; done) | (simp; omega)) _ | refine Below.setCell ?_ (by first | omega | (simp; done) | (simp; omega)) _ | refine Below.drew ?_ | refine Below.trans ?_ (hbA.mono (by first | omega | (simp; done) | (simp; omega)))))
          have hB8 := hB2.trans (hb8.mono hs2)
          have hl8 := HL0.out.up hB8
          have hs8 := hB8.size
          refine (rwith_any A n k d ⟨id, x.ua, x.ub - sz, x.uc⟩ _ HD.out (by omega) hl8 HSD.out l HML.out).mono ?_
          rintro e w9 ⟨v9, rfl, hv9, hb9⟩
          go_wp2_with fail
          go_ret2
          exact ⟨_, rfl, ownB hv9 hs8, hB8.trans (hb9.mono hs8)⟩
    · have hg : getU x 2 = x.uc := by simp [getU]
      go_enter Try.func16, Try.ntmps16
      go_wp2_with fail
      refine HU.out.mono ?_
      rintro e w2 ⟨rfl, hB2⟩
      go_wp2_with fail
      have hB := hB2.alloc hB2.size (.cells #[.int .i64 x.ua, .int .i64 x.ub, .int .i64 x.uc] 38)
      have hbA : Below w2.heap.size w2 (w2.alloc (.cells #[.int .i64 x.ua, .int .i64 x.ub, .int .i64 x.uc] 38)) := by (repeat (first | exact Below.refl _ _ | refine Below.alloc ?_ (by first | omega | (simp; done) | (simp; omega)) _ | refine Below.setCell ?_ (by first | omega | (simp; done) | (simp; omega)) _ | refine Below.drew ?_))
      have hU := Blok.new w2 38 #[.int .i64 x.ua, .int .i64 x.ub, .int .i64 x.uc]
      have hs2 := hB2.size
      generalize w2.alloc (.cells #[.int .i64 x.ua, .int .i64 x.ub, .int .i64 x.uc] 38) = w3 at *
      obtain ⟨bu, hbu⟩ : ∃ q, w2.heap.size = q := ⟨_, rfl⟩
      rw [hbu] at hbA hU hs2 ⊢
      have hl := HL0.out.up hB
      have hs := hB.size
      refine (rclass_any 2 w3 true (by decide +kernel)).mono ?_
      rintro e w4 ⟨rfl, rfl⟩
      have u0 : w3.cell? ⟨bu, 0, none⟩ = some (.int .i64 x.ua) := hU.cell 0
      have u1 : w3.cell? ⟨bu, 1, none⟩ = some (.int .i64 x.ub) := hU.cell 1
      have u2 : w3.cell? ⟨bu, 2, none⟩ = some (.int .i64 x.uc) := hU.cell 2
      have lt_u := hU.lt
      by_cases h0 : sz < 0
      · have hbf : relB d id 2 sz = false := by rw [HR.out, hg]; unfold inB; simp; omega
        have hb2 : b = false := by rw [← HBB.out]; exact hbf
        subst hb2
        have HLD := Lib.hid (HRN.out hbf).symm
        clear hbf
        go_wp2_with fail
        refine (rcopy_any A n k d _ HD.out (by omega) (hl)).mono ?_
        rintro e wc ⟨vc, rfl, hvc, hb⟩
        go_wp2_with fail
        go_ret2
        refine ⟨_, rfl, ?_, hB.trans (hb.mono hs)⟩
        rw [HLD.out, HD.out]
        exact ownB hvc hs
      · by_cases h1 : x.uc < sz
        · have hbf : relB d id 2 sz = false := by rw [HR.out, hg]; unfold inB; simp; omega
          have hb2 : b = false := by rw [← HBB.out]; exact hbf
          subst hb2
          have HLD := Lib.hid (HRN.out hbf).symm
          clear hbf
          go_wp2_with fail
          refine (rcopy_any A n k d _ HD.out (by omega) (hl)).mono ?_
          rintro e wc ⟨vc, rfl, hvc, hb⟩
          go_wp2_with fail
          go_ret2
          refine ⟨_, rfl, ?_, hB.trans (hb.mono hs)⟩
          rw [HLD.out, HD.out]
          exact ownB hvc hs
        · have hbt : relB d id 2 sz = true := by rw [HR.out, hg]; unfold inB; simp; omega
          have hb2 : b = true := by rw [← HBB.out]; exact hbt
          subst hb2
          have hml : moreB d id ⟨id, x.ua, x.ub, x.uc - sz⟩ = l := by
            rw [← HRY.out hbt, HXX.out, show (⟨id, x.ua, x.ub, x.uc - sz⟩ : Bk) = bump x 2 (-sz) by simp [bump, HXI.out]; try omega]
          have HML := Lib.hid hml
          have uf : w3.frozen? ⟨bu, 2, none⟩ = false := hU.free 2
          have hwr : IntKind.i64.wrap (x.uc - sz) = x.uc - sz := IntWalk.i64_in _ (by omega)
          clear hbt hml
          go_wp2_with fail
          have hU8 : Blok (w3.setCell ⟨bu, 2, none⟩ (.int .i64 (x.uc - sz))) bu 38 #[.int .i64 x.ua, .int .i64 x.ub, .int .i64 (x.uc - sz)] := by have h := Blok.set_ hU 2 (.int .i64 (x.uc - sz)); simpa using h
          have hb8 : Below bu w2 (w3.setCell ⟨bu, 2, none⟩ (.int .i64 (x.uc - sz))) := by (repeat (first | exact Below.refl _ _ | exact hbA | refine Below.alloc ?_ (by first | omega | (simp; done) | (simp; omega)) _ | refine Below.setCell ?_ (by first | omega | (simp; done) | (simp; omega)) _ | refine Below.drew ?_ | refine Below.trans ?_ (hbA.mono (by first | omega | (simp; done) | (simp; omega)))))
          have hB8 := hB2.trans (hb8.mono hs2)
          have hl8 := HL0.out.up hB8
          have hs8 := hB8.size
          refine (rwith_any A n k d ⟨id, x.ua, x.ub, x.uc - sz⟩ _ HD.out (by omega) hl8 HSD.out l HML.out).mono ?_
          rintro e w9 ⟨v9, rfl, hv9, hb9⟩
          go_wp2_with fail
          go_ret2
          exact ⟨_, rfl, ownB hv9 hs8, hB8.trans (hb9.mono hs8)⟩
end Go.Proofs.Ytejcjpfljcfibaa
