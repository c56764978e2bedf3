/- Layer 9's small case comes out right. No condition. -/
import Derived.Test.YtejcjpfljcfibaaLedger6
namespace Go.Proofs.Ytejcjpfljcfibaa
open Go.ChangeShapes Go.WideShapes Go.ChangeAt Go.RowKit Go.Sort
set_option linter.unusedSimpArgs false
set_option linter.unusedVariables false
theorem own_below {w w' : World} {base : Nat} {e : TypeId} {size n : Nat} {v : Value} {xs : List Value} (h : w.ownsRow base e size v n xs) (hb : Below w.heap.size w w') : w'.ownsRow base e size v n xs :=
  h.kept (grown_of_below (row := some w.heap.size) hb) (.inr (fun e => by have := (h.lt _ e).2; omega))
set_option maxHeartbeats 8000000 in
set_option maxRecDepth 100000 in
theorem small09 (w : World) :
    Calls Try.prog 9 #[] w fun e w' => e = .returned (.bool true) ∧ Below w.heap.size w w' := by
  have hB : Below w.heap.size w (w.alloc (.cells #[.int .i64 7, .int .i64 1, .int .i64 2, .int .i64 10, .int .i64 20, .int .i64 3] 29)) := by (repeat (first | exact Below.refl _ _ | refine Below.alloc ?_ (by first | omega | (simp; done) | (simp; omega)) _ | refine Below.setCell ?_ (by first | omega | (simp; done) | (simp; omega)) _ | refine Below.drew ?_))
  have hXc := Blok.new w 29 #[.int .i64 7, .int .i64 1, .int .i64 2, .int .i64 10, .int .i64 20, .int .i64 3]
  have hs := hB.size
  go_enter Try.func9, Try.ntmps9
  go_wp2_with fail
  generalize (w.alloc (.cells #[.int .i64 7, .int .i64 1, .int .i64 2, .int .i64 10, .int .i64 20, .int .i64 3] 29)) = w0 at *
  refine (book_yes none 0 0 [] ⟨7, 1, 2, 10, 20, 3⟩ 1 10 w0 rfl (by omega) (Sl.nil0 _ _ _) (by unfold SortB; decide) (by unfold okU; decide +kernel) (by decide +kernel) [⟨7, 0, 10, 0⟩] (by decide +kernel)).mono ?_
  rintro e w1 ⟨vl, rfl, hvl, hb⟩
  replace hvl : w1.ownsRow w0.heap.size 43 4 vl 1 (flatBk [⟨7, 0, 10, 0⟩]) := hvl
  replace hXc := hXc.below hb hXc.lt
  replace hB := hB.trans (hb.mono hs)
  replace hs := hB.size
  clear hb
  obtain ⟨Al, cl, rfl⟩ := slice_of_own hvl
  have c0 : w1.cell? ⟨w.heap.size, 0, none⟩ = some (.int .i64 7) := hXc.cell 0
  have c1 : w1.cell? ⟨w.heap.size, 1, none⟩ = some (.int .i64 1) := hXc.cell 1
  have c2 : w1.cell? ⟨w.heap.size, 2, none⟩ = some (.int .i64 2) := hXc.cell 2
  have c3 : w1.cell? ⟨w.heap.size, 3, none⟩ = some (.int .i64 10) := hXc.cell 3
  have c4 : w1.cell? ⟨w.heap.size, 4, none⟩ = some (.int .i64 20) := hXc.cell 4
  have c5 : w1.cell? ⟨w.heap.size, 5, none⟩ = some (.int .i64 3) := hXc.cell 5
  have lt_c := hXc.lt
  go_wp2_with fail
  clear c0 c1 c2 c3 c4 c5 lt_c
  refine (book_yes Al 1 cl [⟨7, 0, 10, 0⟩] ⟨7, 1, 2, 10, 20, 3⟩ 2 30 w1 rfl (by omega) (Sl.of_own hvl) (by unfold SortB; decide) (by unfold okU; decide +kernel) (by decide +kernel) [⟨7, 0, 10, 30⟩] (by decide +kernel)).mono ?_
  rintro e w2 ⟨vm, rfl, hvm, hb⟩
  replace hvm : w2.ownsRow w1.heap.size 43 4 vm 1 (flatBk [⟨7, 0, 10, 30⟩]) := hvm
  replace hvl := own_below hvl hb
  replace hXc := hXc.below hb hXc.lt
  replace hB := hB.trans (hb.mono hs)
  replace hs := hB.size
  clear hb
  obtain ⟨Am, cm, rfl⟩ := slice_of_own hvm
  have c0 : w2.cell? ⟨w.heap.size, 0, none⟩ = some (.int .i64 7) := hXc.cell 0
  have c1 : w2.cell? ⟨w.heap.size, 1, none⟩ = some (.int .i64 1) := hXc.cell 1
  have c2 : w2.cell? ⟨w.heap.size, 2, none⟩ = some (.int .i64 2) := hXc.cell 2
  have c3 : w2.cell? ⟨w.heap.size, 3, none⟩ = some (.int .i64 10) := hXc.cell 3
  have c4 : w2.cell? ⟨w.heap.size, 4, none⟩ = some (.int .i64 20) := hXc.cell 4
  have c5 : w2.cell? ⟨w.heap.size, 5, none⟩ = some (.int .i64 3) := hXc.cell 5
  have lt_c := hXc.lt
  go_wp2_with fail
  clear c0 c1 c2 c3 c4 c5 lt_c
  refine (book_no Al 1 cl [⟨7, 0, 10, 0⟩] ⟨7, 1, 2, 10, 20, 3⟩ 0 21 w2 rfl (by omega) (Sl.of_own hvl) (by unfold SortB; decide) (by unfold okU; decide +kernel) (by decide +kernel)).mono ?_
  rintro e w3 ⟨vx, rfl, hvx, hb⟩
  replace hvx : w3.ownsRow w2.heap.size 43 4 vx 1 (flatBk [⟨7, 0, 10, 0⟩]) := hvx
  replace hvl := own_below hvl hb
  replace hvm := own_below hvm hb
  replace hXc := hXc.below hb hXc.lt
  replace hB := hB.trans (hb.mono hs)
  replace hs := hB.size
  clear hb
  obtain ⟨Ax, cx, rfl⟩ := slice_of_own hvx
  clear hvx
  go_wp2_with fail
  refine (rel_yes Am 1 cm [⟨7, 0, 10, 30⟩] 7 2 30 w3 rfl (by omega) (Sl.of_own hvm) (by unfold SortB; decide) (by unfold okU; decide +kernel) (by decide +kernel) [⟨7, 0, 10, 0⟩] (by decide +kernel)).mono ?_
  rintro e w4 ⟨vn, rfl, hvn, hb⟩
  replace hvn : w4.ownsRow w3.heap.size 43 4 vn 1 (flatBk [⟨7, 0, 10, 0⟩]) := hvn
  replace hvl := own_below hvl hb
  replace hvm := own_below hvm hb
  replace hXc := hXc.below hb hXc.lt
  replace hB := hB.trans (hb.mono hs)
  replace hs := hB.size
  clear hb
  obtain ⟨An, cn, rfl⟩ := slice_of_own hvn
  go_wp2_with fail
  refine (rel_no Al 1 cl [⟨7, 0, 10, 0⟩] 7 1 11 w4 rfl (by omega) (Sl.of_own hvl) (by unfold SortB; decide) (by decide +kernel)).mono ?_
  rintro e w5 ⟨vy, rfl, hvy, hb⟩
  replace hvy : w5.ownsRow w4.heap.size 43 4 vy 1 (flatBk [⟨7, 0, 10, 0⟩]) := hvy
  replace hvl := own_below hvl hb
  replace hvm := own_below hvm hb
  replace hvn := own_below hvn hb
  replace hXc := hXc.below hb hXc.lt
  replace hB := hB.trans (hb.mono hs)
  replace hs := hB.size
  clear hb
  obtain ⟨Ay, cy, rfl⟩ := slice_of_own hvy
  clear hvy
  go_wp2_with fail
  refine (rel_yes Al 1 cl [⟨7, 0, 10, 0⟩] 7 1 10 w5 rfl (by omega) (Sl.of_own hvl) (by unfold SortB; decide) (by unfold okU; decide +kernel) (by decide +kernel) [] (by decide +kernel)).mono ?_
  rintro e w6 ⟨vo, rfl, hvo, hb⟩
  replace hvo : w6.ownsRow w5.heap.size 43 4 vo 0 (flatBk []) := hvo
  replace hvl := own_below hvl hb
  replace hvm := own_below hvm hb
  replace hvn := own_below hvn hb
  replace hXc := hXc.below hb hXc.lt
  replace hB := hB.trans (hb.mono hs)
  replace hs := hB.size
  clear hb
  obtain ⟨Ao, co, rfl⟩ := slice_of_own hvo
  clear hvo
  have c0 : w6.cell? ⟨w.heap.size, 0, none⟩ = some (.int .i64 7) := hXc.cell 0
  have c1 : w6.cell? ⟨w.heap.size, 1, none⟩ = some (.int .i64 1) := hXc.cell 1
  have c2 : w6.cell? ⟨w.heap.size, 2, none⟩ = some (.int .i64 2) := hXc.cell 2
  have c3 : w6.cell? ⟨w.heap.size, 3, none⟩ = some (.int .i64 10) := hXc.cell 3
  have c4 : w6.cell? ⟨w.heap.size, 4, none⟩ = some (.int .i64 20) := hXc.cell 4
  have c5 : w6.cell? ⟨w.heap.size, 5, none⟩ = some (.int .i64 3) := hXc.cell 5
  have lt_c := hXc.lt
  go_wp2_with fail
  clear c0 c1 c2 c3 c4 c5 lt_c
  refine (book_yes Al 1 cl [⟨7, 0, 10, 0⟩] ⟨7, 1, 2, 10, 20, 3⟩ 0 0 w6 rfl (by omega) (Sl.of_own hvl) (by unfold SortB; decide) (by unfold okU; decide +kernel) (by decide +kernel) [⟨7, 0, 10, 0⟩] (by decide +kernel)).mono ?_
  rintro e w7 ⟨vp, rfl, hvp, hb⟩
  replace hvp : w7.ownsRow w6.heap.size 43 4 vp 1 (flatBk [⟨7, 0, 10, 0⟩]) := hvp
  replace hvl := own_below hvl hb
  replace hvm := own_below hvm hb
  replace hvn := own_below hvn hb
  replace hXc := hXc.below hb hXc.lt
  replace hB := hB.trans (hb.mono hs)
  replace hs := hB.size
  clear hb
  obtain ⟨Ap, cp, rfl⟩ := slice_of_own hvp
  go_wp2_with fail
  have hO := own_lit w7 0 43 4 1 #[.int .i64 7, .int .i64 0, .int .i64 10, .int .i64 0] (by omega) rfl (by simp [maxLen])
  replace hXc := hXc.alloc (.cells #[.int .i64 7, .int .i64 0, .int .i64 10, .int .i64 0] 43)
  replace hvl := hvl.alloc (.cells #[.int .i64 7, .int .i64 0, .int .i64 10, .int .i64 0] 43)
  replace hvm := hvm.alloc (.cells #[.int .i64 7, .int .i64 0, .int .i64 10, .int .i64 0] 43)
  replace hvn := hvn.alloc (.cells #[.int .i64 7, .int .i64 0, .int .i64 10, .int .i64 0] 43)
  replace hvp := hvp.alloc (.cells #[.int .i64 7, .int .i64 0, .int .i64 10, .int .i64 0] 43)
  replace hB := hB.alloc hs (.cells #[.int .i64 7, .int .i64 0, .int .i64 10, .int .i64 0] 43)
  replace hs := hB.size
  generalize (w7.alloc (.cells #[.int .i64 7, .int .i64 0, .int .i64 10, .int .i64 0] 43)) = w8 at *
  refine (same_any Al (some ⟨w7.heap.size, 0, none⟩) 1 cl 1 1 [⟨7, 0, 10, 0⟩] [⟨7, 0, 10, 0⟩] w8 rfl rfl (by omega) (by omega) (Sl.of_own hvl) (Sl.of_own hO)).mono ?_
  rw [show decide (([⟨7, 0, 10, 0⟩] : List Bk) = [⟨7, 0, 10, 0⟩]) = true from by decide +kernel]
  rintro e w9 ⟨rfl, hb⟩
  clear hO
  replace hvl := own_below hvl hb
  replace hvm := own_below hvm hb
  replace hvn := own_below hvn hb
  replace hvp := own_below hvp hb
  replace hXc := hXc.below hb hXc.lt
  replace hB := hB.trans (hb.mono hs)
  replace hs := hB.size
  clear hb
  go_wp2_with fail
  refine (same_any An Al 1 cn 1 cl [⟨7, 0, 10, 0⟩] [⟨7, 0, 10, 0⟩] w9 rfl rfl (by omega) (by omega) (Sl.of_own hvn) (Sl.of_own hvl)).mono ?_
  rw [show decide (([⟨7, 0, 10, 0⟩] : List Bk) = [⟨7, 0, 10, 0⟩]) = true from by decide +kernel]
  rintro e w10 ⟨rfl, hb⟩
  replace hvl := own_below hvl hb
  replace hvm := own_below hvm hb
  replace hvn := own_below hvn hb
  replace hvp := own_below hvp hb
  replace hXc := hXc.below hb hXc.lt
  replace hB := hB.trans (hb.mono hs)
  replace hs := hB.size
  clear hb
  clear hvn
  go_wp2_with fail
  refine (same_any Ap Al 1 cp 1 cl [⟨7, 0, 10, 0⟩] [⟨7, 0, 10, 0⟩] w10 rfl rfl (by omega) (by omega) (Sl.of_own hvp) (Sl.of_own hvl)).mono ?_
  rw [show decide (([⟨7, 0, 10, 0⟩] : List Bk) = [⟨7, 0, 10, 0⟩]) = true from by decide +kernel]
  rintro e w11 ⟨rfl, hb⟩
  replace hvl := own_below hvl hb
  replace hvm := own_below hvm hb
  replace hvp := own_below hvp hb
  replace hXc := hXc.below hb hXc.lt
  replace hB := hB.trans (hb.mono hs)
  replace hs := hB.size
  clear hb
  clear hvp
  have c0 : w11.cell? ⟨w.heap.size, 0, none⟩ = some (.int .i64 7) := hXc.cell 0
  have c1 : w11.cell? ⟨w.heap.size, 1, none⟩ = some (.int .i64 1) := hXc.cell 1
  have c2 : w11.cell? ⟨w.heap.size, 2, none⟩ = some (.int .i64 2) := hXc.cell 2
  have c3 : w11.cell? ⟨w.heap.size, 3, none⟩ = some (.int .i64 10) := hXc.cell 3
  have c4 : w11.cell? ⟨w.heap.size, 4, none⟩ = some (.int .i64 20) := hXc.cell 4
  have c5 : w11.cell? ⟨w.heap.size, 5, none⟩ = some (.int .i64 3) := hXc.cell 5
  have lt_c := hXc.lt
  go_wp2_with fail
  clear c0 c1 c2 c3 c4 c5 lt_c
  refine (room_any Al 1 cl [⟨7, 0, 10, 0⟩] ⟨7, 1, 2, 10, 20, 3⟩ 0 w11 rfl (by omega) (Sl.of_own hvl) (by unfold SortB; decide) _ rfl (by unfold okU; decide +kernel) 20 (by decide +kernel)).mono ?_
  rintro e w12 ⟨rfl, hb⟩
  replace hvl := own_below hvl hb
  replace hvm := own_below hvm hb
  replace hXc := hXc.below hb hXc.lt
  replace hB := hB.trans (hb.mono hs)
  replace hs := hB.size
  clear hb
  have c0 : w12.cell? ⟨w.heap.size, 0, none⟩ = some (.int .i64 7) := hXc.cell 0
  have c1 : w12.cell? ⟨w.heap.size, 1, none⟩ = some (.int .i64 1) := hXc.cell 1
  have c2 : w12.cell? ⟨w.heap.size, 2, none⟩ = some (.int .i64 2) := hXc.cell 2
  have c3 : w12.cell? ⟨w.heap.size, 3, none⟩ = some (.int .i64 10) := hXc.cell 3
  have c4 : w12.cell? ⟨w.heap.size, 4, none⟩ = some (.int .i64 20) := hXc.cell 4
  have c5 : w12.cell? ⟨w.heap.size, 5, none⟩ = some (.int .i64 3) := hXc.cell 5
  have lt_c := hXc.lt
  go_wp2_with fail
  clear c0 c1 c2 c3 c4 c5 lt_c
  refine (room_any Al 1 cl [⟨7, 0, 10, 0⟩] ⟨7, 1, 2, 10, 20, 3⟩ 1 w12 rfl (by omega) (Sl.of_own hvl) (by unfold SortB; decide) _ rfl (by unfold okU; decide +kernel) 20 (by decide +kernel)).mono ?_
  rintro e w13 ⟨rfl, hb⟩
  replace hvl := own_below hvl hb
  replace hvm := own_below hvm hb
  replace hXc := hXc.below hb hXc.lt
  replace hB := hB.trans (hb.mono hs)
  replace hs := hB.size
  clear hb
  have c0 : w13.cell? ⟨w.heap.size, 0, none⟩ = some (.int .i64 7) := hXc.cell 0
  have c1 : w13.cell? ⟨w.heap.size, 1, none⟩ = some (.int .i64 1) := hXc.cell 1
  have c2 : w13.cell? ⟨w.heap.size, 2, none⟩ = some (.int .i64 2) := hXc.cell 2
  have c3 : w13.cell? ⟨w.heap.size, 3, none⟩ = some (.int .i64 10) := hXc.cell 3
  have c4 : w13.cell? ⟨w.heap.size, 4, none⟩ = some (.int .i64 20) := hXc.cell 4
  have c5 : w13.cell? ⟨w.heap.size, 5, none⟩ = some (.int .i64 3) := hXc.cell 5
  have lt_c := hXc.lt
  go_wp2_with fail
  clear c0 c1 c2 c3 c4 c5 lt_c
  refine (room_any Al 1 cl [⟨7, 0, 10, 0⟩] ⟨7, 1, 2, 10, 20, 3⟩ 2 w13 rfl (by omega) (Sl.of_own hvl) (by unfold SortB; decide) _ rfl (by unfold okU; decide +kernel) 30 (by decide +kernel)).mono ?_
  rintro e w14 ⟨rfl, hb⟩
  replace hvl := own_below hvl hb
  replace hvm := own_below hvm hb
  replace hXc := hXc.below hb hXc.lt
  replace hB := hB.trans (hb.mono hs)
  replace hs := hB.size
  clear hb
  clear hvl
  have c0 : w14.cell? ⟨w.heap.size, 0, none⟩ = some (.int .i64 7) := hXc.cell 0
  have c1 : w14.cell? ⟨w.heap.size, 1, none⟩ = some (.int .i64 1) := hXc.cell 1
  have c2 : w14.cell? ⟨w.heap.size, 2, none⟩ = some (.int .i64 2) := hXc.cell 2
  have c3 : w14.cell? ⟨w.heap.size, 3, none⟩ = some (.int .i64 10) := hXc.cell 3
  have c4 : w14.cell? ⟨w.heap.size, 4, none⟩ = some (.int .i64 20) := hXc.cell 4
  have c5 : w14.cell? ⟨w.heap.size, 5, none⟩ = some (.int .i64 3) := hXc.cell 5
  have lt_c := hXc.lt
  go_wp2_with fail
  clear c0 c1 c2 c3 c4 c5 lt_c
  refine (room_any Am 1 cm [⟨7, 0, 10, 30⟩] ⟨7, 1, 2, 10, 20, 3⟩ 0 w14 rfl (by omega) (Sl.of_own hvm) (by unfold SortB; decide) _ rfl (by unfold okU; decide +kernel) 0 (by decide +kernel)).mono ?_
  rintro e w15 ⟨rfl, hb⟩
  replace hvm := own_below hvm hb
  replace hXc := hXc.below hb hXc.lt
  replace hB := hB.trans (hb.mono hs)
  replace hs := hB.size
  clear hb
  go_wp2_with fail
  refine (backlog_any Am 1 cm [⟨7, 0, 10, 30⟩] 7 1 w15 rfl (by omega) (Sl.of_own hvm) (by unfold SortB; decide) _ rfl (by unfold okU; decide +kernel) 40 (by decide +kernel)).mono ?_
  rintro e w16 ⟨rfl, hb⟩
  replace hvm := own_below hvm hb
  replace hXc := hXc.below hb hXc.lt
  replace hB := hB.trans (hb.mono hs)
  replace hs := hB.size
  clear hb
  go_wp2_with fail
  refine (used_any Am 1 cm [⟨7, 0, 10, 30⟩] 8 w16 rfl (by omega) (Sl.of_own hvm) (by unfold SortB; decide) ⟨8, 0, 0, 0⟩ (by decide +kernel)).mono ?_
  rintro e w17 ⟨rfl, hb⟩
  replace hvm := own_below hvm hb
  replace hXc := hXc.below hb hXc.lt
  replace hB := hB.trans (hb.mono hs)
  replace hs := hB.size
  clear hb
  have he := eql3 0 0 0 0 0 0
  rw [show decide ((0 : Int) = 0 ∧ (0 : Int) = 0 ∧ (0 : Int) = 0) = true from by decide] at he
  go_wp2_with fail
  clear he
  have hO := own_lit w17 0 3 1 2 #[.int .i64 5, .int .i64 7] (by omega) rfl (by simp [maxLen])
  replace hXc := hXc.alloc (.cells #[.int .i64 5, .int .i64 7] 3)
  replace hvm := hvm.alloc (.cells #[.int .i64 5, .int .i64 7] 3)
  replace hB := hB.alloc hs (.cells #[.int .i64 5, .int .i64 7] 3)
  replace hs := hB.size
  generalize (w17.alloc (.cells #[.int .i64 5, .int .i64 7] 3)) = w18 at *
  refine (drop_any Am 1 cm [⟨7, 0, 10, 30⟩] (some ⟨w17.heap.size, 0, none⟩) 2 2 [5, 7] w18 rfl (by omega) rfl (by omega) (Sl.of_own hvm) (Sl.of_own hO) (fun x hx => by simp at hx; subst hx; decide +kernel) (fun k hk => by rcases (by omega : k = 0 ∨ k = 1) with rfl | rfl <;> decide +kernel)).mono ?_
  rintro e w19 ⟨vd, rfl, hvd, hb⟩
  replace hvd : w19.ownsRow w18.heap.size 43 4 vd 0 (flatBk []) := hvd
  clear hO
  replace hvm := own_below hvm hb
  replace hXc := hXc.below hb hXc.lt
  replace hB := hB.trans (hb.mono hs)
  replace hs := hB.size
  clear hb
  obtain ⟨Ad, cd, rfl⟩ := slice_of_own hvd
  clear hvd
  go_wp2_with fail
  refine (right_any Am 1 cm [⟨7, 0, 10, 30⟩] w19 rfl (by omega) (Sl.of_own hvm)).mono ?_
  rw [show rightB [⟨7, 0, 10, 30⟩] = true from by decide +kernel]
  rintro e w20 ⟨rfl, hb⟩
  replace hvm := own_below hvm hb
  replace hXc := hXc.below hb hXc.lt
  replace hB := hB.trans (hb.mono hs)
  replace hs := hB.size
  clear hb hvm
  go_wp2_with fail
  have hO := own_lit w20 0 43 4 1 #[.int .i64 7, .int .i64 0, .int .i64 0, .int .i64 0] (by omega) rfl (by simp [maxLen])
  replace hXc := hXc.alloc (.cells #[.int .i64 7, .int .i64 0, .int .i64 0, .int .i64 0] 43)
  replace hB := hB.alloc hs (.cells #[.int .i64 7, .int .i64 0, .int .i64 0, .int .i64 0] 43)
  replace hs := hB.size
  generalize (w20.alloc (.cells #[.int .i64 7, .int .i64 0, .int .i64 0, .int .i64 0] 43)) = w21 at *
  refine (right_any (some ⟨w20.heap.size, 0, none⟩) 1 1 [⟨7, 0, 0, 0⟩] w21 rfl (by omega) (Sl.of_own hO)).mono ?_
  rw [show rightB [⟨7, 0, 0, 0⟩] = false from by decide +kernel]
  rintro e w22 ⟨rfl, hb⟩
  clear hO
  replace hB := hB.trans (hb.mono hs)
  clear hb hXc
  go_wp2
  go_ret
  exact ⟨rfl, hB⟩
end Go.Proofs.Ytejcjpfljcfibaa
