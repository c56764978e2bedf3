/- It does not matter in which order two contacts are booked on: LedgerOrder returns true. No condition. -/
import Derived.Test.YtejcjpfljcfibaaRows
import Derived.Test.YtejcjpfljcfibaaLedgerMath
import Derived.Test.YtejcjpfljcfibaaSmall09
import Derived.Test.YtejcjpfljcfibaaOpenS
namespace Go.Proofs.Ytejcjpfljcfibaa
open Go.ChangeShapes Go.WideShapes Go.ChangeAt Go.RowKit Go.Sort
set_option linter.unusedSimpArgs false
set_option linter.unusedVariables false
theorem order_lists {l : List Bk} {c q : Ct} {cl s o : Int} (hr : rightB l = true) (hne : ¬ c.id = q.id) : bookB (bookL l c cl s) q cl o = bookB l q cl o ∧ bookB (bookL l q cl o) c cl s = bookB l c cl s ∧ bookL (bookL l c cl s) q cl o = bookL (bookL l q cl o) c cl s := by
  have ra : rightB (bookL l c cl s) = true := book_right hr
  have re : rightB (bookL l q cl o) = true := book_right hr
  have e1 : rowB (bookL l c cl s) q.id = rowB l q.id := by rw [book_row hr, if_neg (fun h => hne h.2.symm)]
  have e2 : rowB (bookL l q cl o) c.id = rowB l c.id := by rw [book_row hr, if_neg (fun h => hne h.2)]
  have b1 := book_same (cl := cl) (sz := o) e1
  have b2 := book_same (cl := cl) (sz := s) e2
  refine ⟨b1, b2, right_ext (book_right ra) (book_right re) (fun j => ?_)⟩
  rw [book_row ra, book_row re, b1, b2, e1, e2, book_row hr, book_row hr]
  by_cases h1 : j = c.id
  · subst h1
    have h2 : ¬ c.id = q.id := hne
    simp [h2]
  · simp [h1]
set_option maxHeartbeats 8000000 in
set_option maxRecDepth 100000 in
theorem order_walk (A : Option Addr) (n k : Nat) (l : List Bk) (c q : Ct) (cl s o : Int) (hd : l.length = n) (w : World) (hl : Sl w w.heap.size 4 A n k (flatBk l)) :
    Calls Try.prog 7 #[.slice A n k, .agg #[.int .i64 c.id, .int .i64 c.fr, .int .i64 c.tn, .int .i64 c.st, .int .i64 c.en, .int .i64 c.rt], .agg #[.int .i64 q.id, .int .i64 q.fr, .int .i64 q.tn, .int .i64 q.st, .int .i64 q.en, .int .i64 q.rt], .int .i64 cl, .int .i64 s, .int .i64 o] w fun e w' => e = .returned (.bool true) ∧ Below w.heap.size w w' := by
  have hB : Below w.heap.size w ((w.alloc (.cells #[.int .i64 c.id, .int .i64 c.fr, .int .i64 c.tn, .int .i64 c.st, .int .i64 c.en, .int .i64 c.rt] 29)).alloc (.cells #[.int .i64 q.id, .int .i64 q.fr, .int .i64 q.tn, .int .i64 q.st, .int .i64 q.en, .int .i64 q.rt] 29)) := by (repeat (first | exact Below.refl _ _ | refine Below.alloc ?_ (by first | omega | (simp; done) | (simp; omega)) _ | refine Below.setCell ?_ (by first | omega | (simp; done) | (simp; omega)) _ | refine Below.drew ?_))
  have hXc := (Blok.new w 29 #[.int .i64 c.id, .int .i64 c.fr, .int .i64 c.tn, .int .i64 c.st, .int .i64 c.en, .int .i64 c.rt]).alloc (.cells #[.int .i64 q.id, .int .i64 q.fr, .int .i64 q.tn, .int .i64 q.st, .int .i64 q.en, .int .i64 q.rt] 29)
  have hXq := Blok.new (w.alloc (.cells #[.int .i64 c.id, .int .i64 c.fr, .int .i64 c.tn, .int .i64 c.st, .int .i64 c.en, .int .i64 c.rt] 29)) 29 #[.int .i64 q.id, .int .i64 q.fr, .int .i64 q.tn, .int .i64 q.st, .int .i64 q.en, .int .i64 q.rt]
  rw [World.size_alloc] at hXq
  replace hl := hl.below hB
  have hs := hB.size
  by_cases hn : 50 < n
  · skip
    go_enter Try.func7, Try.ntmps7
    go_wp2_with fail
    generalize ((w.alloc (.cells #[.int .i64 c.id, .int .i64 c.fr, .int .i64 c.tn, .int .i64 c.st, .int .i64 c.en, .int .i64 c.rt] 29)).alloc (.cells #[.int .i64 q.id, .int .i64 q.fr, .int .i64 q.tn, .int .i64 q.st, .int .i64 q.en, .int .i64 q.rt] 29)) = w0 at *
    refine (small09 w0).mono ?_
    rintro e w1 ⟨rfl, hb⟩
    replace hl := hl.below (hb.mono hs)
    replace hXc := hXc.below hb hXc.lt
    replace hXq := hXq.below hb hXq.lt
    replace hB := hB.trans (hb.mono hs)
    replace hs := hB.size
    clear hb
    go_wp2
    go_ret
    exact ⟨rfl, hB⟩
  · skip
    go_enter Try.func7, Try.ntmps7
    go_wp2_with fail
    generalize ((w.alloc (.cells #[.int .i64 c.id, .int .i64 c.fr, .int .i64 c.tn, .int .i64 c.st, .int .i64 c.en, .int .i64 c.rt] 29)).alloc (.cells #[.int .i64 q.id, .int .i64 q.fr, .int .i64 q.tn, .int .i64 q.st, .int .i64 q.en, .int .i64 q.rt] 29)) = w0 at *
    refine (small09 w0).mono ?_
    rintro e w1 ⟨rfl, hb⟩
    replace hl := hl.below (hb.mono hs)
    replace hXc := hXc.below hb hXc.lt
    replace hXq := hXq.below hb hXq.lt
    replace hB := hB.trans (hb.mono hs)
    replace hs := hB.size
    clear hb
    have c0 : w1.cell? ⟨w.heap.size, 0, none⟩ = some (.int .i64 c.id) := hXc.cell 0
    have c1 : w1.cell? ⟨w.heap.size, 1, none⟩ = some (.int .i64 c.fr) := hXc.cell 1
    have c2 : w1.cell? ⟨w.heap.size, 2, none⟩ = some (.int .i64 c.tn) := hXc.cell 2
    have c3 : w1.cell? ⟨w.heap.size, 3, none⟩ = some (.int .i64 c.st) := hXc.cell 3
    have c4 : w1.cell? ⟨w.heap.size, 4, none⟩ = some (.int .i64 c.en) := hXc.cell 4
    have c5 : w1.cell? ⟨w.heap.size, 5, none⟩ = some (.int .i64 c.rt) := hXc.cell 5
    have lt_c := hXc.lt
    have q0 : w1.cell? ⟨w.heap.size + 1, 0, none⟩ = some (.int .i64 q.id) := hXq.cell 0
    have q1 : w1.cell? ⟨w.heap.size + 1, 1, none⟩ = some (.int .i64 q.fr) := hXq.cell 1
    have q2 : w1.cell? ⟨w.heap.size + 1, 2, none⟩ = some (.int .i64 q.tn) := hXq.cell 2
    have q3 : w1.cell? ⟨w.heap.size + 1, 3, none⟩ = some (.int .i64 q.st) := hXq.cell 3
    have q4 : w1.cell? ⟨w.heap.size + 1, 4, none⟩ = some (.int .i64 q.en) := hXq.cell 4
    have q5 : w1.cell? ⟨w.heap.size + 1, 5, none⟩ = some (.int .i64 q.rt) := hXq.cell 5
    have lt_q := hXq.lt
    by_cases hid : c.id = q.id
    · skip
      have hqb : (c.id == q.id) = true := by simp [hid]
      clear hid
      go_wp2_with fail
      go_ret
      exact ⟨rfl, hB⟩
    · skip
      have HID := Lib.hid hid
      have hqb : (c.id == q.id) = false := beq_eq_false_iff_ne.2 hid
      clear hid
      go_wp2_with fail
      clear c0 c1 c2 c3 c4 c5 q0 q1 q2 q3 q4 q5 lt_c lt_q hqb
      refine (right_any A n k l w1 hd (by omega) (hl.more hs)).mono ?_
      rintro e w2 ⟨rfl, hb⟩
      replace hl := hl.below (hb.mono hs)
      replace hXc := hXc.below hb hXc.lt
      replace hXq := hXq.below hb hXq.lt
      replace hB := hB.trans (hb.mono hs)
      replace hs := hB.size
      clear hb
      cases hrt : rightB l
      · go_wp2_with fail
        go_ret
        exact ⟨rfl, hB⟩
      · skip
        have hmm := order_lists (cl := cl) (s := s) (o := o) hrt HID.out
        obtain ⟨p, hp⟩ : ∃ p, bookB l c cl s = p := ⟨_, rfl⟩
        obtain ⟨z, hz⟩ : ∃ z, bookB l q cl o = z := ⟨_, rfl⟩
        obtain ⟨la, hla⟩ : ∃ x, bookL l c cl s = x := ⟨_, rfl⟩
        obtain ⟨le, hle⟩ : ∃ x, bookL l q cl o = x := ⟨_, rfl⟩
        have hra : rightB la = true := by rw [← hla]; exact book_right hrt
        have hre : rightB le = true := by rw [← hle]; exact book_right hrt
        have na0 := bookL_len l c cl s
        have ne0 := bookL_len l q cl o
        rw [hla] at na0
        rw [hle] at ne0
        rw [hp, hz, hla, hle] at hmm
        obtain ⟨h2, h4, h5⟩ := hmm
        obtain ⟨lb, hlb⟩ : ∃ x, bookL la q cl o = x := ⟨_, rfl⟩
        have nb0 := bookL_len la q cl o
        rw [hlb] at nb0
        rw [hlb] at h5
        obtain ⟨na, hna⟩ : ∃ m, la.length = m := ⟨_, rfl⟩
        obtain ⟨ne, hne⟩ : ∃ m, le.length = m := ⟨_, rfl⟩
        obtain ⟨nb, hnb⟩ : ∃ m, lb.length = m := ⟨_, rfl⟩
        have na1 : na ≤ 51 := by omega
        have ne1 : ne ≤ 51 := by omega
        have nb1 : nb ≤ 52 := by omega
        have HP := Lib.hid hp
        have HZ := Lib.hid hz
        have HLA := Lib.hid hla
        have HLE := Lib.hid hle
        have HLB := Lib.hid hlb
        have H2 := Lib.hid h2
        have H4 := Lib.hid h4
        have H5 := Lib.hid h5
        have HNA := Lib.hid hna
        have HNE := Lib.hid hne
        have HNB := Lib.hid hnb
        have HRT := Lib.hid hrt
        have HRA := Lib.hid hra
        have HRE := Lib.hid hre
        clear hp hz hla hle hlb h2 h4 h5 hna hne hnb hrt hra hre na0 ne0 nb0 HID
        have c0 : w2.cell? ⟨w.heap.size, 0, none⟩ = some (.int .i64 c.id) := hXc.cell 0
        have c1 : w2.cell? ⟨w.heap.size, 1, none⟩ = some (.int .i64 c.fr) := hXc.cell 1
        have c2 : w2.cell? ⟨w.heap.size, 2, none⟩ = some (.int .i64 c.tn) := hXc.cell 2
        have c3 : w2.cell? ⟨w.heap.size, 3, none⟩ = some (.int .i64 c.st) := hXc.cell 3
        have c4 : w2.cell? ⟨w.heap.size, 4, none⟩ = some (.int .i64 c.en) := hXc.cell 4
        have c5 : w2.cell? ⟨w.heap.size, 5, none⟩ = some (.int .i64 c.rt) := hXc.cell 5
        have lt_c := hXc.lt
        have q0 : w2.cell? ⟨w.heap.size + 1, 0, none⟩ = some (.int .i64 q.id) := hXq.cell 0
        have q1 : w2.cell? ⟨w.heap.size + 1, 1, none⟩ = some (.int .i64 q.fr) := hXq.cell 1
        have q2 : w2.cell? ⟨w.heap.size + 1, 2, none⟩ = some (.int .i64 q.tn) := hXq.cell 2
        have q3 : w2.cell? ⟨w.heap.size + 1, 3, none⟩ = some (.int .i64 q.st) := hXq.cell 3
        have q4 : w2.cell? ⟨w.heap.size + 1, 4, none⟩ = some (.int .i64 q.en) := hXq.cell 4
        have q5 : w2.cell? ⟨w.heap.size + 1, 5, none⟩ = some (.int .i64 q.rt) := hXq.cell 5
        have lt_q := hXq.lt
        go_wp2_with fail
        clear c0 c1 c2 c3 c4 c5 lt_c q0 q1 q2 q3 q4 q5 lt_q
        refine (book_any A n k l c cl s w2 hd (by omega) (hl.more hs) HRT.out p HP.out la HLA.out).mono ?_
        rintro e w3 ⟨va, rfl, hva, hb⟩
        rw [HNA.out] at hva
        replace hl := hl.below (hb.mono hs)
        replace hXc := hXc.below hb hXc.lt
        replace hXq := hXq.below hb hXq.lt
        replace hB := hB.trans (hb.mono hs)
        replace hs := hB.size
        clear hb
        obtain ⟨Aa, ca, rfl⟩ := slice_of_own hva
        have c0 : w3.cell? ⟨w.heap.size, 0, none⟩ = some (.int .i64 c.id) := hXc.cell 0
        have c1 : w3.cell? ⟨w.heap.size, 1, none⟩ = some (.int .i64 c.fr) := hXc.cell 1
        have c2 : w3.cell? ⟨w.heap.size, 2, none⟩ = some (.int .i64 c.tn) := hXc.cell 2
        have c3 : w3.cell? ⟨w.heap.size, 3, none⟩ = some (.int .i64 c.st) := hXc.cell 3
        have c4 : w3.cell? ⟨w.heap.size, 4, none⟩ = some (.int .i64 c.en) := hXc.cell 4
        have c5 : w3.cell? ⟨w.heap.size, 5, none⟩ = some (.int .i64 c.rt) := hXc.cell 5
        have lt_c := hXc.lt
        have q0 : w3.cell? ⟨w.heap.size + 1, 0, none⟩ = some (.int .i64 q.id) := hXq.cell 0
        have q1 : w3.cell? ⟨w.heap.size + 1, 1, none⟩ = some (.int .i64 q.fr) := hXq.cell 1
        have q2 : w3.cell? ⟨w.heap.size + 1, 2, none⟩ = some (.int .i64 q.tn) := hXq.cell 2
        have q3 : w3.cell? ⟨w.heap.size + 1, 3, none⟩ = some (.int .i64 q.st) := hXq.cell 3
        have q4 : w3.cell? ⟨w.heap.size + 1, 4, none⟩ = some (.int .i64 q.en) := hXq.cell 4
        have q5 : w3.cell? ⟨w.heap.size + 1, 5, none⟩ = some (.int .i64 q.rt) := hXq.cell 5
        have lt_q := hXq.lt
        go_wp2_with fail
        clear c0 c1 c2 c3 c4 c5 lt_c q0 q1 q2 q3 q4 q5 lt_q
        refine (book_any Aa na ca la q cl o w3 HNA.out (by omega) (Sl.of_own hva) HRA.out z H2.out lb HLB.out).mono ?_
        rintro e w4 ⟨vb, rfl, hvb, hb⟩
        rw [HNB.out] at hvb
        replace hva := own_below hva hb
        replace hl := hl.below (hb.mono hs)
        replace hXc := hXc.below hb hXc.lt
        replace hXq := hXq.below hb hXq.lt
        replace hB := hB.trans (hb.mono hs)
        replace hs := hB.size
        clear hb
        obtain ⟨Ab, cb, rfl⟩ := slice_of_own hvb
        have c0 : w4.cell? ⟨w.heap.size, 0, none⟩ = some (.int .i64 c.id) := hXc.cell 0
        have c1 : w4.cell? ⟨w.heap.size, 1, none⟩ = some (.int .i64 c.fr) := hXc.cell 1
        have c2 : w4.cell? ⟨w.heap.size, 2, none⟩ = some (.int .i64 c.tn) := hXc.cell 2
        have c3 : w4.cell? ⟨w.heap.size, 3, none⟩ = some (.int .i64 c.st) := hXc.cell 3
        have c4 : w4.cell? ⟨w.heap.size, 4, none⟩ = some (.int .i64 c.en) := hXc.cell 4
        have c5 : w4.cell? ⟨w.heap.size, 5, none⟩ = some (.int .i64 c.rt) := hXc.cell 5
        have lt_c := hXc.lt
        have q0 : w4.cell? ⟨w.heap.size + 1, 0, none⟩ = some (.int .i64 q.id) := hXq.cell 0
        have q1 : w4.cell? ⟨w.heap.size + 1, 1, none⟩ = some (.int .i64 q.fr) := hXq.cell 1
        have q2 : w4.cell? ⟨w.heap.size + 1, 2, none⟩ = some (.int .i64 q.tn) := hXq.cell 2
        have q3 : w4.cell? ⟨w.heap.size + 1, 3, none⟩ = some (.int .i64 q.st) := hXq.cell 3
        have q4 : w4.cell? ⟨w.heap.size + 1, 4, none⟩ = some (.int .i64 q.en) := hXq.cell 4
        have q5 : w4.cell? ⟨w.heap.size + 1, 5, none⟩ = some (.int .i64 q.rt) := hXq.cell 5
        have lt_q := hXq.lt
        go_wp2_with fail
        clear c0 c1 c2 c3 c4 c5 lt_c q0 q1 q2 q3 q4 q5 lt_q
        refine (book_any A n k l q cl o w4 hd (by omega) (hl.more hs) HRT.out z HZ.out le HLE.out).mono ?_
        rintro e w5 ⟨ve, rfl, hve, hb⟩
        rw [HNE.out] at hve
        replace hva := own_below hva hb
        replace hvb := own_below hvb hb
        replace hl := hl.below (hb.mono hs)
        replace hXc := hXc.below hb hXc.lt
        replace hXq := hXq.below hb hXq.lt
        replace hB := hB.trans (hb.mono hs)
        replace hs := hB.size
        clear hb
        obtain ⟨Ae, ce, rfl⟩ := slice_of_own hve
        have c0 : w5.cell? ⟨w.heap.size, 0, none⟩ = some (.int .i64 c.id) := hXc.cell 0
        have c1 : w5.cell? ⟨w.heap.size, 1, none⟩ = some (.int .i64 c.fr) := hXc.cell 1
        have c2 : w5.cell? ⟨w.heap.size, 2, none⟩ = some (.int .i64 c.tn) := hXc.cell 2
        have c3 : w5.cell? ⟨w.heap.size, 3, none⟩ = some (.int .i64 c.st) := hXc.cell 3
        have c4 : w5.cell? ⟨w.heap.size, 4, none⟩ = some (.int .i64 c.en) := hXc.cell 4
        have c5 : w5.cell? ⟨w.heap.size, 5, none⟩ = some (.int .i64 c.rt) := hXc.cell 5
        have lt_c := hXc.lt
        have q0 : w5.cell? ⟨w.heap.size + 1, 0, none⟩ = some (.int .i64 q.id) := hXq.cell 0
        have q1 : w5.cell? ⟨w.heap.size + 1, 1, none⟩ = some (.int .i64 q.fr) := hXq.cell 1
        have q2 : w5.cell? ⟨w.heap.size + 1, 2, none⟩ = some (.int .i64 q.tn) := hXq.cell 2
        have q3 : w5.cell? ⟨w.heap.size + 1, 3, none⟩ = some (.int .i64 q.st) := hXq.cell 3
        have q4 : w5.cell? ⟨w.heap.size + 1, 4, none⟩ = some (.int .i64 q.en) := hXq.cell 4
        have q5 : w5.cell? ⟨w.heap.size + 1, 5, none⟩ = some (.int .i64 q.rt) := hXq.cell 5
        have lt_q := hXq.lt
        go_wp2_with fail
        clear c0 c1 c2 c3 c4 c5 lt_c q0 q1 q2 q3 q4 q5 lt_q
        refine (book_any Ae ne ce le c cl s w5 HNE.out (by omega) (Sl.of_own hve) HRE.out p H4.out lb H5.out.symm).mono ?_
        rintro e w6 ⟨vf, rfl, hvf, hb⟩
        rw [HNB.out] at hvf
        replace hva := own_below hva hb
        replace hvb := own_below hvb hb
        replace hve := own_below hve hb
        replace hl := hl.below (hb.mono hs)
        replace hXc := hXc.below hb hXc.lt
        replace hXq := hXq.below hb hXq.lt
        replace hB := hB.trans (hb.mono hs)
        replace hs := hB.size
        clear hb
        obtain ⟨Af, cf, rfl⟩ := slice_of_own hvf
        cases p <;> cases z
        all_goals
          go_wp2_with fail
          refine (same_any Ab Af nb cb nb cf lb lb w6 HNB.out HNB.out (by omega) (by omega) (Sl.of_own hvb) (Sl.of_own hvf)).mono ?_
          rw [decide_eq_true (rfl : lb = lb)]
          rintro e w7 ⟨rfl, hb⟩
          replace hB := hB.trans (hb.mono hs)
          clear hb hXc hXq hva hvb hve hvf hl
          go_wp2
          go_ret
          exact ⟨rfl, hB⟩
theorem ledgerOrder_walk (A : Option Addr) (n k : Nat) (ns : List Int) (a0 a1 a2 a3 a4 a5 b0 b1 b2 b3 b4 b5 x y z : Int) (hnl : ns.length = n * 4) (_ : ∀ m ∈ ns, (Lit.int .i64 m).wf = true) (_ : ∀ m ∈ [a0, a1, a2, a3, a4, a5], (Lit.int .i64 m).wf = true) (_ : ∀ m ∈ [b0, b1, b2, b3, b4, b5], (Lit.int .i64 m).wf = true) (_ : (Lit.int .i64 x).wf = true) (_ : (Lit.int .i64 y).wf = true) (_ : (Lit.int .i64 z).wf = true) (w : World) (hl : Sl w w.heap.size 4 A n k (ns.map (Value.int .i64))) :
    Calls Try.prog 7 #[.slice A n k, .agg #[.int .i64 a0, .int .i64 a1, .int .i64 a2, .int .i64 a3, .int .i64 a4, .int .i64 a5], .agg #[.int .i64 b0, .int .i64 b1, .int .i64 b2, .int .i64 b3, .int .i64 b4, .int .i64 b5], .int .i64 x, .int .i64 y, .int .i64 z] w fun e w' => e = .returned (.bool true) ∧ Below w.heap.size w w' := by
  obtain ⟨d, hd, hlf⟩ := rowsBk_of n ns hnl
  rw [hlf] at hl
  exact order_walk A n k d ⟨a0, a1, a2, a3, a4, a5⟩ ⟨b0, b1, b2, b3, b4, b5⟩ x y z hd w hl
theorem ledgerOrder_own : ownKnob Try.prog.godebug = none := by kernel_rfl
theorem ledgerOrder_laidOut : laidOutB Try.prog = true := by kernel_rfl

set_option maxHeartbeats 1000000 in
set_option maxRecDepth 100000 in
theorem ledgerOrder_lifted (os : Os) (started : os.Started) (H : Type) (enc : TypeId × Value → H) :
    ReturnsInHanded {} Try.checked os 7 .any (Rows.ledgerOrderSpec.pre6 enc Try.prog Try.f7 Rows.ledgerOrderRow.domain false) (Rows.ledgerOrderSpec.post enc Try.prog Try.f7 false true false false) := by
  refine returnsInHanded_of_change (C := Try.checked) ledgerOrder_own started (by kernel_rfl) Try.func7
    (ChangeSpec.witness6 (enc := enc) (C := Try.checked) false ⟨#[], #[.slice none 0 0, .agg #[.int .i64 0, .int .i64 0, .int .i64 0, .int .i64 0, .int .i64 0, .int .i64 0], .agg #[.int .i64 0, .int .i64 0, .int .i64 0, .int .i64 0, .int .i64 0, .int .i64 0], .int .i64 0, .int .i64 0, .int .i64 0], []⟩ 8 (by kernel_rfl) (by kernel_rfl) (by kernel_rfl) (by kernel_rfl)) ?_
  intro W base args ds gs before hval0 hW hcnd _
  have hval : ∀ (j : Nat) t v, Try.f7.params[j]? = some t → args[j]? = some v → Value.okWide Try.prog W .any base t v := hval0
  have hW' := hW
  obtain ⟨p, q, hA0, hV, rfl, hfz, hnd⟩ := hW
  have hA : DataW.TrodAll enc Try.prog W 0 (fun _ => true) true Try.f7.params.toList args.toList ds p := hA0
  rw [Try.params7] at hA hval
  obtain ⟨v0, vs0, d0, ds0, p0, q0, hargs, rfl, rfl, h0, r0⟩ := trodAll_cons hA
  obtain ⟨v1, vs1, d1, ds1, p1, q1, rfl, rfl, rfl, h1, r1⟩ := trodAll_cons r0
  obtain ⟨v2, vs2, d2, ds2, p2, q2, rfl, rfl, rfl, h2, r2⟩ := trodAll_cons r1
  obtain ⟨v3, vs3, d3, ds3, p3, q3, rfl, rfl, rfl, h3, r3⟩ := trodAll_cons r2
  obtain ⟨v4, vs4, d4, ds4, p4, q4, rfl, rfl, rfl, h4, r4⟩ := trodAll_cons r3
  obtain ⟨v5, vs5, d5, ds5, p5, q5, rfl, rfl, rfl, h5, r5⟩ := trodAll_cons r4
  obtain ⟨rfl, rfl, rfl⟩ := trodAll_nil r5
  obtain rfl : args = #[v0, v1, v2, v3, v4, v5] := by cases args; simp_all
  obtain ⟨rfl, rfl⟩ := trodVars_none hV
  obtain ⟨A0, n0, c0, ns0, rfl, hl0, nl0, w0⟩ := open_rowsS 4 (K := 4) Try.underlying22 (by kernel_rfl) (by kernel_rfl) (by omega) (hval 0 22 v0 rfl rfl) h0
  obtain ⟨n1, e1, l1, w1⟩ := open_flat 4 Try.underlying29 (by kernel_rfl) (hval 1 29 v1 rfl rfl) h1
  obtain ⟨a1_0, a1_1, a1_2, a1_3, a1_4, a1_5, rfl⟩ : ∃ a1_0 a1_1 a1_2 a1_3 a1_4 a1_5 : Int, n1 = [a1_0, a1_1, a1_2, a1_3, a1_4, a1_5] := by
    rw [show Try.prog.cellsOf 29 = 6 by kernel_rfl] at l1
    match n1, l1 with
    | [a1_0, a1_1, a1_2, a1_3, a1_4, a1_5], _ => exact ⟨_, _, _, _, _, _, rfl⟩
  obtain rfl : v1 = .agg #[.int .i64 a1_0, .int .i64 a1_1, .int .i64 a1_2, .int .i64 a1_3, .int .i64 a1_4, .int .i64 a1_5] := e1
  obtain ⟨n2, e2, l2, w2⟩ := open_flat 4 Try.underlying29 (by kernel_rfl) (hval 2 29 v2 rfl rfl) h2
  obtain ⟨a2_0, a2_1, a2_2, a2_3, a2_4, a2_5, rfl⟩ : ∃ a2_0 a2_1 a2_2 a2_3 a2_4 a2_5 : Int, n2 = [a2_0, a2_1, a2_2, a2_3, a2_4, a2_5] := by
    rw [show Try.prog.cellsOf 29 = 6 by kernel_rfl] at l2
    match n2, l2 with
    | [a2_0, a2_1, a2_2, a2_3, a2_4, a2_5], _ => exact ⟨_, _, _, _, _, _, rfl⟩
  obtain rfl : v2 = .agg #[.int .i64 a2_0, .int .i64 a2_1, .int .i64 a2_2, .int .i64 a2_3, .int .i64 a2_4, .int .i64 a2_5] := e2
  obtain ⟨a3, rfl, rfl, rfl, w3⟩ := open_int Try.underlying3 (hval 3 3 v3 rfl rfl) h3
  obtain ⟨a4, rfl, rfl, rfl, w4⟩ := open_int Try.underlying3 (hval 4 3 v4 rfl rfl) h4
  obtain ⟨a5, rfl, rfl, rfl, w5⟩ := open_int Try.underlying3 (hval 5 3 v5 rfl rfl) h5
  clear hA0 hval0
  refine (ledgerOrder_walk A0 n0 c0 ns0 a1_0 a1_1 a1_2 a1_3 a1_4 a1_5 a2_0 a2_1 a2_2 a2_3 a2_4 a2_5 a3 a4 a5 nl0 w0 w1 w2 w3 w4 w5 W hl0).mono fun e W' ⟨he, bel⟩ => ?_
  subst he
  exact ⟨_, rfl, law_post ledgerOrder_laidOut (by kernel_rfl) rfl Try.underlying4 rfl rfl hW' bel⟩

theorem ledgerOrder_proved : Rows.LedgerOrderSaid :=
  OpenClaim.holds_of_wide 7 Try.f7 rfl rfl rfl rfl rfl rfl rfl ⟨rfl, rfl, rfl, rfl, rfl⟩ rfl rfl rfl rfl rfl (by kernel_rfl) Try.func7 (by kernel_rfl)
    (of_decide_eq_true (by kernel_rfl)) (by unfold Func.isWrapper; first | (rw [if_pos (by decide +kernel)]; kernel_rfl) | (rw [if_neg (by decide +kernel)]; exact ⟨rfl, rfl⟩))
    (fun os started H enc _ => ledgerOrder_lifted os started H enc)
#print axioms ledgerOrder_proved
end Go.Proofs.Ytejcjpfljcfibaa
