/- What was added and deleted leaves all as it was: ContactsTwice returns true. No condition. -/
import Derived.Test.YtojjnbpgdegjiaaRows
import Derived.Test.YtojjnbpgdegjiaaContactsMath
import Derived.Test.YtojjnbpgdegjiaaOpenS
namespace Go.Proofs.Ytojjnbpgdegjiaa
open Go.ChangeShapes Go.WideShapes Go.ChangeAt Go.RowKit Go.Sort
set_option linter.unusedSimpArgs false
set_option linter.unusedVariables false
set_option maxHeartbeats 4000000 in
set_option maxRecDepth 100000 in
theorem twice_walk (A : Option Addr) (n c : Nat) (d : List Co) (r : Co) (hd : d.length = n) (w : World) (hl : Sl w w.heap.size 6 A n c (flatCo d)) :
    Calls Try.prog 7 #[.slice A n c, .agg #[.int .i64 r.id, .int .i64 r.fr, .int .i64 r.tn, .int .i64 r.st, .int .i64 r.en, .int .i64 r.rt]] w fun e w' => e = .returned (.bool true) ∧ Below w.heap.size w w' := by
  have hB : Below w.heap.size w (w.alloc (.cells #[.int .i64 r.id, .int .i64 r.fr, .int .i64 r.tn, .int .i64 r.st, .int .i64 r.en, .int .i64 r.rt] 28)) := by (repeat (first | exact Below.refl _ _ | refine Below.alloc ?_ (by first | omega | (simp; done) | (simp; omega)) _ | refine Below.setCell ?_ (by first | omega | (simp; done) | (simp; omega)) _ | refine Below.drew ?_))
  have hXr := Blok.new w 28 #[.int .i64 r.id, .int .i64 r.fr, .int .i64 r.tn, .int .i64 r.st, .int .i64 r.en, .int .i64 r.rt]
  have hl := hl.below hB
  have hs := hB.size
  by_cases hn : 50 < n
  · go_enter Try.func7, Try.ntmps7
    go_wp2_with fail
    generalize (w.alloc (.cells #[.int .i64 r.id, .int .i64 r.fr, .int .i64 r.tn, .int .i64 r.st, .int .i64 r.en, .int .i64 r.rt] 28)) = w0 at *
    refine (small06 w0).mono ?_
    rintro e w1 ⟨rfl, hb1⟩
    replace hl := hl.below (hb1.mono hs)
    replace hXr := hXr.below hb1 hXr.lt
    replace hB := hB.trans (hb1.mono hs)
    replace hs := hB.size
    clear hb1
    go_wp2
    go_ret
    exact ⟨rfl, hB⟩
  · have g1 : decide ((n : Int) > 50) = false := by simp; omega
    go_enter Try.func7, Try.ntmps7
    go_wp2_with fail
    generalize (w.alloc (.cells #[.int .i64 r.id, .int .i64 r.fr, .int .i64 r.tn, .int .i64 r.st, .int .i64 r.en, .int .i64 r.rt] 28)) = w0 at *
    refine (small06 w0).mono ?_
    rintro e w1 ⟨rfl, hb1⟩
    replace hl := hl.below (hb1.mono hs)
    replace hXr := hXr.below hb1 hXr.lt
    replace hB := hB.trans (hb1.mono hs)
    replace hs := hB.size
    clear hb1
    go_wp2_with fail
    refine (right_any A n c d w1 hd (by omega) (hl.more hs)).mono ?_
    rintro e w2 ⟨rfl, hb1⟩
    replace hl := hl.below (hb1.mono hs)
    replace hXr := hXr.below hb1 hXr.lt
    replace hB := hB.trans (hb1.mono hs)
    replace hs := hB.size
    clear hb1
    cases hrt : rightC d
    · go_wp2_with fail
      go_ret
      exact ⟨rfl, hB⟩
    · skip
      have r0 : w2.cell? ⟨w.heap.size, 0, none⟩ = some (.int .i64 r.id) := hXr.cell 0
      have r1 : w2.cell? ⟨w.heap.size, 1, none⟩ = some (.int .i64 r.fr) := hXr.cell 1
      have r2 : w2.cell? ⟨w.heap.size, 2, none⟩ = some (.int .i64 r.tn) := hXr.cell 2
      have r3 : w2.cell? ⟨w.heap.size, 3, none⟩ = some (.int .i64 r.st) := hXr.cell 3
      have r4 : w2.cell? ⟨w.heap.size, 4, none⟩ = some (.int .i64 r.en) := hXr.cell 4
      have r5 : w2.cell? ⟨w.heap.size, 5, none⟩ = some (.int .i64 r.rt) := hXr.cell 5
      have lt_r := hXr.lt
      go_wp2_with fail
      clear r0 r1 r2 r3 r4 r5 lt_r
      have hln : d.length ≤ 50 := by omega
      by_cases hm : mayC d r = 0
      · skip
        obtain ⟨hok, _, hfr, _⟩ := may_ok hm
        refine (add_yes A n c d r w2 hd (by omega) (hl.more hs) hm).mono ?_
        rintro e w3 ⟨vm, i, rfl, hi, hi1, hi2, hvm, hb1⟩
        replace hvm : w3.ownsRow w2.heap.size 28 6 vm (n + 1) (flatCo (insC d i r)) := hvm
        replace hl := hl.below (hb1.mono hs)
        replace hXr := hXr.below hb1 hXr.lt
        replace hB := hB.trans (hb1.mono hs)
        replace hs := hB.size
        clear hb1
        obtain ⟨Am, cm, rfl⟩ := slice_of_own hvm
        have hi' : i ≤ d.length := by omega
        have hil : (insC d i r).length = n + 1 := by rw [insC_length r hi', hd]
        have h4 := may_twice hm hi' (by omega)
        have r0 : w3.cell? ⟨w.heap.size, 0, none⟩ = some (.int .i64 r.id) := hXr.cell 0
        have r1 : w3.cell? ⟨w.heap.size, 1, none⟩ = some (.int .i64 r.fr) := hXr.cell 1
        have r2 : w3.cell? ⟨w.heap.size, 2, none⟩ = some (.int .i64 r.tn) := hXr.cell 2
        have r3 : w3.cell? ⟨w.heap.size, 3, none⟩ = some (.int .i64 r.st) := hXr.cell 3
        have r4 : w3.cell? ⟨w.heap.size, 4, none⟩ = some (.int .i64 r.en) := hXr.cell 4
        have r5 : w3.cell? ⟨w.heap.size, 5, none⟩ = some (.int .i64 r.rt) := hXr.cell 5
        have lt_r := hXr.lt
        go_wp2_with fail
        clear r0 r1 r2 r3 r4 r5 lt_r
        refine (add_no Am (n + 1) cm (insC d i r) r w3 4 hil (by omega) (Sl.of_own hvm) h4 (by omega)).mono ?_
        rintro e w4 ⟨v4, rfl, hv4, hb1⟩
        replace hvm := own_below hvm hb1
        replace hl := hl.below (hb1.mono hs)
        replace hXr := hXr.below hb1 hXr.lt
        replace hB := hB.trans (hb1.mono hs)
        replace hs := hB.size
        clear hb1
        obtain ⟨A4, c4, rfl⟩ := slice_of_own hv4
        clear hv4
        have r0 : w4.cell? ⟨w.heap.size, 0, none⟩ = some (.int .i64 r.id) := hXr.cell 0
        have r1 : w4.cell? ⟨w.heap.size, 1, none⟩ = some (.int .i64 r.fr) := hXr.cell 1
        have r2 : w4.cell? ⟨w.heap.size, 2, none⟩ = some (.int .i64 r.tn) := hXr.cell 2
        have r3 : w4.cell? ⟨w.heap.size, 3, none⟩ = some (.int .i64 r.st) := hXr.cell 3
        have r4 : w4.cell? ⟨w.heap.size, 4, none⟩ = some (.int .i64 r.en) := hXr.cell 4
        have r5 : w4.cell? ⟨w.heap.size, 5, none⟩ = some (.int .i64 r.rt) := hXr.cell 5
        have lt_r := hXr.lt
        go_wp2_with fail
        clear r0 r1 r2 r3 r4 r5 lt_r
        have hfil : (insC d i r).filter (fun x => !(x.id == r.id)) = d := insC_filter r _ (fun y hy => by rw [hfr y hy]; rfl) (by simp)
        have hdc : delCode ((insC d i r).filter (fun x => !(x.id == r.id))).length (n + 1) = 0 := by rw [hfil, delCode, if_neg (by omega)]
        refine (del_any Am (n + 1) cm (insC d i r) r.id w4 hil (by omega) (Sl.of_own hvm)).mono ?_
        rw [hdc]
        rw [hfil, hd]
        rintro e w5 ⟨vn, rfl, hvn, hb1⟩
        replace hvm := own_below hvm hb1
        replace hl := hl.below (hb1.mono hs)
        replace hXr := hXr.below hb1 hXr.lt
        replace hB := hB.trans (hb1.mono hs)
        replace hs := hB.size
        clear hb1 hfil hdc
        obtain ⟨An, cn, rfl⟩ := slice_of_own hvn
        have r0 : w5.cell? ⟨w.heap.size, 0, none⟩ = some (.int .i64 r.id) := hXr.cell 0
        have r1 : w5.cell? ⟨w.heap.size, 1, none⟩ = some (.int .i64 r.fr) := hXr.cell 1
        have r2 : w5.cell? ⟨w.heap.size, 2, none⟩ = some (.int .i64 r.tn) := hXr.cell 2
        have r3 : w5.cell? ⟨w.heap.size, 3, none⟩ = some (.int .i64 r.st) := hXr.cell 3
        have r4 : w5.cell? ⟨w.heap.size, 4, none⟩ = some (.int .i64 r.en) := hXr.cell 4
        have r5 : w5.cell? ⟨w.heap.size, 5, none⟩ = some (.int .i64 r.rt) := hXr.cell 5
        have lt_r := hXr.lt
        go_wp2_with fail
        clear r0 r1 r2 r3 r4 r5 lt_r
        refine (add_yes An n cn d r w5 hd (by omega) (Sl.of_own hvn) hm).mono ?_
        rintro e w6 ⟨vo, j, rfl, hj, hj1, hj2, hvo, hb1⟩
        have hij : j = i := by
          have e1 := place_le (i := i) (j := j) hrt hi' (by omega) hi1 (by rw [hd]; exact hj2)
          have e2 := place_le (i := j) (j := i) hrt (by omega) hi' hj1 (by rw [hd]; exact hi2)
          omega
        subst hij
        replace hvo : w6.ownsRow w5.heap.size 28 6 vo (n + 1) (flatCo (insC d j r)) := hvo
        replace hvm := own_below hvm hb1
        replace hvn := own_below hvn hb1
        replace hl := hl.below (hb1.mono hs)
        replace hXr := hXr.below hb1 hXr.lt
        replace hB := hB.trans (hb1.mono hs)
        replace hs := hB.size
        clear hb1 hj hj1 hj2 hi hi1 hi2
        obtain ⟨Ao, co, rfl⟩ := slice_of_own hvo
        go_wp2_with fail
        refine (same_any An A n cn n c d d w6 hd hd (by omega) (by omega) (Sl.of_own hvn) (hl.more hs)).mono ?_
        rw [decide_eq_true (rfl : d = d)]
        rintro e w7 ⟨rfl, hb1⟩
        replace hvm := own_below hvm hb1
        replace hvn := own_below hvn hb1
        replace hvo := own_below hvo hb1
        replace hl := hl.below (hb1.mono hs)
        replace hXr := hXr.below hb1 hXr.lt
        replace hB := hB.trans (hb1.mono hs)
        replace hs := hB.size
        clear hb1
        go_wp2_with fail
        refine (same_any Ao Am (n + 1) co (n + 1) cm (insC d j r) (insC d j r) w7 hil hil (by omega) (by omega) (Sl.of_own hvo) (Sl.of_own hvm)).mono ?_
        rw [decide_eq_true (rfl : insC d j r = insC d j r)]
        rintro e w8 ⟨rfl, hb1⟩
        replace hB := hB.trans (hb1.mono hs)
        clear hb1 hXr hvo hvn hvm hl
        go_wp2
        go_ret
        exact ⟨rfl, hB⟩
      · obtain ⟨q, hq⟩ : ∃ q, mayC d r = q := ⟨_, rfl⟩
        rw [hq] at hm
        refine (add_no A n c d r w2 q hd (by omega) (hl.more hs) hq hm).mono ?_
        rintro e w3 ⟨v3, rfl, hv3, hb1⟩
        replace hl := hl.below (hb1.mono hs)
        replace hXr := hXr.below hb1 hXr.lt
        replace hB := hB.trans (hb1.mono hs)
        replace hs := hB.size
        clear hb1 hq
        obtain ⟨A3, c3, rfl⟩ := slice_of_own hv3
        have hqb : (q != 0) = true := by simpa using hm
        go_wp2_with fail
        refine (same_any A3 A n c3 n c d d w3 hd hd (by omega) (by omega) (Sl.of_own hv3) (hl.more hs)).mono ?_
        rw [decide_eq_true (rfl : d = d)]
        rintro e w4 ⟨rfl, hb1⟩
        replace hB := hB.trans (hb1.mono hs)
        clear hb1 hXr hv3 hl
        go_wp2
        go_ret
        exact ⟨rfl, hB⟩
theorem contactsTwice_walk (A : Option Addr) (n c : Nat) (ns : List Int) (a0 a1 a2 a3 a4 a5 : Int) (hnl : ns.length = n * 6) (_ : ∀ m ∈ ns, (Lit.int .i64 m).wf = true) (_ : ∀ m ∈ [a0, a1, a2, a3, a4, a5], (Lit.int .i64 m).wf = true) (w : World) (hl : Sl w w.heap.size 6 A n c (ns.map (Value.int .i64))) :
    Calls Try.prog 7 #[.slice A n c, .agg #[.int .i64 a0, .int .i64 a1, .int .i64 a2, .int .i64 a3, .int .i64 a4, .int .i64 a5]] w fun e w' => e = .returned (.bool true) ∧ Below w.heap.size w w' := by
  obtain ⟨d, hd, hlf⟩ := rowsCo_of n ns hnl
  rw [hlf] at hl
  exact twice_walk A n c d ⟨a0, a1, a2, a3, a4, a5⟩ hd w hl
theorem contactsTwice_own : ownKnob Try.prog.godebug = none := by kernel_rfl
theorem contactsTwice_laidOut : laidOutB Try.prog = true := by kernel_rfl

set_option maxHeartbeats 1000000 in
set_option maxRecDepth 100000 in
theorem contactsTwice_lifted (os : Os) (started : os.Started) (H : Type) (enc : TypeId × Value → H) :
    ReturnsInHanded {} Try.checked os 7 .any (Rows.contactsTwiceSpec.pre6 enc Try.prog Try.f7 Rows.contactsTwiceRow.domain false) (Rows.contactsTwiceSpec.post enc Try.prog Try.f7 false true false false) := by
  refine returnsInHanded_of_change (C := Try.checked) contactsTwice_own started (by kernel_rfl) Try.func7
    (ChangeSpec.witness6 (enc := enc) (C := Try.checked) false ⟨#[], #[.slice none 0 0, .agg #[.int .i64 0, .int .i64 0, .int .i64 0, .int .i64 0, .int .i64 0, .int .i64 0]], []⟩ 8 (by kernel_rfl) (by kernel_rfl) (by kernel_rfl) (by kernel_rfl)) ?_
  intro W base args ds gs before hval0 hW hcnd _
  have hval : ∀ (j : Nat) t v, Try.f7.params[j]? = some t → args[j]? = some v → Value.okWide Try.prog W .any base t v := hval0
  have hW' := hW
  obtain ⟨p, q, hA0, hV, rfl, hfz, hnd⟩ := hW
  have hA : DataW.TrodAll enc Try.prog W 0 (fun _ => true) true Try.f7.params.toList args.toList ds p := hA0
  rw [Try.params7] at hA hval
  obtain ⟨v0, vs0, d0, ds0, p0, q0, hargs, rfl, rfl, h0, r0⟩ := trodAll_cons hA
  obtain ⟨v1, vs1, d1, ds1, p1, q1, rfl, rfl, rfl, h1, r1⟩ := trodAll_cons r0
  obtain ⟨rfl, rfl, rfl⟩ := trodAll_nil r1
  obtain rfl : args = #[v0, v1] := by cases args; simp_all
  obtain ⟨rfl, rfl⟩ := trodVars_none hV
  obtain ⟨A0, n0, c0, ns0, rfl, hl0, nl0, w0⟩ := open_rowsS 4 (K := 6) Try.underlying22 (by kernel_rfl) (by kernel_rfl) (by omega) (hval 0 22 v0 rfl rfl) h0
  obtain ⟨n1, e1, l1, w1⟩ := open_flat 4 Try.underlying28 (by kernel_rfl) (hval 1 28 v1 rfl rfl) h1
  obtain ⟨a1_0, a1_1, a1_2, a1_3, a1_4, a1_5, rfl⟩ : ∃ a1_0 a1_1 a1_2 a1_3 a1_4 a1_5 : Int, n1 = [a1_0, a1_1, a1_2, a1_3, a1_4, a1_5] := by
    rw [show Try.prog.cellsOf 28 = 6 by kernel_rfl] at l1
    match n1, l1 with
    | [a1_0, a1_1, a1_2, a1_3, a1_4, a1_5], _ => exact ⟨_, _, _, _, _, _, rfl⟩
  obtain rfl : v1 = .agg #[.int .i64 a1_0, .int .i64 a1_1, .int .i64 a1_2, .int .i64 a1_3, .int .i64 a1_4, .int .i64 a1_5] := e1
  clear hA0 hval0
  refine (contactsTwice_walk A0 n0 c0 ns0 a1_0 a1_1 a1_2 a1_3 a1_4 a1_5 nl0 w0 w1 W hl0).mono fun e W' ⟨he, bel⟩ => ?_
  subst he
  exact ⟨_, rfl, law_post contactsTwice_laidOut (by kernel_rfl) rfl Try.underlying4 rfl rfl hW' bel⟩

theorem contactsTwice_proved : Rows.ContactsTwiceSaid :=
  OpenClaim.holds_of_wide 7 Try.f7 rfl rfl rfl rfl rfl rfl rfl ⟨rfl, rfl, rfl, rfl, rfl⟩ rfl rfl rfl rfl rfl (by kernel_rfl) Try.func7 (by kernel_rfl)
    (of_decide_eq_true (by kernel_rfl)) (by unfold Func.isWrapper; first | (rw [if_pos (by decide +kernel)]; kernel_rfl) | (rw [if_neg (by decide +kernel)]; exact ⟨rfl, rfl⟩))
    (fun os started H enc _ => contactsTwice_lifted os started H enc)
#print axioms contactsTwice_proved
end Go.Proofs.Ytojjnbpgdegjiaa
