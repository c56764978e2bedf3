/- What is right stays right, that an error changes nothing, and who is found: ContactsRight returns true. No condition. -/
import Derived.Test.YtojjnbpgdegjiaaRows
import Derived.Test.YtojjnbpgdegjiaaContactsAct
import Derived.Test.YtojjnbpgdegjiaaContactsExpires
import Derived.Test.YtojjnbpgdegjiaaOpenS
import Derived.Test.YtojjnbpgdegjiaaTyAc
import Derived.Deep.CutBlock
namespace Go.Proofs.Ytojjnbpgdegjiaa
open Go.ChangeShapes Go.WideShapes Go.ChangeAt Go.RowKit Go.Sort
set_option linter.unusedSimpArgs false
set_option linter.unusedVariables false
/-- What a call leaves, whichever it was. -/
def MidC (d : List Co) (r : Co) (y0 : Int) (w3 : World) (s8 s9 s10 : Value) (wx : World) : Prop :=
  ∃ (A1 : Option Addr) (m1 c1 : Nat) (l : List Co) (q id : Int), s8 = .int .i64 id ∧ s9 = .slice A1 m1 c1 ∧ s10 = .int .i64 q ∧ Hid (l.length = m1) ∧ Hid (ActC d l q y0 id r) ∧ (y0 = 1 ∨ y0 = 2 ∨ y0 = 3) ∧ Hid (Sl wx wx.heap.size 6 A1 m1 c1 (flatCo l)) ∧ Below w3.heap.size w3 wx
set_option maxHeartbeats 16000000 in
set_option maxRecDepth 100000 in
theorem crights_walk (A : Option Addr) (n c : Nat) (d : List Co) (A' : Option Addr) (n' c' : Nat) (t : List Ac) (hd : d.length = n) (ht : t.length = n') (w : World) (hl : Sl w w.heap.size 6 A n c (flatCo d)) (hl' : Sl w w.heap.size 8 A' n' c' (flatAc t)) :
    Calls Try.prog 4 #[.slice A n c, .slice A' n' c'] w fun e w' => e = .returned (.bool true) ∧ Below w.heap.size w w' := by
  by_cases hn : 50 < n ∨ 50 < n'
  · have hn' : 50 < n ∨ (n ≤ 50 ∧ 50 < n') := by omega
    clear hn
    rcases hn' with hn | ⟨hn, hn2⟩
    all_goals
      go_enter Try.func4, Try.ntmps4
      go_wp2_with fail
      refine (small06 _).mono ?_
      rintro e w1 ⟨rfl, hB⟩
      go_wp2
      go_ret
      exact ⟨rfl, hB⟩
  · have hn1 : n ≤ 50 := by omega
    have hn2 : n' ≤ 50 := by omega
    clear hn
    have g1 : decide ((n : Int) > 50) = false := by simp; omega
    have g2 : decide ((n' : Int) > 50) = false := by simp; omega
    go_enter Try.func4, Try.ntmps4
    go_wp2_with fail
    refine (small06 _).mono ?_
    rintro e w1 ⟨rfl, hB1⟩
    have hl1 := hl.below hB1
    have hl1' := hl'.below hB1
    have hs1 := hB1.size
    go_wp2_with fail
    refine (right_any A n c d w1 hd (by omega) (hl1.more hs1)).mono ?_
    rintro e w2 ⟨rfl, hb⟩
    have hl2 := hl1.below (hb.mono hs1)
    have hl2' := hl1'.below (hb.mono hs1)
    have hB2 := hB1.trans (hb.mono hs1)
    have hs2 := hB2.size
    clear hb hl1 hl1' hB1 hs1
    cases hrt : rightC d
    · go_wp2_with fail
      go_ret
      exact ⟨rfl, hB2⟩
    · have HT := Lib.hid ht
      have HR := Lib.hid hrt
      have HL := Lib.hid hl2
      have HL' := Lib.hid hl2'
      have hd0 : d.length = n := hd
      clear hrt ht hl hl' hl2 hl2' g1 g2
      go_wp2
      go_loopw [0, 6] (fun lv iv wr => ∃ (A : Option Addr) (m c : Nat) (d : List Co) (i : Nat), lv = .slice A m c ∧ iv = .int .i64 i ∧ i ≤ n' ∧ Hid (d.length = m) ∧ m ≤ 50 + i ∧ Hid (rightC d = true) ∧ Hid (Sl wr wr.heap.size 6 A m c (flatCo d)) ∧ Below w.heap.size w wr ∧ Hid (Sl wr w.heap.size 8 A' n' c' (flatAc t))) (fun _ iv _ => n' - (intOf iv).toNat)
      case atStart => exact ⟨A, n, c, d, 0, rfl, rfl, by omega, hd0, by omega, HR.out, HL.out.more hs2, hB2, HL'.out⟩
      case round =>
        clear hd hd0 HR HL HL' hB2 hs2 hn1
        obtain ⟨A, m, c, d, i, rfl, rfl, hi, HD, hm, HR, HL, hB, HL'⟩ := hrel
        have hs := hB.size
        by_cases hin : i < n'
        · obtain ⟨ad, rfl, hab, c0, c1, c2, c3, c4, c5, c6, c7⟩ := HL'.out.lst.atAc HT.out hin
          obtain ⟨y, hy⟩ : ∃ y, gAc t i = y := ⟨_, rfl⟩
          rw [hy] at c0 c1 c2 c3 c4 c5 c6 c7
          obtain ⟨y0, y1, y2, y3, y4, y5, y6, y7⟩ := y
          simp only at c0 c1 c2 c3 c4 c5 c6 c7
          clear hy
          have hX0 := Blok.new wr 30 #[.int .i64 y0, .int .i64 y1, .int .i64 y2, .int .i64 y3, .int .i64 y4, .int .i64 y5, .int .i64 y6, .int .i64 y7]
          have hb : Below wr.heap.size wr (wr.alloc (.cells #[.int .i64 y0, .int .i64 y1, .int .i64 y2, .int .i64 y3, .int .i64 y4, .int .i64 y5, .int .i64 y6, .int .i64 y7] 30)) := by (repeat (first | exact Below.refl _ _ | refine Below.alloc ?_ (by first | omega | (simp; done) | (simp; omega)) _ | refine Below.setCell ?_ (by first | omega | (simp; done) | (simp; omega)) _ | refine Below.drew ?_))
          obtain ⟨r, hr⟩ : ∃ r : Co, r = ⟨y1, y2, y3, y4, y5, y6⟩ := ⟨_, rfl⟩
          have HRR := Lib.hid hr
          clear hr
          go_upto_block 2 with fail
          generalize wr.alloc (.cells #[.int .i64 y0, .int .i64 y1, .int .i64 y2, .int .i64 y3, .int .i64 y4, .int .i64 y5, .int .i64 y6, .int .i64 y7] 30) = w3 at *
          have hHL3 := HL.out.up hb
          have hHL3' := HL'.out.below (hb.mono hs)
          have hB3 := hB.trans (hb.mono hs)
          have hs3 := hB3.size
          have hbig : wr.heap.size < w3.heap.size := hX0.lt
          clear hb c0 c1 c2 c3 c4 c5 c6 c7 HL HL' hB hs
          generalize wr.heap.size = bx at *
          go_cut [0, 8, 9, 10] (fun s0 s8 s9 s10 wx => s0 = .slice A m c ∧ MidC d r y0 w3 s8 s9 s10 wx)
          case first =>
            as_aux_lemma =>
              by_cases hwh : y0 = 1 ∨ y0 = 2 ∨ y0 = 3
              · rcases hwh with rfl | rfl | rfl
                · skip
                  have k1 : w3.cell? ⟨bx, 1, none⟩ = some (.int .i64 y1) := hX0.cell 1
                  have k2 : w3.cell? ⟨bx, 2, none⟩ = some (.int .i64 y2) := hX0.cell 2
                  have k3 : w3.cell? ⟨bx, 3, none⟩ = some (.int .i64 y3) := hX0.cell 3
                  have k4 : w3.cell? ⟨bx, 4, none⟩ = some (.int .i64 y4) := hX0.cell 4
                  have k5 : w3.cell? ⟨bx, 5, none⟩ = some (.int .i64 y5) := hX0.cell 5
                  have k6 : w3.cell? ⟨bx, 6, none⟩ = some (.int .i64 y6) := hX0.cell 6
                  go_wp2_with fail
                  clear k1 k2 k3 k4 k5 k6
                  refine (act_add A m c d ⟨y1, y2, y3, y4, y5, y6⟩ w3 HD.out (by omega) hHL3 HR.out).mono ?_
                  rintro e w4 ⟨v, q, l, rfl, hact, hv, hb⟩
                  obtain ⟨A1, c1, rfl⟩ := slice_of_own hv
                  obtain ⟨m1, hm1⟩ : ∃ m1, l.length = m1 := ⟨_, rfl⟩
                  rw [hm1] at hv ⊢
                  rw [← HRR.out] at hact
                  have HM1 := Lib.hid hm1
                  have HACT := Lib.hid hact
                  have HV := Lib.hid (Sl.of_own hv)
                  clear hm1 hact hv
                  go_wp2_with fail
                  go_meet
                  exact ⟨rfl, A1, m1, c1, l, q, y1, rfl, rfl, rfl, HM1, (by have h := HACT.out; rw [HRR.out] at h ⊢; exact h), .inl rfl, HV, hb⟩
                · skip
                  have k1 : w3.cell? ⟨bx, 1, none⟩ = some (.int .i64 y1) := hX0.cell 1
                  have k2 : w3.cell? ⟨bx, 2, none⟩ = some (.int .i64 y2) := hX0.cell 2
                  have k3 : w3.cell? ⟨bx, 3, none⟩ = some (.int .i64 y3) := hX0.cell 3
                  have k4 : w3.cell? ⟨bx, 4, none⟩ = some (.int .i64 y4) := hX0.cell 4
                  have k5 : w3.cell? ⟨bx, 5, none⟩ = some (.int .i64 y5) := hX0.cell 5
                  have k6 : w3.cell? ⟨bx, 6, none⟩ = some (.int .i64 y6) := hX0.cell 6
                  go_wp2_with fail
                  clear k1 k2 k3 k4 k5 k6
                  refine (act_del A m c d y7 ⟨y1, y2, y3, y4, y5, y6⟩ w3 HD.out (by omega) hHL3 HR.out).mono ?_
                  rintro e w4 ⟨v, q, l, rfl, hact, hv, hb⟩
                  obtain ⟨A1, c1, rfl⟩ := slice_of_own hv
                  obtain ⟨m1, hm1⟩ : ∃ m1, l.length = m1 := ⟨_, rfl⟩
                  rw [hm1] at hv ⊢
                  rw [← HRR.out] at hact
                  have HM1 := Lib.hid hm1
                  have HACT := Lib.hid hact
                  have HV := Lib.hid (Sl.of_own hv)
                  clear hm1 hact hv
                  go_wp2_with fail
                  go_meet
                  exact ⟨rfl, A1, m1, c1, l, q, y7, rfl, rfl, rfl, HM1, HACT, .inr (.inl rfl), HV, hb⟩
                · skip
                  have k1 : w3.cell? ⟨bx, 1, none⟩ = some (.int .i64 y1) := hX0.cell 1
                  have k2 : w3.cell? ⟨bx, 2, none⟩ = some (.int .i64 y2) := hX0.cell 2
                  have k3 : w3.cell? ⟨bx, 3, none⟩ = some (.int .i64 y3) := hX0.cell 3
                  have k4 : w3.cell? ⟨bx, 4, none⟩ = some (.int .i64 y4) := hX0.cell 4
                  have k5 : w3.cell? ⟨bx, 5, none⟩ = some (.int .i64 y5) := hX0.cell 5
                  have k6 : w3.cell? ⟨bx, 6, none⟩ = some (.int .i64 y6) := hX0.cell 6
                  go_wp2_with fail
                  clear k1 k2 k3 k4 k5 k6
                  refine (act_change A m c d y7 ⟨y1, y2, y3, y4, y5, y6⟩ w3 HD.out (by omega) hHL3 HR.out).mono ?_
                  rintro e w4 ⟨v, q, l, rfl, hact, hv, hb⟩
                  obtain ⟨A1, c1, rfl⟩ := slice_of_own hv
                  obtain ⟨m1, hm1⟩ : ∃ m1, l.length = m1 := ⟨_, rfl⟩
                  rw [hm1] at hv ⊢
                  rw [← HRR.out] at hact
                  have HM1 := Lib.hid hm1
                  have HACT := Lib.hid hact
                  have HV := Lib.hid (Sl.of_own hv)
                  clear hm1 hact hv
                  go_wp2_with fail
                  go_meet
                  exact ⟨rfl, A1, m1, c1, l, q, y7, rfl, rfl, rfl, HM1, HACT, .inr (.inr rfl), HV, hb⟩
              · have h1 : (y0 == 1) = false := by rw [beq_eq_false_iff_ne]; omega
                have h2 : (y0 == 2) = false := by rw [beq_eq_false_iff_ne]; omega
                have h3 : (y0 == 3) = false := by rw [beq_eq_false_iff_ne]; omega
                clear hwh
                obtain ⟨le, hle⟩ : ∃ le, leftC d y7 = le := ⟨_, rfl⟩
                obtain ⟨ge, hge⟩ : ∃ ge, goneL d y7 = ge := ⟨_, rfl⟩
                have e1 := expire_any A m c d y7 w3 HD.out (by omega) hHL3
                unfold ExpPost at e1
                rw [hle, hge] at e1
                have hrl : rightC le = true := by rw [← hle]; exact right_filter HR.out _
                have hsum : le.length + ge.length = m := by rw [← hle, ← hge, ← HD.out]; exact left_gone d y7
                have HRL := Lib.hid hrl
                have HSUM := Lib.hid hsum
                have HE1 := Lib.hid e1
                clear hrl hsum e1 hle hge HR
                go_wp2_with fail
                refine HE1.out.mono ?_
                rintro e w4 ⟨v, u, rfl, hv, hu, hb⟩
                have hHL4' := hHL3'.below (hb.mono hs3)
                have hB4 := hB3.trans (hb.mono hs3)
                have hs4 := hB4.size
                clear hb hHL3 hHL3' hB3 hs3 hX0 hbig HE1
                obtain ⟨A1, c1, rfl⟩ := slice_of_own hv
                obtain ⟨A2, c2, rfl⟩ := slice_of_own hu
                obtain ⟨m1, hm1⟩ : ∃ m1, le.length = m1 := ⟨_, rfl⟩
                obtain ⟨m2, hm2⟩ : ∃ m2, ge.length = m2 := ⟨_, rfl⟩
                rw [hm1] at hv ⊢
                rw [hm2]
                have hsum := HSUM.out
                rw [hm1, hm2] at hsum
                have HM1 := Lib.hid hm1
                have HV4 := Lib.hid (Sl.of_own hv)
                have HL4 := Lib.hid hHL4'
                have hm50 : m1 ≤ 50 + i := by omega
                have t0 : IntKind.i64.wrap ((m1 : Int) + (m2 : Int)) = (m1 : Int) + (m2 : Int) := IntWalk.i64_in _ (by omega)
                have t1 : (m1 : Int) + (m2 : Int) = (m : Int) := by omega
                have t2 : (m1 : Int) ≤ 1000 := by omega
                have t3 : (m2 : Int) ≤ 1000 := by omega
                clear hm1 hm2 hv hu hHL4' hsum HSUM
                go_wp2_with fail
                refine (right_any A1 m1 c1 le w4 HM1.out (by omega) HV4.out).mono ?_
                rw [HRL.out]
                rintro e w6 ⟨rfl, hb6⟩
                have hB7 := hB4.trans (hb6.mono hs4)
                have HV7 := Lib.hid (HV4.out.up hb6)
                have HL7 := Lib.hid (HL4.out.below (hb6.mono hs4))
                clear hb6 HV4 HL4
                go_wp2
                go_roundw
                case rel => exact ⟨A1, m1, c1, le, i + 1, rfl, by go_num, by omega, HM1, by omega, HRL, HV7, hB7, HL7⟩
                case measure => simp [intOf]; omega
          case rest =>
            as_aux_lemma =>
              revert wc
              intro w4 hcut
              obtain ⟨rfl, A1, m1, c1, l, q, id, rfl, rfl, rfl, HM1, HACT, hwh, HV, hb⟩ := hcut
              have hshort := HACT.out.short
              rw [HM1.out, HD.out] at hshort
              have hX4 := hX0.below hb hX0.lt
              have HHL4 := Lib.hid (hHL3.up hb)
              have HHL4' := Lib.hid (hHL3'.below (hb.mono hs3))
              have hB4 := hB3.trans (hb.mono hs3)
              have hs4 := hB4.size
              clear hX0 hHL3 hHL3' hB3 hs3 hbig hb
              obtain ⟨was, hwas⟩ : ∃ x, foundC d id = x := ⟨_, rfl⟩
              obtain ⟨had, hhad⟩ : ∃ b, idIn d id = b := ⟨_, rfl⟩
              obtain ⟨now, hnow⟩ : ∃ x, foundC l id = x := ⟨_, rfl⟩
              obtain ⟨has, hhas⟩ : ∃ b, idIn l id = b := ⟨_, rfl⟩
              have HWAS := Lib.hid hwas
              have HHAD := Lib.hid hhad
              have HNOW := Lib.hid hnow
              have HHAS := Lib.hid hhas
              clear hwas hhad hnow hhas
              go_wp2_with fail
              refine (find_any A m c d id w4 HD.out (by omega) HHL4.out HR.out was had HWAS.out HHAD.out).mono ?_
              rintro e w5 ⟨rfl, hb⟩
              have hb2 : Below w5.heap.size w5 (w5.alloc (.cells #[.int .i64 was.id, .int .i64 was.fr, .int .i64 was.tn, .int .i64 was.st, .int .i64 was.en, .int .i64 was.rt] 28)) := by (repeat (first | exact Below.refl _ _ | refine Below.alloc ?_ (by first | omega | (simp; done) | (simp; omega)) _ | refine Below.setCell ?_ (by first | omega | (simp; done) | (simp; omega)) _ | refine Below.drew ?_))
              have hXw := Blok.new w5 28 #[.int .i64 was.id, .int .i64 was.fr, .int .i64 was.tn, .int .i64 was.st, .int .i64 was.en, .int .i64 was.rt]
              have hb3 := hb.trans (hb2.mono hb.size)
              have hV6 := HV.out.up hb3
              have hX6 := hX4.below hb3 hX4.lt
              have hL6 := HHL4.out.up hb3
              have hL6' := HHL4'.out.below (hb3.mono hs4)
              have hB6 := hB4.trans (hb3.mono hs4)
              have hs6 := hB6.size
              have hxw : bx ≠ w5.heap.size := by have := hX4.lt; have := hb.size; omega
              have hsz5 : w.heap.size ≤ w5.heap.size := Nat.le_trans hs4 hb.size
              clear hb hb2 hb3 HV hX4 HHL4 HHL4' hB4 hs4
              go_wp2_with fail
              generalize hb5 : w5.heap.size = bw at *
              generalize w5.alloc (.cells #[.int .i64 was.id, .int .i64 was.fr, .int .i64 was.tn, .int .i64 was.st, .int .i64 was.en, .int .i64 was.rt] 28) = w6 at *
              clear hb5
              refine (find_any A1 m1 c1 l id w6 HM1.out (by omega) hV6 HACT.out.right now has HNOW.out HHAS.out).mono ?_
              rintro e w7 ⟨rfl, hb⟩
              have hb2 : Below w7.heap.size w7 (w7.alloc (.cells #[.int .i64 now.id, .int .i64 now.fr, .int .i64 now.tn, .int .i64 now.st, .int .i64 now.en, .int .i64 now.rt] 28)) := by (repeat (first | exact Below.refl _ _ | refine Below.alloc ?_ (by first | omega | (simp; done) | (simp; omega)) _ | refine Below.setCell ?_ (by first | omega | (simp; done) | (simp; omega)) _ | refine Below.drew ?_))
              have hXn := Blok.new w7 28 #[.int .i64 now.id, .int .i64 now.fr, .int .i64 now.tn, .int .i64 now.st, .int .i64 now.en, .int .i64 now.rt]
              have hb3 := hb.trans (hb2.mono hb.size)
              have hV8 := hV6.up hb3
              have hX8 := hX6.below hb3 hX6.lt
              have hXw8 := hXw.below hb3 hXw.lt
              have hL8 := hL6.up hb3
              have hL8' := hL6'.below (hb3.mono hs6)
              have hB8 := hB6.trans (hb3.mono hs6)
              have hs8 := hB8.size
              have hne1 : bx ≠ w7.heap.size := by have := hX6.lt; have := hb.size; omega
              have hne2 : bw ≠ w7.heap.size := by have := hXw.lt; have := hb.size; omega
              clear hb hb2 hb3 hV6 hX6 hXw hL6 hL6' hB6 hs6
              go_upto_region 25 with fail
              generalize hb7 : w7.heap.size = bn at *
              generalize w7.alloc (.cells #[.int .i64 now.id, .int .i64 now.fr, .int .i64 now.tn, .int .i64 now.st, .int .i64 now.en, .int .i64 now.rt] 28) = w8 at *
              clear hb7
              go_cut [126] (fun s wx => s = .bool false ∧ Below w8.heap.size w8 wx)
              case first =>
                as_aux_lemma =>
                  have hr1 := right_any A1 m1 c1 l w8 HM1.out (by omega) hV8
                  rw [HACT.out.right] at hr1
                  have HR1 := Lib.hid hr1
                  clear hr1
                  by_cases hq : q = 0
                  · subst hq
                    go_wp2_with fail
                    refine HR1.out.mono ?_
                    rintro e w9 ⟨rfl, hb⟩
                    go_wp2_with fail
                    go_meet
                    exact ⟨rfl, hb⟩
                  · have hqa : (q != 0) = true := by simpa using hq
                    have hld := HACT.out.same hq
                    have HLD := Lib.hid hld
                    clear hld hq
                    go_wp2_with fail
                    refine HR1.out.mono ?_
                    rintro e w9 ⟨rfl, hb⟩
                    go_wp2_with fail
                    refine (same_any A1 A m1 c1 m c l d w9 HM1.out HD.out (by omega) (by omega) (hV8.up hb) (hL8.up hb)).mono ?_
                    rw [decide_eq_true HLD.out]
                    rintro e w10 ⟨rfl, hb6⟩
                    go_wp2_with fail
                    go_meet
                    exact ⟨rfl, hb.trans (hb6.mono hb.size)⟩
              case rest =>
                as_aux_lemma =>
                  revert wc
                  intro w9 hcut
                  obtain ⟨rfl, hb⟩ := hcut
                  have hV9 := hV8.up hb
                  have hX9 := hX8.below hb hX8.lt
                  have hXw9 := hXw8.below hb hXw8.lt
                  have hXn9 := hXn.below hb hXn.lt
                  have hL9 := hL8.up hb
                  have hL9' := hL8'.below (hb.mono hs8)
                  have hB9 := hB8.trans (hb.mono hs8)
                  have hs9 := hB9.size
                  clear hb hV8 hX8 hXw8 hXn hL8 hL8' hB8 hs8
                  have a0 : w9.cell? ⟨bw, 0, none⟩ = some (.int .i64 was.id) := hXw9.cell 0
                  have a1 : w9.cell? ⟨bw, 1, none⟩ = some (.int .i64 was.fr) := hXw9.cell 1
                  have a2 : w9.cell? ⟨bw, 2, none⟩ = some (.int .i64 was.tn) := hXw9.cell 2
                  have a3 : w9.cell? ⟨bw, 3, none⟩ = some (.int .i64 was.st) := hXw9.cell 3
                  have a4 : w9.cell? ⟨bw, 4, none⟩ = some (.int .i64 was.en) := hXw9.cell 4
                  have a5 : w9.cell? ⟨bw, 5, none⟩ = some (.int .i64 was.rt) := hXw9.cell 5
                  have k6 : w9.cell? ⟨bx, 6, none⟩ = some (.int .i64 y6) := hX9.cell 6
                  have hlx := hX9.lt
                  have hlw := hXw9.lt
                  have hxw9 : bx ≠ w9.heap.size := by omega
                  go_upto_region 29 with fail
                  have hb : Below w9.heap.size w9 (w9.alloc (.cells #[.int .i64 was.id, .int .i64 was.fr, .int .i64 was.tn, .int .i64 was.st, .int .i64 was.en, .int .i64 y6] 28)) := by (repeat (first | exact Below.refl _ _ | refine Below.alloc ?_ (by first | omega | (simp; done) | (simp; omega)) _ | refine Below.setCell ?_ (by first | omega | (simp; done) | (simp; omega)) _ | refine Below.drew ?_))
                  have hXt := Blok.new w9 28 #[.int .i64 was.id, .int .i64 was.fr, .int .i64 was.tn, .int .i64 was.st, .int .i64 was.en, .int .i64 y6]
                  have hV10 := hV9.up hb
                  have hX10 := hX9.below hb hX9.lt
                  have hXn10 := hXn9.below hb hXn9.lt
                  have hL10 := hL9.up hb
                  have hL10' := hL9'.below (hb.mono hs9)
                  have hB10 := hB9.trans (hb.mono hs9)
                  have hs10 := hB10.size
                  clear hb a0 a1 a2 a3 a4 a5 k6 hlx hlw hxw9 hV9 hX9 hXw9 hXn9 hL9 hL9' hB9 hs9
                  generalize w9.alloc (.cells #[.int .i64 was.id, .int .i64 was.fr, .int .i64 was.tn, .int .i64 was.st, .int .i64 was.en, .int .i64 y6] 28) = w10 at *
                  generalize w9.heap.size = bt at *
                  go_cut [196] (fun s wx => s = .bool false ∧ Below w10.heap.size w10 wx)
                  case first =>
                    as_aux_lemma =>
                      have k0 : w10.cell? ⟨bx, 0, none⟩ = some (.int .i64 y0) := hX10.cell 0
                      have hlx := hX10.lt
                      have hln := hXn10.lt
                      have hlt := hXt.lt
                      by_cases hq : q = 0
                      · subst hq
                        rcases hwh with rfl | rfl | rfl
                        · obtain ⟨q1, q2, q3, q4⟩ := HACT.out.add rfl rfl
                          have hhd : had = false := by rw [← HHAD.out]; exact q1
                          subst hhd
                          have hnr : now = ⟨y1, y2, y3, y4, y5, y6⟩ := by
                            rw [← HRR.out, ← HNOW.out, ← q3]
                            exact found_of HACT.out.right q2
                          rw [HM1.out, HD.out] at q4
                          have hlen : ((m1 : Int) != (m : Int) + 1) = false := by simp; omega
                          have n0 : w10.cell? ⟨bn, 0, none⟩ = some (.int .i64 y1) := by have := hXn10.cell 0; rw [hnr] at this; exact this
                          have n1 : w10.cell? ⟨bn, 1, none⟩ = some (.int .i64 y2) := by have := hXn10.cell 1; rw [hnr] at this; exact this
                          have n2 : w10.cell? ⟨bn, 2, none⟩ = some (.int .i64 y3) := by have := hXn10.cell 2; rw [hnr] at this; exact this
                          have n3 : w10.cell? ⟨bn, 3, none⟩ = some (.int .i64 y4) := by have := hXn10.cell 3; rw [hnr] at this; exact this
                          have n4 : w10.cell? ⟨bn, 4, none⟩ = some (.int .i64 y5) := by have := hXn10.cell 4; rw [hnr] at this; exact this
                          have n5 : w10.cell? ⟨bn, 5, none⟩ = some (.int .i64 y6) := by have := hXn10.cell 5; rw [hnr] at this; exact this
                          have k1 : w10.cell? ⟨bx, 1, none⟩ = some (.int .i64 y1) := hX10.cell 1
                          have k2 : w10.cell? ⟨bx, 2, none⟩ = some (.int .i64 y2) := hX10.cell 2
                          have k3 : w10.cell? ⟨bx, 3, none⟩ = some (.int .i64 y3) := hX10.cell 3
                          have k4 : w10.cell? ⟨bx, 4, none⟩ = some (.int .i64 y4) := hX10.cell 4
                          have k5 : w10.cell? ⟨bx, 5, none⟩ = some (.int .i64 y5) := hX10.cell 5
                          have k6 : w10.cell? ⟨bx, 6, none⟩ = some (.int .i64 y6) := hX10.cell 6
                          have hrun : ∀ w0, (binOp .neq 28 (.agg #[.int .i64 y1, .int .i64 y2, .int .i64 y3, .int .i64 y4, .int .i64 y5, .int .i64 y6]) (.agg #[.int .i64 y1, .int .i64 y2, .int .i64 y3, .int .i64 y4, .int .i64 y5, .int .i64 y6])).run Try.prog w0 = .ok (.bool false) w0 := fun w0 => by
                            have := neqCo ⟨y1, y2, y3, y4, y5, y6⟩ ⟨y1, y2, y3, y4, y5, y6⟩ w0
                            simpa using this
                          clear q1 q2 q3 q4 hnr
                          have hwr : IntKind.i64.wrap ((m : Int) + 1) = (m : Int) + 1 := IntWalk.i64_in _ (by omega)
                          have q_k0 := fun d os => cell_regrown k0 d os
                          have q_k1 := fun d os => cell_regrown k1 d os
                          have q_k2 := fun d os => cell_regrown k2 d os
                          have q_k3 := fun d os => cell_regrown k3 d os
                          have q_k4 := fun d os => cell_regrown k4 d os
                          have q_k5 := fun d os => cell_regrown k5 d os
                          have q_k6 := fun d os => cell_regrown k6 d os
                          have q_n0 := fun d os => cell_regrown n0 d os
                          have q_n1 := fun d os => cell_regrown n1 d os
                          have q_n2 := fun d os => cell_regrown n2 d os
                          have q_n3 := fun d os => cell_regrown n3 d os
                          have q_n4 := fun d os => cell_regrown n4 d os
                          have q_n5 := fun d os => cell_regrown n5 d os
                          try simp only [List.append]
                          first | refine wp_region_text_below ?_ | refine wp_region_quiet_below (by kernel_rfl) (by kernel_rfl) ?_
                          repeat (go_big_quiet_step ((fail)))
                          refine wpQuiet_nil ?_
                          intro _ hqw
                          obtain ⟨pq, hqw⟩ := hqw
                          subst hqw
                          clear q_k0 q_k1 q_k2 q_k3 q_k4 q_k5 q_k6 q_n0 q_n1 q_n2 q_n3 q_n4 q_n5
                          have hbq := below_regrown w10 pq.d pq.os
                          clear k0 k1 k2 k3 k4 k5 k6 n0 n1 n2 n3 n4 n5
                          generalize grow (redrawn w10 pq.d) pq.os = wq at *
                          go_wp2_with fail
                          go_meet
                          exact ⟨rfl, hbq⟩
                        · obtain ⟨q1, q2, q3⟩ := HACT.out.del rfl rfl
                          have hhd : had = true := by rw [← HHAD.out]; exact q1
                          subst hhd
                          have hhs : has = false := by rw [← HHAS.out]; exact q2
                          subst hhs
                          rw [HM1.out, HD.out] at q3
                          have hlen : ((m1 : Int) != (m : Int) - 1) = false := by simp; omega
                          clear q1 q2 q3
                          have hwr : IntKind.i64.wrap ((m : Int) - 1) = (m : Int) - 1 := IntWalk.i64_in _ (by omega)
                          have q_k0 := fun d os => cell_regrown k0 d os
                          try simp only [List.append]
                          first | refine wp_region_text_below ?_ | refine wp_region_quiet_below (by kernel_rfl) (by kernel_rfl) ?_
                          repeat (go_big_quiet_step ((fail)))
                          refine wpQuiet_nil ?_
                          intro _ hqw
                          obtain ⟨pq, hqw⟩ := hqw
                          subst hqw
                          clear q_k0
                          have hbq := below_regrown w10 pq.d pq.os
                          clear k0
                          generalize grow (redrawn w10 pq.d) pq.os = wq at *
                          go_wp2_with fail
                          go_meet
                          exact ⟨rfl, hbq⟩
                        · obtain ⟨q1, q2, q3⟩ := HACT.out.chg rfl rfl
                          have hhd : had = true := by rw [← HHAD.out]; exact q1
                          subst hhd
                          have hid := (found_mem q1).2
                          have hnr : now = withRt was y6 := by
                            have h6 : r.rt = y6 := by rw [HRR.out]
                            rw [← HNOW.out, ← HWAS.out, ← h6]
                            have := found_of HACT.out.right q2
                            rw [show (withRt (foundC d id) r.rt).id = id from hid] at this
                            exact this
                          rw [HM1.out, HD.out] at q3
                          have hlen : ((m1 : Int) != (m : Int)) = false := by simp; omega
                          have n0 : w10.cell? ⟨bn, 0, none⟩ = some (.int .i64 was.id) := by have := hXn10.cell 0; rw [hnr] at this; exact this
                          have n1 : w10.cell? ⟨bn, 1, none⟩ = some (.int .i64 was.fr) := by have := hXn10.cell 1; rw [hnr] at this; exact this
                          have n2 : w10.cell? ⟨bn, 2, none⟩ = some (.int .i64 was.tn) := by have := hXn10.cell 2; rw [hnr] at this; exact this
                          have n3 : w10.cell? ⟨bn, 3, none⟩ = some (.int .i64 was.st) := by have := hXn10.cell 3; rw [hnr] at this; exact this
                          have n4 : w10.cell? ⟨bn, 4, none⟩ = some (.int .i64 was.en) := by have := hXn10.cell 4; rw [hnr] at this; exact this
                          have n5 : w10.cell? ⟨bn, 5, none⟩ = some (.int .i64 y6) := by have := hXn10.cell 5; rw [hnr] at this; exact this
                          have t0 : w10.cell? ⟨bt, 0, none⟩ = some (.int .i64 was.id) := hXt.cell 0
                          have t1 : w10.cell? ⟨bt, 1, none⟩ = some (.int .i64 was.fr) := hXt.cell 1
                          have t2 : w10.cell? ⟨bt, 2, none⟩ = some (.int .i64 was.tn) := hXt.cell 2
                          have t3 : w10.cell? ⟨bt, 3, none⟩ = some (.int .i64 was.st) := hXt.cell 3
                          have t4 : w10.cell? ⟨bt, 4, none⟩ = some (.int .i64 was.en) := hXt.cell 4
                          have t5 : w10.cell? ⟨bt, 5, none⟩ = some (.int .i64 y6) := hXt.cell 5
                          have hrun : ∀ w0, (binOp .neq 28 (.agg #[.int .i64 was.id, .int .i64 was.fr, .int .i64 was.tn, .int .i64 was.st, .int .i64 was.en, .int .i64 y6]) (.agg #[.int .i64 was.id, .int .i64 was.fr, .int .i64 was.tn, .int .i64 was.st, .int .i64 was.en, .int .i64 y6])).run Try.prog w0 = .ok (.bool false) w0 := fun w0 => by
                            have := neqCo ⟨was.id, was.fr, was.tn, was.st, was.en, y6⟩ ⟨was.id, was.fr, was.tn, was.st, was.en, y6⟩ w0
                            simpa using this
                          clear q1 q2 q3 hnr hid
                          have q_k0 := fun d os => cell_regrown k0 d os
                          have q_n0 := fun d os => cell_regrown n0 d os
                          have q_n1 := fun d os => cell_regrown n1 d os
                          have q_n2 := fun d os => cell_regrown n2 d os
                          have q_n3 := fun d os => cell_regrown n3 d os
                          have q_n4 := fun d os => cell_regrown n4 d os
                          have q_n5 := fun d os => cell_regrown n5 d os
                          have q_t0 := fun d os => cell_regrown t0 d os
                          have q_t1 := fun d os => cell_regrown t1 d os
                          have q_t2 := fun d os => cell_regrown t2 d os
                          have q_t3 := fun d os => cell_regrown t3 d os
                          have q_t4 := fun d os => cell_regrown t4 d os
                          have q_t5 := fun d os => cell_regrown t5 d os
                          try simp only [List.append]
                          first | refine wp_region_text_below ?_ | refine wp_region_quiet_below (by kernel_rfl) (by kernel_rfl) ?_
                          repeat (go_big_quiet_step ((fail)))
                          refine wpQuiet_nil ?_
                          intro _ hqw
                          obtain ⟨pq, hqw⟩ := hqw
                          subst hqw
                          clear q_k0 q_n0 q_n1 q_n2 q_n3 q_n4 q_n5 q_t0 q_t1 q_t2 q_t3 q_t4 q_t5
                          have hbq := below_regrown w10 pq.d pq.os
                          clear k0 n0 n1 n2 n3 n4 n5 t0 t1 t2 t3 t4 t5
                          generalize grow (redrawn w10 pq.d) pq.os = wq at *
                          go_wp2_with fail
                          go_meet
                          exact ⟨rfl, hbq⟩
                      · have hqb : (q == 0) = false := by simpa using hq
                        clear hq
                        have q_k0 := fun d os => cell_regrown k0 d os
                        try simp only [List.append]
                        first | refine wp_region_text_below ?_ | refine wp_region_quiet_below (by kernel_rfl) (by kernel_rfl) ?_
                        repeat (go_big_quiet_step ((fail)))
                        refine wpQuiet_nil ?_
                        intro _ hqw
                        obtain ⟨pq, hqw⟩ := hqw
                        subst hqw
                        clear q_k0
                        have hbq := below_regrown w10 pq.d pq.os
                        clear k0
                        generalize grow (redrawn w10 pq.d) pq.os = wq at *
                        go_wp2_with fail
                        go_meet
                        exact ⟨rfl, hbq⟩
                  case rest =>
                    as_aux_lemma =>
                      revert wc
                      intro w11 hcut
                      obtain ⟨rfl, hb⟩ := hcut
                      have HV := Lib.hid (hV10.up hb)
                      have HLD := Lib.hid (hL10.up hb)
                      have HLA := Lib.hid (hL10'.below (hb.mono hs10))
                      have hB11 := hB10.trans (hb.mono hs10)
                      have hs11 := hB11.size
                      clear hb hV10 hX10 hXn10 hXt hL10 hL10' hB10 hs10 hxw hsz5 hne1 hne2
                      go_wp2_with fail
                      go_loopw [18] (fun kv wr => ∃ k : Nat, kv = .int .i64 k ∧ k ≤ m ∧ Below w11.heap.size w11 wr) (fun kv _ => m - (intOf kv).toNat)
                      case atStart => exact ⟨0, rfl, by omega, Below.refl _ _⟩
                      case round =>
                        obtain ⟨k, rfl, hk, hb⟩ := hrel
                        have hsz := hb.size
                        by_cases hkm : k < m
                        · obtain ⟨ad1, rfl, hab1, e0, e1, e2, e3, e4, e5⟩ := (HLD.out.up hb).lst.atCo HD.out hkm
                          obtain ⟨x, hx⟩ : ∃ x, gCo d k = x := ⟨_, rfl⟩
                          rw [hx] at e0 e1 e2 e3 e4 e5
                          have hxm : x ∈ d := by rw [← hx]; exact gCo_mem (by have := HD.out; omega)
                          have HX := Lib.hid hx
                          clear hx e1 e2 e3 e4 e5
                          cases hxi : (x.id == id) with
                          | true =>
                            go_wp2
                            go_roundw
                            case rel => exact ⟨k + 1, by go_num, by omega, hb⟩
                            case measure => simp [intOf]; omega
                          | false =>
                            have hxl := HACT.out.keep x hxm (by simpa using hxi)
                            have f1 := found_of HACT.out.right hxl
                            have f2 := idIn_mem hxl
                            have HF1 := Lib.hid f1
                            have HF2 := Lib.hid f2
                            clear f1 f2 hxl hxm
                            go_wp2_with fail
                            clear e0
                            refine (find_any A1 m1 c1 l x.id wr HM1.out (by omega) (HV.out.up hb) HACT.out.right x true HF1.out HF2.out).mono ?_
                            rintro e w12 ⟨rfl, hb12⟩
                            have hb2 : Below w12.heap.size w12 (w12.alloc (.cells #[.int .i64 x.id, .int .i64 x.fr, .int .i64 x.tn, .int .i64 x.st, .int .i64 x.en, .int .i64 x.rt] 28)) := by (repeat (first | exact Below.refl _ _ | refine Below.alloc ?_ (by first | omega | (simp; done) | (simp; omega)) _ | refine Below.setCell ?_ (by first | omega | (simp; done) | (simp; omega)) _ | refine Below.drew ?_))
                            have hXx := Blok.new w12 28 #[.int .i64 x.id, .int .i64 x.fr, .int .i64 x.tn, .int .i64 x.st, .int .i64 x.en, .int .i64 x.rt]
                            have hb13 := hb.trans ((hb12.mono hsz).trans (hb2.mono (Nat.le_trans hsz hb12.size)))
                            clear hb hb12 hb2
                            go_wp2_with fail
                            generalize w12.alloc (.cells #[.int .i64 x.id, .int .i64 x.fr, .int .i64 x.tn, .int .i64 x.st, .int .i64 x.en, .int .i64 x.rt] 28) = w13 at *
                            generalize w12.heap.size = b12 at *
                            have hs13 := hb13.size
                            obtain ⟨ad2, he2, hab2, e0, e1, e2, e3, e4, e5⟩ := (HLD.out.up hb13).lst.atCo HD.out hkm
                            injection he2 with he2
                            subst he2
                            rw [HX.out] at e0 e1 e2 e3 e4 e5
                            have b0 : w13.cell? ⟨b12, 0, none⟩ = some (.int .i64 x.id) := hXx.cell 0
                            have b1 : w13.cell? ⟨b12, 1, none⟩ = some (.int .i64 x.fr) := hXx.cell 1
                            have b2 : w13.cell? ⟨b12, 2, none⟩ = some (.int .i64 x.tn) := hXx.cell 2
                            have b3 : w13.cell? ⟨b12, 3, none⟩ = some (.int .i64 x.st) := hXx.cell 3
                            have b4 : w13.cell? ⟨b12, 4, none⟩ = some (.int .i64 x.en) := hXx.cell 4
                            have b5 : w13.cell? ⟨b12, 5, none⟩ = some (.int .i64 x.rt) := hXx.cell 5
                            have hlb := hXx.lt
                            have habw : ad1.block < w13.heap.size := hab2
                            have hrun : ∀ w0, (binOp .neq 28 (.agg #[.int .i64 x.id, .int .i64 x.fr, .int .i64 x.tn, .int .i64 x.st, .int .i64 x.en, .int .i64 x.rt]) (.agg #[.int .i64 x.id, .int .i64 x.fr, .int .i64 x.tn, .int .i64 x.st, .int .i64 x.en, .int .i64 x.rt])).run Try.prog w0 = .ok (.bool false) w0 := fun w0 => by rw [neqCo x x]; simp
                            clear hXx
                            have q_b0 := fun d os => cell_regrown b0 d os
                            have q_b1 := fun d os => cell_regrown b1 d os
                            have q_b2 := fun d os => cell_regrown b2 d os
                            have q_b3 := fun d os => cell_regrown b3 d os
                            have q_b4 := fun d os => cell_regrown b4 d os
                            have q_b5 := fun d os => cell_regrown b5 d os
                            have q_e0 := fun d os => cell_regrown e0 d os
                            have q_e1 := fun d os => cell_regrown e1 d os
                            have q_e2 := fun d os => cell_regrown e2 d os
                            have q_e3 := fun d os => cell_regrown e3 d os
                            have q_e4 := fun d os => cell_regrown e4 d os
                            have q_e5 := fun d os => cell_regrown e5 d os
                            try simp only [List.append]
                            first | refine wp_region_text_below ?_ | refine wp_region_quiet_below (by kernel_rfl) (by kernel_rfl) ?_
                            repeat (go_big_quiet_step ((fail)))
                            refine wpQuiet_nil ?_
                            intro _ hqw
                            obtain ⟨pq, hqw⟩ := hqw
                            subst hqw
                            clear q_b0 q_b1 q_b2 q_b3 q_b4 q_b5 q_e0 q_e1 q_e2 q_e3 q_e4 q_e5
                            have hb14 := hb13.trans ((below_regrown w13 pq.d pq.os).mono hs13)
                            clear b0 b1 b2 b3 b4 b5 e0 e1 e2 e3 e4 e5 hrun hb13
                            generalize grow (redrawn w13 pq.d) pq.os = wq at *
                            go_wp2
                            go_roundw
                            case rel => exact ⟨k + 1, by go_num, by omega, hb14⟩
                            case measure => simp [intOf]; omega
                        · obtain rfl : k = m := by omega
                          have hB12 := hB11.trans (hb.mono hs11)
                          have HV12 := Lib.hid (HV.out.up hb)
                          have HL12 := Lib.hid (HLA.out.below (hb.mono hs11))
                          have HRL := Lib.hid HACT.out.right
                          clear hb
                          go_wp2
                          go_roundw
                          case rel => exact ⟨A1, m1, c1, l, i + 1, rfl, by go_num, by omega, HM1, by omega, HRL, HV12, hB12, HL12⟩
                          case measure => simp [intOf]; omega
        · obtain rfl : i = n' := by omega
          go_wp2_with fail
          go_ret
          exact ⟨rfl, hB⟩
theorem contactsRight_walk (A : Option Addr) (n c : Nat) (ns : List Int) (A' : Option Addr) (n' c' : Nat) (ns' : List Int) (hnl : ns.length = n * 6) (_ : ∀ m ∈ ns, (Lit.int .i64 m).wf = true) (hnl' : ns'.length = n' * 8) (_ : ∀ m ∈ ns', (Lit.int .i64 m).wf = true) (w : World) (hl : Sl w w.heap.size 6 A n c (ns.map (Value.int .i64))) (hl' : Sl w w.heap.size 8 A' n' c' (ns'.map (Value.int .i64))) :
    Calls Try.prog 4 #[.slice A n c, .slice A' n' c'] w fun e w' => e = .returned (.bool true) ∧ Below w.heap.size w w' := by
  obtain ⟨d, hd, hlf⟩ := rowsCo_of n ns hnl
  rw [hlf] at hl
  obtain ⟨t, ht, htf⟩ := rowsAc_of n' ns' hnl'
  rw [htf] at hl'
  exact crights_walk A n c d A' n' c' t hd ht w hl hl'
theorem contactsRight_own : ownKnob Try.prog.godebug = none := by kernel_rfl
theorem contactsRight_laidOut : laidOutB Try.prog = true := by kernel_rfl

set_option maxHeartbeats 1000000 in
set_option maxRecDepth 100000 in
theorem contactsRight_lifted (os : Os) (started : os.Started) (H : Type) (enc : TypeId × Value → H) :
    ReturnsInHanded {} Try.checked os 4 .any (Rows.contactsRightSpec.pre6 enc Try.prog Try.f4 Rows.contactsRightRow.domain false) (Rows.contactsRightSpec.post enc Try.prog Try.f4 false true false false) := by
  refine returnsInHanded_of_change (C := Try.checked) contactsRight_own started (by kernel_rfl) Try.func4
    (ChangeSpec.witness6 (enc := enc) (C := Try.checked) false ⟨#[], #[.slice none 0 0, .slice none 0 0], []⟩ 8 (by kernel_rfl) (by kernel_rfl) (by kernel_rfl) (by kernel_rfl)) ?_
  intro W base args ds gs before hval0 hW hcnd _
  have hval : ∀ (j : Nat) t v, Try.f4.params[j]? = some t → args[j]? = some v → Value.okWide Try.prog W .any base t v := hval0
  have hW' := hW
  obtain ⟨p, q, hA0, hV, rfl, hfz, hnd⟩ := hW
  have hA : DataW.TrodAll enc Try.prog W 0 (fun _ => true) true Try.f4.params.toList args.toList ds p := hA0
  rw [Try.params4] at hA hval
  obtain ⟨v0, vs0, d0, ds0, p0, q0, hargs, rfl, rfl, h0, r0⟩ := trodAll_cons hA
  obtain ⟨v1, vs1, d1, ds1, p1, q1, rfl, rfl, rfl, h1, r1⟩ := trodAll_cons r0
  obtain ⟨rfl, rfl, rfl⟩ := trodAll_nil r1
  obtain rfl : args = #[v0, v1] := by cases args; simp_all
  obtain ⟨rfl, rfl⟩ := trodVars_none hV
  obtain ⟨A0, n0, c0, ns0, rfl, hl0, nl0, w0⟩ := open_rowsS 4 (K := 6) Try.underlying22 (by kernel_rfl) (by kernel_rfl) (by omega) (hval 0 22 v0 rfl rfl) h0
  obtain ⟨A1, n1, c1, ns1, rfl, hl1, nl1, w1⟩ := open_rowsS 4 (K := 8) Try.underlying23 (by kernel_rfl) (by kernel_rfl) (by omega) (hval 1 23 v1 rfl rfl) h1
  clear hA0 hval0
  refine (contactsRight_walk A0 n0 c0 ns0 A1 n1 c1 ns1 nl0 w0 nl1 w1 W hl0 hl1).mono fun e W' ⟨he, bel⟩ => ?_
  subst he
  exact ⟨_, rfl, law_post contactsRight_laidOut (by kernel_rfl) rfl Try.underlying4 rfl rfl hW' bel⟩

theorem contactsRight_proved : Rows.ContactsRightSaid :=
  OpenClaim.holds_of_wide 4 Try.f4 rfl rfl rfl rfl rfl rfl rfl ⟨rfl, rfl, rfl, rfl, rfl⟩ rfl rfl rfl rfl rfl (by kernel_rfl) Try.func4 (by kernel_rfl)
    (of_decide_eq_true (by kernel_rfl)) (by unfold Func.isWrapper; first | (rw [if_pos (by decide +kernel)]; kernel_rfl) | (rw [if_neg (by decide +kernel)]; exact ⟨rfl, rfl⟩))
    (fun os started H enc _ => contactsRight_lifted os started H enc)
#print axioms contactsRight_proved
end Go.Proofs.Ytojjnbpgdegjiaa
