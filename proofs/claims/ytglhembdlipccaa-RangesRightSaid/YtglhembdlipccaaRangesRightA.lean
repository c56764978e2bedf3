/- What is right stays right: RangesRight returns true for every table and all acts. No condition. -/
import Derived.Test.YtglhembdlipccaaRangesRight
import Derived.Deep.CutBlock
namespace Go.Proofs.Ytglhembdlipccaa
open Go.ChangeShapes Go.WideShapes Go.ChangeAt Go.RowKit Go.Sort
set_option linter.unusedSimpArgs false
set_option linter.unusedVariables false
def dlOf (y : Int) : Int := if y = 1 then 1 else if y = 2 then -1 else 0
/-- What a call leaves, whichever it was. -/
def MidR (d : List Rg) (r : Rg) (y0 : Int) (w3 : World) (s8 s9 : Value) (wx : World) : Prop :=
  ∃ (A1 : Option Addr) (m1 c1 : Nat) (l : List Rg) (q : Int), s8 = .slice A1 m1 c1 ∧ s9 = .int .i64 q ∧ Hid (l.length = m1) ∧ Hid (ActR d l q (dlOf y0) r) ∧ (y0 = 1 ∨ y0 = 2 ∨ y0 = 3) ∧ Hid (Sl wx wx.heap.size 5 A1 m1 c1 (flatRg l)) ∧ Below w3.heap.size w3 wx
set_option maxHeartbeats 8000000 in
set_option maxRecDepth 100000 in
theorem rangesRight_walk (A : Option Addr) (n c : Nat) (ns : List Int) (A' : Option Addr) (n' c' : Nat) (ns' : List Int) (hnl : ns.length = n * 5) (hw : ∀ m ∈ ns, (Lit.int .i64 m).wf = true) (hnl' : ns'.length = n' * 7) (hw' : ∀ m ∈ ns', (Lit.int .i64 m).wf = true) (w : World) (hl : Sl w w.heap.size 5 A n c (ns.map (Value.int .i64))) (hl' : Sl w w.heap.size 7 A' n' c' (ns'.map (Value.int .i64))) :
    Calls Try.prog 3 #[.slice A n c, .slice A' n' c'] w fun e w' => e = .returned (.bool true) ∧ Below w.heap.size w w' := by
  clear hw hw'
  obtain ⟨d, hd, hlf⟩ := rowsRg_of n ns hnl
  rw [hlf] at hl
  obtain ⟨t, ht, htf⟩ := rowsAt_of n' ns' hnl'
  rw [htf] at hl'
  clear hlf hnl htf hnl'
  by_cases hn : 50 < n ∨ 50 < n'
  · have hn' : 50 < n ∨ (n ≤ 50 ∧ 50 < n') := by omega
    clear hn
    rcases hn' with hn | ⟨hn, hn2⟩
    all_goals
      go_enter Try.func3, Try.ntmps3
      go_wp2_with fail
      refine (small07 _).mono ?_
      rintro e w1 ⟨rfl, hB⟩
      go_wp2
      go_ret
      exact ⟨rfl, hB⟩
  · have hn1 : n ≤ 50 := by omega
    have hn2 : n' ≤ 50 := by omega
    clear hn
    have g1 : decide ((n : Int) > 50) = false := by simp; omega
    have g2 : decide ((n' : Int) > 50) = false := by simp; omega
    go_enter Try.func3, Try.ntmps3
    go_wp2_with fail
    refine (small07 _).mono ?_
    rintro e w1 ⟨rfl, hB1⟩
    have hl1 := hl.below hB1
    have hl1' := hl'.below hB1
    have hs1 := hB1.size
    go_wp2_with fail
    refine (right_any A n c d w1 hd (by omega) (hl1.more hs1)).mono ?_
    rintro e w2 ⟨rfl, hb⟩
    have hl2 := hl1.below (hb.mono hs1)
    have hl2' := hl1'.below (hb.mono hs1)
    have hB2 := hB1.trans (hb.mono hs1)
    have hs2 := hB2.size
    clear hb hl1 hl1' hB1 hs1
    cases hrt : rightB d
    · go_wp2_with fail
      go_ret
      exact ⟨rfl, hB2⟩
    · have HT := Lib.hid ht
      have HR := Lib.hid hrt
      have HL := Lib.hid hl2
      have HL' := Lib.hid hl2'
      have hd0 : d.length = n := hd
      clear hrt ht hl hl' hl2 hl2' g1 g2
      go_wp2
      go_loopw [0, 6] (fun lv iv wr => ∃ (A : Option Addr) (m c : Nat) (d : List Rg) (i : Nat), lv = .slice A m c ∧ iv = .int .i64 i ∧ i ≤ n' ∧ Hid (d.length = m) ∧ m ≤ 50 + i ∧ Hid (rightB d = true) ∧ Hid (Sl wr wr.heap.size 5 A m c (flatRg d)) ∧ Below w.heap.size w wr ∧ Hid (Sl wr w.heap.size 7 A' n' c' (flatAt t))) (fun _ iv _ => n' - (intOf iv).toNat)
      case atStart => exact ⟨A, n, c, d, 0, rfl, rfl, by omega, hd0, by omega, HR.out, HL.out.more hs2, hB2, HL'.out⟩
      case round =>
        clear hd hd0 HR HL HL' hB2 hs2 hn1
        obtain ⟨A, m, c, d, i, rfl, rfl, hi, HD, hm, HR, HL, hB, HL'⟩ := hrel
        have hs := hB.size
        by_cases hin : i < n'
        · obtain ⟨ad, rfl, hab, c0, c1, c2, c3, c4, c5, c6⟩ := HL'.out.lst.atAt HT.out hin
          obtain ⟨y, hy⟩ : ∃ y, gAt t i = y := ⟨_, rfl⟩
          rw [hy] at c0 c1 c2 c3 c4 c5 c6
          obtain ⟨y0, y1, y2, y3, y4, y5, y6⟩ := y
          simp only at c0 c1 c2 c3 c4 c5 c6
          clear hy
          have hX0 := Blok.new wr 29 #[.int .i64 y0, .int .i64 y1, .int .i64 y2, .int .i64 y3, .int .i64 y4, .int .i64 y5, .int .i64 y6]
          have hb : Below wr.heap.size wr (wr.alloc (.cells #[.int .i64 y0, .int .i64 y1, .int .i64 y2, .int .i64 y3, .int .i64 y4, .int .i64 y5, .int .i64 y6] 29)) := by (repeat (first | exact Below.refl _ _ | refine Below.alloc ?_ (by first | omega | (simp; done) | (simp; omega)) _ | refine Below.setCell ?_ (by first | omega | (simp; done) | (simp; omega)) _ | refine Below.drew ?_))
          obtain ⟨r, hr⟩ : ∃ r : Rg, r = ⟨y1, y2, y3, y4, y5⟩ := ⟨_, rfl⟩
          have HRR := Lib.hid hr
          clear hr
          go_upto_block 2 with fail
          generalize wr.alloc (.cells #[.int .i64 y0, .int .i64 y1, .int .i64 y2, .int .i64 y3, .int .i64 y4, .int .i64 y5, .int .i64 y6] 29) = w3 at *
          have hHL3 := HL.out.up hb
          have hHL3' := HL'.out.below (hb.mono hs)
          have hB3 := hB.trans (hb.mono hs)
          have hs3 := hB3.size
          have hbig : wr.heap.size < w3.heap.size := hX0.lt
          clear hb c0 c1 c2 c3 c4 c5 c6 HL HL' hB hs
          generalize wr.heap.size = bx at *
          go_cut [0, 8, 9] (fun s0 s8 s9 wx => s0 = .slice A m c ∧ MidR d r y0 w3 s8 s9 wx)
          case first =>
            as_aux_lemma =>
              by_cases hwh : y0 = 1 ∨ y0 = 2 ∨ y0 = 3
              · rcases hwh with rfl | rfl | rfl
                · skip
                  have k1 : w3.cell? ⟨bx, 1, none⟩ = some (.int .i64 y1) := hX0.cell 1
                  have k2 : w3.cell? ⟨bx, 2, none⟩ = some (.int .i64 y2) := hX0.cell 2
                  have k3 : w3.cell? ⟨bx, 3, none⟩ = some (.int .i64 y3) := hX0.cell 3
                  have k4 : w3.cell? ⟨bx, 4, none⟩ = some (.int .i64 y4) := hX0.cell 4
                  have k5 : w3.cell? ⟨bx, 5, none⟩ = some (.int .i64 y5) := hX0.cell 5
                  go_wp2_with fail
                  clear k1 k2 k3 k4 k5
                  refine (act_add A m c d ⟨y1, y2, y3, y4, y5⟩ w3 HD.out (by omega) hHL3 HR.out).mono ?_
                  rintro e w4 ⟨v, q, l, rfl, hact, hv, hb⟩
                  obtain ⟨A1, c1, rfl⟩ := slice_of_own hv
                  obtain ⟨m1, hm1⟩ : ∃ m1, l.length = m1 := ⟨_, rfl⟩
                  rw [hm1] at hv ⊢
                  rw [← HRR.out] at hact
                  have HM1 := Lib.hid hm1
                  have HACT := Lib.hid hact
                  have HV := Lib.hid (Sl.of_own hv)
                  clear hm1 hact hv
                  go_wp2_with fail
                  go_meet
                  exact ⟨rfl, A1, m1, c1, l, q, rfl, rfl, HM1, HACT, .inl rfl, HV, hb⟩
                · skip
                  have k1 : w3.cell? ⟨bx, 1, none⟩ = some (.int .i64 y1) := hX0.cell 1
                  have k2 : w3.cell? ⟨bx, 2, none⟩ = some (.int .i64 y2) := hX0.cell 2
                  have k3 : w3.cell? ⟨bx, 3, none⟩ = some (.int .i64 y3) := hX0.cell 3
                  have k4 : w3.cell? ⟨bx, 4, none⟩ = some (.int .i64 y4) := hX0.cell 4
                  have k5 : w3.cell? ⟨bx, 5, none⟩ = some (.int .i64 y5) := hX0.cell 5
                  go_wp2_with fail
                  clear k1 k2 k3 k4 k5
                  refine (act_del A m c d ⟨y1, y2, y3, y4, y5⟩ w3 HD.out (by omega) hHL3 HR.out).mono ?_
                  rintro e w4 ⟨v, q, l, rfl, hact, hv, hb⟩
                  obtain ⟨A1, c1, rfl⟩ := slice_of_own hv
                  obtain ⟨m1, hm1⟩ : ∃ m1, l.length = m1 := ⟨_, rfl⟩
                  rw [hm1] at hv ⊢
                  rw [← HRR.out] at hact
                  have HM1 := Lib.hid hm1
                  have HACT := Lib.hid hact
                  have HV := Lib.hid (Sl.of_own hv)
                  clear hm1 hact hv
                  go_wp2_with fail
                  go_meet
                  exact ⟨rfl, A1, m1, c1, l, q, rfl, rfl, HM1, HACT, .inr (.inl rfl), HV, hb⟩
                · skip
                  have k1 : w3.cell? ⟨bx, 1, none⟩ = some (.int .i64 y1) := hX0.cell 1
                  have k2 : w3.cell? ⟨bx, 2, none⟩ = some (.int .i64 y2) := hX0.cell 2
                  have k3 : w3.cell? ⟨bx, 3, none⟩ = some (.int .i64 y3) := hX0.cell 3
                  have k4 : w3.cell? ⟨bx, 4, none⟩ = some (.int .i64 y4) := hX0.cell 4
                  have k5 : w3.cell? ⟨bx, 5, none⟩ = some (.int .i64 y5) := hX0.cell 5
                  go_wp2_with fail
                  clear k1 k2 k3 k4 k5
                  refine (act_change A m c d ⟨y1, y2, y3, y4, y5⟩ w3 HD.out (by omega) hHL3 HR.out).mono ?_
                  rintro e w4 ⟨v, q, l, rfl, hact, hv, hb⟩
                  obtain ⟨A1, c1, rfl⟩ := slice_of_own hv
                  obtain ⟨m1, hm1⟩ : ∃ m1, l.length = m1 := ⟨_, rfl⟩
                  rw [hm1] at hv ⊢
                  rw [← HRR.out] at hact
                  have HM1 := Lib.hid hm1
                  have HACT := Lib.hid hact
                  have HV := Lib.hid (Sl.of_own hv)
                  clear hm1 hact hv
                  go_wp2_with fail
                  go_meet
                  exact ⟨rfl, A1, m1, c1, l, q, rfl, rfl, HM1, HACT, .inr (.inr rfl), HV, hb⟩
              · have h1 : (y0 == 1) = false := by rw [beq_eq_false_iff_ne]; omega
                have h2 : (y0 == 2) = false := by rw [beq_eq_false_iff_ne]; omega
                have h3 : (y0 == 3) = false := by rw [beq_eq_false_iff_ne]; omega
                clear hwh
                have k6 : w3.cell? ⟨bx, 6, none⟩ = some (.int .i64 y6) := hX0.cell 6
                go_wp2_with fail
                clear k6
                refine (expire_any A m c d y6 w3 HD.out (by omega) hHL3).mono ?_
                rintro e w4 ⟨v, rfl, hv, hb⟩
                have hX4 := hX0.below hb hX0.lt
                have hHL4 := hHL3.up hb
                have hHL4' := hHL3'.below (hb.mono hs3)
                have hB4 := hB3.trans (hb.mono hs3)
                have hs4 := hB4.size
                clear hb hHL3 hHL3' hB3 hs3 hX0 hbig
                obtain ⟨A1, c1, rfl⟩ := slice_of_own hv
                obtain ⟨l, hl⟩ : ∃ l, d.filter (fun x => !decide (x.en ≤ y6)) = l := ⟨_, rfl⟩
                have hle : l.length ≤ m := by rw [← HD.out, ← hl]; exact List.length_filter_le _ _
                have hrl : rightB l = true := by rw [← hl]; exact right_filter HR.out _
                have hen : ∀ j, j < l.length → y6 < (gRg l j).en := fun j hj => by
                  have hm := gRg_mem hj
                  rw [← hl] at hm
                  have := (List.mem_filter.1 hm).2
                  rw [hl] at this
                  simpa using this
                rw [hl] at hv ⊢
                obtain ⟨m1, hm1⟩ : ∃ m1, l.length = m1 := ⟨_, rfl⟩
                rw [hm1] at hv hle hen ⊢
                have HM1 := Lib.hid hm1
                have HRL := Lib.hid hrl
                have HEN := Lib.hid hen
                have hv4 : Sl w4 w4.heap.size 5 A1 m1 c1 (flatRg l) := Sl.of_own hv
                have HV4 := Lib.hid hv4
                have HHL4 := Lib.hid hHL4'
                clear hl hm1 hrl hen hv hv4 hHL4 hHL4' HR HD
                have hm50 : m1 ≤ 50 + i := by omega
                go_wp2_with fail
                go_loopw [10] (fun kv wr => ∃ k : Nat, k ≤ m1 ∧ kv = .int .i64 k ∧ Below w4.heap.size w4 wr) (fun kv _ => m1 - (intOf kv).toNat)
                case atStart => exact ⟨0, by omega, rfl, Below.refl _ _⟩
                case round =>
                  obtain ⟨k, hk, rfl, hb⟩ := hrel
                  have hsz := hb.size
                  by_cases hkm : k < m1
                  · obtain ⟨ad1, rfl, hab1, e0, e1, e2, e3, e4⟩ := (HV4.out.below hb).lst.atRg HM1.out hkm
                    have hx := HEN.out k hkm
                    obtain ⟨z, hz⟩ : ∃ z, (gRg l k).en = z := ⟨_, rfl⟩
                    rw [hz] at e3 hx
                    have hXX := hX4.below hb hX4.lt
                    have k6 : wr.cell? ⟨bx, 6, none⟩ = some (.int .i64 y6) := hXX.cell 6
                    have hdz : decide (z ≤ y6) = false := by simp; omega
                    clear e0 e1 e2 e4 hz hXX hx
                    go_wp2_with fail
                    have q_e3 := fun d os => cell_regrown e3 d os
                    have q_k6 := fun d os => cell_regrown k6 d os
                    try simp only [List.append]
                    first | refine wp_region_text_below ?_ | refine wp_region_quiet_below (by kernel_rfl) (by kernel_rfl) ?_
                    repeat (go_big_quiet_step ((fail)))
                    refine wpQuiet_nil ?_
                    intro _ hqw
                    obtain ⟨pq, hqw⟩ := hqw
                    subst hqw
                    clear q_e3 q_k6
                    have hb2 := hb.trans ((below_regrown wr pq.d pq.os).mono hsz)
                    clear e3 k6 hb
                    generalize grow (redrawn wr pq.d) pq.os = wq at *
                    go_wp2
                    go_roundw
                    case rel => exact ⟨k + 1, by omega, by go_num, hb2⟩
                    case measure => simp [intOf]; omega
                  · go_wp2_with fail
                    refine (right_any A1 m1 c1 l wr HM1.out (by omega) (HV4.out.up hb)).mono ?_
                    rw [HRL.out]
                    rintro e w6 ⟨rfl, hb6⟩
                    have hb7 := hb.trans (hb6.mono hsz)
                    have hB7 := hB4.trans (hb7.mono hs4)
                    have hV7 := HV4.out.up hb7
                    have hL7 := HHL4.out.below (hb7.mono hs4)
                    have hgt : ¬ (m < m1) := by omega
                    have HV7 := Lib.hid hV7
                    have HL7 := Lib.hid hL7
                    clear hb hb6 hb7 hV7 hL7 hX4 HV4 HHL4
                    go_wp2
                    go_roundw
                    case rel => exact ⟨A1, m1, c1, l, i + 1, rfl, by go_num, by omega, HM1, by omega, HRL, HV7, hB7, HL7⟩
                    case measure => simp [intOf]; omega
          case rest =>
            as_aux_lemma =>
              revert wc
              intro w4 hcut
              obtain ⟨rfl, A1, m1, c1, l, q, rfl, rfl, HM1, HACT, hwh, HV, hb⟩ := hcut
              have hshort := HACT.out.short
              rw [HM1.out, HD.out] at hshort
              have hX4 := hX0.below hb hX0.lt
              have HHL4 := Lib.hid (hHL3.up hb)
              have HHL4' := Lib.hid (hHL3'.below (hb.mono hs3))
              have hB4 := hB3.trans (hb.mono hs3)
              have hs4 := hB4.size
              clear hX0 hHL3 hHL3' hB3 hs3 hbig hb
              go_upto_region 27 with fail
              go_cut [147] (fun s147 wx => s147 = .bool false ∧ Below w4.heap.size w4 wx)
              case first =>
                as_aux_lemma =>
                  have hr1 := right_any A1 m1 c1 l w4 HM1.out (by omega) HV.out
                  rw [HACT.out.right] at hr1
                  have HR1 := Lib.hid hr1
                  clear hr1
                  by_cases hq : q = 0
                  · subst hq
                    have hlen := HACT.out.len rfl
                    rw [HM1.out, HD.out] at hlen
                    have k0 : ∀ wy, Below w4.heap.size w4 wy → wy.cell? ⟨bx, 0, none⟩ = some (.int .i64 y0) := fun wy h => (hX4.below h hX4.lt).cell 0
                    rcases hwh with rfl | rfl | rfl
                    · have hbn : ((m1 : Int) - (m : Int) != 1) = false := by simp [dlOf] at hlen; simp; omega
                      clear hlen
                      go_wp2_with fail
                      refine HR1.out.mono ?_
                      rintro e w5 ⟨rfl, hb⟩
                      have k1 := k0 w5 hb
                      clear k0
                      go_wp2_with fail
                      go_meet
                      exact ⟨rfl, hb⟩
                    · have hbn : ((m1 : Int) - (m : Int) != -1) = false := by simp [dlOf] at hlen; simp; omega
                      clear hlen
                      go_wp2_with fail
                      refine HR1.out.mono ?_
                      rintro e w5 ⟨rfl, hb⟩
                      have k1 := k0 w5 hb
                      clear k0
                      go_wp2_with fail
                      go_meet
                      exact ⟨rfl, hb⟩
                    · have hbn : ((m1 : Int) - (m : Int) != 0) = false := by simp [dlOf] at hlen; simp; omega
                      clear hlen
                      go_wp2_with fail
                      refine HR1.out.mono ?_
                      rintro e w5 ⟨rfl, hb⟩
                      have k1 := k0 w5 hb
                      clear k0
                      go_wp2_with fail
                      go_meet
                      exact ⟨rfl, hb⟩
                  · have hqa : (q != 0) = true := by simpa using hq
                    have hqb : (q == 0) = false := by simpa using hq
                    have hsm := same_any A1 A m1 c1 m c l d
                    rw [HACT.out.same hq] at hsm
                    have hld := HACT.out.same hq
                    have HLD := Lib.hid hld
                    have HSM := Lib.hid hsm
                    clear hsm hld hq
                    go_wp2_with fail
                    refine HR1.out.mono ?_
                    rintro e w5 ⟨rfl, hb⟩
                    go_wp2_with fail
                    refine (same_any A1 A m1 c1 m c l d w5 HM1.out HD.out (by omega) (by omega) (HV.out.up hb) (HHL4.out.up hb)).mono ?_
                    rw [decide_eq_true HLD.out]
                    rintro e w6 ⟨rfl, hb6⟩
                    go_wp2_with fail
                    go_meet
                    exact ⟨rfl, hb.trans (hb6.mono hb.size)⟩
              case rest =>
                as_aux_lemma =>
                  revert wc
                  intro w5 hcut
                  obtain ⟨rfl, hb⟩ := hcut
                  have hX5 := hX4.below hb hX4.lt
                  have HHL5 := Lib.hid (HHL4.out.up hb)
                  have HHL5' := Lib.hid (HHL4'.out.below (hb.mono hs4))
                  have HV5 := Lib.hid (HV.out.up hb)
                  have hB5 := hB4.trans (hb.mono hs4)
                  have hs5 := hB5.size
                  have HSL := Lib.hid (sort_of_right HACT.out.right)
                  have HSD := Lib.hid (sort_of_right HR.out)
                  have hah : Ahead d l 0 0 := fun j' h => by omega
                  have HAH := Lib.hid hah
                  clear hb hX4 HHL4 HHL4' HV hB4 hs4 hah
                  go_wp2_with fail
                  go_loopw [12, 13] (fun jv kv wr => ∃ j k : Nat, jv = .int .i64 j ∧ kv = .int .i64 k ∧ k ≤ m ∧ j ≤ m1 ∧ Hid (Ahead d l j k) ∧ Below w5.heap.size w5 wr) (fun _ kv _ => m - (intOf kv).toNat)
                  case atStart => exact ⟨0, 0, rfl, rfl, by omega, by omega, HAH, Below.refl _ _⟩
                  case round =>
                    clear HAH
                    obtain ⟨j, k, rfl, rfl, hk, hj, HAH, hb⟩ := hrel
                    have hsz := hb.size
                    by_cases hkm : k < m
                    · obtain ⟨ad1, rfl, hab1, e0, e1, e2, e3, e4⟩ := (HHL5.out.up hb).lst.atRg HD.out hkm
                      obtain ⟨x, hx⟩ : ∃ x, gRg d k = x := ⟨_, rfl⟩
                      rw [hx] at e0 e1 e2 e3 e4
                      have HX := Lib.hid hx
                      clear hx
                      have hX6 := hX5.below hb hX5.lt
                      have k1 : wr.cell? ⟨bx, 1, none⟩ = some (.int .i64 y1) := hX6.cell 1
                      have k2 : wr.cell? ⟨bx, 2, none⟩ = some (.int .i64 y2) := hX6.cell 2
                      have k3 : wr.cell? ⟨bx, 3, none⟩ = some (.int .i64 y3) := hX6.cell 3
                      have hxl := hX6.lt
                      obtain ⟨own, how⟩ : ∃ own, sameR x r = own := ⟨_, rfl⟩
                      have HOW := Lib.hid how
                      clear how hX6
                      go_upto_region 33 with fail
                      go_cut [14] (fun s14 wx => s14 = .bool own ∧ Below wr.heap.size wr wx)
                      case first =>
                        as_aux_lemma =>
                          obtain ⟨t1, ht1⟩ : ∃ t, (x.fr == y1) = t := ⟨_, rfl⟩
                          obtain ⟨t2, ht2⟩ : ∃ t, (x.tn == y2) = t := ⟨_, rfl⟩
                          obtain ⟨t3, ht3⟩ : ∃ t, (x.st == y3) = t := ⟨_, rfl⟩
                          have hres : own = (t1 && (t2 && t3)) := by
                            rw [← HOW.out, HRR.out, ← ht1, ← ht2, ← ht3]
                            unfold sameR
                            rw [Bool.eq_iff_iff]
                            simp
                          have HRES := Lib.hid hres
                          clear hres
                          cases t1 <;> cases t2 <;> cases t3
                          all_goals
                            have q_e0 := fun d os => cell_regrown e0 d os
                            have q_e1 := fun d os => cell_regrown e1 d os
                            have q_e2 := fun d os => cell_regrown e2 d os
                            have q_k1 := fun d os => cell_regrown k1 d os
                            have q_k2 := fun d os => cell_regrown k2 d os
                            have q_k3 := fun d os => cell_regrown k3 d os
                            try simp only [List.append]
                            first | refine wp_region_text_below ?_ | refine wp_region_quiet_below (by kernel_rfl) (by kernel_rfl) ?_
                            repeat (go_big_quiet_step ((fail)))
                            refine wpQuiet_nil ?_
                            intro _ hqw
                            obtain ⟨pq, hqw⟩ := hqw
                            subst hqw
                            clear q_e0 q_e1 q_e2 q_k1 q_k2 q_k3
                            have hbq := below_regrown wr pq.d pq.os
                            generalize grow (redrawn wr pq.d) pq.os = wq at *
                            go_wp2_with fail
                            go_meet
                            exact ⟨by rw [HRES.out]; rfl, hbq⟩
                      case rest =>
                        as_aux_lemma =>
                          revert wc
                          intro w6 hcut
                          obtain ⟨rfl, hb6⟩ := hcut
                          have hb6' := hb.trans (hb6.mono hsz)
                          clear e0 e1 e2 e3 e4 k1 k2 k3 hb hb6 hsz
                          have hsz6 := hb6'.size
                          go_wp2_with fail
                          go_loopw [12] (fun jv wr => ∃ j2 : Nat, jv = .int .i64 j2 ∧ j2 ≤ m1 ∧ Hid (Ahead d l j2 k) ∧ Below w6.heap.size w6 wr) (fun jv _ => m1 - (intOf jv).toNat)
                          case atStart => exact ⟨j, rfl, hj, HAH, Below.refl _ _⟩
                          case round =>
                            clear HAH hj
                            obtain ⟨j2, rfl, hj2, HAH, hb⟩ := hrel
                            have hsz := hb.size
                            have hb8 := hb6'.trans (hb.mono hsz6)
                            have hs8 := hb8.size
                            by_cases hjm : j2 < m1
                            · have hdj : decide (j2 < m1) = true := by simpa using hjm
                              obtain ⟨ad2, he2, hab2, e0, e1, e2, e3, e4⟩ := (HHL5.out.up hb8).lst.atRg HD.out hkm
                              injection he2 with he2
                              subst he2
                              rw [HX.out] at e0 e1 e2 e3 e4
                              obtain ⟨ad3, rfl, hab3, f0, f1, f2, f3, f4⟩ := (HV5.out.up hb8).lst.atRg HM1.out hjm
                              obtain ⟨z, hz⟩ : ∃ z, gRg l j2 = z := ⟨_, rfl⟩
                              rw [hz] at f0 f1 f2 f3 f4
                              obtain ⟨y, hy⟩ : ∃ y, cmpR z x = y := ⟨_, rfl⟩
                              have HZ := Lib.hid hz
                              have HY := Lib.hid hy
                              clear hz hy
                              by_cases hy0 : y < 0
                              · have hdy : decide (y < 0) = true := by simpa using hy0
                                have hnx := ahead_step HSD.out (by have := HD.out; omega) HAH.out (by rw [HZ.out, HX.out, HY.out]; exact hy0)
                                have HNX := Lib.hid hnx
                                clear hnx hy0
                                go_wp2_with fail
                                have q_e0 := fun d os => cell_regrown e0 d os
                                have q_e1 := fun d os => cell_regrown e1 d os
                                have q_e2 := fun d os => cell_regrown e2 d os
                                have q_e3 := fun d os => cell_regrown e3 d os
                                have q_e4 := fun d os => cell_regrown e4 d os
                                have q_f0 := fun d os => cell_regrown f0 d os
                                have q_f1 := fun d os => cell_regrown f1 d os
                                have q_f2 := fun d os => cell_regrown f2 d os
                                have q_f3 := fun d os => cell_regrown f3 d os
                                have q_f4 := fun d os => cell_regrown f4 d os
                                try simp only [List.append]
                                first | refine wp_region_text_below ?_ | refine wp_region_quiet_below (by kernel_rfl) (by kernel_rfl) ?_
                                repeat (go_big_quiet_step ((go_at_call 14; with_reducible exact Calls.regrown_of (HY.out ▸ cmpR_any z x _))))
                                refine wpQuiet_nil ?_
                                intro _ hqw
                                obtain ⟨pq, hqw⟩ := hqw
                                subst hqw
                                clear q_e0 q_e1 q_e2 q_e3 q_e4 q_f0 q_f1 q_f2 q_f3 q_f4
                                have hb9 := hb.trans ((below_regrown wr pq.d pq.os).mono hsz)
                                clear e0 e1 e2 e3 e4 f0 f1 f2 f3 f4 hb hb8
                                generalize grow (redrawn wr pq.d) pq.os = wq at *
                                go_wp2
                                go_roundw
                                case rel => exact ⟨j2 + 1, by go_num, by omega, HNX, hb9⟩
                                case measure => simp [intOf]; omega
                              · have hdy : decide (y < 0) = false := by simpa using hy0
                                have hst : j2 < l.length → 0 ≤ cmpR (gRg l j2) (gRg d k) := fun _ => by rw [HZ.out, HX.out, HY.out]; omega
                                have HST := Lib.hid hst
                                clear hst hy0
                                go_wp2_with fail
                                have q_e0 := fun d os => cell_regrown e0 d os
                                have q_e1 := fun d os => cell_regrown e1 d os
                                have q_e2 := fun d os => cell_regrown e2 d os
                                have q_e3 := fun d os => cell_regrown e3 d os
                                have q_e4 := fun d os => cell_regrown e4 d os
                                have q_f0 := fun d os => cell_regrown f0 d os
                                have q_f1 := fun d os => cell_regrown f1 d os
                                have q_f2 := fun d os => cell_regrown f2 d os
                                have q_f3 := fun d os => cell_regrown f3 d os
                                have q_f4 := fun d os => cell_regrown f4 d os
                                try simp only [List.append]
                                first | refine wp_region_text_below ?_ | refine wp_region_quiet_below (by kernel_rfl) (by kernel_rfl) ?_
                                repeat (go_big_quiet_step ((go_at_call 14; with_reducible exact Calls.regrown_of (HY.out ▸ cmpR_any z x _))))
                                refine wpQuiet_nil ?_
                                intro _ hqw
                                obtain ⟨pq, hqw⟩ := hqw
                                subst hqw
                                clear q_e0 q_e1 q_e2 q_e3 q_e4 q_f0 q_f1 q_f2 q_f3 q_f4
                                have hb9 := hb8.trans ((below_regrown wr pq.d pq.os).mono hs8)
                                clear e0 e1 e2 e3 e4 f0 f1 f2 f3 f4 hb hb8
                                generalize grow (redrawn wr pq.d) pq.os = wq at *
                                have hsq := hb9.size
                                cases own
                                · have hsp := ahead_stop HSL.out (by have := HD.out; omega) HAH.out (HACT.out.keep _ (gRg_mem (by have := HD.out; omega)) (by rw [HX.out]; exact HOW.out)) HST.out
                                  have hzx : z = x := by rw [← HZ.out, ← HX.out]; exact hsp.2
                                  subst hzx
                                  clear hsp
                                  have hdg : decide (m1 ≤ j2) = false := by simp; omega
                                  obtain ⟨ad2, he2, hab2, e0, e1, e2, e3, e4⟩ := (HHL5.out.up hb9).lst.atRg HD.out hkm
                                  injection he2 with he2
                                  subst he2
                                  rw [HX.out] at e0 e1 e2 e3 e4
                                  obtain ⟨ad3', he3, hab3, f0, f1, f2, f3, f4⟩ := (HV5.out.up hb9).lst.atRg HM1.out hjm
                                  injection he3 with he3
                                  subst he3
                                  rw [HZ.out] at f0 f1 f2 f3 f4
                                  have hrun : ∀ w0, (binOp .neq 27 (.agg #[.int .i64 z.fr, .int .i64 z.tn, .int .i64 z.st, .int .i64 z.en, .int .i64 z.ow]) (.agg #[.int .i64 z.fr, .int .i64 z.tn, .int .i64 z.st, .int .i64 z.en, .int .i64 z.ow])).run Try.prog w0 = .ok (.bool false) w0 := fun w0 => by rw [neqRg z z]; simp
                                  go_wp2_with fail
                                  have q_e0 := fun d os => cell_regrown e0 d os
                                  have q_e1 := fun d os => cell_regrown e1 d os
                                  have q_e2 := fun d os => cell_regrown e2 d os
                                  have q_e3 := fun d os => cell_regrown e3 d os
                                  have q_e4 := fun d os => cell_regrown e4 d os
                                  have q_f0 := fun d os => cell_regrown f0 d os
                                  have q_f1 := fun d os => cell_regrown f1 d os
                                  have q_f2 := fun d os => cell_regrown f2 d os
                                  have q_f3 := fun d os => cell_regrown f3 d os
                                  have q_f4 := fun d os => cell_regrown f4 d os
                                  try simp only [List.append]
                                  first | refine wp_region_text_below ?_ | refine wp_region_quiet_below (by kernel_rfl) (by kernel_rfl) ?_
                                  repeat (go_big_quiet_step ((fail)))
                                  refine wpQuiet_nil ?_
                                  intro _ hqw
                                  obtain ⟨pq, hqw⟩ := hqw
                                  subst hqw
                                  clear q_e0 q_e1 q_e2 q_e3 q_e4 q_f0 q_f1 q_f2 q_f3 q_f4
                                  have hb10 := hb9.trans ((below_regrown wq pq.d pq.os).mono hsq)
                                  clear e0 e1 e2 e3 e4 f0 f1 f2 f3 f4 hb9 hrun
                                  generalize grow (redrawn wq pq.d) pq.os = wq2 at *
                                  go_wp2
                                  go_roundw
                                  case rel => exact ⟨j2, k + 1, rfl, by go_num, by omega, by omega, ahead_more HAH.out, hb10⟩
                                  case measure => simp [intOf]; omega
                                · go_wp2_with fail
                                  try simp only [List.append]
                                  first | refine wp_region_text_below ?_ | refine wp_region_quiet_below (by kernel_rfl) (by kernel_rfl) ?_
                                  repeat (go_big_quiet_step ((fail)))
                                  refine wpQuiet_nil ?_
                                  intro _ hqw
                                  obtain ⟨pq, hqw⟩ := hqw
                                  subst hqw
                                  have hb10 := hb9.trans ((below_regrown wq pq.d pq.os).mono hsq)
                                  clear hb9
                                  generalize grow (redrawn wq pq.d) pq.os = wq2 at *
                                  go_wp2
                                  go_roundw
                                  case rel => exact ⟨j2, k + 1, rfl, by go_num, by omega, by omega, ahead_more HAH.out, hb10⟩
                                  case measure => simp [intOf]; omega
                            · obtain rfl : j2 = m1 := by omega
                              have hdj : decide (j2 < j2) = false := by simp
                              cases own
                              · exfalso
                                have hsp := ahead_stop HSL.out (by have := HD.out; omega) HAH.out (HACT.out.keep _ (gRg_mem (by have := HD.out; omega)) (by rw [HX.out]; exact HOW.out)) (fun h => by have := HM1.out; omega)
                                have := HM1.out
                                have := hsp.1
                                omega
                              · go_wp2_with fail
                                try simp only [List.append]
                                first | refine wp_region_text_below ?_ | refine wp_region_quiet_below (by kernel_rfl) (by kernel_rfl) ?_
                                repeat (go_big_quiet_step ((fail)))
                                refine wpQuiet_nil ?_
                                intro _ hqw
                                obtain ⟨pq, hqw⟩ := hqw
                                subst hqw
                                have hb9 := hb8.trans ((below_regrown wr pq.d pq.os).mono hs8)
                                clear hb8 hb
                                generalize grow (redrawn wr pq.d) pq.os = wq at *
                                have hsq := hb9.size
                                go_wp2_with fail
                                try simp only [List.append]
                                first | refine wp_region_text_below ?_ | refine wp_region_quiet_below (by kernel_rfl) (by kernel_rfl) ?_
                                repeat (go_big_quiet_step ((fail)))
                                refine wpQuiet_nil ?_
                                intro _ hqw
                                obtain ⟨pq, hqw⟩ := hqw
                                subst hqw
                                have hb10 := hb9.trans ((below_regrown wq pq.d pq.os).mono hsq)
                                clear hb9
                                generalize grow (redrawn wq pq.d) pq.os = wq2 at *
                                go_wp2
                                go_roundw
                                case rel => exact ⟨j2, k + 1, rfl, by go_num, by omega, by omega, ahead_more HAH.out, hb10⟩
                                case measure => simp [intOf]; omega
                    · obtain rfl : k = m := by omega
                      have hB7 := hB5.trans (hb.mono hs5)
                      have HV7 := Lib.hid (HV5.out.up hb)
                      have HL7 := Lib.hid (HHL5'.out.below (hb.mono hs5))
                      have HRL := Lib.hid HACT.out.right
                      clear hb
                      go_wp2
                      go_roundw
                      case rel => exact ⟨A1, m1, c1, l, i + 1, rfl, by go_num, by omega, HM1, by omega, HRL, HV7, hB7, HL7⟩
                      case measure => simp [intOf]; omega
        · obtain rfl : i = n' := by omega
          go_wp2_with fail
          go_ret
          exact ⟨rfl, hB⟩
theorem rangesRight_own : ownKnob Try.prog.godebug = none := by kernel_rfl
theorem rangesRight_laidOut : laidOutB Try.prog = true := by kernel_rfl

set_option maxHeartbeats 1000000 in
set_option maxRecDepth 100000 in
theorem rangesRight_lifted (os : Os) (started : os.Started) (H : Type) (enc : TypeId × Value → H) :
    ReturnsInHanded {} Try.checked os 3 .any (Rows.rangesRightSpec.pre6 enc Try.prog Try.f3 Rows.rangesRightRow.domain false) (Rows.rangesRightSpec.post enc Try.prog Try.f3 false true false false) := by
  refine returnsInHanded_of_change (C := Try.checked) rangesRight_own started (by kernel_rfl) Try.func3
    (ChangeSpec.witness6 (enc := enc) (C := Try.checked) false ⟨#[], #[.slice none 0 0, .slice none 0 0], []⟩ 8 (by kernel_rfl) (by kernel_rfl) (by kernel_rfl) (by kernel_rfl)) ?_
  intro W base args ds gs before hval0 hW hcnd _
  have hval : ∀ (j : Nat) t v, Try.f3.params[j]? = some t → args[j]? = some v → Value.okWide Try.prog W .any base t v := hval0
  have hW' := hW
  obtain ⟨p, q, hA0, hV, rfl, hfz, hnd⟩ := hW
  have hA : DataW.TrodAll enc Try.prog W 0 (fun _ => true) true Try.f3.params.toList args.toList ds p := hA0
  rw [Try.params3] at hA hval
  obtain ⟨v0, vs0, d0, ds0, p0, q0, hargs, rfl, rfl, h0, r0⟩ := trodAll_cons hA
  obtain ⟨v1, vs1, d1, ds1, p1, q1, rfl, rfl, rfl, h1, r1⟩ := trodAll_cons r0
  obtain ⟨rfl, rfl, rfl⟩ := trodAll_nil r1
  obtain rfl : args = #[v0, v1] := by cases args; simp_all
  obtain ⟨rfl, rfl⟩ := trodVars_none hV
  obtain ⟨A0, n0, c0, ns0, rfl, hl0, nl0, w0⟩ := open_rowsS 4 (K := 5) Try.underlying22 (by kernel_rfl) (by kernel_rfl) (by omega) (hval 0 22 v0 rfl rfl) h0
  obtain ⟨A1, n1, c1, ns1, rfl, hl1, nl1, w1⟩ := open_rowsS 4 (K := 7) Try.underlying23 (by kernel_rfl) (by kernel_rfl) (by omega) (hval 1 23 v1 rfl rfl) h1
  clear hA0 hval0
  refine (rangesRight_walk A0 n0 c0 ns0 A1 n1 c1 ns1 nl0 w0 nl1 w1 W hl0 hl1).mono fun e W' ⟨he, bel⟩ => ?_
  subst he
  exact ⟨_, rfl, law_post rangesRight_laidOut (by kernel_rfl) rfl Try.underlying4 rfl rfl hW' bel⟩

theorem rangesRight_proved : Rows.RangesRightSaid :=
  OpenClaim.holds_of_wide 3 Try.f3 rfl rfl rfl rfl rfl rfl rfl ⟨rfl, rfl, rfl, rfl, rfl⟩ rfl rfl rfl rfl rfl (by kernel_rfl) Try.func3 (by kernel_rfl)
    (of_decide_eq_true (by kernel_rfl)) (by unfold Func.isWrapper; first | (rw [if_pos (by decide +kernel)]; kernel_rfl) | (rw [if_neg (by decide +kernel)]; exact ⟨rfl, rfl⟩))
    (fun os started H enc _ => rangesRight_lifted os started H enc)
#print axioms rangesRight_proved
end Go.Proofs.Ytglhembdlipccaa
