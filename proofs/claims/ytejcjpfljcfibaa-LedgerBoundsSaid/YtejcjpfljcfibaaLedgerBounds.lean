/- If all is booked on one contact from nothing on, no class has more than its volume, and a greater class has no less room: LedgerBounds returns true. No condition. -/
import Derived.Test.YtejcjpfljcfibaaRows
import Derived.Test.YtejcjpfljcfibaaLedgerBoundsMath
import Derived.Test.YtejcjpfljcfibaaTyAl
import Derived.Test.YtejcjpfljcfibaaSmall09
import Derived.Test.YtejcjpfljcfibaaOpenS
import Derived.Test.YtejcjpfljcfibaaQTail
import Derived.Deep.CutBlock
import Derived.Deep.DeepCutAuto
namespace Go.Proofs.Ytejcjpfljcfibaa
open Go.ChangeShapes Go.WideShapes Go.ChangeAt Go.RowKit Go.Sort
set_option linter.unusedSimpArgs false
set_option linter.unusedVariables false
theorem addr_block (a : Addr) (n : Nat) : (a.add n).block = a.block := by unfold Addr.add; split <;> rfl
theorem cell_below {w w' : World} {a : Addr} {v : Value} (hb : Below w.heap.size w w') (h : w.cell? a = some v) (hl : a.block < w.heap.size) : w'.cell? a = some v := by rw [hb.cell hl]; exact h
/-- A slice that reads as a ledger of that contact. -/
def OneS (c : Ct) (s : Value) (wx : World) : Prop :=
  ∃ (A1 : Option Addr) (m1 k1 : Nat) (q : List Bk), s = .slice A1 m1 k1 ∧ m1 ≤ 1 ∧ Hid (q.length = m1) ∧ Hid (OneC c q) ∧ Hid (Sl wx wx.heap.size 4 A1 m1 k1 (flatBk q))
theorem OneS.up {c : Ct} {s : Value} {w w' : World} (h : OneS c s w) (hb : Below w.heap.size w w') : OneS c s w' := by
  obtain ⟨A, m, k, q, e, h1, h2, h3, h4⟩ := h
  exact ⟨A, m, k, q, e, h1, h2, h3, h4.out.up hb⟩
theorem OneS.of {c : Ct} {v : Value} {q : List Bk} {w : World} {base : Nat} (ho : OneC c q) (h : w.ownsRow base 43 4 v q.length (flatBk q)) : OneS c v w := by
  obtain ⟨A, k, rfl⟩ := slice_of_own h
  exact ⟨A, q.length, k, q, rfl, oneC_len ho, rfl, ho, Sl.of_own h⟩
set_option maxHeartbeats 16000000 in
set_option maxRecDepth 100000 in
theorem bounds_walk (A' : Option Addr) (n' c' : Nat) (t : List Al) (c : Ct) (ht : t.length = n') (w : World) (hl' : Sl w w.heap.size 9 A' n' c' (flatAl t)) :
    Calls Try.prog 6 #[.agg #[.int .i64 c.id, .int .i64 c.fr, .int .i64 c.tn, .int .i64 c.st, .int .i64 c.en, .int .i64 c.rt], .slice A' n' c'] w fun e w' => e = .returned (.bool true) ∧ Below w.heap.size w w' := by
  have hB : Below w.heap.size w (w.alloc (.cells #[.int .i64 c.id, .int .i64 c.fr, .int .i64 c.tn, .int .i64 c.st, .int .i64 c.en, .int .i64 c.rt] 29)) := by (repeat (first | exact Below.refl _ _ | refine Below.alloc ?_ (by first | omega | (simp; done) | (simp; omega)) _ | refine Below.setCell ?_ (by first | omega | (simp; done) | (simp; omega)) _ | refine Below.drew ?_))
  have hXc := Blok.new w 29 #[.int .i64 c.id, .int .i64 c.fr, .int .i64 c.tn, .int .i64 c.st, .int .i64 c.en, .int .i64 c.rt]
  replace hl' := hl'.below hB
  have hs := hB.size
  by_cases hn : 50 < n'
  · go_enter Try.func6, Try.ntmps6
    go_wp2_with fail
    generalize (w.alloc (.cells #[.int .i64 c.id, .int .i64 c.fr, .int .i64 c.tn, .int .i64 c.st, .int .i64 c.en, .int .i64 c.rt] 29)) = w0 at *
    refine (small09 w0).mono ?_
    rintro e w1 ⟨rfl, hb⟩
    replace hB := hB.trans (hb.mono hs)
    clear hb
    go_wp2
    go_ret
    exact ⟨rfl, hB⟩
  · have g1 : decide ((n' : Int) > 50) = false := by simp; omega
    go_enter Try.func6, Try.ntmps6
    go_wp2_with fail
    generalize (w.alloc (.cells #[.int .i64 c.id, .int .i64 c.fr, .int .i64 c.tn, .int .i64 c.st, .int .i64 c.en, .int .i64 c.rt] 29)) = w0 at *
    refine (small09 w0).mono ?_
    rintro e w1 ⟨rfl, hb⟩
    replace hXc := hXc.below hb hXc.lt
    replace hl' := hl'.below (hb.mono hs)
    replace hB := hB.trans (hb.mono hs)
    replace hs := hB.size
    clear hb
    have k0 : w1.cell? ⟨w.heap.size, 0, none⟩ = some (.int .i64 c.id) := hXc.cell 0
    have k1 : w1.cell? ⟨w.heap.size, 1, none⟩ = some (.int .i64 c.fr) := hXc.cell 1
    have k2 : w1.cell? ⟨w.heap.size, 2, none⟩ = some (.int .i64 c.tn) := hXc.cell 2
    have k3 : w1.cell? ⟨w.heap.size, 3, none⟩ = some (.int .i64 c.st) := hXc.cell 3
    have k4 : w1.cell? ⟨w.heap.size, 4, none⟩ = some (.int .i64 c.en) := hXc.cell 4
    have k5 : w1.cell? ⟨w.heap.size, 5, none⟩ = some (.int .i64 c.rt) := hXc.cell 5
    have lt_c := hXc.lt
    obtain ⟨ok, hok⟩ : ∃ b, contactB c.id c.fr c.tn c.st c.en c.rt = b := ⟨_, rfl⟩
    obtain ⟨v, hv⟩ : ∃ v, volumeF c.id c.fr c.tn c.st c.en c.rt = v := ⟨_, rfl⟩
    have hvo := volC_ok c
    unfold volC at hvo
    rw [hv] at hvo
    obtain ⟨v0, v1⟩ := hvo
    have HOK := Lib.hid hok
    have HV := Lib.hid hv
    clear hok hv
    go_wp2_with fail
    refine (contact_is ok HOK.out _).mono ?_
    rintro e w2 ⟨rfl, hb⟩
    replace hXc := hXc.below hb hXc.lt
    replace hl' := hl'.below (hb.mono hs)
    replace hB := hB.trans (hb.mono hs)
    replace hs := hB.size
    clear hb k0 k1 k2 k3 k4 k5 lt_c
    cases ok
    · go_wp2_with fail
      go_ret
      exact ⟨rfl, hB⟩
    · skip
      have HT := Lib.hid ht
      have HL' := Lib.hid hl'
      have HX := Lib.hid hXc
      have HB := Lib.hid hB
      clear ht hl' hXc g1
      go_wp2
      go_loopw [6, 7] (fun lv iv wr => ∃ (i : Nat), OneS c lv wr ∧ iv = .int .i64 i ∧ i ≤ n' ∧ Below w.heap.size w wr ∧ Hid (Sl wr w.heap.size 9 A' n' c' (flatAl t)) ∧ Hid (Blok wr w.heap.size 29 #[.int .i64 c.id, .int .i64 c.fr, .int .i64 c.tn, .int .i64 c.st, .int .i64 c.en, .int .i64 c.rt])) (fun _ iv _ => n' - (intOf iv).toNat)
      case atStart => exact ⟨0, ⟨none, 0, 0, [], rfl, by omega, rfl, oneC_nil c, Sl.nil0 _ _ _⟩, rfl, by omega, HB.out, HL'.out, HX.out⟩
      case round =>
        clear HL' HX HB hB hs
        obtain ⟨i, ⟨A, m, k, d, rfl, hm, HD, HO, HL⟩, rfl, hi, hB, HL', HX⟩ := hrel
        have hs := hB.size
        by_cases hin : i < n'
        · obtain ⟨ad, rfl, hab, c0, c1, c2, c3, c4, c5, c6, c7, c8⟩ := HL'.out.lst.atAl HT.out hin
          obtain ⟨y, hy⟩ : ∃ y, gAl t i = y := ⟨_, rfl⟩
          rw [hy] at c0 c1 c2 c3 c4 c5 c6 c7 c8
          obtain ⟨y0, y1, y2, y3, y4, y5, y6, y7, y8⟩ := y
          simp only at c0 c1 c2 c3 c4 c5 c6 c7 c8
          clear hy c1 c2 c3 c4 c5 c6
          have k0 : wr.cell? ⟨w.heap.size, 0, none⟩ = some (.int .i64 c.id) := HX.out.cell 0
          have k1 : wr.cell? ⟨w.heap.size, 1, none⟩ = some (.int .i64 c.fr) := HX.out.cell 1
          have k2 : wr.cell? ⟨w.heap.size, 2, none⟩ = some (.int .i64 c.tn) := HX.out.cell 2
          have k3 : wr.cell? ⟨w.heap.size, 3, none⟩ = some (.int .i64 c.st) := HX.out.cell 3
          have k4 : wr.cell? ⟨w.heap.size, 4, none⟩ = some (.int .i64 c.en) := HX.out.cell 4
          have k5 : wr.cell? ⟨w.heap.size, 5, none⟩ = some (.int .i64 c.rt) := HX.out.cell 5
          have lt_c := HX.out.lt
          have hal : (ad.add (i * 9)).block < w.heap.size := by rw [addr_block]; exact hab
          go_wp2_with fail
          have q_c7 := fun d os => cell_regrown c7 d os
          have q_c8 := fun d os => cell_regrown c8 d os
          have q_k0 := fun d os => cell_regrown k0 d os
          have q_k1 := fun d os => cell_regrown k1 d os
          have q_k2 := fun d os => cell_regrown k2 d os
          have q_k3 := fun d os => cell_regrown k3 d os
          have q_k4 := fun d os => cell_regrown k4 d os
          have q_k5 := fun d os => cell_regrown k5 d os
          try simp only [List.append]
          refine wp_region_call 12 (by kernel_rfl) (by kernel_rfl) ?_
          simp only [Nat.reduceAdd, List.take_succ_cons, List.take_zero, List.drop_succ_cons, List.drop_zero]
          repeat (go_big_quiet_step (fail))
          refine wpQuiet_nil ?_
          intro w4 hqw K hK
          obtain ⟨pq, hqw⟩ := hqw
          subst hqw
          clear q_c7 q_c8 q_k0 q_k1 q_k2 q_k3 q_k4 q_k5
          have hb := below_regrown wr pq.d pq.os
          replace c0 := cell_below hb c0 (Nat.lt_of_lt_of_le hal hs)
          replace c7 := cell_below hb c7 (Nat.lt_of_lt_of_le hal hs)
          replace c8 := cell_below hb c8 (Nat.lt_of_lt_of_le hal hs)
          replace HL := HL.out.up hb
          replace HL' := HL'.out.below (hb.mono hs)
          replace HX := HX.out.below hb HX.out.lt
          replace hB := hB.trans (hb.mono hs)
          replace hs := hB.size
          clear k0 k1 k2 k3 k4 k5 lt_c
          generalize grow (redrawn wr pq.d) pq.os = w4 at *
          clear hb
          obtain ⟨p, hp⟩ : ∃ p, bookB d c y7 y8 = p := ⟨_, rfl⟩
          have HP := Lib.hid hp
          have HO1 := Lib.hid (oneC_book y7 y8 HO.out)
          clear hp
          refine wpOp_of rfl ?_
          go_simp
          refine (book_any A m k d c y7 y8 w4 HD.out (by omega) HL HO.out.1 p HP.out _ rfl).mono ?_
          rintro e w5 ⟨v8, rfl, hv, hb⟩
          refine hK _ _ ?_
          clear hK K
          repeat still_step
          refine wpStill_nil ?_
          have c0' := cell_below hb c0 (Nat.lt_of_lt_of_le hal hs)
          have c7' := cell_below hb c7 (Nat.lt_of_lt_of_le hal hs)
          have c8' := cell_below hb c8 (Nat.lt_of_lt_of_le hal hs)
          have hS := OneS.of HO1.out hv
          replace HL := HL.up hb
          replace HL' := HL'.below (hb.mono hs)
          replace HX := HX.below hb HX.lt
          replace hB := hB.trans (hb.mono hs)
          replace hs := hB.size
          clear hb hv HO1 HP c0 c7 c8
          go_upto_if 50 with fail
          go_cut [8, 9] (fun s8 s9 wx => (∃ b, s9 = .bool b) ∧ OneS c s8 wx ∧ Below w5.heap.size w5 wx)
          case first =>
            by_cases hy : y0 = 1
            · have hyb : (y0 != 1) = false := by simp [hy]
              clear hy
              go_wp2_with fail
              go_meet
              exact ⟨⟨_, rfl⟩, hS, Below.refl _ _⟩
            · have hyb : (y0 != 1) = true := by simp [hy]
              clear hy
              have k0 : w5.cell? ⟨w.heap.size, 0, none⟩ = some (.int .i64 c.id) := HX.cell 0
              have lt_c := HX.lt
              go_wp2_with fail
              have q_c7' := fun d os => cell_regrown c7' d os
              have q_c8' := fun d os => cell_regrown c8' d os
              have q_k0 := fun d os => cell_regrown k0 d os
              try simp only [List.append]
              refine wp_region_call 13 (by kernel_rfl) (by kernel_rfl) ?_
              simp only [Nat.reduceAdd, List.take_succ_cons, List.take_zero, List.drop_succ_cons, List.drop_zero]
              repeat (go_big_quiet_step (fail))
              refine wpQuiet_nil ?_
              intro w6 hqw K hK
              obtain ⟨pq, hqw⟩ := hqw
              subst hqw
              clear q_c7' q_c8' q_k0
              have hb := below_regrown w5 pq.d pq.os
              replace HL := HL.up hb
              clear k0 lt_c c0' c7' c8'
              generalize grow (redrawn w5 pq.d) pq.os = w6 at *
              obtain ⟨p, hp⟩ : ∃ p, relB d c.id y7 y8 = p := ⟨_, rfl⟩
              have HP := Lib.hid hp
              have HO1 := Lib.hid (oneC_rel y7 y8 HO.out)
              clear hp
              refine wpOp_of rfl ?_
              go_simp
              refine (rel_any A m k d c.id y7 y8 w6 HD.out (by omega) HL HO.out.1 p HP.out _ rfl).mono ?_
              rintro e w7 ⟨v9, rfl, hv, hb2⟩
              refine hK _ _ ?_
              clear hK K
              repeat still_step
              refine wpStill_nil ?_
              have hS9 := OneS.of HO1.out hv
              go_wp2_with fail
              go_meet
              exact ⟨⟨_, rfl⟩, hS9, hb.trans (hb2.mono hb.size)⟩
          case rest =>
            revert wc
            intro w6 hcut
            obtain ⟨⟨b, rfl⟩, hS6, hb⟩ := hcut
            have hS0 : OneS c (.slice A m k) w6 := ⟨A, m, k, d, rfl, hm, HD, HO, HL.up hb⟩
            replace HL' := HL'.below (hb.mono hs)
            replace HX := HX.below hb HX.lt
            replace hB := hB.trans (hb.mono hs)
            replace hs := hB.size
            clear hb HL hS c0' c7' c8'
            go_upto_if 68 with fail
            go_cut [6] (fun s6 wx => OneS c s6 wx ∧ w6 = wx)
            case first =>
              cases b
              · go_wp2_with fail
                go_meet
                exact ⟨hS0, rfl⟩
              · go_wp2_with fail
                go_meet
                exact ⟨hS6, rfl⟩
            case rest =>
              obtain ⟨⟨A2, m2, kk, q, rfl, hm2, HQ, HO2, HL2⟩, rfl⟩ := hcut
              clear hS0 hS6
              obtain ⟨x, hx⟩ : ∃ x, rowB q c.id = x := ⟨_, rfl⟩
              have hok := right_ok HO2.out.1 c.id
              have hro := oneC_rooms HO2.out hok
              have hle := HO2.out.2.2
              have hvc : volC c = v := HV.out
              rw [hx, hvc] at hro hle
              rw [hx] at hok
              obtain ⟨r0, hr0⟩ : ∃ r, roomF c x 0 = r := ⟨_, rfl⟩
              obtain ⟨r1, hr1⟩ : ∃ r, roomF c x 1 = r := ⟨_, rfl⟩
              obtain ⟨r2, hr2⟩ : ∃ r, roomF c x 2 = r := ⟨_, rfl⟩
              rw [hr0, hr1, hr2] at hro
              obtain ⟨o0, o1, o2, o3, o4⟩ := hro
              obtain ⟨l0, l1, l2⟩ := hle
              obtain ⟨a0, a1, b0, b1, e0, e1⟩ := hok
              have HX2 := Lib.hid hx
              have HR0 := Lib.hid hr0
              have HR1 := Lib.hid hr1
              have HR2 := Lib.hid hr2
              clear hx hr0 hr1 hr2 hvc
              obtain ⟨xi, ua, ub, uc⟩ := x
              simp only at o0 o1 o2 l0 l1 l2 a0 a1 b0 b1 e0 e1
              have k0 : w6.cell? ⟨w.heap.size, 0, none⟩ = some (.int .i64 c.id) := HX.cell 0
              have k1 : w6.cell? ⟨w.heap.size, 1, none⟩ = some (.int .i64 c.fr) := HX.cell 1
              have k2 : w6.cell? ⟨w.heap.size, 2, none⟩ = some (.int .i64 c.tn) := HX.cell 2
              have k3 : w6.cell? ⟨w.heap.size, 3, none⟩ = some (.int .i64 c.st) := HX.cell 3
              have k4 : w6.cell? ⟨w.heap.size, 4, none⟩ = some (.int .i64 c.en) := HX.cell 4
              have k5 : w6.cell? ⟨w.heap.size, 5, none⟩ = some (.int .i64 c.rt) := HX.cell 5
              have lt_c := HX.lt
              go_wp2_with fail
              refine (used_any A2 m2 kk q c.id w6 HQ.out (by omega) HL2.out (right_sort HO2.out.1) _ HX2.out).mono ?_
              rintro e w7 ⟨rfl, hb⟩
              clear k0 k1 k2 k3 k4 k5 lt_c
              replace HL2 := HL2.out.up hb
              replace HL' := HL'.below (hb.mono hs)
              replace HX := HX.below hb HX.lt
              replace hB := hB.trans (hb.mono hs)
              replace hs := hB.size
              clear hb
              have k0 : w7.cell? ⟨w.heap.size, 0, none⟩ = some (.int .i64 c.id) := HX.cell 0
              have k1 : w7.cell? ⟨w.heap.size, 1, none⟩ = some (.int .i64 c.fr) := HX.cell 1
              have k2 : w7.cell? ⟨w.heap.size, 2, none⟩ = some (.int .i64 c.tn) := HX.cell 2
              have k3 : w7.cell? ⟨w.heap.size, 3, none⟩ = some (.int .i64 c.st) := HX.cell 3
              have k4 : w7.cell? ⟨w.heap.size, 4, none⟩ = some (.int .i64 c.en) := HX.cell 4
              have k5 : w7.cell? ⟨w.heap.size, 5, none⟩ = some (.int .i64 c.rt) := HX.cell 5
              have lt_c := HX.lt
              go_wp2_with fail
              have hbA : Below w7.heap.size w7 (w7.alloc (.cells #[.int .i64 ua, .int .i64 ub, .int .i64 uc] 38)) := by (repeat (first | exact Below.refl _ _ | refine Below.alloc ?_ (by first | omega | (simp; done) | (simp; omega)) _ | refine Below.setCell ?_ (by first | omega | (simp; done) | (simp; omega)) _ | refine Below.drew ?_))
              have hU := Blok.new w7 38 #[.int .i64 ua, .int .i64 ub, .int .i64 uc]
              clear k0 k1 k2 k3 k4 k5 lt_c
              replace HL2 := HL2.up hbA
              replace HL' := HL'.below (hbA.mono hs)
              replace HX := HX.below hbA HX.lt
              replace hB := hB.trans (hbA.mono hs)
              replace hs := hB.size
              clear hbA
              generalize w7.alloc (.cells #[.int .i64 ua, .int .i64 ub, .int .i64 uc] 38) = w8 at *
              generalize w7.heap.size = bu at *
              refine (volume_is v HV.out _).mono ?_
              rintro e w9 ⟨rfl, hb⟩
              replace HL2 := HL2.up hb
              replace HL' := HL'.below (hb.mono hs)
              replace HX := HX.below hb HX.lt
              replace hU := hU.below hb hU.lt
              replace hB := hB.trans (hb.mono hs)
              replace hs := hB.size
              clear hb
              have HHL2 := Lib.hid HL2
              have HHL' := Lib.hid HL'
              have HHX := Lib.hid HX
              have HHU := Lib.hid hU
              have HHB := Lib.hid hB
              have HHS := Lib.hid hs
              have HOK2 := Lib.hid (right_ok HO2.out.1 c.id)
              rw [HX2.out] at HOK2
              have HRT2 := Lib.hid HO2.out.1
              clear HL2 HL' HX hU hB hs
              go_wp2
              go_loopw [12] (fun kv wx => ∃ (j : Nat), kv = .int .i64 j ∧ j ≤ 3 ∧ Below w9.heap.size w9 wx) (fun kv _ => 3 - (intOf kv).toNat)
              case atStart => exact ⟨0, rfl, by omega, Below.refl _ _⟩
              case round =>
                obtain ⟨j, rfl, hj, hb9⟩ := hrel
                have hs9 := hb9.size
                have k0 : wr.cell? ⟨w.heap.size, 0, none⟩ = some (.int .i64 c.id) := (HHX.out.below hb9 HHX.out.lt).cell 0
                have k1 : wr.cell? ⟨w.heap.size, 1, none⟩ = some (.int .i64 c.fr) := (HHX.out.below hb9 HHX.out.lt).cell 1
                have k2 : wr.cell? ⟨w.heap.size, 2, none⟩ = some (.int .i64 c.tn) := (HHX.out.below hb9 HHX.out.lt).cell 2
                have k3 : wr.cell? ⟨w.heap.size, 3, none⟩ = some (.int .i64 c.st) := (HHX.out.below hb9 HHX.out.lt).cell 3
                have k4 : wr.cell? ⟨w.heap.size, 4, none⟩ = some (.int .i64 c.en) := (HHX.out.below hb9 HHX.out.lt).cell 4
                have k5 : wr.cell? ⟨w.heap.size, 5, none⟩ = some (.int .i64 c.rt) := (HHX.out.below hb9 HHX.out.lt).cell 5
                have lt_c := (HHX.out.below hb9 HHX.out.lt).lt
                have q0 : wr.cell? ⟨bu, 0, none⟩ = some (.int .i64 ua) := (HHU.out.below hb9 HHU.out.lt).cell 0
                have q1 : wr.cell? ⟨bu, 1, none⟩ = some (.int .i64 ub) := (HHU.out.below hb9 HHU.out.lt).cell 1
                have q2 : wr.cell? ⟨bu, 2, none⟩ = some (.int .i64 uc) := (HHU.out.below hb9 HHU.out.lt).cell 2
                have lt_u := (HHU.out.below hb9 HHU.out.lt).lt
                have HQL : Hid (∀ d os, Sl (grow (redrawn wr d) os) (grow (redrawn wr d) os).heap.size 4 A2 m2 kk (flatBk q)) := fun d os => (HHL2.out.up hb9).up (below_regrown wr d os)
                by_cases hj3 : j < 3
                · rcases (by omega : j = 0 ∨ j = 1 ∨ j = 2) with rfl | rfl | rfl
                  · skip
                    have d0 : decide (ua < 0) = false := by rw [decide_eq_false_iff_not]; omega
                    have d1 : decide (ua > v) = false := by rw [decide_eq_false_iff_not]; omega
                    have d2 : IntKind.i64.wrap (v - ua) = v - ua := IntWalk.i64_in _ (by omega)
                    have d3 : decide (r0 > v - ua) = false := by rw [decide_eq_false_iff_not]; omega
                    clear o0 o1 o2 o3 o4 l0 l1 l2 a0 a1 b0 b1 e0 e1 v0 v1
                    try simp only [Int.natCast_zero, Int.natCast_one]
                    go_wp2_with fail
                    have q_k0 := fun d os => cell_regrown k0 d os
                    have q_k1 := fun d os => cell_regrown k1 d os
                    have q_k2 := fun d os => cell_regrown k2 d os
                    have q_k3 := fun d os => cell_regrown k3 d os
                    have q_k4 := fun d os => cell_regrown k4 d os
                    have q_k5 := fun d os => cell_regrown k5 d os
                    have q_q0 := fun d os => cell_regrown q0 d os
                    have q_q1 := fun d os => cell_regrown q1 d os
                    have q_q2 := fun d os => cell_regrown q2 d os
                    try simp only [List.append]
                    first | refine wp_region_text_below ?_ | refine wp_region_quiet_below (by kernel_rfl) (by kernel_rfl) ?_
                    repeat (go_big_quiet_step (((go_at_call 25; with_reducible exact Calls.regrown_of (room_any A2 m2 kk q c 0 _ HQ.out (by omega) (HQL.out _ _) (right_sort HRT2.out) _ HX2.out (HOK2.out) r0 HR0.out)))))
                    refine wpQuiet_nil ?_
                    intro _ hqw
                    obtain ⟨pq, hqw⟩ := hqw
                    subst hqw
                    clear q_k0 q_k1 q_k2 q_k3 q_k4 q_k5 q_q0 q_q1 q_q2
                    have hbq := below_regrown wr pq.d pq.os
                    clear k0 k1 k2 k3 k4 k5 lt_c q0 q1 q2 lt_u HQL d0 d1 d2 d3
                    generalize grow (redrawn wr pq.d) pq.os = wq at *
                    go_wp2_with fail
                    go_roundw
                    case rel => exact ⟨1, by go_num, by omega, hb9.trans (hbq.mono hb9.size)⟩
                    case measure => simp [intOf]
                  · skip
                    have d0 : decide (ub < 0) = false := by rw [decide_eq_false_iff_not]; omega
                    have d1 : decide (ub > v) = false := by rw [decide_eq_false_iff_not]; omega
                    have d2 : IntKind.i64.wrap (v - ub) = v - ub := IntWalk.i64_in _ (by omega)
                    have d3 : decide (r1 > v - ub) = false := by rw [decide_eq_false_iff_not]; omega
                    clear o0 o1 o2 o3 o4 l0 l1 l2 a0 a1 b0 b1 e0 e1 v0 v1
                    try simp only [Int.natCast_zero, Int.natCast_one]
                    go_wp2_with fail
                    have q_k0 := fun d os => cell_regrown k0 d os
                    have q_k1 := fun d os => cell_regrown k1 d os
                    have q_k2 := fun d os => cell_regrown k2 d os
                    have q_k3 := fun d os => cell_regrown k3 d os
                    have q_k4 := fun d os => cell_regrown k4 d os
                    have q_k5 := fun d os => cell_regrown k5 d os
                    have q_q0 := fun d os => cell_regrown q0 d os
                    have q_q1 := fun d os => cell_regrown q1 d os
                    have q_q2 := fun d os => cell_regrown q2 d os
                    try simp only [List.append]
                    first | refine wp_region_text_below ?_ | refine wp_region_quiet_below (by kernel_rfl) (by kernel_rfl) ?_
                    repeat (go_big_quiet_step (((go_at_call 25; with_reducible exact Calls.regrown_of (room_any A2 m2 kk q c 1 _ HQ.out (by omega) (HQL.out _ _) (right_sort HRT2.out) _ HX2.out (HOK2.out) r1 HR1.out)))))
                    refine wpQuiet_nil ?_
                    intro _ hqw
                    obtain ⟨pq, hqw⟩ := hqw
                    subst hqw
                    clear q_k0 q_k1 q_k2 q_k3 q_k4 q_k5 q_q0 q_q1 q_q2
                    have hbq := below_regrown wr pq.d pq.os
                    clear k0 k1 k2 k3 k4 k5 lt_c q0 q1 q2 lt_u HQL d0 d1 d2 d3
                    generalize grow (redrawn wr pq.d) pq.os = wq at *
                    go_wp2_with fail
                    go_roundw
                    case rel => exact ⟨2, by go_num, by omega, hb9.trans (hbq.mono hb9.size)⟩
                    case measure => simp [intOf]
                  · skip
                    have d0 : decide (uc < 0) = false := by rw [decide_eq_false_iff_not]; omega
                    have d1 : decide (uc > v) = false := by rw [decide_eq_false_iff_not]; omega
                    have d2 : IntKind.i64.wrap (v - uc) = v - uc := IntWalk.i64_in _ (by omega)
                    have d3 : decide (r2 > v - uc) = false := by rw [decide_eq_false_iff_not]; omega
                    clear o0 o1 o2 o3 o4 l0 l1 l2 a0 a1 b0 b1 e0 e1 v0 v1
                    try simp only [Int.natCast_zero, Int.natCast_one]
                    go_wp2_with fail
                    have q_k0 := fun d os => cell_regrown k0 d os
                    have q_k1 := fun d os => cell_regrown k1 d os
                    have q_k2 := fun d os => cell_regrown k2 d os
                    have q_k3 := fun d os => cell_regrown k3 d os
                    have q_k4 := fun d os => cell_regrown k4 d os
                    have q_k5 := fun d os => cell_regrown k5 d os
                    have q_q0 := fun d os => cell_regrown q0 d os
                    have q_q1 := fun d os => cell_regrown q1 d os
                    have q_q2 := fun d os => cell_regrown q2 d os
                    try simp only [List.append]
                    first | refine wp_region_text_below ?_ | refine wp_region_quiet_below (by kernel_rfl) (by kernel_rfl) ?_
                    repeat (go_big_quiet_step (((go_at_call 25; with_reducible exact Calls.regrown_of (room_any A2 m2 kk q c 2 _ HQ.out (by omega) (HQL.out _ _) (right_sort HRT2.out) _ HX2.out (HOK2.out) r2 HR2.out)))))
                    refine wpQuiet_nil ?_
                    intro _ hqw
                    obtain ⟨pq, hqw⟩ := hqw
                    subst hqw
                    clear q_k0 q_k1 q_k2 q_k3 q_k4 q_k5 q_q0 q_q1 q_q2
                    have hbq := below_regrown wr pq.d pq.os
                    clear k0 k1 k2 k3 k4 k5 lt_c q0 q1 q2 lt_u HQL d0 d1 d2 d3
                    generalize grow (redrawn wr pq.d) pq.os = wq at *
                    go_wp2_with fail
                    go_roundw
                    case rel => exact ⟨3, by go_num, by omega, hb9.trans (hbq.mono hb9.size)⟩
                    case measure => simp [intOf]
                · obtain rfl : j = 3 := by omega
                  have d0 : decide (r0 > r1) = false := by rw [decide_eq_false_iff_not]; omega
                  have d1 : decide (r1 > r2) = false := by rw [decide_eq_false_iff_not]; omega
                  have d2 : IntKind.i64.wrap (v - uc) = v - uc := IntWalk.i64_in _ (by omega)
                  have d3 : (r2 != v - uc) = false := by simp; omega
                  clear o0 o1 o2 o3 o4 l0 l1 l2 a0 a1 b0 b1 e0 e1 v0 v1
                  go_wp2_with fail
                  have q_k0 := fun d os => cell_regrown k0 d os
                  have q_k1 := fun d os => cell_regrown k1 d os
                  have q_k2 := fun d os => cell_regrown k2 d os
                  have q_k3 := fun d os => cell_regrown k3 d os
                  have q_k4 := fun d os => cell_regrown k4 d os
                  have q_k5 := fun d os => cell_regrown k5 d os
                  have q_q2 := fun d os => cell_regrown q2 d os
                  try simp only [List.append]
                  first | refine wp_region_text_below ?_ | refine wp_region_quiet_below (by kernel_rfl) (by kernel_rfl) ?_
                  repeat (go_big_quiet_step (((first | (go_at_call 25; with_reducible exact Calls.regrown_of (room_any A2 m2 kk q c 0 _ HQ.out (by omega) (HQL.out _ _) (right_sort HRT2.out) _ HX2.out (HOK2.out) r0 HR0.out)) | (go_at_call 25; with_reducible exact Calls.regrown_of (room_any A2 m2 kk q c 1 _ HQ.out (by omega) (HQL.out _ _) (right_sort HRT2.out) _ HX2.out (HOK2.out) r1 HR1.out)) | (go_at_call 25; with_reducible exact Calls.regrown_of (room_any A2 m2 kk q c 2 _ HQ.out (by omega) (HQL.out _ _) (right_sort HRT2.out) _ HX2.out (HOK2.out) r2 HR2.out))))))
                  refine wpQuiet_nil ?_
                  intro _ hqw
                  obtain ⟨pq, hqw⟩ := hqw
                  subst hqw
                  clear q_k0 q_k1 q_k2 q_k3 q_k4 q_k5 q_q2
                  have hbq := hb9.trans ((below_regrown wr pq.d pq.os).mono hs9)
                  clear k0 k1 k2 k3 k4 k5 lt_c q0 q1 q2 lt_u HQL d0 d1 d2 d3
                  generalize grow (redrawn wr pq.d) pq.os = wq at *
                  go_wp2_with fail
                  go_roundw
                  case rel => exact ⟨i + 1, ⟨A2, m2, kk, q, rfl, hm2, HQ, HO2, HHL2.out.up hbq⟩, by go_num, by omega, HHB.out.trans (hbq.mono HHS.out), HHL'.out.below (hbq.mono HHS.out), HHX.out.below hbq HHX.out.lt⟩
                  case measure => simp [intOf]; omega
        · have hie : i = n' := by omega
          subst hie
          have gm : decide ((m : Int) ≤ 1) = true := by simp; omega
          go_wp2_with fail
          go_ret
          exact ⟨by first | rfl | (simp only [gm]; rfl), hB⟩
theorem ledgerBounds_walk (a0 a1 a2 a3 a4 a5 : Int) (A : Option Addr) (n k : Nat) (ns : List Int) (_ : ∀ m ∈ [a0, a1, a2, a3, a4, a5], (Lit.int .i64 m).wf = true) (hnl : ns.length = n * 9) (_ : ∀ m ∈ ns, (Lit.int .i64 m).wf = true) (w : World) (hl : Sl w w.heap.size 9 A n k (ns.map (Value.int .i64))) :
    Calls Try.prog 6 #[.agg #[.int .i64 a0, .int .i64 a1, .int .i64 a2, .int .i64 a3, .int .i64 a4, .int .i64 a5], .slice A n k] w fun e w' => e = .returned (.bool true) ∧ Below w.heap.size w w' := by
  obtain ⟨d, hd, hlf⟩ := rowsAl_of n ns hnl
  rw [hlf] at hl
  exact bounds_walk A n k d ⟨a0, a1, a2, a3, a4, a5⟩ hd w hl
theorem ledgerBounds_own : ownKnob Try.prog.godebug = none := by kernel_rfl
theorem ledgerBounds_laidOut : laidOutB Try.prog = true := by kernel_rfl

set_option maxHeartbeats 1000000 in
set_option maxRecDepth 100000 in
theorem ledgerBounds_lifted (os : Os) (started : os.Started) (H : Type) (enc : TypeId × Value → H) :
    ReturnsInHanded {} Try.checked os 6 .any (Rows.ledgerBoundsSpec.pre6 enc Try.prog Try.f6 Rows.ledgerBoundsRow.domain false) (Rows.ledgerBoundsSpec.post enc Try.prog Try.f6 false true false false) := by
  refine returnsInHanded_of_change (C := Try.checked) ledgerBounds_own started (by kernel_rfl) Try.func6
    (ChangeSpec.witness6 (enc := enc) (C := Try.checked) false ⟨#[], #[.agg #[.int .i64 0, .int .i64 0, .int .i64 0, .int .i64 0, .int .i64 0, .int .i64 0], .slice none 0 0], []⟩ 8 (by kernel_rfl) (by kernel_rfl) (by kernel_rfl) (by kernel_rfl)) ?_
  intro W base args ds gs before hval0 hW hcnd _
  have hval : ∀ (j : Nat) t v, Try.f6.params[j]? = some t → args[j]? = some v → Value.okWide Try.prog W .any base t v := hval0
  have hW' := hW
  obtain ⟨p, q, hA0, hV, rfl, hfz, hnd⟩ := hW
  have hA : DataW.TrodAll enc Try.prog W 0 (fun _ => true) true Try.f6.params.toList args.toList ds p := hA0
  rw [Try.params6] at hA hval
  obtain ⟨v0, vs0, d0, ds0, p0, q0, hargs, rfl, rfl, h0, r0⟩ := trodAll_cons hA
  obtain ⟨v1, vs1, d1, ds1, p1, q1, rfl, rfl, rfl, h1, r1⟩ := trodAll_cons r0
  obtain ⟨rfl, rfl, rfl⟩ := trodAll_nil r1
  obtain rfl : args = #[v0, v1] := by cases args; simp_all
  obtain ⟨rfl, rfl⟩ := trodVars_none hV
  obtain ⟨n0, e0, l0, w0⟩ := open_flat 4 Try.underlying29 (by kernel_rfl) (hval 0 29 v0 rfl rfl) h0
  obtain ⟨a0_0, a0_1, a0_2, a0_3, a0_4, a0_5, rfl⟩ : ∃ a0_0 a0_1 a0_2 a0_3 a0_4 a0_5 : Int, n0 = [a0_0, a0_1, a0_2, a0_3, a0_4, a0_5] := by
    rw [show Try.prog.cellsOf 29 = 6 by kernel_rfl] at l0
    match n0, l0 with
    | [a0_0, a0_1, a0_2, a0_3, a0_4, a0_5], _ => exact ⟨_, _, _, _, _, _, rfl⟩
  obtain rfl : v0 = .agg #[.int .i64 a0_0, .int .i64 a0_1, .int .i64 a0_2, .int .i64 a0_3, .int .i64 a0_4, .int .i64 a0_5] := e0
  obtain ⟨A1, n1, c1, ns1, rfl, hl1, nl1, w1⟩ := open_rowsS 4 (K := 9) Try.underlying23 (by kernel_rfl) (by kernel_rfl) (by omega) (hval 1 23 v1 rfl rfl) h1
  clear hA0 hval0
  refine (ledgerBounds_walk a0_0 a0_1 a0_2 a0_3 a0_4 a0_5 A1 n1 c1 ns1 w0 nl1 w1 W hl1).mono fun e W' ⟨he, bel⟩ => ?_
  subst he
  exact ⟨_, rfl, law_post ledgerBounds_laidOut (by kernel_rfl) rfl Try.underlying4 rfl rfl hW' bel⟩

theorem ledgerBounds_proved : Rows.LedgerBoundsSaid :=
  OpenClaim.holds_of_wide 6 Try.f6 rfl rfl rfl rfl rfl rfl rfl ⟨rfl, rfl, rfl, rfl, rfl⟩ rfl rfl rfl rfl rfl (by kernel_rfl) Try.func6 (by kernel_rfl)
    (of_decide_eq_true (by kernel_rfl)) (by unfold Func.isWrapper; first | (rw [if_pos (by decide +kernel)]; kernel_rfl) | (rw [if_neg (by decide +kernel)]; exact ⟨rfl, rfl⟩))
    (fun os started H enc _ => ledgerBounds_lifted os started H enc)
#print axioms ledgerBounds_proved
end Go.Proofs.Ytejcjpfljcfibaa
