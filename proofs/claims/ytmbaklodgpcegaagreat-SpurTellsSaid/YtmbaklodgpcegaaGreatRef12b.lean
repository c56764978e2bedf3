/- The document's own path: Right, Asked; Find of view. They make new memory alone. -/
import Derived.Test.YtmbaklodgpcegaaGreatGQ23
import Derived.Test.YtmbaklodgpcegaaGreatGQ5
import Derived.Test.YtmbaklodgpcegaaGreatGQ0
namespace Go.Proofs.YtmbaklodgpcegaaGreat
open Go.ChangeShapes Go.WideShapes Go.ChangeAt Go.RowKit Go.Sort
set_option linter.unusedSimpArgs false
set_option linter.unusedVariables false
theorem add_succ'' (ad : Addr) (j : Nat) : ad.add (j + 1) = ⟨ad.block, ad.off + (j + 1), none⟩ := by
  unfold Addr.add; simp
theorem rhok_is (x : Ed) (b : Bool) (h : x.ok = b) (w : World) : Calls Tryz.prog 73 #[.agg #[.int .i64 x.id, .int .i64 x.fr, .int .i64 x.tn, .int .i64 x.op, .int .i64 x.en, .int .i64 x.ra, .int .i64 x.ow, .int .i64 x.ro]] w fun e w' => e = .returned (.bool b) ∧ Below w.heap.size w w' := by
  subst h; exact rhright_any _ _ _ _ _ _ _ _ w
set_option maxHeartbeats 4000000 in
set_option maxRecDepth 100000 in
theorem rright12_any (A : Option Addr) (n c : Nat) (d : List Ed) (w : World) (hd : d.length = n) (hn : n ≤ 1000000) (h : Sl w w.heap.size 8 A n c (flatEd d)) (b : Bool) (hb : rightE d = b) :
    Calls Tryz.prog 55 #[.slice A n c] w fun e w' => e = .returned (.bool b) ∧ Below w.heap.size w w' := by
  have HD := Lib.hid hd
  have HBB := Lib.hid hb
  clear hd hb
  go_enter Tryz.func55, Tryz.ntmps55
  go_wp2
  go_loopw [3] (fun i wr => ∃ k : Nat, k ≤ n ∧ i = .int .i64 k ∧ Hid (∀ j, j < k → stepE d j = true) ∧ Below w.heap.size w wr) (fun i _ => n - (intOf i).toNat)
  case atStart => exact ⟨0, by omega, rfl, (fun j hj => by omega), Below.refl _ _⟩
  case round =>
    obtain ⟨k, hk, rfl, HQ, hB⟩ := hrel
    by_cases hkn : k < n
    · have hl := h.below hB
      obtain ⟨ad, rfl, hab, c0, c1, c2, c3, c4, c5, c6, c7⟩ := hl.lst.atEd HD.out hkn
      have hsw := hB.size
      obtain ⟨x, hx⟩ : ∃ x, gEd d k = x := ⟨_, rfl⟩
      rw [hx] at c0 c1 c2 c3 c4 c5 c6 c7
      have HX := Lib.hid hx
      clear hx
      obtain ⟨o, ho⟩ : ∃ o, x.ok = o := ⟨_, rfl⟩
      have HO := Lib.hid ho
      clear ho
      go_wp2_with fail
      refine (rhok_is x o HO.out _).mono ?_
      rintro e wx ⟨rfl, hb⟩
      have hB2 := hB.trans (hb.mono hsw)
      have hl2 := h.below hB2
      clear c0 c1 c2 c3 c4 c5 c6 c7 hB hl hb
      cases o with
      | false =>
        have hf : rightE d = false := rightE_false (i := k) (by rw [HD.out]; exact hkn) (by unfold stepE; rw [HX.out, HO.out]; rfl)
        have HF := Lib.hid (HBB.out.symm.trans hf)
        clear hf HBB
        go_wp2_with fail
        try simp only [List.append]
        first | refine wp_region_text_below ?_ | refine wp_region_quiet_below (by kernel_rfl) (by kernel_rfl) ?_
        repeat (go_big_quiet_step ((fail)))
        refine wpQuiet_nil ?_
        intro _ hqw
        obtain ⟨pq, hqw⟩ := hqw
        subst hqw
        have hb3 := below_regrown wx pq.d pq.os
        generalize grow (redrawn wx pq.d) pq.os = wq at *
        go_wp2
        go_ret
        exact ⟨by rw [HF.out]; rfl, hB2.trans (hb3.mono hB2.size)⟩
      | true =>
        have hcase : k = 0 ∨ ∃ p, k = p + 1 := by cases k with | zero => exact .inl rfl | succ p => exact .inr ⟨p, rfl⟩
        rcases hcase with rfl | ⟨p, rfl⟩
        · have hd0 : decide (((0 : Nat) : Int) > 0) = false := by simp
          have HN : Hid (∀ j, j < 0 + 1 → stepE d j = true) := fun j hj => by
            obtain rfl : j = 0 := by omega
            unfold stepE
            rw [HX.out, HO.out]; rfl
          go_wp2_with fail
          try simp only [List.append]
          first | refine wp_region_text_below ?_ | refine wp_region_quiet_below (by kernel_rfl) (by kernel_rfl) ?_
          repeat (go_big_quiet_step ((fail)))
          refine wpQuiet_nil ?_
          intro _ hqw
          obtain ⟨pq, hqw⟩ := hqw
          subst hqw
          have hb3 := below_regrown wx pq.d pq.os
          generalize grow (redrawn wx pq.d) pq.os = wq at *
          go_wp2
          go_roundw
          case rel => exact ⟨1, by omega, rfl, HN, hB2.trans (hb3.mono hB2.size)⟩
          case measure => simp [intOf]; omega
        · have hp : p < n := by omega
          obtain ⟨ad', he, _, p0, _, _, _, _, _, _, _⟩ := hl2.lst.atEd HD.out hp
          injection he with he
          subst he
          obtain ⟨ad', he, _, x0, _, _, _, _, _, _, _⟩ := hl2.lst.atEd HD.out hkn
          injection he with he
          subst he
          rw [HX.out] at x0
          obtain ⟨pi, hpi⟩ : ∃ q, (gEd d p).id = q := ⟨_, rfl⟩
          rw [hpi] at p0
          have HP := Lib.hid hpi
          clear hpi
          have hd0 : decide (((p + 1 : Nat) : Int) > 0) = true := decide_eq_true (by omega)
          have t0 : IntKind.i64.wrap (((p + 1 : Nat) : Int) - 1) = (p : Int) := by
            rw [IntWalk.i64_in _ (by omega)]; omega
          obtain ⟨lt, hlt⟩ : ∃ q, decide (pi < x.id) = q := ⟨_, rfl⟩
          have g0 : decide (x.id ≤ pi) = !lt := by
            rw [← hlt]
            by_cases h9 : pi < x.id
            · simp [h9]
            · simp [h9]; omega
          have hst : stepE d (p + 1) = lt := by
            unfold stepE
            rw [Nat.add_sub_cancel, HX.out, HO.out, HP.out, hlt]
            simp
          have HST := Lib.hid hst
          clear hst hlt
          have x0' : wx.cell? ⟨ad.block, ad.off + (p + 1) * 8, none⟩ = some (.int .i64 x.id) := by
            have h := x0
            rw [show (p + 1) * 8 = (p * 8 + 7) + 1 by omega, add_succ''] at h
            rw [show (p + 1) * 8 = (p * 8 + 7) + 1 by omega]
            exact h
          cases lt with
          | false =>
            have hf : rightE d = false := rightE_false (i := p + 1) (by rw [HD.out]; exact hkn) HST.out
            have HF := Lib.hid (HBB.out.symm.trans hf)
            clear hf HBB
            simp only [Bool.not_false] at g0
            go_wp2_with fail
            have q_p0 := fun d os => cell_regrown p0 d os
            have q_x0 := fun d os => cell_regrown x0 d os
            have q_x0' := fun d os => cell_regrown x0' d os
            try simp only [List.append]
            first | refine wp_region_text_below ?_ | refine wp_region_quiet_below (by kernel_rfl) (by kernel_rfl) ?_
            repeat (go_big_quiet_step ((fail)))
            refine wpQuiet_nil ?_
            intro _ hqw
            obtain ⟨pq, hqw⟩ := hqw
            subst hqw
            clear q_p0 q_x0 q_x0'
            have hb3 := below_regrown wx pq.d pq.os
            generalize grow (redrawn wx pq.d) pq.os = wq at *
            go_wp2
            go_ret
            exact ⟨by rw [HF.out]; rfl, hB2.trans (hb3.mono hB2.size)⟩
          | true =>
            have HN : Hid (∀ j, j < p + 1 + 1 → stepE d j = true) := fun j hj => by
              by_cases e : j = p + 1
              · rw [e]; exact HST.out
              · exact HQ.out j (by omega)
            simp only [Bool.not_true] at g0
            go_wp2_with fail
            have q_p0 := fun d os => cell_regrown p0 d os
            have q_x0 := fun d os => cell_regrown x0 d os
            have q_x0' := fun d os => cell_regrown x0' d os
            try simp only [List.append]
            first | refine wp_region_text_below ?_ | refine wp_region_quiet_below (by kernel_rfl) (by kernel_rfl) ?_
            repeat (go_big_quiet_step ((fail)))
            refine wpQuiet_nil ?_
            intro _ hqw
            obtain ⟨pq, hqw⟩ := hqw
            subst hqw
            clear q_p0 q_x0 q_x0'
            have hb3 := below_regrown wx pq.d pq.os
            clear p0 x0 x0' g0 t0 hd0
            generalize grow (redrawn wx pq.d) pq.os = wq at *
            go_wp2
            go_roundw
            case rel => exact ⟨p + 1 + 1, by omega, by go_num, HN, hB2.trans (hb3.mono hB2.size)⟩
            case measure => simp [intOf]; omega
    · obtain rfl : k = n := by omega
      have hf : rightE d = true := rightE_true.2 (fun i hi => HQ.out i (by rw [HD.out] at hi; exact hi))
      have HF := Lib.hid (HBB.out.symm.trans hf)
      clear hf HBB
      go_wp2
      go_ret
      exact ⟨by rw [HF.out]; rfl, hB⟩
theorem rnode_is {n : Int} (b : Bool) (h : nodeB n = b) (w : World) :
    Calls Tryz.prog 56 #[.int .i64 n] w fun e w' => e = .returned (.bool b) ∧ w = w' := h ▸ rnode_any n w
set_option maxHeartbeats 4000000 in
theorem rasked12_any (A : Option Addr) (n c : Nat) (d : List Ed) (q t now size : Int) (w : World) (hd : d.length = n) (hn : n ≤ 1000000) (h : Sl w w.heap.size 8 A n c (flatEd d)) (b : Bool) (hb : (askE d q now size && nodeB t) = b) :
    Calls Tryz.prog 38 #[.slice A n c, .int .i64 q, .int .i64 t, .int .i64 now, .int .i64 size] w fun e w' => e = .returned (.bool b) ∧ Below w.heap.size w w' := by
  subst hb
  obtain ⟨b1, e1⟩ : ∃ v, nodeB q = v := ⟨_, rfl⟩
  obtain ⟨b2, e2⟩ : ∃ v, nodeB t = v := ⟨_, rfl⟩
  obtain ⟨b4, e4⟩ : ∃ v, rightE d = v := ⟨_, rfl⟩
  have hres : (askE d q now size && nodeB t) = (b4 && b1 && b2 && decide (now ≥ 0) && decide (now ≤ 1099511627776) && decide (size ≥ 0) && decide (size ≤ 1099511627775)) := by
    unfold askE inB
    rw [e1, e2, e4]
    cases b1 <;> cases b2 <;> cases b4 <;> simp [Bool.decide_and, Bool.and_assoc]
  rw [hres]
  obtain ⟨p1, f1⟩ : ∃ v, decide (now ≥ 0) = v := ⟨_, rfl⟩
  obtain ⟨p2, f2⟩ : ∃ v, decide (now ≤ 1099511627776) = v := ⟨_, rfl⟩
  obtain ⟨p3, f3⟩ : ∃ v, decide (size ≥ 0) = v := ⟨_, rfl⟩
  obtain ⟨p4, f4⟩ : ∃ v, decide (size ≤ 1099511627775) = v := ⟨_, rfl⟩
  rw [f1, f2, f3, f4]
  have FP1 := Lib.hid f1
  have FP2 := Lib.hid f2
  have FP3 := Lib.hid f3
  have FP4 := Lib.hid f4
  clear f1 f2 f3 f4
  have E1 := Lib.hid e1
  have E2 := Lib.hid e2
  have E4 := Lib.hid e4
  have HP := Lib.hid (rright12_any A n c d w hd hn h b4 e4)
  clear e1 e2 e4 hd h hres
  go_enter Tryz.func38, Tryz.ntmps38
  go_wp2_with fail
  refine HP.out.mono ?_
  rintro e w1 ⟨rfl, hb⟩
  go_wp2_with fail
  refine (rnode_is b1 E1.out _).mono ?_
  rintro e w' ⟨rfl, rfl⟩
  go_wp2_with fail
  refine (rnode_is b2 E2.out _).mono ?_
  rintro e w' ⟨rfl, rfl⟩
  have f1 := FP1.out
  have f2 := FP2.out
  have f3 := FP3.out
  have f4 := FP4.out
  cases b4 <;> cases b1 <;> cases b2 <;> cases p1 <;> cases p2 <;> cases p3 <;> cases p4
  all_goals
    go_wp2
    go_ret
    exact ⟨rfl, hb⟩
set_option maxHeartbeats 2000000 in
set_option maxRecDepth 100000 in
theorem rfind11_any (A : Option Addr) (n c : Nat) (d : List Ed) (id : Int) (w : World) (hd : d.length = n) (hn : n ≤ 1000000) (h : Sl w w.heap.size 8 A n c (flatEd d)) (x : Ed) (b : Bool) (hx : (findE d id).getD zeroE = x) (hb : (findE d id).isSome = b) :
    Calls Tryz.prog 74 #[.slice A n c, .int .i64 id] w fun e w' => e = .returned (.tuple #[.agg #[.int .i64 x.id, .int .i64 x.fr, .int .i64 x.tn, .int .i64 x.op, .int .i64 x.en, .int .i64 x.ra, .int .i64 x.ow, .int .i64 x.ro], .bool b]) ∧ Below w.heap.size w w' := by
  have hBa : Below w.heap.size w (w.alloc (.cells #[.int .i64 0, .int .i64 0, .int .i64 0, .int .i64 0, .int .i64 0, .int .i64 0, .int .i64 0, .int .i64 0] 47)) := by (repeat (first | exact Below.refl _ _ | refine Below.alloc ?_ (by first | omega | (simp; done) | (simp; omega)) _ | refine Below.setCell ?_ (by first | omega | (simp; done) | (simp; omega)) _ | refine Below.drew ?_))
  have hX := Blok.new w 47 #[.int .i64 0, .int .i64 0, .int .i64 0, .int .i64 0, .int .i64 0, .int .i64 0, .int .i64 0, .int .i64 0]
  have hl := h.below hBa
  have HD := Lib.hid hd
  have HXX := Lib.hid hx
  have HBX := Lib.hid hb
  clear h hd hx hb
  go_enter Tryz.func74, Tryz.ntmps74
  go_wp2
  generalize w.alloc (.cells #[.int .i64 0, .int .i64 0, .int .i64 0, .int .i64 0, .int .i64 0, .int .i64 0, .int .i64 0, .int .i64 0] 47) = w2 at *
  have HL := Lib.hid hl
  have HX := Lib.hid hX
  have HB := Lib.hid hBa
  clear hl hX hBa
  go_loopw [6] (fun iv wr => ∃ (i : Nat), iv = .int .i64 i ∧ i ≤ n ∧ Hid (∀ j, j < i → (gEd d j).id ≠ id) ∧ w2 = wr) (fun iv _ => n - (intOf iv).toNat)
  case atStart => exact ⟨0, rfl, by omega, (fun j hj => by omega), rfl⟩
  case round =>
    obtain ⟨i, rfl, hi, HN, rfl⟩ := hrel
    have hX := HX.out
    have hB2 := HB.out
    have hs := hB2.size
    by_cases hin : i < n
    · obtain ⟨ad, rfl, hab, c0, c1, c2, c3, c4, c5, c6, c7⟩ := HL.out.lst.atEd HD.out hin
      have hin' : i < d.length := by rw [HD.out]; exact hin
      obtain ⟨y, hy⟩ : ∃ y, gEd d i = y := ⟨_, rfl⟩
      rw [hy] at c0 c1 c2 c3 c4 c5 c6 c7
      have HY := Lib.hid hy
      clear hy
      by_cases he : y.id = id
      · have hf := findE_at hin' (by rw [HY.out]; exact he) HN.out
        rw [HY.out] at hf
        have hxy : y = x := by rw [← HXX.out, hf]; rfl
        have hbt : b = true := by rw [← HBX.out, hf]; rfl
        subst hbt
        subst hxy
        have hq : (y.id == id) = true := beq_iff_eq.2 he
        have HXB := Lib.hid hX
        have r0 : w2.cell? ⟨w.heap.size, 0, none⟩ = some (.int .i64 0) := hX.cell 0
        have f_0 := hX.free 0
        have r1 : w2.cell? ⟨w.heap.size, 1, none⟩ = some (.int .i64 0) := hX.cell 1
        have f_1 := hX.free 1
        have r2 : w2.cell? ⟨w.heap.size, 2, none⟩ = some (.int .i64 0) := hX.cell 2
        have f_2 := hX.free 2
        have r3 : w2.cell? ⟨w.heap.size, 3, none⟩ = some (.int .i64 0) := hX.cell 3
        have f_3 := hX.free 3
        have r4 : w2.cell? ⟨w.heap.size, 4, none⟩ = some (.int .i64 0) := hX.cell 4
        have f_4 := hX.free 4
        have r5 : w2.cell? ⟨w.heap.size, 5, none⟩ = some (.int .i64 0) := hX.cell 5
        have f_5 := hX.free 5
        have r6 : w2.cell? ⟨w.heap.size, 6, none⟩ = some (.int .i64 0) := hX.cell 6
        have f_6 := hX.free 6
        have r7 : w2.cell? ⟨w.heap.size, 7, none⟩ = some (.int .i64 0) := hX.cell 7
        have f_7 := hX.free 7
        have lt_x := hX.lt
        clear hX hf he
        go_wp2
        have hX := HXB.out
        clear r0 r1 r2 r3 r4 r5 r6 r7
        have hF : Blok ((((((((w2.setCell ⟨w.heap.size, 0, none⟩ (.int .i64 y.id)).setCell ⟨w.heap.size, 1, none⟩ (.int .i64 y.fr)).setCell ⟨w.heap.size, 2, none⟩ (.int .i64 y.tn)).setCell ⟨w.heap.size, 3, none⟩ (.int .i64 y.op)).setCell ⟨w.heap.size, 4, none⟩ (.int .i64 y.en)).setCell ⟨w.heap.size, 5, none⟩ (.int .i64 y.ra)).setCell ⟨w.heap.size, 6, none⟩ (.int .i64 y.ow)).setCell ⟨w.heap.size, 7, none⟩ (.int .i64 y.ro)) w.heap.size 47 #[.int .i64 y.id, .int .i64 y.fr, .int .i64 y.tn, .int .i64 y.op, .int .i64 y.en, .int .i64 y.ra, .int .i64 y.ow, .int .i64 y.ro] := by have h := ((((((((hX.set_ 0 (.int .i64 y.id)).set_ 1 (.int .i64 y.fr)).set_ 2 (.int .i64 y.tn)).set_ 3 (.int .i64 y.op)).set_ 4 (.int .i64 y.en)).set_ 5 (.int .i64 y.ra)).set_ 6 (.int .i64 y.ow)).set_ 7 (.int .i64 y.ro)); simpa using h
        have hle0 : w.heap.size ≤ w.heap.size := by first | exact Nat.le_refl _ | omega
        have hWf : Below w.heap.size w ((((((((w2.setCell ⟨w.heap.size, 0, none⟩ (.int .i64 y.id)).setCell ⟨w.heap.size, 1, none⟩ (.int .i64 y.fr)).setCell ⟨w.heap.size, 2, none⟩ (.int .i64 y.tn)).setCell ⟨w.heap.size, 3, none⟩ (.int .i64 y.op)).setCell ⟨w.heap.size, 4, none⟩ (.int .i64 y.en)).setCell ⟨w.heap.size, 5, none⟩ (.int .i64 y.ra)).setCell ⟨w.heap.size, 6, none⟩ (.int .i64 y.ow)).setCell ⟨w.heap.size, 7, none⟩ (.int .i64 y.ro)) := ((((((((hB2.setCell (p := ⟨w.heap.size, 0, none⟩) hle0 (.int .i64 y.id)).setCell (p := ⟨w.heap.size, 1, none⟩) hle0 (.int .i64 y.fr)).setCell (p := ⟨w.heap.size, 2, none⟩) hle0 (.int .i64 y.tn)).setCell (p := ⟨w.heap.size, 3, none⟩) hle0 (.int .i64 y.op)).setCell (p := ⟨w.heap.size, 4, none⟩) hle0 (.int .i64 y.en)).setCell (p := ⟨w.heap.size, 5, none⟩) hle0 (.int .i64 y.ra)).setCell (p := ⟨w.heap.size, 6, none⟩) hle0 (.int .i64 y.ow)).setCell (p := ⟨w.heap.size, 7, none⟩) hle0 (.int .i64 y.ro))
        have hlF := hF.lt
        generalize ((((((((w2.setCell ⟨w.heap.size, 0, none⟩ (.int .i64 y.id)).setCell ⟨w.heap.size, 1, none⟩ (.int .i64 y.fr)).setCell ⟨w.heap.size, 2, none⟩ (.int .i64 y.tn)).setCell ⟨w.heap.size, 3, none⟩ (.int .i64 y.op)).setCell ⟨w.heap.size, 4, none⟩ (.int .i64 y.en)).setCell ⟨w.heap.size, 5, none⟩ (.int .i64 y.ra)).setCell ⟨w.heap.size, 6, none⟩ (.int .i64 y.ow)).setCell ⟨w.heap.size, 7, none⟩ (.int .i64 y.ro)) = wf at *
        have r0 : wf.cell? ⟨w.heap.size, 0, none⟩ = some (.int .i64 y.id) := hF.cell 0
        have r1 : wf.cell? ⟨w.heap.size, 1, none⟩ = some (.int .i64 y.fr) := hF.cell 1
        have r2 : wf.cell? ⟨w.heap.size, 2, none⟩ = some (.int .i64 y.tn) := hF.cell 2
        have r3 : wf.cell? ⟨w.heap.size, 3, none⟩ = some (.int .i64 y.op) := hF.cell 3
        have r4 : wf.cell? ⟨w.heap.size, 4, none⟩ = some (.int .i64 y.en) := hF.cell 4
        have r5 : wf.cell? ⟨w.heap.size, 5, none⟩ = some (.int .i64 y.ra) := hF.cell 5
        have r6 : wf.cell? ⟨w.heap.size, 6, none⟩ = some (.int .i64 y.ow) := hF.cell 6
        have r7 : wf.cell? ⟨w.heap.size, 7, none⟩ = some (.int .i64 y.ro) := hF.cell 7
        refine bodyPost_ret (v := .tuple #[.agg #[.int .i64 y.id, .int .i64 y.fr, .int .i64 y.tn, .int .i64 y.op, .int .i64 y.en, .int .i64 y.ra, .int .i64 y.ow, .int .i64 y.ro], .bool true]) (by simp [results, Tryz.results74, go_sem, r0, r1, r2, r3, r4, r5, r6, r7, hlF]) rfl ?_
        exact ⟨rfl, hWf⟩
      · have hq : (y.id == id) = false := beq_eq_false_iff_ne.2 he
        have HN2 : Hid (∀ j, j < i + 1 → (gEd d j).id ≠ id) := fun j hj => by
          by_cases e : j = i
          · subst e; rw [HY.out]; exact he
          · exact HN.out j (by omega)
        clear he hX
        go_wp2_with fail
        go_roundw
        case rel => exact ⟨i + 1, by go_num, by omega, HN2, by first | rfl | trivial⟩
        case measure => simp [intOf]; omega
    · have hf := findE_none (l := d) (id := id) (fun j hj => HN.out j (by rw [HD.out] at hj; omega))
      have hx0 : x = zeroE := by rw [← HXX.out, hf]; rfl
      have hbt : b = false := by rw [← HBX.out, hf]; rfl
      subst hbt
      subst hx0
      have HXB := Lib.hid hX
      have r0 : w2.cell? ⟨w.heap.size, 0, none⟩ = some (.int .i64 0) := hX.cell 0
      have f_0 := hX.free 0
      have r1 : w2.cell? ⟨w.heap.size, 1, none⟩ = some (.int .i64 0) := hX.cell 1
      have f_1 := hX.free 1
      have r2 : w2.cell? ⟨w.heap.size, 2, none⟩ = some (.int .i64 0) := hX.cell 2
      have f_2 := hX.free 2
      have r3 : w2.cell? ⟨w.heap.size, 3, none⟩ = some (.int .i64 0) := hX.cell 3
      have f_3 := hX.free 3
      have r4 : w2.cell? ⟨w.heap.size, 4, none⟩ = some (.int .i64 0) := hX.cell 4
      have f_4 := hX.free 4
      have r5 : w2.cell? ⟨w.heap.size, 5, none⟩ = some (.int .i64 0) := hX.cell 5
      have f_5 := hX.free 5
      have r6 : w2.cell? ⟨w.heap.size, 6, none⟩ = some (.int .i64 0) := hX.cell 6
      have f_6 := hX.free 6
      have r7 : w2.cell? ⟨w.heap.size, 7, none⟩ = some (.int .i64 0) := hX.cell 7
      have f_7 := hX.free 7
      have lt_x := hX.lt
      clear hX hf HN
      go_wp2
      have hX := HXB.out
      clear r0 r1 r2 r3 r4 r5 r6 r7
      have hF : Blok ((((((((w2.setCell ⟨w.heap.size, 0, none⟩ (.int .i64 0)).setCell ⟨w.heap.size, 1, none⟩ (.int .i64 0)).setCell ⟨w.heap.size, 2, none⟩ (.int .i64 0)).setCell ⟨w.heap.size, 3, none⟩ (.int .i64 0)).setCell ⟨w.heap.size, 4, none⟩ (.int .i64 0)).setCell ⟨w.heap.size, 5, none⟩ (.int .i64 0)).setCell ⟨w.heap.size, 6, none⟩ (.int .i64 0)).setCell ⟨w.heap.size, 7, none⟩ (.int .i64 0)) w.heap.size 47 #[.int .i64 0, .int .i64 0, .int .i64 0, .int .i64 0, .int .i64 0, .int .i64 0, .int .i64 0, .int .i64 0] := by have h := ((((((((hX.set_ 0 (.int .i64 0)).set_ 1 (.int .i64 0)).set_ 2 (.int .i64 0)).set_ 3 (.int .i64 0)).set_ 4 (.int .i64 0)).set_ 5 (.int .i64 0)).set_ 6 (.int .i64 0)).set_ 7 (.int .i64 0)); simpa using h
      have hle0 : w.heap.size ≤ w.heap.size := by first | exact Nat.le_refl _ | omega
      have hWf : Below w.heap.size w ((((((((w2.setCell ⟨w.heap.size, 0, none⟩ (.int .i64 0)).setCell ⟨w.heap.size, 1, none⟩ (.int .i64 0)).setCell ⟨w.heap.size, 2, none⟩ (.int .i64 0)).setCell ⟨w.heap.size, 3, none⟩ (.int .i64 0)).setCell ⟨w.heap.size, 4, none⟩ (.int .i64 0)).setCell ⟨w.heap.size, 5, none⟩ (.int .i64 0)).setCell ⟨w.heap.size, 6, none⟩ (.int .i64 0)).setCell ⟨w.heap.size, 7, none⟩ (.int .i64 0)) := ((((((((hB2.setCell (p := ⟨w.heap.size, 0, none⟩) hle0 (.int .i64 0)).setCell (p := ⟨w.heap.size, 1, none⟩) hle0 (.int .i64 0)).setCell (p := ⟨w.heap.size, 2, none⟩) hle0 (.int .i64 0)).setCell (p := ⟨w.heap.size, 3, none⟩) hle0 (.int .i64 0)).setCell (p := ⟨w.heap.size, 4, none⟩) hle0 (.int .i64 0)).setCell (p := ⟨w.heap.size, 5, none⟩) hle0 (.int .i64 0)).setCell (p := ⟨w.heap.size, 6, none⟩) hle0 (.int .i64 0)).setCell (p := ⟨w.heap.size, 7, none⟩) hle0 (.int .i64 0))
      have hlF := hF.lt
      generalize ((((((((w2.setCell ⟨w.heap.size, 0, none⟩ (.int .i64 0)).setCell ⟨w.heap.size, 1, none⟩ (.int .i64 0)).setCell ⟨w.heap.size, 2, none⟩ (.int .i64 0)).setCell ⟨w.heap.size, 3, none⟩ (.int .i64 0)).setCell ⟨w.heap.size, 4, none⟩ (.int .i64 0)).setCell ⟨w.heap.size, 5, none⟩ (.int .i64 0)).setCell ⟨w.heap.size, 6, none⟩ (.int .i64 0)).setCell ⟨w.heap.size, 7, none⟩ (.int .i64 0)) = wf at *
      have r0 : wf.cell? ⟨w.heap.size, 0, none⟩ = some (.int .i64 0) := hF.cell 0
      have r1 : wf.cell? ⟨w.heap.size, 1, none⟩ = some (.int .i64 0) := hF.cell 1
      have r2 : wf.cell? ⟨w.heap.size, 2, none⟩ = some (.int .i64 0) := hF.cell 2
      have r3 : wf.cell? ⟨w.heap.size, 3, none⟩ = some (.int .i64 0) := hF.cell 3
      have r4 : wf.cell? ⟨w.heap.size, 4, none⟩ = some (.int .i64 0) := hF.cell 4
      have r5 : wf.cell? ⟨w.heap.size, 5, none⟩ = some (.int .i64 0) := hF.cell 5
      have r6 : wf.cell? ⟨w.heap.size, 6, none⟩ = some (.int .i64 0) := hF.cell 6
      have r7 : wf.cell? ⟨w.heap.size, 7, none⟩ = some (.int .i64 0) := hF.cell 7
      refine bodyPost_ret (v := .tuple #[.agg #[.int .i64 0, .int .i64 0, .int .i64 0, .int .i64 0, .int .i64 0, .int .i64 0, .int .i64 0, .int .i64 0], .bool false]) (by simp [results, Tryz.results74, go_sem, r0, r1, r2, r3, r4, r5, r6, r7, hlF]) rfl ?_
      exact ⟨rfl, hWf⟩
end Go.Proofs.YtmbaklodgpcegaaGreat
