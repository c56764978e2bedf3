/- Several texts of mine in one: Ref12, Ref12b. No condition. -/
import Derived.Test.YtjkcjbcbnnpmfaaGP
import Derived.Test.YtjkcjbcbnnpmfaaGU

/- The document's own path: Same, Hops, IDs. They make new memory alone. -/
namespace Go.Proofs.Ytjkcjbcbnnpmfaa
open Go.ChangeShapes Go.WideShapes Go.ChangeAt Go.RowKit Go.Sort
set_option linter.unusedSimpArgs false
set_option linter.unusedVariables false
end Go.Proofs.Ytjkcjbcbnnpmfaa

/- The document's own path: Right, Asked; Find of view. They make new memory alone. -/
namespace Go.Proofs.Ytjkcjbcbnnpmfaa
open Go.ChangeShapes Go.WideShapes Go.ChangeAt Go.RowKit Go.Sort
set_option linter.unusedSimpArgs false
set_option linter.unusedVariables false
theorem add_succ'' (ad : Addr) (j : Nat) : ad.add (j + 1) = ⟨ad.block, ad.off + (j + 1), none⟩ := by
  unfold Addr.add; simp
theorem rhok_is (x : Ed) (b : Bool) (h : x.ok = b) (w : World) : Calls Try.prog 55 #[.agg #[.int .i64 x.id, .int .i64 x.fr, .int .i64 x.tn, .int .i64 x.op, .int .i64 x.en, .int .i64 x.ra, .int .i64 x.ow, .int .i64 x.ro]] w fun e w' => e = .returned (.bool b) ∧ Below w.heap.size w w' := by
  subst h; exact rhright_any _ _ _ _ _ _ _ _ w
set_option maxHeartbeats 4000000 in
set_option maxRecDepth 100000 in
theorem rright12_any (A : Option Addr) (n c : Nat) (d : List Ed) (w : World) (hd : d.length = n) (hn : n ≤ 1000000) (h : Sl w w.heap.size 8 A n c (flatEd d)) (b : Bool) (hb : rightE d = b) :
    Calls Try.prog 39 #[.slice A n c] w fun e w' => e = .returned (.bool b) ∧ Below w.heap.size w w' := by
  have HD := Lib.hid hd
  have HBB := Lib.hid hb
  clear hd hb
  go_enter Try.func39, Try.ntmps39
  go_wp2
  go_loopw [3] (fun i wr => ∃ k : Nat, k ≤ n ∧ i = .int .i64 k ∧ Hid (∀ j, j < k → stepE d j = true) ∧ Below w.heap.size w wr) (fun i _ => n - (intOf i).toNat)
  case atStart => exact ⟨0, by omega, rfl, (fun j hj => by omega), Below.refl _ _⟩
  case round =>
    obtain ⟨k, hk, rfl, HQ, hB⟩ := hrel
    by_cases hkn : k < n
    · have hl := h.below hB
      obtain ⟨ad, rfl, hab, c0, c1, c2, c3, c4, c5, c6, c7⟩ := hl.lst.atEd HD.out hkn
      have hsw := hB.size
      obtain ⟨x, hx⟩ : ∃ x, gEd d k = x := ⟨_, rfl⟩
      rw [hx] at c0 c1 c2 c3 c4 c5 c6 c7
      have HX := Lib.hid hx
      clear hx
      obtain ⟨o, ho⟩ : ∃ o, x.ok = o := ⟨_, rfl⟩
      have HO := Lib.hid ho
      clear ho
      go_wp2_with fail
      refine (rhok_is x o HO.out _).mono ?_
      rintro e wx ⟨rfl, hb⟩
      have hB2 := hB.trans (hb.mono hsw)
      have hl2 := h.below hB2
      clear c0 c1 c2 c3 c4 c5 c6 c7 hB hl hb
      cases o with
      | false =>
        have hf : rightE d = false := rightE_false (i := k) (by rw [HD.out]; exact hkn) (by unfold stepE; rw [HX.out, HO.out]; rfl)
        have HF := Lib.hid (HBB.out.symm.trans hf)
        clear hf HBB
        go_wp2_with fail
        try simp only [List.append]
        first | refine wp_region_text_below ?_ | refine wp_region_quiet_below (by kernel_rfl) (by kernel_rfl) ?_
        repeat (go_big_quiet_step ((fail)))
        refine wpQuiet_nil ?_
        intro _ hqw
        obtain ⟨pq, hqw⟩ := hqw
        subst hqw
        have hb3 := below_regrown wx pq.d pq.os
        generalize grow (redrawn wx pq.d) pq.os = wq at *
        go_wp2
        go_ret
        exact ⟨by rw [HF.out]; rfl, hB2.trans (hb3.mono hB2.size)⟩
      | true =>
        have hcase : k = 0 ∨ ∃ p, k = p + 1 := by cases k with | zero => exact .inl rfl | succ p => exact .inr ⟨p, rfl⟩
        rcases hcase with rfl | ⟨p, rfl⟩
        · have hd0 : decide (((0 : Nat) : Int) > 0) = false := by simp
          have HN : Hid (∀ j, j < 0 + 1 → stepE d j = true) := fun j hj => by
            obtain rfl : j = 0 := by omega
            unfold stepE
            rw [HX.out, HO.out]; rfl
          go_wp2_with fail
          try simp only [List.append]
          first | refine wp_region_text_below ?_ | refine wp_region_quiet_below (by kernel_rfl) (by kernel_rfl) ?_
          repeat (go_big_quiet_step ((fail)))
          refine wpQuiet_nil ?_
          intro _ hqw
          obtain ⟨pq, hqw⟩ := hqw
          subst hqw
          have hb3 := below_regrown wx pq.d pq.os
          generalize grow (redrawn wx pq.d) pq.os = wq at *
          go_wp2
          go_roundw
          case rel => exact ⟨1, by omega, rfl, HN, hB2.trans (hb3.mono hB2.size)⟩
          case measure => simp [intOf]; omega
        · have hp : p < n := by omega
          obtain ⟨ad', he, _, p0, _, _, _, _, _, _, _⟩ := hl2.lst.atEd HD.out hp
          injection he with he
          subst he
          obtain ⟨ad', he, _, x0, _, _, _, _, _, _, _⟩ := hl2.lst.atEd HD.out hkn
          injection he with he
          subst he
          rw [HX.out] at x0
          obtain ⟨pi, hpi⟩ : ∃ q, (gEd d p).id = q := ⟨_, rfl⟩
          rw [hpi] at p0
          have HP := Lib.hid hpi
          clear hpi
          have hd0 : decide (((p + 1 : Nat) : Int) > 0) = true := decide_eq_true (by omega)
          have t0 : IntKind.i64.wrap (((p + 1 : Nat) : Int) - 1) = (p : Int) := by
            rw [IntWalk.i64_in _ (by omega)]; omega
          obtain ⟨lt, hlt⟩ : ∃ q, decide (pi < x.id) = q := ⟨_, rfl⟩
          have g0 : decide (x.id ≤ pi) = !lt := by
            rw [← hlt]
            by_cases h9 : pi < x.id
            · simp [h9]
            · simp [h9]; omega
          have hst : stepE d (p + 1) = lt := by
            unfold stepE
            rw [Nat.add_sub_cancel, HX.out, HO.out, HP.out, hlt]
            simp
          have HST := Lib.hid hst
          clear hst hlt
          have x0' : wx.cell? ⟨ad.block, ad.off + (p + 1) * 8, none⟩ = some (.int .i64 x.id) := by
            have h := x0
            rw [show (p + 1) * 8 = (p * 8 + 7) + 1 by omega, add_succ''] at h
            rw [show (p + 1) * 8 = (p * 8 + 7) + 1 by omega]
            exact h
          cases lt with
          | false =>
            have hf : rightE d = false := rightE_false (i := p + 1) (by rw [HD.out]; exact hkn) HST.out
            have HF := Lib.hid (HBB.out.symm.trans hf)
            clear hf HBB
            simp only [Bool.not_false] at g0
            go_wp2_with fail
            have q_p0 := fun d os => cell_regrown p0 d os
            have q_x0 := fun d os => cell_regrown x0 d os
            have q_x0' := fun d os => cell_regrown x0' d os
            try simp only [List.append]
            first | refine wp_region_text_below ?_ | refine wp_region_quiet_below (by kernel_rfl) (by kernel_rfl) ?_
            repeat (go_big_quiet_step ((fail)))
            refine wpQuiet_nil ?_
            intro _ hqw
            obtain ⟨pq, hqw⟩ := hqw
            subst hqw
            clear q_p0 q_x0 q_x0'
            have hb3 := below_regrown wx pq.d pq.os
            generalize grow (redrawn wx pq.d) pq.os = wq at *
            go_wp2
            go_ret
            exact ⟨by rw [HF.out]; rfl, hB2.trans (hb3.mono hB2.size)⟩
          | true =>
            have HN : Hid (∀ j, j < p + 1 + 1 → stepE d j = true) := fun j hj => by
              by_cases e : j = p + 1
              · rw [e]; exact HST.out
              · exact HQ.out j (by omega)
            simp only [Bool.not_true] at g0
            go_wp2_with fail
            have q_p0 := fun d os => cell_regrown p0 d os
            have q_x0 := fun d os => cell_regrown x0 d os
            have q_x0' := fun d os => cell_regrown x0' d os
            try simp only [List.append]
            first | refine wp_region_text_below ?_ | refine wp_region_quiet_below (by kernel_rfl) (by kernel_rfl) ?_
            repeat (go_big_quiet_step ((fail)))
            refine wpQuiet_nil ?_
            intro _ hqw
            obtain ⟨pq, hqw⟩ := hqw
            subst hqw
            clear q_p0 q_x0 q_x0'
            have hb3 := below_regrown wx pq.d pq.os
            clear p0 x0 x0' g0 t0 hd0
            generalize grow (redrawn wx pq.d) pq.os = wq at *
            go_wp2
            go_roundw
            case rel => exact ⟨p + 1 + 1, by omega, by go_num, HN, hB2.trans (hb3.mono hB2.size)⟩
            case measure => simp [intOf]; omega
    · obtain rfl : k = n := by omega
      have hf : rightE d = true := rightE_true.2 (fun i hi => HQ.out i (by rw [HD.out] at hi; exact hi))
      have HF := Lib.hid (HBB.out.symm.trans hf)
      clear hf HBB
      go_wp2
      go_ret
      exact ⟨by rw [HF.out]; rfl, hB⟩
theorem rnode_is {n : Int} (b : Bool) (h : nodeB n = b) (w : World) :
    Calls Try.prog 40 #[.int .i64 n] w fun e w' => e = .returned (.bool b) ∧ w = w' := h ▸ rnode_any n w
set_option maxHeartbeats 4000000 in
theorem rasked12_any (A : Option Addr) (n c : Nat) (d : List Ed) (q t now size : Int) (w : World) (hd : d.length = n) (hn : n ≤ 1000000) (h : Sl w w.heap.size 8 A n c (flatEd d)) (b : Bool) (hb : (askE d q now size && nodeB t) = b) :
    Calls Try.prog 23 #[.slice A n c, .int .i64 q, .int .i64 t, .int .i64 now, .int .i64 size] w fun e w' => e = .returned (.bool b) ∧ Below w.heap.size w w' := by
  subst hb
  obtain ⟨b1, e1⟩ : ∃ v, nodeB q = v := ⟨_, rfl⟩
  obtain ⟨b2, e2⟩ : ∃ v, nodeB t = v := ⟨_, rfl⟩
  obtain ⟨b4, e4⟩ : ∃ v, rightE d = v := ⟨_, rfl⟩
  have hres : (askE d q now size && nodeB t) = (b4 && b1 && b2 && decide (now ≥ 0) && decide (now ≤ 1099511627776) && decide (size ≥ 0) && decide (size ≤ 1099511627775)) := by
    unfold askE inB
    rw [e1, e2, e4]
    cases b1 <;> cases b2 <;> cases b4 <;> simp [Bool.decide_and, Bool.and_assoc]
  rw [hres]
  obtain ⟨p1, f1⟩ : ∃ v, decide (now ≥ 0) = v := ⟨_, rfl⟩
  obtain ⟨p2, f2⟩ : ∃ v, decide (now ≤ 1099511627776) = v := ⟨_, rfl⟩
  obtain ⟨p3, f3⟩ : ∃ v, decide (size ≥ 0) = v := ⟨_, rfl⟩
  obtain ⟨p4, f4⟩ : ∃ v, decide (size ≤ 1099511627775) = v := ⟨_, rfl⟩
  rw [f1, f2, f3, f4]
  have FP1 := Lib.hid f1
  have FP2 := Lib.hid f2
  have FP3 := Lib.hid f3
  have FP4 := Lib.hid f4
  clear f1 f2 f3 f4
  have E1 := Lib.hid e1
  have E2 := Lib.hid e2
  have E4 := Lib.hid e4
  have HP := Lib.hid (rright12_any A n c d w hd hn h b4 e4)
  clear e1 e2 e4 hd h hres
  go_enter Try.func23, Try.ntmps23
  go_wp2_with fail
  refine HP.out.mono ?_
  rintro e w1 ⟨rfl, hb⟩
  go_wp2_with fail
  refine (rnode_is b1 E1.out _).mono ?_
  rintro e w' ⟨rfl, rfl⟩
  go_wp2_with fail
  refine (rnode_is b2 E2.out _).mono ?_
  rintro e w' ⟨rfl, rfl⟩
  have f1 := FP1.out
  have f2 := FP2.out
  have f3 := FP3.out
  have f4 := FP4.out
  cases b4 <;> cases b1 <;> cases b2 <;> cases p1 <;> cases p2 <;> cases p3 <;> cases p4
  all_goals
    go_wp2
    go_ret
    exact ⟨rfl, hb⟩
end Go.Proofs.Ytjkcjbcbnnpmfaa
