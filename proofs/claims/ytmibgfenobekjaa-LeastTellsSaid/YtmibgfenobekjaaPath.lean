/- Contracts of package path: Right, asked, find: at all arguments. They make new memory alone. -/
import Derived.Test.YtmibgfenobekjaaPathMath
import Derived.Test.YtmibgfenobekjaaGQ12
import Derived.Test.YtmibgfenobekjaaGQ5
namespace Go.Proofs.Ytmibgfenobekjaa
open Go.ChangeShapes Go.WideShapes Go.ChangeAt Go.RowKit Go.Sort
set_option linter.unusedSimpArgs false
set_option linter.unusedVariables false
theorem hok_is (x : Ed) (b : Bool) (h : x.ok = b) (w : World) : Calls Try.prog 79 #[.agg #[.int .i64 x.id, .int .i64 x.fr, .int .i64 x.tn, .int .i64 x.op, .int .i64 x.en, .int .i64 x.ra, .int .i64 x.ow, .int .i64 x.ro]] w fun e w' => e = .returned (.bool b) ∧ Below w.heap.size w w' := hright_is b h w
set_option maxHeartbeats 4000000 in
set_option maxRecDepth 100000 in
theorem pright_any (A : Option Addr) (n c : Nat) (d : List Ed) (w : World) (hd : d.length = n) (hn : n ≤ 1000000) (h : Sl w w.heap.size 8 A n c (flatEd d)) (b : Bool) (hb : rightE d = b) :
    Calls Try.prog 58 #[.slice A n c] w fun e w' => e = .returned (.bool b) ∧ Below w.heap.size w w' := by
  have HD := Lib.hid hd
  have HBB := Lib.hid hb
  clear hd hb
  go_enter Try.func58, Try.ntmps58
  go_wp2
  go_loopw [7] (fun i wr => ∃ k : Nat, k ≤ n ∧ i = .int .i64 k ∧ Hid (∀ j, j < k → stepE d j = true) ∧ Below w.heap.size w wr) (fun i _ => n - (intOf i).toNat)
  case atStart => exact ⟨0, by omega, rfl, (fun j hj => by omega), Below.refl _ _⟩
  case round =>
    obtain ⟨k, hk, rfl, HQ, hB⟩ := hrel
    by_cases hkn : k < n
    · have hl := h.below hB
      obtain ⟨ad, rfl, hab, c0, c1, c2, c3, c4, c5, c6, c7⟩ := hl.lst.atEd HD.out hkn
      have hsw := hB.size
      obtain ⟨x, hx⟩ : ∃ x, gEd d k = x := ⟨_, rfl⟩
      rw [hx] at c0 c1 c2 c3 c4 c5 c6 c7
      have HX := Lib.hid hx
      clear hx
      have hBa : Below wr.heap.size wr (wr.alloc (.cells #[.int .i64 x.id, .int .i64 x.fr, .int .i64 x.tn, .int .i64 x.op, .int .i64 x.en, .int .i64 x.ra, .int .i64 x.ow, .int .i64 x.ro] 82)) := by (repeat (first | exact Below.refl _ _ | refine Below.alloc ?_ (by first | omega | (simp; done) | (simp; omega)) _ | refine Below.setCell ?_ (by first | omega | (simp; done) | (simp; omega)) _ | refine Below.drew ?_))
      have hX := Blok.new wr 82 #[.int .i64 x.id, .int .i64 x.fr, .int .i64 x.tn, .int .i64 x.op, .int .i64 x.en, .int .i64 x.ra, .int .i64 x.ow, .int .i64 x.ro]
      have hB2 := hB.trans (hBa.mono hB.size)
      have hl2 := hl.below (hBa.mono hB.size)
      obtain ⟨o, ho⟩ : ∃ o, x.ok = o := ⟨_, rfl⟩
      have HO := Lib.hid ho
      clear ho
      go_wp2_with fail
      clear c0 c1 c2 c3 c4 c5 c6 c7 hB hl hBa
      generalize wr.alloc (.cells #[.int .i64 x.id, .int .i64 x.fr, .int .i64 x.tn, .int .i64 x.op, .int .i64 x.en, .int .i64 x.ra, .int .i64 x.ow, .int .i64 x.ro] 82) = wx at *
      generalize wr.heap.size = bb at *
      have x0 : wx.cell? ⟨bb, 0, none⟩ = some (.int .i64 x.id) := hX.cell 0
      have x1 : wx.cell? ⟨bb, 1, none⟩ = some (.int .i64 x.fr) := hX.cell 1
      have x2 : wx.cell? ⟨bb, 2, none⟩ = some (.int .i64 x.tn) := hX.cell 2
      have x3 : wx.cell? ⟨bb, 3, none⟩ = some (.int .i64 x.op) := hX.cell 3
      have x4 : wx.cell? ⟨bb, 4, none⟩ = some (.int .i64 x.en) := hX.cell 4
      have x5 : wx.cell? ⟨bb, 5, none⟩ = some (.int .i64 x.ra) := hX.cell 5
      have x6 : wx.cell? ⟨bb, 6, none⟩ = some (.int .i64 x.ow) := hX.cell 6
      have x7 : wx.cell? ⟨bb, 7, none⟩ = some (.int .i64 x.ro) := hX.cell 7
      have lt_x := hX.lt
      have hcase : k = 0 ∨ ∃ p, k = p + 1 := by cases k with | zero => exact .inl rfl | succ p => exact .inr ⟨p, rfl⟩
      rcases hcase with rfl | ⟨p, rfl⟩
      · have hd0 : decide (((0 : Nat) : Int) > 0) = false := by simp
        cases o with
        | false =>
          have hf : rightE d = false := rightE_false (i := 0) (by rw [HD.out]; exact hkn) (by unfold stepE; rw [HX.out, HO.out]; rfl)
          have HF := Lib.hid (HBB.out.symm.trans hf)
          clear hf HBB
          have q_x0 := fun d os => cell_regrown x0 d os
          have q_x1 := fun d os => cell_regrown x1 d os
          have q_x2 := fun d os => cell_regrown x2 d os
          have q_x3 := fun d os => cell_regrown x3 d os
          have q_x4 := fun d os => cell_regrown x4 d os
          have q_x5 := fun d os => cell_regrown x5 d os
          have q_x6 := fun d os => cell_regrown x6 d os
          have q_x7 := fun d os => cell_regrown x7 d os
          try simp only [List.append]
          first | refine wp_region_text_below ?_ | refine wp_region_quiet_below (by kernel_rfl) (by kernel_rfl) ?_
          repeat (go_big_quiet_step (((go_at_call 79; with_reducible exact Calls.regrown_of (hok_is x false HO.out _)))))
          refine wpQuiet_nil ?_
          intro _ hqw
          obtain ⟨pq, hqw⟩ := hqw
          subst hqw
          clear q_x0 q_x1 q_x2 q_x3 q_x4 q_x5 q_x6 q_x7
          have hb3 := below_regrown wx pq.d pq.os
          generalize grow (redrawn wx pq.d) pq.os = wq at *
          go_wp2
          go_ret
          exact ⟨by rw [HF.out]; rfl, hB2.trans (hb3.mono hB2.size)⟩
        | true =>
          have HN : Hid (∀ j, j < 0 + 1 → stepE d j = true) := fun j hj => by
            obtain rfl : j = 0 := by omega
            unfold stepE
            rw [HX.out, HO.out]; rfl
          have q_x0 := fun d os => cell_regrown x0 d os
          have q_x1 := fun d os => cell_regrown x1 d os
          have q_x2 := fun d os => cell_regrown x2 d os
          have q_x3 := fun d os => cell_regrown x3 d os
          have q_x4 := fun d os => cell_regrown x4 d os
          have q_x5 := fun d os => cell_regrown x5 d os
          have q_x6 := fun d os => cell_regrown x6 d os
          have q_x7 := fun d os => cell_regrown x7 d os
          try simp only [List.append]
          first | refine wp_region_text_below ?_ | refine wp_region_quiet_below (by kernel_rfl) (by kernel_rfl) ?_
          repeat (go_big_quiet_step (((go_at_call 79; with_reducible exact Calls.regrown_of (hok_is x true HO.out _)))))
          refine wpQuiet_nil ?_
          intro _ hqw
          obtain ⟨pq, hqw⟩ := hqw
          subst hqw
          clear q_x0 q_x1 q_x2 q_x3 q_x4 q_x5 q_x6 q_x7
          have hb3 := below_regrown wx pq.d pq.os
          clear x0 x1 x2 x3 x4 x5 x6 x7 lt_x hX
          generalize grow (redrawn wx pq.d) pq.os = wq at *
          go_wp2
          go_roundw
          case rel => exact ⟨1, by omega, rfl, HN, hB2.trans (hb3.mono hB2.size)⟩
          case measure => simp [intOf]; omega
      · have hp : p < n := by omega
        obtain ⟨ad', he, _, p0, _, _, _, _, _, _, _⟩ := hl2.lst.atEd HD.out hp
        injection he with he
        subst he
        obtain ⟨pi, hpi⟩ : ∃ q, (gEd d p).id = q := ⟨_, rfl⟩
        rw [hpi] at p0
        have HP := Lib.hid hpi
        clear hpi
        have hd0 : decide (((p + 1 : Nat) : Int) > 0) = true := decide_eq_true (by omega)
        have t0 : IntKind.i64.wrap (((p + 1 : Nat) : Int) - 1) = (p : Int) := by
          rw [IntWalk.i64_in _ (by omega)]; omega
        cases o with
        | false =>
          have hf : rightE d = false := rightE_false (i := p + 1) (by rw [HD.out]; exact hkn) (by unfold stepE; rw [HX.out, HO.out]; rfl)
          have HF := Lib.hid (HBB.out.symm.trans hf)
          clear hf HBB
          have q_x0 := fun d os => cell_regrown x0 d os
          have q_x1 := fun d os => cell_regrown x1 d os
          have q_x2 := fun d os => cell_regrown x2 d os
          have q_x3 := fun d os => cell_regrown x3 d os
          have q_x4 := fun d os => cell_regrown x4 d os
          have q_x5 := fun d os => cell_regrown x5 d os
          have q_x6 := fun d os => cell_regrown x6 d os
          have q_x7 := fun d os => cell_regrown x7 d os
          have q_p0 := fun d os => cell_regrown p0 d os
          try simp only [List.append]
          first | refine wp_region_text_below ?_ | refine wp_region_quiet_below (by kernel_rfl) (by kernel_rfl) ?_
          repeat (go_big_quiet_step (((go_at_call 79; with_reducible exact Calls.regrown_of (hok_is x false HO.out _)))))
          refine wpQuiet_nil ?_
          intro _ hqw
          obtain ⟨pq, hqw⟩ := hqw
          subst hqw
          clear q_x0 q_x1 q_x2 q_x3 q_x4 q_x5 q_x6 q_x7 q_p0
          have hb3 := below_regrown wx pq.d pq.os
          generalize grow (redrawn wx pq.d) pq.os = wq at *
          go_wp2
          go_ret
          exact ⟨by rw [HF.out]; rfl, hB2.trans (hb3.mono hB2.size)⟩
        | true =>
          obtain ⟨lt, hlt⟩ : ∃ q, decide (pi < x.id) = q := ⟨_, rfl⟩
          have g0 : decide (x.id ≤ pi) = !lt := by
            rw [← hlt]
            by_cases h9 : pi < x.id
            · simp [h9]
            · simp [h9]; omega
          have hst : stepE d (p + 1) = lt := by
            unfold stepE
            rw [Nat.add_sub_cancel, HX.out, HO.out, HP.out, hlt]
            simp
          have HST := Lib.hid hst
          clear hst hlt
          cases lt with
          | false =>
            have hf : rightE d = false := rightE_false (i := p + 1) (by rw [HD.out]; exact hkn) HST.out
            have HF := Lib.hid (HBB.out.symm.trans hf)
            clear hf HBB
            simp only [Bool.not_false] at g0
            have q_x0 := fun d os => cell_regrown x0 d os
            have q_x1 := fun d os => cell_regrown x1 d os
            have q_x2 := fun d os => cell_regrown x2 d os
            have q_x3 := fun d os => cell_regrown x3 d os
            have q_x4 := fun d os => cell_regrown x4 d os
            have q_x5 := fun d os => cell_regrown x5 d os
            have q_x6 := fun d os => cell_regrown x6 d os
            have q_x7 := fun d os => cell_regrown x7 d os
            have q_p0 := fun d os => cell_regrown p0 d os
            try simp only [List.append]
            first | refine wp_region_text_below ?_ | refine wp_region_quiet_below (by kernel_rfl) (by kernel_rfl) ?_
            repeat (go_big_quiet_step (((go_at_call 79; with_reducible exact Calls.regrown_of (hok_is x true HO.out _)))))
            refine wpQuiet_nil ?_
            intro _ hqw
            obtain ⟨pq, hqw⟩ := hqw
            subst hqw
            clear q_x0 q_x1 q_x2 q_x3 q_x4 q_x5 q_x6 q_x7 q_p0
            have hb3 := below_regrown wx pq.d pq.os
            generalize grow (redrawn wx pq.d) pq.os = wq at *
            go_wp2
            go_ret
            exact ⟨by rw [HF.out]; rfl, hB2.trans (hb3.mono hB2.size)⟩
          | true =>
            have HN : Hid (∀ j, j < p + 1 + 1 → stepE d j = true) := fun j hj => by
              by_cases e : j = p + 1
              · rw [e]; exact HST.out
              · exact HQ.out j (by omega)
            simp only [Bool.not_true] at g0
            have q_x0 := fun d os => cell_regrown x0 d os
            have q_x1 := fun d os => cell_regrown x1 d os
            have q_x2 := fun d os => cell_regrown x2 d os
            have q_x3 := fun d os => cell_regrown x3 d os
            have q_x4 := fun d os => cell_regrown x4 d os
            have q_x5 := fun d os => cell_regrown x5 d os
            have q_x6 := fun d os => cell_regrown x6 d os
            have q_x7 := fun d os => cell_regrown x7 d os
            have q_p0 := fun d os => cell_regrown p0 d os
            try simp only [List.append]
            first | refine wp_region_text_below ?_ | refine wp_region_quiet_below (by kernel_rfl) (by kernel_rfl) ?_
            repeat (go_big_quiet_step (((go_at_call 79; with_reducible exact Calls.regrown_of (hok_is x true HO.out _)))))
            refine wpQuiet_nil ?_
            intro _ hqw
            obtain ⟨pq, hqw⟩ := hqw
            subst hqw
            clear q_x0 q_x1 q_x2 q_x3 q_x4 q_x5 q_x6 q_x7 q_p0
            have hb3 := below_regrown wx pq.d pq.os
            clear x0 x1 x2 x3 x4 x5 x6 x7 lt_x hX p0 g0 t0 hd0
            generalize grow (redrawn wx pq.d) pq.os = wq at *
            go_wp2
            go_roundw
            case rel => exact ⟨p + 1 + 1, by omega, by go_num, HN, hB2.trans (hb3.mono hB2.size)⟩
            case measure => simp [intOf]; omega
    · obtain rfl : k = n := by omega
      have hf : rightE d = true := rightE_true.2 (fun i hi => HQ.out i (by rw [HD.out] at hi; exact hi))
      have HF := Lib.hid (HBB.out.symm.trans hf)
      clear hf HBB
      go_wp2
      go_ret
      exact ⟨by rw [HF.out]; rfl, hB⟩
set_option maxHeartbeats 2000000 in
theorem pasked_any (A : Option Addr) (n c : Nat) (d : List Ed) (q now size : Int) (w : World) (hd : d.length = n) (hn : n ≤ 1000000) (h : Sl w w.heap.size 8 A n c (flatEd d)) (b : Bool) (hb : askE d q now size = b) :
    Calls Try.prog 33 #[.slice A n c, .int .i64 q, .int .i64 now, .int .i64 size] w fun e w' => e = .returned (.bool b) ∧ Below w.heap.size w w' := by
  subst hb
  unfold askE
  obtain ⟨b1, e1⟩ : ∃ t, nodeB q = t := ⟨_, rfl⟩
  obtain ⟨b2, e2⟩ : ∃ t, inB now 0 1099511627776 = t := ⟨_, rfl⟩
  obtain ⟨b3, e3⟩ : ∃ t, inB size 0 1099511627775 = t := ⟨_, rfl⟩
  obtain ⟨b4, e4⟩ : ∃ t, rightE d = t := ⟨_, rfl⟩
  rw [e1, e2, e3, e4]
  have E1 := Lib.hid e1
  have E2 := Lib.hid e2
  have E3 := Lib.hid e3
  have E4 := Lib.hid e4
  have HP := Lib.hid (pright_any A n c d w hd hn h b4 e4)
  clear e1 e2 e3 e4 hd h
  cases b1 <;> cases b2 <;> cases b3 <;> cases b4
  all_goals
    go_enter Try.func33, Try.ntmps33
    go_wp2_with (first
      | (go_at_call 34; (with_reducible refine Calls.mono (node_is _ E1.out _) ?_); rintro e w' ⟨rfl, rfl⟩)
      | (go_at_call 40; (with_reducible refine Calls.mono (in_is _ E2.out _) ?_); rintro e w' ⟨rfl, rfl⟩)
      | (go_at_call 40; (with_reducible refine Calls.mono (in_is _ E3.out _) ?_); rintro e w' ⟨rfl, rfl⟩)
      | (go_at_call 58; (with_reducible refine Calls.mono HP.out ?_); rintro e w' ⟨rfl, hb⟩))
    go_ret
    first | exact ⟨rfl, Below.refl _ _⟩ | exact ⟨rfl, hb⟩
end Go.Proofs.Ytmibgfenobekjaa
