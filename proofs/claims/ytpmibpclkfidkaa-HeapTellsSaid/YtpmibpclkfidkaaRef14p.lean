/- The document's own heap: Push, New. -/
import Derived.Test.YtpmibpclkfidkaaPush14
namespace Go.Proofs.Ytpmibpclkfidkaa
open Go.ChangeShapes Go.WideShapes Go.ChangeAt Go.RowKit Go.Sort Hp
set_option linter.unusedSimpArgs false
set_option linter.unusedVariables false
theorem lit_grown {w w' : World} {row : Option Nat} {t : TypeId} {cs : Array Value} {g : Nat} (h : Blok w g t cs) (hg : w.grownBy w' row) (hr : row ≠ some g) : ∀ j u, cs.toList[j]? = some u → w'.cell? ((⟨g, 0, none⟩ : Addr).add j) = some u := by
  intro j u hj
  have e : ((⟨g, 0, none⟩ : Addr).add j) = ⟨g, j, none⟩ := by
    unfold Addr.add; split <;> simp_all
  rw [e, (h.grown hg (fun x => hr x.symm)).cell j]
  simpa using hj
set_option maxHeartbeats 4000000 in
set_option maxRecDepth 100000 in
theorem rpush_any {w : World} {B gb : Nat} {A : Option Addr} {n c : Nat} {s : List (Int × Int)} (r : Int × Int) (h : RefB w B gb A n c s) (hn : n < 1000000) (hBw : B ≤ w.heap.size) :
    Calls Try.prog 11 #[.pointer (some ⟨gb, 0, none⟩), .agg #[.int .i64 r.1, .int .i64 r.2]] w fun e w' => e = .returned (.tuple #[]) ∧ ∃ g' c' s', RefB w' B gb (some ⟨g', 0, none⟩) (n + 1) c' s' ∧ s'.Perm (s ++ [r]) ∧ w.heap.size ≤ g' ∧ Kept (fun k => k = gb) w w' := by
  obtain ⟨i0, hi0, hz0, hz1, hz2⟩ := info_parts ready_info
  have hBa : Below w.heap.size w (w.alloc (.cells #[.int .i64 r.1, .int .i64 r.2] 30)) := (Below.refl _ _).alloc (Nat.le_refl _) _
  have hx := Blok.new w 30 #[.int .i64 r.1, .int .i64 r.2]
  have hmax := h.max
  unfold maxLen at hmax
  have hcap := h.cap
  have hgl := h.head.lt
  obtain ⟨rn, ra⟩ := r
  go_enter Try.func11, Try.ntmps11
  go_wp2
  go_loopw [4] (fun k wr => ∃ q : Nat, q ≤ n ∧ k = .int .i64 q ∧ Hid (∀ i, i < q → ahd (gt s i) (rn, ra) = true) ∧ Below w.heap.size w wr ∧ Blok wr w.heap.size 30 #[.int .i64 rn, .int .i64 ra]) (fun k _ => n - (intOf k).toNat)
  case atStart => exact ⟨0, by omega, rfl, (fun i hi => by omega), hBa, hx⟩
  case round =>
    clear hBa hx
    obtain ⟨q, hq, rfl, HQ, hB, hX⟩ := hrel
    have hs := hB.size
    have hr := h.below hB
    have cb : wr.cell? ⟨gb, 0, none⟩ = some (.slice A n c) := hr.head.cell 0
    have x0 : wr.cell? ⟨w.heap.size, 0, none⟩ = some (.int .i64 rn) := hX.cell 0
    have x1 : wr.cell? ⟨w.heap.size, 1, none⟩ = some (.int .i64 ra) := hX.cell 1
    have hqc : (q < n ∧ ahd (gt s q) (rn, ra) = true) ∨ (q < n ∧ ahd (gt s q) (rn, ra) = false) ∨ q = n := by
      by_cases hqn : q < n
      · cases ahd (gt s q) (rn, ra)
        · exact .inr (.inl ⟨hqn, rfl⟩)
        · exact .inl ⟨hqn, rfl⟩
      · exact .inr (.inr (by omega))
    rcases hqc with ⟨hqn, ha⟩ | ⟨hqn, ha⟩ | rfl
    · obtain ⟨ad, rfl, hab, c0, c1⟩ := hr.lst.fst2 hr.len hqn
      have HA := Lib.hid ha
      clear ha
      go_wp2_with fail
      have q_cb := fun d os => cell_regrown cb d os
      have q_x0 := fun d os => cell_regrown x0 d os
      have q_x1 := fun d os => cell_regrown x1 d os
      have q_c0 := fun d os => cell_regrown c0 d os
      have q_c1 := fun d os => cell_regrown c1 d os
      try simp only [List.append]
      first | refine wp_region_text_below ?_ | refine wp_region_quiet_below (by kernel_rfl) (by kernel_rfl) ?_
      repeat (go_big_quiet_step ((go_at_call 19; with_reducible exact Calls.regrown_of (HA.out ▸ rless_any (gt s q) (rn, ra) _))))
      refine wpQuiet_nil ?_
      intro _ hqw
      obtain ⟨pq, hqw⟩ := hqw
      subst hqw
      clear q_cb q_x0 q_x1 q_c0 q_c1
      have hbel := below_regrown wr pq.d pq.os
      replace hB := hB.trans (hbel.mono hs)
      replace hX := hX.below hbel hX.lt
      clear hbel cb x0 x1 c0 c1 hr
      generalize grow (redrawn wr pq.d) pq.os = wq at *
      go_wp2
      go_roundw
      case rel => exact ⟨q + 1, by omega, by go_num, (fun i hi => by
        by_cases e : i = q
        · rw [e]; exact HA.out
        · exact HQ.out i (by omega)), hB, hX⟩
      case measure => simp [intOf]; omega
    · have hfin : Hid (q < s.length → ahd (gt s q) (rn, ra) = false) := fun _ => ha
      obtain ⟨ad, rfl, hab, c0, c1⟩ := hr.lst.fst2 hr.len hqn
      have HA := Lib.hid ha
      clear ha
      go_wp2_with fail
      have q_cb := fun d os => cell_regrown cb d os
      have q_x0 := fun d os => cell_regrown x0 d os
      have q_x1 := fun d os => cell_regrown x1 d os
      have q_c0 := fun d os => cell_regrown c0 d os
      have q_c1 := fun d os => cell_regrown c1 d os
      try simp only [List.append]
      first | refine wp_region_text_below ?_ | refine wp_region_quiet_below (by kernel_rfl) (by kernel_rfl) ?_
      repeat (go_big_quiet_step ((go_at_call 19; with_reducible exact Calls.regrown_of (HA.out ▸ rless_any (gt s q) (rn, ra) _))))
      refine wpQuiet_nil ?_
      intro _ hqw
      obtain ⟨pq, hqw⟩ := hqw
      subst hqw
      clear q_cb q_x0 q_x1 q_c0 q_c1
      clear c0 c1 hab
      have hbel := below_regrown wr pq.d pq.os
      replace hB := hB.trans (hbel.mono hs)
      replace hr := hr.below hbel
      replace hX := hX.below hbel hX.lt
      clear hbel cb x0 x1
      generalize grow (redrawn wr pq.d) pq.os = wq at *
      have cb : wq.cell? ⟨gb, 0, none⟩ = some (.slice (some ad) n c) := hr.head.cell 0
      have fb := hr.head.free 0
      have x0 : wq.cell? ⟨w.heap.size, 0, none⟩ = some (.int .i64 rn) := hX.cell 0
      have x1 : wq.cell? ⟨w.heap.size, 1, none⟩ = some (.int .i64 ra) := hX.cell 1
      have hqi : (q : Int) ≤ (n : Int) := by omega
      have hqc' : q ≤ c := by omega
      have hg1 := hr.head.lt
      have hg2 := hX.lt
      have hl1 := hr.lst.from_ (k := q) hq hcap
      rw [flat2_drop] at hl1
      have hl3 := hr.lst.upto (k := q) hq
      rw [flat2_take] at hl3
      have hqz : (0 : Int) ≤ (q : Int) := by omega
      have hsw := hB.size
      have hBw0 := hBw
      have hlen : (s.take q ++ [(rn, ra)] ++ s.drop q).length = n + 1 := by simp only [List.length_append, List.length_take, List.length_drop, List.length_singleton, hr.len]; omega
      have hord : sorted (s.take q ++ [(rn, ra)] ++ s.drop q) := sorted_ins hr.ord (by rw [hr.len]; omega) HQ.out hfin.out
      go_upto_region 4 with fail
      refine gen_frame ?_
      intro a0 ha0
      try simp only [List.append]
      refine wp_region_frames rfl (by kernel_rfl) (by kernel_rfl) (fun V x w' => PM wq 30 q n (.int .i64 rn) (.int .i64 ra) (flat2 (s.take q)) (flat2 (s.drop q)) (fun w' => ∃ g' c', RefB w' B gb (some ⟨g', 0, none⟩) (n + 1) c' (s.take q ++ [(rn, ra)] ++ s.drop q) ∧ wq.heap.size ≤ g' ∧ Kept (fun k => k = gb) wq w') V x w' ∧ (V.getD 0 true = true → x 0 = .pointer (some ⟨gb, 0, none⟩)) ∧ (V.getD 2 true = true → x 2 = .pointer (some ⟨gb, 0, none⟩)) ∧ (V.getD 3 true = true → x 3 = .pointer (some ⟨gb, 0, none⟩)) ∧ (V.getD 4 true = true → x 4 = .pointer (some ⟨gb, 0, none⟩)) ∧ (V.getD 5 true = true → x 5 = .slice (some ad) n c) ∧ (V.getD 6 true = true → x 6 = .int .i64 (q : Int)) ∧ (V.getD 7 true = true → ∃ A1 c1, x 7 = .slice A1 q c1 ∧ Lst wq wq.heap.size 2 A1 q (flat2 (s.take q))) ∧ (V.getD 9 true = true → x 9 = .agg #[.int .i64 rn, .int .i64 ra]) ∧ (V.getD 12 true = true → x 12 = .pointer (some ⟨gb, 0, none⟩)) ∧ (V.getD 13 true = true → x 13 = .pointer (some ⟨gb, 0, none⟩)) ∧ (V.getD 14 true = true → x 14 = .pointer (some ⟨gb, 0, none⟩)) ∧ (V.getD 15 true = true → x 15 = .slice (some ad) n c) ∧ (V.getD 16 true = true → x 16 = .int .i64 (q : Int)) ∧ (V.getD 17 true = true → ∃ A1 c1, x 17 = .slice A1 (n - q) c1 ∧ Lst wq wq.heap.size 2 A1 (n - q) (flat2 (s.drop q))) ∧ (V.getD 19 true = true → x 19 = .pointer (some ⟨gb, 0, none⟩)) ∧ (V.getD 20 true = true → x 20 = .pointer (some ⟨gb, 0, none⟩))) ?_ ?_ ?_
      · intro x
        refine ⟨PM.start _ (Below.refl _ _).drew (fun i hi => by simp [hi]), ?_, ?_, ?_, ?_, ?_, ?_, ?_, ?_, ?_, ?_, ?_, ?_, ?_, ?_, ?_, ?_⟩ <;> exact fun h => by simp at h
      · intro V x b w' hbq hsz hF i hi hun haf hcl
        obtain ⟨hP, f0, f2, f3, f4, f5, f6, f7, f9, f12, f13, f14, f15, f16, f17, f19, f20⟩ := hF
        have hbe : b = putAll a0 [some 25, some 26, some 27, some 28, some 29, some 30, some 31, some 32, some 33, some 34, some 35, some 36, some 37, some 38, some 39, some 40, some 41, some 42, some 43, some 44, some 45, none] x 0 := hbq
        have hz0' : a0.tmps.size = 46 := by rw [ha0]; rfl
        have e0 : b.eval (.tmp 0) = .pointer (some ⟨gb, 0, none⟩) := by rw [hbe, eval_out _ _ _ (by decide), ha0]; rfl
        have t0 : b.tmps[0]?.getD undef = .pointer (some ⟨gb, 0, none⟩) := by simpa [Act.eval] using e0
        have e3 : b.eval (.tmp 3) = .pointer (some ⟨w.heap.size, 0, none⟩) := by rw [hbe, eval_out _ _ _ (by decide), ha0]; rfl
        have t3 : b.tmps[3]?.getD undef = .pointer (some ⟨w.heap.size, 0, none⟩) := by simpa [Act.eval] using e3
        have e4 : b.eval (.tmp 4) = .int .i64 (q : Int) := by rw [hbe, eval_out _ _ _ (by decide), ha0]; rfl
        have t4 : b.tmps[4]?.getD undef = .int .i64 (q : Int) := by simpa [Act.eval] using e4
        clear hbq
        have hi' : i < 22 := hi
        clear hi
        obtain rfl | rfl | rfl | rfl | rfl | rfl | rfl | rfl | rfl | rfl | rfl | rfl | rfl | rfl | rfl | rfl | rfl | rfl | rfl | rfl | rfl | rfl : i = 0 ∨ i = 1 ∨ i = 2 ∨ i = 3 ∨ i = 4 ∨ i = 5 ∨ i = 6 ∨ i = 7 ∨ i = 8 ∨ i = 9 ∨ i = 10 ∨ i = 11 ∨ i = 12 ∨ i = 13 ∨ i = 14 ∨ i = 15 ∨ i = 16 ∨ i = 17 ∨ i = 18 ∨ i = 19 ∨ i = 20 ∨ i = 21 := by omega
        · refine wpOp_runs (v := .pointer (some ⟨gb, 0, none⟩)) rfl rfl (by simp [execOp, go_sem, t0]) ⟨_, _, rfl, rfl, ⟨hP.other 0 _ (by decide) (by decide) (by decide) (by decide) (by decide) (by decide), fun _ => upd_same _ _ _, kE f2 rfl, kE f3 rfl, kE f4 rfl, kE f5 rfl, kE f6 rfl, fun h => by rw [upd_ne x _ (by decide)]; exact f7 (by rw [← getD_set_ne true (show 0 ≠ 7 by decide)]; exact h), kE f9 rfl, kE f12 rfl, kE f13 rfl, kE f14 rfl, kE f15 rfl, kE f16 rfl, fun h => by rw [upd_ne x _ (by decide)]; exact f17 (by rw [← getD_set_ne true (show 0 ≠ 17 by decide)]; exact h), kE f19 rfl, kE f20 rfl⟩⟩
        · have n8 := not_yet hcl hun (j := 8) rfl ⟨1, .data⟩ (by simp) rfl rfl
          have n11 := not_yet hcl n8 (j := 11) rfl ⟨8, .data⟩ (by simp) rfl rfl
          have n18 := not_yet hcl n11 (j := 18) rfl ⟨11, .data⟩ (by simp) rfl rfl
          have n21 := not_yet hcl n18 (j := 21) rfl ⟨18, .data⟩ (by simp) rfl rfl
          refine wpOp_runs (v := .slice (some ⟨w'.heap.size, 0, none⟩) 0 0) (w' := w'.alloc (.cells #[] 30)) rfl rfl (by simp [execOp, go_sem]) ⟨_, _, rfl, rfl, ⟨hP.made1 n8 n11 n18 n21, kE f0 rfl, kE f2 rfl, kE f3 rfl, kE f4 rfl, kE f5 rfl, kE f6 rfl, fun h => by rw [upd_ne x _ (by decide)]; exact f7 (by rw [← getD_set_ne true (show 1 ≠ 7 by decide)]; exact h), kE f9 rfl, kE f12 rfl, kE f13 rfl, kE f14 rfl, kE f15 rfl, kE f16 rfl, fun h => by rw [upd_ne x _ (by decide)]; exact f17 (by rw [← getD_set_ne true (show 1 ≠ 17 by decide)]; exact h), kE f19 rfl, kE f20 rfl⟩⟩
        · refine wpOp_runs (v := .pointer (some ⟨gb, 0, none⟩)) rfl rfl (by simp [execOp, go_sem, t0]) ⟨_, _, rfl, rfl, ⟨hP.other 2 _ (by decide) (by decide) (by decide) (by decide) (by decide) (by decide), kE f0 rfl, fun _ => upd_same _ _ _, kE f3 rfl, kE f4 rfl, kE f5 rfl, kE f6 rfl, fun h => by rw [upd_ne x _ (by decide)]; exact f7 (by rw [← getD_set_ne true (show 2 ≠ 7 by decide)]; exact h), kE f9 rfl, kE f12 rfl, kE f13 rfl, kE f14 rfl, kE f15 rfl, kE f16 rfl, fun h => by rw [upd_ne x _ (by decide)]; exact f17 (by rw [← getD_set_ne true (show 2 ≠ 17 by decide)]; exact h), kE f19 rfl, kE f20 rfl⟩⟩
        · have d2 := getD_ft (haf _ rfl ⟨2, .data⟩ (by simp) rfl)
          have e27 : b.eval (.tmp 27) = .pointer (some ⟨gb, 0, none⟩) := by rw [hbe, eval_in _ _ _ 2 (by decide) rfl (by rw [hz0']; decide)]; exact f2 d2
          have t27 : b.tmps[27]?.getD undef = .pointer (some ⟨gb, 0, none⟩) := by have tv := e27; simpa only [Act.eval, Array.getD_eq_getD_getElem?] using tv
          refine wpOp_runs (v := .pointer (some ⟨gb, 0, none⟩)) rfl rfl (by simp [execOp, go_sem, t27]) ⟨_, _, rfl, rfl, ⟨hP.other 3 _ (by decide) (by decide) (by decide) (by decide) (by decide) (by decide), kE f0 rfl, kE f2 rfl, fun _ => upd_same _ _ _, kE f4 rfl, kE f5 rfl, kE f6 rfl, fun h => by rw [upd_ne x _ (by decide)]; exact f7 (by rw [← getD_set_ne true (show 3 ≠ 7 by decide)]; exact h), kE f9 rfl, kE f12 rfl, kE f13 rfl, kE f14 rfl, kE f15 rfl, kE f16 rfl, fun h => by rw [upd_ne x _ (by decide)]; exact f17 (by rw [← getD_set_ne true (show 3 ≠ 17 by decide)]; exact h), kE f19 rfl, kE f20 rfl⟩⟩
        · have d3 := getD_ft (haf _ rfl ⟨3, .data⟩ (by simp) rfl)
          have e28 : b.eval (.tmp 28) = .pointer (some ⟨gb, 0, none⟩) := by rw [hbe, eval_in _ _ _ 3 (by decide) rfl (by rw [hz0']; decide)]; exact f3 d3
          have t28 : b.tmps[28]?.getD undef = .pointer (some ⟨gb, 0, none⟩) := by have tv := e28; simpa only [Act.eval, Array.getD_eq_getD_getElem?] using tv
          refine wpOp_runs (v := .pointer (some ⟨gb, 0, none⟩)) rfl rfl (by simp [execOp, go_sem, t28]) ⟨_, _, rfl, rfl, ⟨hP.other 4 _ (by decide) (by decide) (by decide) (by decide) (by decide) (by decide), kE f0 rfl, kE f2 rfl, kE f3 rfl, fun _ => upd_same _ _ _, kE f5 rfl, kE f6 rfl, fun h => by rw [upd_ne x _ (by decide)]; exact f7 (by rw [← getD_set_ne true (show 4 ≠ 7 by decide)]; exact h), kE f9 rfl, kE f12 rfl, kE f13 rfl, kE f14 rfl, kE f15 rfl, kE f16 rfl, fun h => by rw [upd_ne x _ (by decide)]; exact f17 (by rw [← getD_set_ne true (show 4 ≠ 17 by decide)]; exact h), kE f19 rfl, kE f20 rfl⟩⟩
        · have d4 := getD_ft (haf _ rfl ⟨4, .data⟩ (by simp) rfl)
          have e29 : b.eval (.tmp 29) = .pointer (some ⟨gb, 0, none⟩) := by rw [hbe, eval_in _ _ _ 4 (by decide) rfl (by rw [hz0']; decide)]; exact f4 d4
          have t29 : b.tmps[29]?.getD undef = .pointer (some ⟨gb, 0, none⟩) := by have tv := e29; simpa only [Act.eval, Array.getD_eq_getD_getElem?] using tv
          have n21 := not_yet hcl hun (j := 21) rfl ⟨5, .phase⟩ (by simp) rfl rfl
          have hBw := hP.below n21
          have rr := (hBw.cell (block_lt_of_cell cb)).trans cb
          refine wpOp_runs (v := .slice (some ad) n c) rfl rfl (by simp [execOp, go_sem, t29, rr]) ⟨_, _, rfl, rfl, ⟨hP.other 5 _ (by decide) (by decide) (by decide) (by decide) (by decide) (by decide), kE f0 rfl, kE f2 rfl, kE f3 rfl, kE f4 rfl, fun _ => upd_same _ _ _, kE f6 rfl, fun h => by rw [upd_ne x _ (by decide)]; exact f7 (by rw [← getD_set_ne true (show 5 ≠ 7 by decide)]; exact h), kE f9 rfl, kE f12 rfl, kE f13 rfl, kE f14 rfl, kE f15 rfl, kE f16 rfl, fun h => by rw [upd_ne x _ (by decide)]; exact f17 (by rw [← getD_set_ne true (show 5 ≠ 17 by decide)]; exact h), kE f19 rfl, kE f20 rfl⟩⟩
        · refine wpOp_runs (v := .int .i64 (q : Int)) rfl rfl (by simp [execOp, go_sem, t4]) ⟨_, _, rfl, rfl, ⟨hP.other 6 _ (by decide) (by decide) (by decide) (by decide) (by decide) (by decide), kE f0 rfl, kE f2 rfl, kE f3 rfl, kE f4 rfl, kE f5 rfl, fun _ => upd_same _ _ _, fun h => by rw [upd_ne x _ (by decide)]; exact f7 (by rw [← getD_set_ne true (show 6 ≠ 7 by decide)]; exact h), kE f9 rfl, kE f12 rfl, kE f13 rfl, kE f14 rfl, kE f15 rfl, kE f16 rfl, fun h => by rw [upd_ne x _ (by decide)]; exact f17 (by rw [← getD_set_ne true (show 6 ≠ 17 by decide)]; exact h), kE f19 rfl, kE f20 rfl⟩⟩
        · have d5 := getD_ft (haf _ rfl ⟨5, .data⟩ (by simp) rfl)
          have e30 : b.eval (.tmp 30) = .slice (some ad) n c := by rw [hbe, eval_in _ _ _ 5 (by decide) rfl (by rw [hz0']; decide)]; exact f5 d5
          have t30 : b.tmps[30]?.getD undef = .slice (some ad) n c := by have tv := e30; simpa only [Act.eval, Array.getD_eq_getD_getElem?] using tv
          have d6 := getD_ft (haf _ rfl ⟨6, .data⟩ (by simp) rfl)
          have e31 : b.eval (.tmp 31) = .int .i64 (q : Int) := by rw [hbe, eval_in _ _ _ 6 (by decide) rfl (by rw [hz0']; decide)]; exact f6 d6
          have t31 : b.tmps[31]?.getD undef = .int .i64 (q : Int) := by have tv := e31; simpa only [Act.eval, Array.getD_eq_getD_getElem?] using tv
          refine wpOp_runs (v := .slice (some ad) q c) rfl rfl (by simp [execOp, go_sem, t30, t31, hqc', hqz]) ⟨_, _, rfl, rfl, ⟨hP.other 7 _ (by decide) (by decide) (by decide) (by decide) (by decide) (by decide), kE f0 rfl, kE f2 rfl, kE f3 rfl, kE f4 rfl, kE f5 rfl, kE f6 rfl, fun _ => ⟨_, _, upd_same _ _ _, hl3⟩, kE f9 rfl, kE f12 rfl, kE f13 rfl, kE f14 rfl, kE f15 rfl, kE f16 rfl, fun h => by rw [upd_ne x _ (by decide)]; exact f17 (by rw [← getD_set_ne true (show 7 ≠ 17 by decide)]; exact h), kE f19 rfl, kE f20 rfl⟩⟩
        · have d1 := getD_ft (haf _ rfl ⟨1, .data⟩ (by simp) rfl)
          have d7 := getD_ft (haf _ rfl ⟨7, .data⟩ (by simp) rfl)
          obtain ⟨A7, c7, x7, l7⟩ := f7 d7
          have e26 : b.eval (.tmp 26) = x 1 := by rw [hbe, eval_in _ _ _ 1 (by decide) rfl (by rw [hz0']; decide)]
          have t26 : b.tmps[26]?.getD undef = x 1 := by have tv := e26; simpa only [Act.eval, Array.getD_eq_getD_getElem?] using tv
          have e32 : b.eval (.tmp 32) = .slice A7 q c7 := by rw [hbe, eval_in _ _ _ 7 (by decide) rfl (by rw [hz0']; decide)]; exact x7
          have t32 : b.tmps[32]?.getD undef = .slice A7 q c7 := by have tv := e32; simpa only [Act.eval, Array.getD_eq_getD_getElem?] using tv
          have n11 := not_yet hcl hun (j := 11) rfl ⟨8, .data⟩ (by simp) rfl rfl
          have n18 := not_yet hcl n11 (j := 18) rfl ⟨11, .data⟩ (by simp) rfl rfl
          have n21 := not_yet hcl n18 (j := 21) rfl ⟨18, .data⟩ (by simp) rfl rfl
          have hBw := hP.below n21
          have hsz2 := hBw.size
          refine wpOp_of rfl ?_
          refine step_append_lst w' rfl (.tmp 26) (.tmp 32) 22 rfl wq.heap.size 30 i0 _ 2 16 Try.underlying22 hi0 hz0 hz1 hz2 rfl (by decide) (x 1) 0 [] e26 (hP.r1 d1 hun) wq.heap.size A7 q c7 (flat2 (s.take q)) e32 (l7.below hBw) (flat2_one _) (by unfold maxLen; omega) (by omega) hsz2 ?_
          intro v' w2 ho hg hv
          exact ⟨_, _, rfl, rfl, ⟨hP.app8 d1 hun n11 n18 n21 (by simpa using ho) hg hv, kE f0 rfl, kE f2 rfl, kE f3 rfl, kE f4 rfl, kE f5 rfl, kE f6 rfl, fun h => by rw [upd_ne x _ (by decide)]; exact f7 (by rw [← getD_set_ne true (show 8 ≠ 7 by decide)]; exact h), kE f9 rfl, kE f12 rfl, kE f13 rfl, kE f14 rfl, kE f15 rfl, kE f16 rfl, fun h => by rw [upd_ne x _ (by decide)]; exact f17 (by rw [← getD_set_ne true (show 8 ≠ 17 by decide)]; exact h), kE f19 rfl, kE f20 rfl⟩⟩
        · have n21 := not_yet hcl hun (j := 21) rfl ⟨9, .phase⟩ (by simp) rfl rfl
          have hBw := hP.below n21
          have rx0 := (hBw.cell (block_lt_of_cell x0)).trans x0
          have rx1 := (hBw.cell (block_lt_of_cell x1)).trans x1
          refine wpOp_runs (v := .agg #[.int .i64 rn, .int .i64 ra]) rfl rfl (by simp [execOp, go_sem, t3, rx0, rx1]) ⟨_, _, rfl, rfl, ⟨hP.other 9 _ (by decide) (by decide) (by decide) (by decide) (by decide) (by decide), kE f0 rfl, kE f2 rfl, kE f3 rfl, kE f4 rfl, kE f5 rfl, kE f6 rfl, fun h => by rw [upd_ne x _ (by decide)]; exact f7 (by rw [← getD_set_ne true (show 9 ≠ 7 by decide)]; exact h), fun _ => upd_same _ _ _, kE f12 rfl, kE f13 rfl, kE f14 rfl, kE f15 rfl, kE f16 rfl, fun h => by rw [upd_ne x _ (by decide)]; exact f17 (by rw [← getD_set_ne true (show 9 ≠ 17 by decide)]; exact h), kE f19 rfl, kE f20 rfl⟩⟩
        · have d9 := getD_ft (haf _ rfl ⟨9, .data⟩ (by simp) rfl)
          have e34 : b.eval (.tmp 34) = .agg #[.int .i64 rn, .int .i64 ra] := by rw [hbe, eval_in _ _ _ 9 (by decide) rfl (by rw [hz0']; decide)]; exact f9 d9
          have t34 : b.tmps[34]?.getD undef = .agg #[.int .i64 rn, .int .i64 ra] := by have tv := e34; simpa only [Act.eval, Array.getD_eq_getD_getElem?] using tv
          have n11 := not_yet hcl hun (j := 11) rfl ⟨10, .data⟩ (by simp) rfl rfl
          have n18 := not_yet hcl n11 (j := 18) rfl ⟨11, .data⟩ (by simp) rfl rfl
          have n21 := not_yet hcl n18 (j := 21) rfl ⟨18, .data⟩ (by simp) rfl rfl
          refine wpOp_runs (v := .slice (some ⟨w'.heap.size, 0, none⟩) 1 1) (w' := w'.alloc (.cells #[.int .i64 rn, .int .i64 ra] 30)) rfl rfl (by simp [execOp, go_sem, t34]) ⟨_, _, rfl, rfl, ⟨hP.made10 n11 n18 n21, kE f0 rfl, kE f2 rfl, kE f3 rfl, kE f4 rfl, kE f5 rfl, kE f6 rfl, fun h => by rw [upd_ne x _ (by decide)]; exact f7 (by rw [← getD_set_ne true (show 10 ≠ 7 by decide)]; exact h), kE f9 rfl, kE f12 rfl, kE f13 rfl, kE f14 rfl, kE f15 rfl, kE f16 rfl, fun h => by rw [upd_ne x _ (by decide)]; exact f17 (by rw [← getD_set_ne true (show 10 ≠ 17 by decide)]; exact h), kE f19 rfl, kE f20 rfl⟩⟩
        · have d8 := getD_ft (haf _ rfl ⟨8, .data⟩ (by simp) rfl)
          have d10 := getD_ft (haf _ rfl ⟨10, .data⟩ (by simp) rfl)
          have d1 := getD_ft (hcl 8 _ rfl d8 ⟨1, .data⟩ (by simp) rfl)
          have n18 := not_yet hcl hun (j := 18) rfl ⟨11, .data⟩ (by simp) rfl rfl
          have n21 := not_yet hcl n18 (j := 21) rfl ⟨18, .data⟩ (by simp) rfl rfl
          have hBw := hP.below n21
          have hsz2 := hBw.size
          obtain ⟨g, x10, hgb, hgl, _, _⟩ := hP.r10 d10 hun
          have e33 : b.eval (.tmp 33) = x 8 := by rw [hbe, eval_in _ _ _ 8 (by decide) rfl (by rw [hz0']; decide)]
          have t33 : b.tmps[33]?.getD undef = x 8 := by have tv := e33; simpa only [Act.eval, Array.getD_eq_getD_getElem?] using tv
          have e35 : b.eval (.tmp 35) = .slice (some ⟨g, 0, none⟩) 1 1 := by rw [hbe, eval_in _ _ _ 10 (by decide) rfl (by rw [hz0']; decide)]; exact x10
          have t35 : b.tmps[35]?.getD undef = .slice (some ⟨g, 0, none⟩) 1 1 := by have tv := e35; simpa only [Act.eval, Array.getD_eq_getD_getElem?] using tv
          refine wpOp_of rfl ?_
          refine step_append_lst w' rfl (.tmp 33) (.tmp 35) 22 rfl wq.heap.size 30 i0 _ 2 16 Try.underlying22 hi0 hz0 hz1 hz2 rfl (by decide) (x 8) q (flat2 (s.take q)) e33 (hP.r8 d8 hun) w'.heap.size (some ⟨g, 0, none⟩) 1 1 [.int .i64 rn, .int .i64 ra] e35 ⟨rfl, fun _ => ⟨_, rfl, hgb.lt, lit_grown hgb (grown_refl _ none) (by simp)⟩⟩ (by simp [Value.oneCell']) (by unfold maxLen; omega) (by omega) hsz2 ?_
          intro v' w2 ho hg _
          exact ⟨_, _, rfl, rfl, ⟨hP.app11 d8 hun n18 n21 d1 ho hg, kE f0 rfl, kE f2 rfl, kE f3 rfl, kE f4 rfl, kE f5 rfl, kE f6 rfl, fun h => by rw [upd_ne x _ (by decide)]; exact f7 (by rw [← getD_set_ne true (show 11 ≠ 7 by decide)]; exact h), kE f9 rfl, kE f12 rfl, kE f13 rfl, kE f14 rfl, kE f15 rfl, kE f16 rfl, fun h => by rw [upd_ne x _ (by decide)]; exact f17 (by rw [← getD_set_ne true (show 11 ≠ 17 by decide)]; exact h), kE f19 rfl, kE f20 rfl⟩⟩
        · refine wpOp_runs (v := .pointer (some ⟨gb, 0, none⟩)) rfl rfl (by simp [execOp, go_sem, t0]) ⟨_, _, rfl, rfl, ⟨hP.other 12 _ (by decide) (by decide) (by decide) (by decide) (by decide) (by decide), kE f0 rfl, kE f2 rfl, kE f3 rfl, kE f4 rfl, kE f5 rfl, kE f6 rfl, fun h => by rw [upd_ne x _ (by decide)]; exact f7 (by rw [← getD_set_ne true (show 12 ≠ 7 by decide)]; exact h), kE f9 rfl, fun _ => upd_same _ _ _, kE f13 rfl, kE f14 rfl, kE f15 rfl, kE f16 rfl, fun h => by rw [upd_ne x _ (by decide)]; exact f17 (by rw [← getD_set_ne true (show 12 ≠ 17 by decide)]; exact h), kE f19 rfl, kE f20 rfl⟩⟩
        · have d12 := getD_ft (haf _ rfl ⟨12, .data⟩ (by simp) rfl)
          have e37 : b.eval (.tmp 37) = .pointer (some ⟨gb, 0, none⟩) := by rw [hbe, eval_in _ _ _ 12 (by decide) rfl (by rw [hz0']; decide)]; exact f12 d12
          have t37 : b.tmps[37]?.getD undef = .pointer (some ⟨gb, 0, none⟩) := by have tv := e37; simpa only [Act.eval, Array.getD_eq_getD_getElem?] using tv
          refine wpOp_runs (v := .pointer (some ⟨gb, 0, none⟩)) rfl rfl (by simp [execOp, go_sem, t37]) ⟨_, _, rfl, rfl, ⟨hP.other 13 _ (by decide) (by decide) (by decide) (by decide) (by decide) (by decide), kE f0 rfl, kE f2 rfl, kE f3 rfl, kE f4 rfl, kE f5 rfl, kE f6 rfl, fun h => by rw [upd_ne x _ (by decide)]; exact f7 (by rw [← getD_set_ne true (show 13 ≠ 7 by decide)]; exact h), kE f9 rfl, kE f12 rfl, fun _ => upd_same _ _ _, kE f14 rfl, kE f15 rfl, kE f16 rfl, fun h => by rw [upd_ne x _ (by decide)]; exact f17 (by rw [← getD_set_ne true (show 13 ≠ 17 by decide)]; exact h), kE f19 rfl, kE f20 rfl⟩⟩
        · have d13 := getD_ft (haf _ rfl ⟨13, .data⟩ (by simp) rfl)
          have e38 : b.eval (.tmp 38) = .pointer (some ⟨gb, 0, none⟩) := by rw [hbe, eval_in _ _ _ 13 (by decide) rfl (by rw [hz0']; decide)]; exact f13 d13
          have t38 : b.tmps[38]?.getD undef = .pointer (some ⟨gb, 0, none⟩) := by have tv := e38; simpa only [Act.eval, Array.getD_eq_getD_getElem?] using tv
          refine wpOp_runs (v := .pointer (some ⟨gb, 0, none⟩)) rfl rfl (by simp [execOp, go_sem, t38]) ⟨_, _, rfl, rfl, ⟨hP.other 14 _ (by decide) (by decide) (by decide) (by decide) (by decide) (by decide), kE f0 rfl, kE f2 rfl, kE f3 rfl, kE f4 rfl, kE f5 rfl, kE f6 rfl, fun h => by rw [upd_ne x _ (by decide)]; exact f7 (by rw [← getD_set_ne true (show 14 ≠ 7 by decide)]; exact h), kE f9 rfl, kE f12 rfl, kE f13 rfl, fun _ => upd_same _ _ _, kE f15 rfl, kE f16 rfl, fun h => by rw [upd_ne x _ (by decide)]; exact f17 (by rw [← getD_set_ne true (show 14 ≠ 17 by decide)]; exact h), kE f19 rfl, kE f20 rfl⟩⟩
        · have d14 := getD_ft (haf _ rfl ⟨14, .data⟩ (by simp) rfl)
          have e39 : b.eval (.tmp 39) = .pointer (some ⟨gb, 0, none⟩) := by rw [hbe, eval_in _ _ _ 14 (by decide) rfl (by rw [hz0']; decide)]; exact f14 d14
          have t39 : b.tmps[39]?.getD undef = .pointer (some ⟨gb, 0, none⟩) := by have tv := e39; simpa only [Act.eval, Array.getD_eq_getD_getElem?] using tv
          have n21 := not_yet hcl hun (j := 21) rfl ⟨15, .phase⟩ (by simp) rfl rfl
          have hBw := hP.below n21
          have rr := (hBw.cell (block_lt_of_cell cb)).trans cb
          refine wpOp_runs (v := .slice (some ad) n c) rfl rfl (by simp [execOp, go_sem, t39, rr]) ⟨_, _, rfl, rfl, ⟨hP.other 15 _ (by decide) (by decide) (by decide) (by decide) (by decide) (by decide), kE f0 rfl, kE f2 rfl, kE f3 rfl, kE f4 rfl, kE f5 rfl, kE f6 rfl, fun h => by rw [upd_ne x _ (by decide)]; exact f7 (by rw [← getD_set_ne true (show 15 ≠ 7 by decide)]; exact h), kE f9 rfl, kE f12 rfl, kE f13 rfl, kE f14 rfl, fun _ => upd_same _ _ _, kE f16 rfl, fun h => by rw [upd_ne x _ (by decide)]; exact f17 (by rw [← getD_set_ne true (show 15 ≠ 17 by decide)]; exact h), kE f19 rfl, kE f20 rfl⟩⟩
        · refine wpOp_runs (v := .int .i64 (q : Int)) rfl rfl (by simp [execOp, go_sem, t4]) ⟨_, _, rfl, rfl, ⟨hP.other 16 _ (by decide) (by decide) (by decide) (by decide) (by decide) (by decide), kE f0 rfl, kE f2 rfl, kE f3 rfl, kE f4 rfl, kE f5 rfl, kE f6 rfl, fun h => by rw [upd_ne x _ (by decide)]; exact f7 (by rw [← getD_set_ne true (show 16 ≠ 7 by decide)]; exact h), kE f9 rfl, kE f12 rfl, kE f13 rfl, kE f14 rfl, kE f15 rfl, fun _ => upd_same _ _ _, fun h => by rw [upd_ne x _ (by decide)]; exact f17 (by rw [← getD_set_ne true (show 16 ≠ 17 by decide)]; exact h), kE f19 rfl, kE f20 rfl⟩⟩
        · have d15 := getD_ft (haf _ rfl ⟨15, .data⟩ (by simp) rfl)
          have e40 : b.eval (.tmp 40) = .slice (some ad) n c := by rw [hbe, eval_in _ _ _ 15 (by decide) rfl (by rw [hz0']; decide)]; exact f15 d15
          have t40 : b.tmps[40]?.getD undef = .slice (some ad) n c := by have tv := e40; simpa only [Act.eval, Array.getD_eq_getD_getElem?] using tv
          have d16 := getD_ft (haf _ rfl ⟨16, .data⟩ (by simp) rfl)
          have e41 : b.eval (.tmp 41) = .int .i64 (q : Int) := by rw [hbe, eval_in _ _ _ 16 (by decide) rfl (by rw [hz0']; decide)]; exact f16 d16
          have t41 : b.tmps[41]?.getD undef = .int .i64 (q : Int) := by have tv := e41; simpa only [Act.eval, Array.getD_eq_getD_getElem?] using tv
          refine wpOp_runs (v := .slice (if c = q then (some ad) else Option.map (fun a => a.add (q * 2)) (some ad)) (n - q) (c - q)) rfl rfl (by simp [execOp, go_sem, t40, t41, hqc', hqz, hqi]) ⟨_, _, rfl, rfl, ⟨hP.other 17 _ (by decide) (by decide) (by decide) (by decide) (by decide) (by decide), kE f0 rfl, kE f2 rfl, kE f3 rfl, kE f4 rfl, kE f5 rfl, kE f6 rfl, fun h => by rw [upd_ne x _ (by decide)]; exact f7 (by rw [← getD_set_ne true (show 17 ≠ 7 by decide)]; exact h), kE f9 rfl, kE f12 rfl, kE f13 rfl, kE f14 rfl, kE f15 rfl, kE f16 rfl, fun _ => ⟨_, _, upd_same _ _ _, by simpa using hl1⟩, kE f19 rfl, kE f20 rfl⟩⟩
        · have d11 := getD_ft (haf _ rfl ⟨11, .data⟩ (by simp) rfl)
          have d17 := getD_ft (haf _ rfl ⟨17, .data⟩ (by simp) rfl)
          obtain ⟨A7, c7, x17, l7⟩ := f17 d17
          have d8 := getD_ft (hcl 11 _ rfl d11 ⟨8, .data⟩ (by simp) rfl)
          have n21 := not_yet hcl hun (j := 21) rfl ⟨18, .data⟩ (by simp) rfl rfl
          have hBw := hP.below n21
          have hsz2 := hBw.size
          have e36 : b.eval (.tmp 36) = x 11 := by rw [hbe, eval_in _ _ _ 11 (by decide) rfl (by rw [hz0']; decide)]
          have t36 : b.tmps[36]?.getD undef = x 11 := by have tv := e36; simpa only [Act.eval, Array.getD_eq_getD_getElem?] using tv
          have e42 : b.eval (.tmp 42) = .slice A7 (n - q) c7 := by rw [hbe, eval_in _ _ _ 17 (by decide) rfl (by rw [hz0']; decide)]; exact x17
          have t42 : b.tmps[42]?.getD undef = .slice A7 (n - q) c7 := by have tv := e42; simpa only [Act.eval, Array.getD_eq_getD_getElem?] using tv
          refine wpOp_of rfl ?_
          refine step_append_lst w' rfl (.tmp 36) (.tmp 42) 22 rfl wq.heap.size 30 i0 _ 2 16 Try.underlying22 hi0 hz0 hz1 hz2 rfl (by decide) (x 11) (q + 1) ((flat2 (s.take q)) ++ [.int .i64 rn, .int .i64 ra]) e36 (hP.r11 d11 hun) wq.heap.size A7 (n - q) c7 (flat2 (s.drop q)) e42 (l7.below hBw) (flat2_one _) (by unfold maxLen; omega) (by omega) hsz2 ?_
          intro v' w2 ho hg _
          exact ⟨_, _, rfl, rfl, ⟨hP.app18 d11 hun n21 d8 (by rw [show n + 1 = q + 1 + (n - q) by omega]; exact ho) hg, kE f0 rfl, kE f2 rfl, kE f3 rfl, kE f4 rfl, kE f5 rfl, kE f6 rfl, fun h => by rw [upd_ne x _ (by decide)]; exact f7 (by rw [← getD_set_ne true (show 18 ≠ 7 by decide)]; exact h), kE f9 rfl, kE f12 rfl, kE f13 rfl, kE f14 rfl, kE f15 rfl, kE f16 rfl, fun h => by rw [upd_ne x _ (by decide)]; exact f17 (by rw [← getD_set_ne true (show 18 ≠ 17 by decide)]; exact h), kE f19 rfl, kE f20 rfl⟩⟩
        · have d0 := getD_ft (haf _ rfl ⟨0, .data⟩ (by simp) rfl)
          have e25 : b.eval (.tmp 25) = .pointer (some ⟨gb, 0, none⟩) := by rw [hbe, eval_in _ _ _ 0 (by decide) rfl (by rw [hz0']; decide)]; exact f0 d0
          have t25 : b.tmps[25]?.getD undef = .pointer (some ⟨gb, 0, none⟩) := by have tv := e25; simpa only [Act.eval, Array.getD_eq_getD_getElem?] using tv
          refine wpOp_runs (v := .pointer (some ⟨gb, 0, none⟩)) rfl rfl (by simp [execOp, go_sem, t25]) ⟨_, _, rfl, rfl, ⟨hP.other 19 _ (by decide) (by decide) (by decide) (by decide) (by decide) (by decide), kE f0 rfl, kE f2 rfl, kE f3 rfl, kE f4 rfl, kE f5 rfl, kE f6 rfl, fun h => by rw [upd_ne x _ (by decide)]; exact f7 (by rw [← getD_set_ne true (show 19 ≠ 7 by decide)]; exact h), kE f9 rfl, kE f12 rfl, kE f13 rfl, kE f14 rfl, kE f15 rfl, kE f16 rfl, fun h => by rw [upd_ne x _ (by decide)]; exact f17 (by rw [← getD_set_ne true (show 19 ≠ 17 by decide)]; exact h), fun _ => upd_same _ _ _, kE f20 rfl⟩⟩
        · have d19 := getD_ft (haf _ rfl ⟨19, .data⟩ (by simp) rfl)
          have e44 : b.eval (.tmp 44) = .pointer (some ⟨gb, 0, none⟩) := by rw [hbe, eval_in _ _ _ 19 (by decide) rfl (by rw [hz0']; decide)]; exact f19 d19
          have t44 : b.tmps[44]?.getD undef = .pointer (some ⟨gb, 0, none⟩) := by have tv := e44; simpa only [Act.eval, Array.getD_eq_getD_getElem?] using tv
          refine wpOp_runs (v := .pointer (some ⟨gb, 0, none⟩)) rfl rfl (by simp [execOp, go_sem, t44]) ⟨_, _, rfl, rfl, ⟨hP.other 20 _ (by decide) (by decide) (by decide) (by decide) (by decide) (by decide), kE f0 rfl, kE f2 rfl, kE f3 rfl, kE f4 rfl, kE f5 rfl, kE f6 rfl, fun h => by rw [upd_ne x _ (by decide)]; exact f7 (by rw [← getD_set_ne true (show 20 ≠ 7 by decide)]; exact h), kE f9 rfl, kE f12 rfl, kE f13 rfl, kE f14 rfl, kE f15 rfl, kE f16 rfl, fun h => by rw [upd_ne x _ (by decide)]; exact f17 (by rw [← getD_set_ne true (show 20 ≠ 17 by decide)]; exact h), kE f19 rfl, fun _ => upd_same _ _ _⟩⟩
        · have d20 := getD_ft (haf _ rfl ⟨20, .data⟩ (by simp) rfl)
          have e45 : b.eval (.tmp 45) = .pointer (some ⟨gb, 0, none⟩) := by rw [hbe, eval_in _ _ _ 20 (by decide) rfl (by rw [hz0']; decide)]; exact f20 d20
          have t45 : b.tmps[45]?.getD undef = .pointer (some ⟨gb, 0, none⟩) := by have tv := e45; simpa only [Act.eval, Array.getD_eq_getD_getElem?] using tv
          have d18 := getD_ft (haf _ rfl ⟨18, .data⟩ (by simp) rfl)
          have d11 := getD_ft (hcl 18 _ rfl d18 ⟨11, .data⟩ (by simp) rfl)
          have d8 := getD_ft (hcl 11 _ rfl d11 ⟨8, .data⟩ (by simp) rfl)
          have hBw := hP.below hun
          have e43 : b.eval (.tmp 43) = x 18 := by rw [hbe, eval_in _ _ _ 18 (by decide) rfl (by rw [hz0']; decide)]
          have t43 : b.tmps[43]?.getD undef = x 18 := by have tv := e43; simpa only [Act.eval, Array.getD_eq_getD_getElem?] using tv
          have hown := hP.r18 d18 hun
          rw [show (flat2 (s.take q)) ++ [.int .i64 rn, .int .i64 ra] ++ (flat2 (s.drop q)) = flat2 (s.take q ++ [(rn, ra)] ++ s.drop q) by simp [flat2_append, flat2]] at hown
          obtain ⟨g', c', hv, hg', hR, hK⟩ := hr.stored hBw (Nat.le_trans hBw0 hsw) (by omega) hlen hown hord
          have rr := (hBw.cell (block_lt_of_cell cb)).trans cb
          have rf := (hr.head.below hBw hg1).free 0
          have rl : gb < w'.heap.size := by have := hBw.size; omega
          rw [hv] at t43 hR hK
          refine wpOp_skips (w' := w'.setCell ⟨gb, 0, none⟩ (.slice (some ⟨g', 0, none⟩) (n + 1) c')) rfl rfl (by simp [execOp, go_sem, t45, t43, rr, rf, rl]) ⟨_, undef, rfl, rfl, ⟨PM.store21 d8 d11 d18 _ ⟨g', c', hR, hg', hK⟩, kE f0 rfl, kE f2 rfl, kE f3 rfl, kE f4 rfl, kE f5 rfl, kE f6 rfl, fun h => by rw [upd_ne x _ (by decide)]; exact f7 (by rw [← getD_set_ne true (show 21 ≠ 7 by decide)]; exact h), kE f9 rfl, kE f12 rfl, kE f13 rfl, kE f14 rfl, kE f15 rfl, kE f16 rfl, fun h => by rw [upd_ne x _ (by decide)]; exact f17 (by rw [← getD_set_ne true (show 21 ≠ 17 by decide)]; exact h), kE f19 rfl, kE f20 rfl⟩⟩
      · intro V x w' hall hF
        have hfn := hF.1.fin (hall 21 (by decide))
        clear hF hall
        obtain ⟨g', c', hR, hg', hK⟩ := hfn
        subst ha0
        simp only [List.map_cons, List.map_nil, putAll]
        go_simp
        go_wp2_with fail
        exact bodyPost_end (results_none (by rfl) _ _ _) rfl ⟨rfl, g', c', _, hR, ins_perm _ _ _, Nat.le_trans hsw hg', (Kept.of_below hB).trans hK (fun i _ e => e)⟩
    · have hfin : Hid (q < s.length → ahd (gt s q) (rn, ra) = false) := fun hx => by rw [h.len] at hx; omega
      have hd : decide ((q : Int) < (q : Int)) = false := by simp
      go_wp2_with fail
      have q_cb := fun d os => cell_regrown cb d os
      have q_x0 := fun d os => cell_regrown x0 d os
      have q_x1 := fun d os => cell_regrown x1 d os
      try simp only [List.append]
      first | refine wp_region_text_below ?_ | refine wp_region_quiet_below (by kernel_rfl) (by kernel_rfl) ?_
      repeat (go_big_quiet_step ((fail)))
      refine wpQuiet_nil ?_
      intro _ hqw
      obtain ⟨pq, hqw⟩ := hqw
      subst hqw
      clear q_cb q_x0 q_x1
      have hbel := below_regrown wr pq.d pq.os
      replace hB := hB.trans (hbel.mono hs)
      replace hr := hr.below hbel
      replace hX := hX.below hbel hX.lt
      clear hbel cb x0 x1
      generalize grow (redrawn wr pq.d) pq.os = wq at *
      have cb : wq.cell? ⟨gb, 0, none⟩ = some (.slice (A) q c) := hr.head.cell 0
      have fb := hr.head.free 0
      have x0 : wq.cell? ⟨w.heap.size, 0, none⟩ = some (.int .i64 rn) := hX.cell 0
      have x1 : wq.cell? ⟨w.heap.size, 1, none⟩ = some (.int .i64 ra) := hX.cell 1
      have hqi : (q : Int) ≤ (q : Int) := by omega
      have hqc' : q ≤ c := by omega
      have hg1 := hr.head.lt
      have hg2 := hX.lt
      have hl1 := hr.lst.from_ (k := q) hq hcap
      rw [flat2_drop] at hl1
      have hl3 := hr.lst.upto (k := q) hq
      rw [flat2_take] at hl3
      have hqz : (0 : Int) ≤ (q : Int) := by omega
      have hsw := hB.size
      have hBw0 := hBw
      have hlen : (s.take q ++ [(rn, ra)] ++ s.drop q).length = q + 1 := by simp only [List.length_append, List.length_take, List.length_drop, List.length_singleton, hr.len]; omega
      have hord : sorted (s.take q ++ [(rn, ra)] ++ s.drop q) := sorted_ins hr.ord (by rw [hr.len]; omega) HQ.out hfin.out
      go_upto_region 4 with fail
      refine gen_frame ?_
      intro a0 ha0
      try simp only [List.append]
      refine wp_region_frames rfl (by kernel_rfl) (by kernel_rfl) (fun V x w' => PM wq 30 q q (.int .i64 rn) (.int .i64 ra) (flat2 (s.take q)) (flat2 (s.drop q)) (fun w' => ∃ g' c', RefB w' B gb (some ⟨g', 0, none⟩) (q + 1) c' (s.take q ++ [(rn, ra)] ++ s.drop q) ∧ wq.heap.size ≤ g' ∧ Kept (fun k => k = gb) wq w') V x w' ∧ (V.getD 0 true = true → x 0 = .pointer (some ⟨gb, 0, none⟩)) ∧ (V.getD 2 true = true → x 2 = .pointer (some ⟨gb, 0, none⟩)) ∧ (V.getD 3 true = true → x 3 = .pointer (some ⟨gb, 0, none⟩)) ∧ (V.getD 4 true = true → x 4 = .pointer (some ⟨gb, 0, none⟩)) ∧ (V.getD 5 true = true → x 5 = .slice (A) q c) ∧ (V.getD 6 true = true → x 6 = .int .i64 (q : Int)) ∧ (V.getD 7 true = true → ∃ A1 c1, x 7 = .slice A1 q c1 ∧ Lst wq wq.heap.size 2 A1 q (flat2 (s.take q))) ∧ (V.getD 9 true = true → x 9 = .agg #[.int .i64 rn, .int .i64 ra]) ∧ (V.getD 12 true = true → x 12 = .pointer (some ⟨gb, 0, none⟩)) ∧ (V.getD 13 true = true → x 13 = .pointer (some ⟨gb, 0, none⟩)) ∧ (V.getD 14 true = true → x 14 = .pointer (some ⟨gb, 0, none⟩)) ∧ (V.getD 15 true = true → x 15 = .slice (A) q c) ∧ (V.getD 16 true = true → x 16 = .int .i64 (q : Int)) ∧ (V.getD 17 true = true → ∃ A1 c1, x 17 = .slice A1 0 c1 ∧ Lst wq wq.heap.size 2 A1 0 (flat2 (s.drop q))) ∧ (V.getD 19 true = true → x 19 = .pointer (some ⟨gb, 0, none⟩)) ∧ (V.getD 20 true = true → x 20 = .pointer (some ⟨gb, 0, none⟩))) ?_ ?_ ?_
      · intro x
        refine ⟨PM.start _ (Below.refl _ _).drew (fun i hi => by simp [hi]), ?_, ?_, ?_, ?_, ?_, ?_, ?_, ?_, ?_, ?_, ?_, ?_, ?_, ?_, ?_, ?_⟩ <;> exact fun h => by simp at h
      · intro V x b w' hbq hsz hF i hi hun haf hcl
        obtain ⟨hP, f0, f2, f3, f4, f5, f6, f7, f9, f12, f13, f14, f15, f16, f17, f19, f20⟩ := hF
        have hbe : b = putAll a0 [some 25, some 26, some 27, some 28, some 29, some 30, some 31, some 32, some 33, some 34, some 35, some 36, some 37, some 38, some 39, some 40, some 41, some 42, some 43, some 44, some 45, none] x 0 := hbq
        have hz0' : a0.tmps.size = 46 := by rw [ha0]; rfl
        have e0 : b.eval (.tmp 0) = .pointer (some ⟨gb, 0, none⟩) := by rw [hbe, eval_out _ _ _ (by decide), ha0]; rfl
        have t0 : b.tmps[0]?.getD undef = .pointer (some ⟨gb, 0, none⟩) := by simpa [Act.eval] using e0
        have e3 : b.eval (.tmp 3) = .pointer (some ⟨w.heap.size, 0, none⟩) := by rw [hbe, eval_out _ _ _ (by decide), ha0]; rfl
        have t3 : b.tmps[3]?.getD undef = .pointer (some ⟨w.heap.size, 0, none⟩) := by simpa [Act.eval] using e3
        have e4 : b.eval (.tmp 4) = .int .i64 (q : Int) := by rw [hbe, eval_out _ _ _ (by decide), ha0]; rfl
        have t4 : b.tmps[4]?.getD undef = .int .i64 (q : Int) := by simpa [Act.eval] using e4
        clear hbq
        have hi' : i < 22 := hi
        clear hi
        obtain rfl | rfl | rfl | rfl | rfl | rfl | rfl | rfl | rfl | rfl | rfl | rfl | rfl | rfl | rfl | rfl | rfl | rfl | rfl | rfl | rfl | rfl : i = 0 ∨ i = 1 ∨ i = 2 ∨ i = 3 ∨ i = 4 ∨ i = 5 ∨ i = 6 ∨ i = 7 ∨ i = 8 ∨ i = 9 ∨ i = 10 ∨ i = 11 ∨ i = 12 ∨ i = 13 ∨ i = 14 ∨ i = 15 ∨ i = 16 ∨ i = 17 ∨ i = 18 ∨ i = 19 ∨ i = 20 ∨ i = 21 := by omega
        · refine wpOp_runs (v := .pointer (some ⟨gb, 0, none⟩)) rfl rfl (by simp [execOp, go_sem, t0]) ⟨_, _, rfl, rfl, ⟨hP.other 0 _ (by decide) (by decide) (by decide) (by decide) (by decide) (by decide), fun _ => upd_same _ _ _, kE f2 rfl, kE f3 rfl, kE f4 rfl, kE f5 rfl, kE f6 rfl, fun h => by rw [upd_ne x _ (by decide)]; exact f7 (by rw [← getD_set_ne true (show 0 ≠ 7 by decide)]; exact h), kE f9 rfl, kE f12 rfl, kE f13 rfl, kE f14 rfl, kE f15 rfl, kE f16 rfl, fun h => by rw [upd_ne x _ (by decide)]; exact f17 (by rw [← getD_set_ne true (show 0 ≠ 17 by decide)]; exact h), kE f19 rfl, kE f20 rfl⟩⟩
        · have n8 := not_yet hcl hun (j := 8) rfl ⟨1, .data⟩ (by simp) rfl rfl
          have n11 := not_yet hcl n8 (j := 11) rfl ⟨8, .data⟩ (by simp) rfl rfl
          have n18 := not_yet hcl n11 (j := 18) rfl ⟨11, .data⟩ (by simp) rfl rfl
          have n21 := not_yet hcl n18 (j := 21) rfl ⟨18, .data⟩ (by simp) rfl rfl
          refine wpOp_runs (v := .slice (some ⟨w'.heap.size, 0, none⟩) 0 0) (w' := w'.alloc (.cells #[] 30)) rfl rfl (by simp [execOp, go_sem]) ⟨_, _, rfl, rfl, ⟨hP.made1 n8 n11 n18 n21, kE f0 rfl, kE f2 rfl, kE f3 rfl, kE f4 rfl, kE f5 rfl, kE f6 rfl, fun h => by rw [upd_ne x _ (by decide)]; exact f7 (by rw [← getD_set_ne true (show 1 ≠ 7 by decide)]; exact h), kE f9 rfl, kE f12 rfl, kE f13 rfl, kE f14 rfl, kE f15 rfl, kE f16 rfl, fun h => by rw [upd_ne x _ (by decide)]; exact f17 (by rw [← getD_set_ne true (show 1 ≠ 17 by decide)]; exact h), kE f19 rfl, kE f20 rfl⟩⟩
        · refine wpOp_runs (v := .pointer (some ⟨gb, 0, none⟩)) rfl rfl (by simp [execOp, go_sem, t0]) ⟨_, _, rfl, rfl, ⟨hP.other 2 _ (by decide) (by decide) (by decide) (by decide) (by decide) (by decide), kE f0 rfl, fun _ => upd_same _ _ _, kE f3 rfl, kE f4 rfl, kE f5 rfl, kE f6 rfl, fun h => by rw [upd_ne x _ (by decide)]; exact f7 (by rw [← getD_set_ne true (show 2 ≠ 7 by decide)]; exact h), kE f9 rfl, kE f12 rfl, kE f13 rfl, kE f14 rfl, kE f15 rfl, kE f16 rfl, fun h => by rw [upd_ne x _ (by decide)]; exact f17 (by rw [← getD_set_ne true (show 2 ≠ 17 by decide)]; exact h), kE f19 rfl, kE f20 rfl⟩⟩
        · have d2 := getD_ft (haf _ rfl ⟨2, .data⟩ (by simp) rfl)
          have e27 : b.eval (.tmp 27) = .pointer (some ⟨gb, 0, none⟩) := by rw [hbe, eval_in _ _ _ 2 (by decide) rfl (by rw [hz0']; decide)]; exact f2 d2
          have t27 : b.tmps[27]?.getD undef = .pointer (some ⟨gb, 0, none⟩) := by have tv := e27; simpa only [Act.eval, Array.getD_eq_getD_getElem?] using tv
          refine wpOp_runs (v := .pointer (some ⟨gb, 0, none⟩)) rfl rfl (by simp [execOp, go_sem, t27]) ⟨_, _, rfl, rfl, ⟨hP.other 3 _ (by decide) (by decide) (by decide) (by decide) (by decide) (by decide), kE f0 rfl, kE f2 rfl, fun _ => upd_same _ _ _, kE f4 rfl, kE f5 rfl, kE f6 rfl, fun h => by rw [upd_ne x _ (by decide)]; exact f7 (by rw [← getD_set_ne true (show 3 ≠ 7 by decide)]; exact h), kE f9 rfl, kE f12 rfl, kE f13 rfl, kE f14 rfl, kE f15 rfl, kE f16 rfl, fun h => by rw [upd_ne x _ (by decide)]; exact f17 (by rw [← getD_set_ne true (show 3 ≠ 17 by decide)]; exact h), kE f19 rfl, kE f20 rfl⟩⟩
        · have d3 := getD_ft (haf _ rfl ⟨3, .data⟩ (by simp) rfl)
          have e28 : b.eval (.tmp 28) = .pointer (some ⟨gb, 0, none⟩) := by rw [hbe, eval_in _ _ _ 3 (by decide) rfl (by rw [hz0']; decide)]; exact f3 d3
          have t28 : b.tmps[28]?.getD undef = .pointer (some ⟨gb, 0, none⟩) := by have tv := e28; simpa only [Act.eval, Array.getD_eq_getD_getElem?] using tv
          refine wpOp_runs (v := .pointer (some ⟨gb, 0, none⟩)) rfl rfl (by simp [execOp, go_sem, t28]) ⟨_, _, rfl, rfl, ⟨hP.other 4 _ (by decide) (by decide) (by decide) (by decide) (by decide) (by decide), kE f0 rfl, kE f2 rfl, kE f3 rfl, fun _ => upd_same _ _ _, kE f5 rfl, kE f6 rfl, fun h => by rw [upd_ne x _ (by decide)]; exact f7 (by rw [← getD_set_ne true (show 4 ≠ 7 by decide)]; exact h), kE f9 rfl, kE f12 rfl, kE f13 rfl, kE f14 rfl, kE f15 rfl, kE f16 rfl, fun h => by rw [upd_ne x _ (by decide)]; exact f17 (by rw [← getD_set_ne true (show 4 ≠ 17 by decide)]; exact h), kE f19 rfl, kE f20 rfl⟩⟩
        · have d4 := getD_ft (haf _ rfl ⟨4, .data⟩ (by simp) rfl)
          have e29 : b.eval (.tmp 29) = .pointer (some ⟨gb, 0, none⟩) := by rw [hbe, eval_in _ _ _ 4 (by decide) rfl (by rw [hz0']; decide)]; exact f4 d4
          have t29 : b.tmps[29]?.getD undef = .pointer (some ⟨gb, 0, none⟩) := by have tv := e29; simpa only [Act.eval, Array.getD_eq_getD_getElem?] using tv
          have n21 := not_yet hcl hun (j := 21) rfl ⟨5, .phase⟩ (by simp) rfl rfl
          have hBw := hP.below n21
          have rr := (hBw.cell (block_lt_of_cell cb)).trans cb
          refine wpOp_runs (v := .slice (A) q c) rfl rfl (by simp [execOp, go_sem, t29, rr]) ⟨_, _, rfl, rfl, ⟨hP.other 5 _ (by decide) (by decide) (by decide) (by decide) (by decide) (by decide), kE f0 rfl, kE f2 rfl, kE f3 rfl, kE f4 rfl, fun _ => upd_same _ _ _, kE f6 rfl, fun h => by rw [upd_ne x _ (by decide)]; exact f7 (by rw [← getD_set_ne true (show 5 ≠ 7 by decide)]; exact h), kE f9 rfl, kE f12 rfl, kE f13 rfl, kE f14 rfl, kE f15 rfl, kE f16 rfl, fun h => by rw [upd_ne x _ (by decide)]; exact f17 (by rw [← getD_set_ne true (show 5 ≠ 17 by decide)]; exact h), kE f19 rfl, kE f20 rfl⟩⟩
        · refine wpOp_runs (v := .int .i64 (q : Int)) rfl rfl (by simp [execOp, go_sem, t4]) ⟨_, _, rfl, rfl, ⟨hP.other 6 _ (by decide) (by decide) (by decide) (by decide) (by decide) (by decide), kE f0 rfl, kE f2 rfl, kE f3 rfl, kE f4 rfl, kE f5 rfl, fun _ => upd_same _ _ _, fun h => by rw [upd_ne x _ (by decide)]; exact f7 (by rw [← getD_set_ne true (show 6 ≠ 7 by decide)]; exact h), kE f9 rfl, kE f12 rfl, kE f13 rfl, kE f14 rfl, kE f15 rfl, kE f16 rfl, fun h => by rw [upd_ne x _ (by decide)]; exact f17 (by rw [← getD_set_ne true (show 6 ≠ 17 by decide)]; exact h), kE f19 rfl, kE f20 rfl⟩⟩
        · have d5 := getD_ft (haf _ rfl ⟨5, .data⟩ (by simp) rfl)
          have e30 : b.eval (.tmp 30) = .slice (A) q c := by rw [hbe, eval_in _ _ _ 5 (by decide) rfl (by rw [hz0']; decide)]; exact f5 d5
          have t30 : b.tmps[30]?.getD undef = .slice (A) q c := by have tv := e30; simpa only [Act.eval, Array.getD_eq_getD_getElem?] using tv
          have d6 := getD_ft (haf _ rfl ⟨6, .data⟩ (by simp) rfl)
          have e31 : b.eval (.tmp 31) = .int .i64 (q : Int) := by rw [hbe, eval_in _ _ _ 6 (by decide) rfl (by rw [hz0']; decide)]; exact f6 d6
          have t31 : b.tmps[31]?.getD undef = .int .i64 (q : Int) := by have tv := e31; simpa only [Act.eval, Array.getD_eq_getD_getElem?] using tv
          refine wpOp_runs (v := .slice (A) q c) rfl rfl (by simp [execOp, go_sem, t30, t31, hqc', hqz]) ⟨_, _, rfl, rfl, ⟨hP.other 7 _ (by decide) (by decide) (by decide) (by decide) (by decide) (by decide), kE f0 rfl, kE f2 rfl, kE f3 rfl, kE f4 rfl, kE f5 rfl, kE f6 rfl, fun _ => ⟨_, _, upd_same _ _ _, hl3⟩, kE f9 rfl, kE f12 rfl, kE f13 rfl, kE f14 rfl, kE f15 rfl, kE f16 rfl, fun h => by rw [upd_ne x _ (by decide)]; exact f17 (by rw [← getD_set_ne true (show 7 ≠ 17 by decide)]; exact h), kE f19 rfl, kE f20 rfl⟩⟩
        · have d1 := getD_ft (haf _ rfl ⟨1, .data⟩ (by simp) rfl)
          have d7 := getD_ft (haf _ rfl ⟨7, .data⟩ (by simp) rfl)
          obtain ⟨A7, c7, x7, l7⟩ := f7 d7
          have e26 : b.eval (.tmp 26) = x 1 := by rw [hbe, eval_in _ _ _ 1 (by decide) rfl (by rw [hz0']; decide)]
          have t26 : b.tmps[26]?.getD undef = x 1 := by have tv := e26; simpa only [Act.eval, Array.getD_eq_getD_getElem?] using tv
          have e32 : b.eval (.tmp 32) = .slice A7 q c7 := by rw [hbe, eval_in _ _ _ 7 (by decide) rfl (by rw [hz0']; decide)]; exact x7
          have t32 : b.tmps[32]?.getD undef = .slice A7 q c7 := by have tv := e32; simpa only [Act.eval, Array.getD_eq_getD_getElem?] using tv
          have n11 := not_yet hcl hun (j := 11) rfl ⟨8, .data⟩ (by simp) rfl rfl
          have n18 := not_yet hcl n11 (j := 18) rfl ⟨11, .data⟩ (by simp) rfl rfl
          have n21 := not_yet hcl n18 (j := 21) rfl ⟨18, .data⟩ (by simp) rfl rfl
          have hBw := hP.below n21
          have hsz2 := hBw.size
          refine wpOp_of rfl ?_
          refine step_append_lst w' rfl (.tmp 26) (.tmp 32) 22 rfl wq.heap.size 30 i0 _ 2 16 Try.underlying22 hi0 hz0 hz1 hz2 rfl (by decide) (x 1) 0 [] e26 (hP.r1 d1 hun) wq.heap.size A7 q c7 (flat2 (s.take q)) e32 (l7.below hBw) (flat2_one _) (by unfold maxLen; omega) (by omega) hsz2 ?_
          intro v' w2 ho hg hv
          exact ⟨_, _, rfl, rfl, ⟨hP.app8 d1 hun n11 n18 n21 (by simpa using ho) hg hv, kE f0 rfl, kE f2 rfl, kE f3 rfl, kE f4 rfl, kE f5 rfl, kE f6 rfl, fun h => by rw [upd_ne x _ (by decide)]; exact f7 (by rw [← getD_set_ne true (show 8 ≠ 7 by decide)]; exact h), kE f9 rfl, kE f12 rfl, kE f13 rfl, kE f14 rfl, kE f15 rfl, kE f16 rfl, fun h => by rw [upd_ne x _ (by decide)]; exact f17 (by rw [← getD_set_ne true (show 8 ≠ 17 by decide)]; exact h), kE f19 rfl, kE f20 rfl⟩⟩
        · have n21 := not_yet hcl hun (j := 21) rfl ⟨9, .phase⟩ (by simp) rfl rfl
          have hBw := hP.below n21
          have rx0 := (hBw.cell (block_lt_of_cell x0)).trans x0
          have rx1 := (hBw.cell (block_lt_of_cell x1)).trans x1
          refine wpOp_runs (v := .agg #[.int .i64 rn, .int .i64 ra]) rfl rfl (by simp [execOp, go_sem, t3, rx0, rx1]) ⟨_, _, rfl, rfl, ⟨hP.other 9 _ (by decide) (by decide) (by decide) (by decide) (by decide) (by decide), kE f0 rfl, kE f2 rfl, kE f3 rfl, kE f4 rfl, kE f5 rfl, kE f6 rfl, fun h => by rw [upd_ne x _ (by decide)]; exact f7 (by rw [← getD_set_ne true (show 9 ≠ 7 by decide)]; exact h), fun _ => upd_same _ _ _, kE f12 rfl, kE f13 rfl, kE f14 rfl, kE f15 rfl, kE f16 rfl, fun h => by rw [upd_ne x _ (by decide)]; exact f17 (by rw [← getD_set_ne true (show 9 ≠ 17 by decide)]; exact h), kE f19 rfl, kE f20 rfl⟩⟩
        · have d9 := getD_ft (haf _ rfl ⟨9, .data⟩ (by simp) rfl)
          have e34 : b.eval (.tmp 34) = .agg #[.int .i64 rn, .int .i64 ra] := by rw [hbe, eval_in _ _ _ 9 (by decide) rfl (by rw [hz0']; decide)]; exact f9 d9
          have t34 : b.tmps[34]?.getD undef = .agg #[.int .i64 rn, .int .i64 ra] := by have tv := e34; simpa only [Act.eval, Array.getD_eq_getD_getElem?] using tv
          have n11 := not_yet hcl hun (j := 11) rfl ⟨10, .data⟩ (by simp) rfl rfl
          have n18 := not_yet hcl n11 (j := 18) rfl ⟨11, .data⟩ (by simp) rfl rfl
          have n21 := not_yet hcl n18 (j := 21) rfl ⟨18, .data⟩ (by simp) rfl rfl
          refine wpOp_runs (v := .slice (some ⟨w'.heap.size, 0, none⟩) 1 1) (w' := w'.alloc (.cells #[.int .i64 rn, .int .i64 ra] 30)) rfl rfl (by simp [execOp, go_sem, t34]) ⟨_, _, rfl, rfl, ⟨hP.made10 n11 n18 n21, kE f0 rfl, kE f2 rfl, kE f3 rfl, kE f4 rfl, kE f5 rfl, kE f6 rfl, fun h => by rw [upd_ne x _ (by decide)]; exact f7 (by rw [← getD_set_ne true (show 10 ≠ 7 by decide)]; exact h), kE f9 rfl, kE f12 rfl, kE f13 rfl, kE f14 rfl, kE f15 rfl, kE f16 rfl, fun h => by rw [upd_ne x _ (by decide)]; exact f17 (by rw [← getD_set_ne true (show 10 ≠ 17 by decide)]; exact h), kE f19 rfl, kE f20 rfl⟩⟩
        · have d8 := getD_ft (haf _ rfl ⟨8, .data⟩ (by simp) rfl)
          have d10 := getD_ft (haf _ rfl ⟨10, .data⟩ (by simp) rfl)
          have d1 := getD_ft (hcl 8 _ rfl d8 ⟨1, .data⟩ (by simp) rfl)
          have n18 := not_yet hcl hun (j := 18) rfl ⟨11, .data⟩ (by simp) rfl rfl
          have n21 := not_yet hcl n18 (j := 21) rfl ⟨18, .data⟩ (by simp) rfl rfl
          have hBw := hP.below n21
          have hsz2 := hBw.size
          obtain ⟨g, x10, hgb, hgl, _, _⟩ := hP.r10 d10 hun
          have e33 : b.eval (.tmp 33) = x 8 := by rw [hbe, eval_in _ _ _ 8 (by decide) rfl (by rw [hz0']; decide)]
          have t33 : b.tmps[33]?.getD undef = x 8 := by have tv := e33; simpa only [Act.eval, Array.getD_eq_getD_getElem?] using tv
          have e35 : b.eval (.tmp 35) = .slice (some ⟨g, 0, none⟩) 1 1 := by rw [hbe, eval_in _ _ _ 10 (by decide) rfl (by rw [hz0']; decide)]; exact x10
          have t35 : b.tmps[35]?.getD undef = .slice (some ⟨g, 0, none⟩) 1 1 := by have tv := e35; simpa only [Act.eval, Array.getD_eq_getD_getElem?] using tv
          refine wpOp_of rfl ?_
          refine step_append_lst w' rfl (.tmp 33) (.tmp 35) 22 rfl wq.heap.size 30 i0 _ 2 16 Try.underlying22 hi0 hz0 hz1 hz2 rfl (by decide) (x 8) q (flat2 (s.take q)) e33 (hP.r8 d8 hun) w'.heap.size (some ⟨g, 0, none⟩) 1 1 [.int .i64 rn, .int .i64 ra] e35 ⟨rfl, fun _ => ⟨_, rfl, hgb.lt, lit_grown hgb (grown_refl _ none) (by simp)⟩⟩ (by simp [Value.oneCell']) (by unfold maxLen; omega) (by omega) hsz2 ?_
          intro v' w2 ho hg _
          exact ⟨_, _, rfl, rfl, ⟨hP.app11 d8 hun n18 n21 d1 ho hg, kE f0 rfl, kE f2 rfl, kE f3 rfl, kE f4 rfl, kE f5 rfl, kE f6 rfl, fun h => by rw [upd_ne x _ (by decide)]; exact f7 (by rw [← getD_set_ne true (show 11 ≠ 7 by decide)]; exact h), kE f9 rfl, kE f12 rfl, kE f13 rfl, kE f14 rfl, kE f15 rfl, kE f16 rfl, fun h => by rw [upd_ne x _ (by decide)]; exact f17 (by rw [← getD_set_ne true (show 11 ≠ 17 by decide)]; exact h), kE f19 rfl, kE f20 rfl⟩⟩
        · refine wpOp_runs (v := .pointer (some ⟨gb, 0, none⟩)) rfl rfl (by simp [execOp, go_sem, t0]) ⟨_, _, rfl, rfl, ⟨hP.other 12 _ (by decide) (by decide) (by decide) (by decide) (by decide) (by decide), kE f0 rfl, kE f2 rfl, kE f3 rfl, kE f4 rfl, kE f5 rfl, kE f6 rfl, fun h => by rw [upd_ne x _ (by decide)]; exact f7 (by rw [← getD_set_ne true (show 12 ≠ 7 by decide)]; exact h), kE f9 rfl, fun _ => upd_same _ _ _, kE f13 rfl, kE f14 rfl, kE f15 rfl, kE f16 rfl, fun h => by rw [upd_ne x _ (by decide)]; exact f17 (by rw [← getD_set_ne true (show 12 ≠ 17 by decide)]; exact h), kE f19 rfl, kE f20 rfl⟩⟩
        · have d12 := getD_ft (haf _ rfl ⟨12, .data⟩ (by simp) rfl)
          have e37 : b.eval (.tmp 37) = .pointer (some ⟨gb, 0, none⟩) := by rw [hbe, eval_in _ _ _ 12 (by decide) rfl (by rw [hz0']; decide)]; exact f12 d12
          have t37 : b.tmps[37]?.getD undef = .pointer (some ⟨gb, 0, none⟩) := by have tv := e37; simpa only [Act.eval, Array.getD_eq_getD_getElem?] using tv
          refine wpOp_runs (v := .pointer (some ⟨gb, 0, none⟩)) rfl rfl (by simp [execOp, go_sem, t37]) ⟨_, _, rfl, rfl, ⟨hP.other 13 _ (by decide) (by decide) (by decide) (by decide) (by decide) (by decide), kE f0 rfl, kE f2 rfl, kE f3 rfl, kE f4 rfl, kE f5 rfl, kE f6 rfl, fun h => by rw [upd_ne x _ (by decide)]; exact f7 (by rw [← getD_set_ne true (show 13 ≠ 7 by decide)]; exact h), kE f9 rfl, kE f12 rfl, fun _ => upd_same _ _ _, kE f14 rfl, kE f15 rfl, kE f16 rfl, fun h => by rw [upd_ne x _ (by decide)]; exact f17 (by rw [← getD_set_ne true (show 13 ≠ 17 by decide)]; exact h), kE f19 rfl, kE f20 rfl⟩⟩
        · have d13 := getD_ft (haf _ rfl ⟨13, .data⟩ (by simp) rfl)
          have e38 : b.eval (.tmp 38) = .pointer (some ⟨gb, 0, none⟩) := by rw [hbe, eval_in _ _ _ 13 (by decide) rfl (by rw [hz0']; decide)]; exact f13 d13
          have t38 : b.tmps[38]?.getD undef = .pointer (some ⟨gb, 0, none⟩) := by have tv := e38; simpa only [Act.eval, Array.getD_eq_getD_getElem?] using tv
          refine wpOp_runs (v := .pointer (some ⟨gb, 0, none⟩)) rfl rfl (by simp [execOp, go_sem, t38]) ⟨_, _, rfl, rfl, ⟨hP.other 14 _ (by decide) (by decide) (by decide) (by decide) (by decide) (by decide), kE f0 rfl, kE f2 rfl, kE f3 rfl, kE f4 rfl, kE f5 rfl, kE f6 rfl, fun h => by rw [upd_ne x _ (by decide)]; exact f7 (by rw [← getD_set_ne true (show 14 ≠ 7 by decide)]; exact h), kE f9 rfl, kE f12 rfl, kE f13 rfl, fun _ => upd_same _ _ _, kE f15 rfl, kE f16 rfl, fun h => by rw [upd_ne x _ (by decide)]; exact f17 (by rw [← getD_set_ne true (show 14 ≠ 17 by decide)]; exact h), kE f19 rfl, kE f20 rfl⟩⟩
        · have d14 := getD_ft (haf _ rfl ⟨14, .data⟩ (by simp) rfl)
          have e39 : b.eval (.tmp 39) = .pointer (some ⟨gb, 0, none⟩) := by rw [hbe, eval_in _ _ _ 14 (by decide) rfl (by rw [hz0']; decide)]; exact f14 d14
          have t39 : b.tmps[39]?.getD undef = .pointer (some ⟨gb, 0, none⟩) := by have tv := e39; simpa only [Act.eval, Array.getD_eq_getD_getElem?] using tv
          have n21 := not_yet hcl hun (j := 21) rfl ⟨15, .phase⟩ (by simp) rfl rfl
          have hBw := hP.below n21
          have rr := (hBw.cell (block_lt_of_cell cb)).trans cb
          refine wpOp_runs (v := .slice (A) q c) rfl rfl (by simp [execOp, go_sem, t39, rr]) ⟨_, _, rfl, rfl, ⟨hP.other 15 _ (by decide) (by decide) (by decide) (by decide) (by decide) (by decide), kE f0 rfl, kE f2 rfl, kE f3 rfl, kE f4 rfl, kE f5 rfl, kE f6 rfl, fun h => by rw [upd_ne x _ (by decide)]; exact f7 (by rw [← getD_set_ne true (show 15 ≠ 7 by decide)]; exact h), kE f9 rfl, kE f12 rfl, kE f13 rfl, kE f14 rfl, fun _ => upd_same _ _ _, kE f16 rfl, fun h => by rw [upd_ne x _ (by decide)]; exact f17 (by rw [← getD_set_ne true (show 15 ≠ 17 by decide)]; exact h), kE f19 rfl, kE f20 rfl⟩⟩
        · refine wpOp_runs (v := .int .i64 (q : Int)) rfl rfl (by simp [execOp, go_sem, t4]) ⟨_, _, rfl, rfl, ⟨hP.other 16 _ (by decide) (by decide) (by decide) (by decide) (by decide) (by decide), kE f0 rfl, kE f2 rfl, kE f3 rfl, kE f4 rfl, kE f5 rfl, kE f6 rfl, fun h => by rw [upd_ne x _ (by decide)]; exact f7 (by rw [← getD_set_ne true (show 16 ≠ 7 by decide)]; exact h), kE f9 rfl, kE f12 rfl, kE f13 rfl, kE f14 rfl, kE f15 rfl, fun _ => upd_same _ _ _, fun h => by rw [upd_ne x _ (by decide)]; exact f17 (by rw [← getD_set_ne true (show 16 ≠ 17 by decide)]; exact h), kE f19 rfl, kE f20 rfl⟩⟩
        · have d15 := getD_ft (haf _ rfl ⟨15, .data⟩ (by simp) rfl)
          have e40 : b.eval (.tmp 40) = .slice (A) q c := by rw [hbe, eval_in _ _ _ 15 (by decide) rfl (by rw [hz0']; decide)]; exact f15 d15
          have t40 : b.tmps[40]?.getD undef = .slice (A) q c := by have tv := e40; simpa only [Act.eval, Array.getD_eq_getD_getElem?] using tv
          have d16 := getD_ft (haf _ rfl ⟨16, .data⟩ (by simp) rfl)
          have e41 : b.eval (.tmp 41) = .int .i64 (q : Int) := by rw [hbe, eval_in _ _ _ 16 (by decide) rfl (by rw [hz0']; decide)]; exact f16 d16
          have t41 : b.tmps[41]?.getD undef = .int .i64 (q : Int) := by have tv := e41; simpa only [Act.eval, Array.getD_eq_getD_getElem?] using tv
          refine wpOp_runs (v := .slice (if c = q then (A) else Option.map (fun a => a.add (q * 2)) (A)) 0 (c - q)) rfl rfl (by simp [execOp, go_sem, t40, t41, hqc', hqz, hqi]) ⟨_, _, rfl, rfl, ⟨hP.other 17 _ (by decide) (by decide) (by decide) (by decide) (by decide) (by decide), kE f0 rfl, kE f2 rfl, kE f3 rfl, kE f4 rfl, kE f5 rfl, kE f6 rfl, fun h => by rw [upd_ne x _ (by decide)]; exact f7 (by rw [← getD_set_ne true (show 17 ≠ 7 by decide)]; exact h), kE f9 rfl, kE f12 rfl, kE f13 rfl, kE f14 rfl, kE f15 rfl, kE f16 rfl, fun _ => ⟨_, _, upd_same _ _ _, by simpa using hl1⟩, kE f19 rfl, kE f20 rfl⟩⟩
        · have d11 := getD_ft (haf _ rfl ⟨11, .data⟩ (by simp) rfl)
          have d17 := getD_ft (haf _ rfl ⟨17, .data⟩ (by simp) rfl)
          obtain ⟨A7, c7, x17, l7⟩ := f17 d17
          have d8 := getD_ft (hcl 11 _ rfl d11 ⟨8, .data⟩ (by simp) rfl)
          have n21 := not_yet hcl hun (j := 21) rfl ⟨18, .data⟩ (by simp) rfl rfl
          have hBw := hP.below n21
          have hsz2 := hBw.size
          have e36 : b.eval (.tmp 36) = x 11 := by rw [hbe, eval_in _ _ _ 11 (by decide) rfl (by rw [hz0']; decide)]
          have t36 : b.tmps[36]?.getD undef = x 11 := by have tv := e36; simpa only [Act.eval, Array.getD_eq_getD_getElem?] using tv
          have e42 : b.eval (.tmp 42) = .slice A7 0 c7 := by rw [hbe, eval_in _ _ _ 17 (by decide) rfl (by rw [hz0']; decide)]; exact x17
          have t42 : b.tmps[42]?.getD undef = .slice A7 0 c7 := by have tv := e42; simpa only [Act.eval, Array.getD_eq_getD_getElem?] using tv
          refine wpOp_of rfl ?_
          refine step_append_lst w' rfl (.tmp 36) (.tmp 42) 22 rfl wq.heap.size 30 i0 _ 2 16 Try.underlying22 hi0 hz0 hz1 hz2 rfl (by decide) (x 11) (q + 1) ((flat2 (s.take q)) ++ [.int .i64 rn, .int .i64 ra]) e36 (hP.r11 d11 hun) wq.heap.size A7 0 c7 (flat2 (s.drop q)) e42 (l7.below hBw) (flat2_one _) (by unfold maxLen; omega) (by omega) hsz2 ?_
          intro v' w2 ho hg _
          exact ⟨_, _, rfl, rfl, ⟨hP.app18 d11 hun n21 d8 (by rw [show q + 1 = q + 1 + 0 by omega]; exact ho) hg, kE f0 rfl, kE f2 rfl, kE f3 rfl, kE f4 rfl, kE f5 rfl, kE f6 rfl, fun h => by rw [upd_ne x _ (by decide)]; exact f7 (by rw [← getD_set_ne true (show 18 ≠ 7 by decide)]; exact h), kE f9 rfl, kE f12 rfl, kE f13 rfl, kE f14 rfl, kE f15 rfl, kE f16 rfl, fun h => by rw [upd_ne x _ (by decide)]; exact f17 (by rw [← getD_set_ne true (show 18 ≠ 17 by decide)]; exact h), kE f19 rfl, kE f20 rfl⟩⟩
        · have d0 := getD_ft (haf _ rfl ⟨0, .data⟩ (by simp) rfl)
          have e25 : b.eval (.tmp 25) = .pointer (some ⟨gb, 0, none⟩) := by rw [hbe, eval_in _ _ _ 0 (by decide) rfl (by rw [hz0']; decide)]; exact f0 d0
          have t25 : b.tmps[25]?.getD undef = .pointer (some ⟨gb, 0, none⟩) := by have tv := e25; simpa only [Act.eval, Array.getD_eq_getD_getElem?] using tv
          refine wpOp_runs (v := .pointer (some ⟨gb, 0, none⟩)) rfl rfl (by simp [execOp, go_sem, t25]) ⟨_, _, rfl, rfl, ⟨hP.other 19 _ (by decide) (by decide) (by decide) (by decide) (by decide) (by decide), kE f0 rfl, kE f2 rfl, kE f3 rfl, kE f4 rfl, kE f5 rfl, kE f6 rfl, fun h => by rw [upd_ne x _ (by decide)]; exact f7 (by rw [← getD_set_ne true (show 19 ≠ 7 by decide)]; exact h), kE f9 rfl, kE f12 rfl, kE f13 rfl, kE f14 rfl, kE f15 rfl, kE f16 rfl, fun h => by rw [upd_ne x _ (by decide)]; exact f17 (by rw [← getD_set_ne true (show 19 ≠ 17 by decide)]; exact h), fun _ => upd_same _ _ _, kE f20 rfl⟩⟩
        · have d19 := getD_ft (haf _ rfl ⟨19, .data⟩ (by simp) rfl)
          have e44 : b.eval (.tmp 44) = .pointer (some ⟨gb, 0, none⟩) := by rw [hbe, eval_in _ _ _ 19 (by decide) rfl (by rw [hz0']; decide)]; exact f19 d19
          have t44 : b.tmps[44]?.getD undef = .pointer (some ⟨gb, 0, none⟩) := by have tv := e44; simpa only [Act.eval, Array.getD_eq_getD_getElem?] using tv
          refine wpOp_runs (v := .pointer (some ⟨gb, 0, none⟩)) rfl rfl (by simp [execOp, go_sem, t44]) ⟨_, _, rfl, rfl, ⟨hP.other 20 _ (by decide) (by decide) (by decide) (by decide) (by decide) (by decide), kE f0 rfl, kE f2 rfl, kE f3 rfl, kE f4 rfl, kE f5 rfl, kE f6 rfl, fun h => by rw [upd_ne x _ (by decide)]; exact f7 (by rw [← getD_set_ne true (show 20 ≠ 7 by decide)]; exact h), kE f9 rfl, kE f12 rfl, kE f13 rfl, kE f14 rfl, kE f15 rfl, kE f16 rfl, fun h => by rw [upd_ne x _ (by decide)]; exact f17 (by rw [← getD_set_ne true (show 20 ≠ 17 by decide)]; exact h), kE f19 rfl, fun _ => upd_same _ _ _⟩⟩
        · have d20 := getD_ft (haf _ rfl ⟨20, .data⟩ (by simp) rfl)
          have e45 : b.eval (.tmp 45) = .pointer (some ⟨gb, 0, none⟩) := by rw [hbe, eval_in _ _ _ 20 (by decide) rfl (by rw [hz0']; decide)]; exact f20 d20
          have t45 : b.tmps[45]?.getD undef = .pointer (some ⟨gb, 0, none⟩) := by have tv := e45; simpa only [Act.eval, Array.getD_eq_getD_getElem?] using tv
          have d18 := getD_ft (haf _ rfl ⟨18, .data⟩ (by simp) rfl)
          have d11 := getD_ft (hcl 18 _ rfl d18 ⟨11, .data⟩ (by simp) rfl)
          have d8 := getD_ft (hcl 11 _ rfl d11 ⟨8, .data⟩ (by simp) rfl)
          have hBw := hP.below hun
          have e43 : b.eval (.tmp 43) = x 18 := by rw [hbe, eval_in _ _ _ 18 (by decide) rfl (by rw [hz0']; decide)]
          have t43 : b.tmps[43]?.getD undef = x 18 := by have tv := e43; simpa only [Act.eval, Array.getD_eq_getD_getElem?] using tv
          have hown := hP.r18 d18 hun
          rw [show (flat2 (s.take q)) ++ [.int .i64 rn, .int .i64 ra] ++ (flat2 (s.drop q)) = flat2 (s.take q ++ [(rn, ra)] ++ s.drop q) by simp [flat2_append, flat2]] at hown
          obtain ⟨g', c', hv, hg', hR, hK⟩ := hr.stored hBw (Nat.le_trans hBw0 hsw) (by omega) hlen hown hord
          have rr := (hBw.cell (block_lt_of_cell cb)).trans cb
          have rf := (hr.head.below hBw hg1).free 0
          have rl : gb < w'.heap.size := by have := hBw.size; omega
          rw [hv] at t43 hR hK
          refine wpOp_skips (w' := w'.setCell ⟨gb, 0, none⟩ (.slice (some ⟨g', 0, none⟩) (q + 1) c')) rfl rfl (by simp [execOp, go_sem, t45, t43, rr, rf, rl]) ⟨_, undef, rfl, rfl, ⟨PM.store21 d8 d11 d18 _ ⟨g', c', hR, hg', hK⟩, kE f0 rfl, kE f2 rfl, kE f3 rfl, kE f4 rfl, kE f5 rfl, kE f6 rfl, fun h => by rw [upd_ne x _ (by decide)]; exact f7 (by rw [← getD_set_ne true (show 21 ≠ 7 by decide)]; exact h), kE f9 rfl, kE f12 rfl, kE f13 rfl, kE f14 rfl, kE f15 rfl, kE f16 rfl, fun h => by rw [upd_ne x _ (by decide)]; exact f17 (by rw [← getD_set_ne true (show 21 ≠ 17 by decide)]; exact h), kE f19 rfl, kE f20 rfl⟩⟩
      · intro V x w' hall hF
        have hfn := hF.1.fin (hall 21 (by decide))
        clear hF hall
        obtain ⟨g', c', hR, hg', hK⟩ := hfn
        subst ha0
        simp only [List.map_cons, List.map_nil, putAll]
        go_simp
        go_wp2_with fail
        exact bodyPost_end (results_none (by rfl) _ _ _) rfl ⟨rfl, g', c', _, hR, ins_perm _ _ _, Nat.le_trans hsw hg', (Kept.of_below hB).trans hK (fun i _ e => e)⟩
end Go.Proofs.Ytpmibpclkfidkaa
