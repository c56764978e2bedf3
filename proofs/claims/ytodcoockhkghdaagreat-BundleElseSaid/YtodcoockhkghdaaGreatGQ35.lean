/- Several texts of mine in one: Ref07, Ref08, SmP20. No condition. -/
import Derived.Test.YtodcoockhkghdaaGreatGQ33
import Derived.Test.YtodcoockhkghdaaGreatGQ11
import Derived.Test.YtodcoockhkghdaaGreatRef06c
import Derived.Test.YtodcoockhkghdaaGreatGQ34
namespace Go.Proofs.YtodcoockhkghdaaGreat.Kr
open Go.ChangeShapes Go.WideShapes Go.ChangeAt Go.RowKit Go.Sort
set_option linter.unusedSimpArgs false
set_option linter.unusedVariables false
set_option maxHeartbeats 1000000 in
set_option maxRecDepth 100000 in
theorem rless_any (a b : Rg) (v : Bool) (hv : decide (cmpR a b < 0) = v) (w : World) : Calls Tryz.prog 103 #[.agg #[.int .i64 a.fr, .int .i64 a.tn, .int .i64 a.st, .int .i64 a.en, .int .i64 a.ow], .agg #[.int .i64 b.fr, .int .i64 b.tn, .int .i64 b.st, .int .i64 b.en, .int .i64 b.ow]] w fun e w' => e = .returned (.bool v) ∧ Below w.heap.size w w' := by
  have hB : Below w.heap.size w ((w.alloc (.cells #[.int .i64 a.fr, .int .i64 a.tn, .int .i64 a.st, .int .i64 a.en, .int .i64 a.ow] 100)).alloc (.cells #[.int .i64 b.fr, .int .i64 b.tn, .int .i64 b.st, .int .i64 b.en, .int .i64 b.ow] 100)) := by (repeat (first | exact Below.refl _ _ | refine Below.alloc ?_ (by first | omega | (simp; done) | (simp; omega)) _ | refine Below.setCell ?_ (by first | omega | (simp; done) | (simp; omega)) _ | refine Below.drew ?_))
  have hlt : v = true ↔ ltR a b := by
    rw [← hv, decide_eq_true_eq]
    rcases cmpR_spec a b with h | h | h
    · exact ⟨fun _ => h.1, fun _ => by omega⟩
    · refine ⟨fun h2 => by omega, fun h2 => ?_⟩
      unfold ltR at h2; omega
    · refine ⟨fun h2 => by omega, fun h2 => ?_⟩
      have h3 := h.1
      unfold ltR at h2 h3; omega
  have HV := Lib.hid hlt
  clear hv hlt
  by_cases h1 : a.fr = b.fr
  · have d1 : (a.fr != b.fr) = false := by simp [h1]
    by_cases h2 : a.tn = b.tn
    · have d2 : (a.tn != b.tn) = false := by simp [h2]
      have hr : v = decide (a.st < b.st) := by rw [Bool.eq_iff_iff, HV.out, decide_eq_true_eq]; unfold ltR; omega
      have HR := Lib.hid hr
      clear hr h1 h2
      go_enter Tryz.func103, Tryz.ntmps103
      go_wp2
      go_ret
      exact ⟨by rw [HR.out]; rfl, hB⟩
    · have d2 : (a.tn != b.tn) = true := by simp [h2]
      have hr : v = decide (a.tn < b.tn) := by rw [Bool.eq_iff_iff, HV.out, decide_eq_true_eq]; unfold ltR; omega
      have HR := Lib.hid hr
      clear hr h1 h2
      go_enter Tryz.func103, Tryz.ntmps103
      go_wp2
      go_ret
      exact ⟨by rw [HR.out]; rfl, hB⟩
  · have d1 : (a.fr != b.fr) = true := by simp [h1]
    have hr : v = decide (a.fr < b.fr) := by rw [Bool.eq_iff_iff, HV.out, decide_eq_true_eq]; unfold ltR; omega
    have HR := Lib.hid hr
    clear hr h1
    go_enter Tryz.func103, Tryz.ntmps103
    go_wp2
    go_ret
    exact ⟨by rw [HR.out]; rfl, hB⟩
set_option maxHeartbeats 1000000 in
set_option maxRecDepth 100000 in
theorem roverlap_any (a b : Rg) (v : Bool) (hv : overR a b = v) (w : World) : Calls Tryz.prog 104 #[.agg #[.int .i64 a.fr, .int .i64 a.tn, .int .i64 a.st, .int .i64 a.en, .int .i64 a.ow], .agg #[.int .i64 b.fr, .int .i64 b.tn, .int .i64 b.st, .int .i64 b.en, .int .i64 b.ow]] w fun e w' => e = .returned (.bool v) ∧ Below w.heap.size w w' := by
  have hB : Below w.heap.size w ((w.alloc (.cells #[.int .i64 a.fr, .int .i64 a.tn, .int .i64 a.st, .int .i64 a.en, .int .i64 a.ow] 100)).alloc (.cells #[.int .i64 b.fr, .int .i64 b.tn, .int .i64 b.st, .int .i64 b.en, .int .i64 b.ow] 100)) := by (repeat (first | exact Below.refl _ _ | refine Below.alloc ?_ (by first | omega | (simp; done) | (simp; omega)) _ | refine Below.setCell ?_ (by first | omega | (simp; done) | (simp; omega)) _ | refine Below.drew ?_))
  have HV := Lib.hid hv
  clear hv
  by_cases h1 : a.fr = b.fr <;> by_cases h2 : a.tn = b.tn <;> by_cases h3 : a.st < b.en <;> by_cases h4 : b.st < a.en
  all_goals
    have hr : v = decide (a.fr = b.fr ∧ a.tn = b.tn ∧ a.st < b.en ∧ b.st < a.en) := HV.out.symm
    simp only [h1, h2, h3, h4, and_true, and_false, and_self, decide_true, decide_false, false_and, true_and] at hr
    have d1 : (a.fr == b.fr) = decide (a.fr = b.fr) := by rw [Bool.eq_iff_iff]; simp
    have d2 : (a.tn == b.tn) = decide (a.tn = b.tn) := by rw [Bool.eq_iff_iff]; simp
    obtain ⟨p3, d3⟩ : ∃ p, decide (a.st < b.en) = p := ⟨_, rfl⟩
    obtain ⟨p4, d4⟩ : ∃ p, decide (b.st < a.en) = p := ⟨_, rfl⟩
    have e3 := d3
    have e4 := d4
    simp only [h1, h2, decide_true, decide_false] at d1 d2
    simp only [h3, h4, decide_true, decide_false] at e3 e4
    subst e3 e4
    have HR := Lib.hid hr
    have H1 := Lib.hid h1
    have H2 := Lib.hid h2
    clear hr h1 h2 h3 h4
    go_enter Tryz.func104, Tryz.ntmps104
    go_wp2
    go_ret
    have h1 := H1.out
    have h2 := H2.out
    exact ⟨by rw [HR.out]; first | rfl | simp [*], by first | exact hB | (rw [h1] at hB; exact hB) | (rw [h2] at hB; exact hB) | (rw [h1, h2] at hB; exact hB)⟩
def pairR (d : List Rg) (i k : Nat) : Bool := !overR (gRg d k) (gRg d i)
def rstR (d : List Rg) (i : Nat) : Bool := okR (gRg d i) && (i == 0 || decide (cmpR (gRg d (i - 1)) (gRg d i) < 0)) && (List.range i).all (pairR d i)
theorem rst_of_right {d : List Rg} (h : rightB d = true) {i : Nat} (hi : i < d.length) : rstR d i = true := by
  have hs := (rightB_true.1 h).2 i hi
  unfold stepB at hs
  rw [Bool.and_eq_true] at hs
  unfold rstR
  rw [hs.1, Bool.true_and, Bool.and_eq_true, List.all_eq_true]
  refine ⟨?_, fun k hk => ?_⟩
  · by_cases h0 : i = 0
    · simp [h0]
    · have h2 := hs.2
      simp [h0] at h2
      simp [h2.1]
  · have hb := (sort_of_right h).at_ (List.mem_range.1 hk) hi
    unfold pairR overR
    rw [Bool.not_eq_true', decide_eq_false_iff_not]
    rintro ⟨e1, e2, e3, e4⟩
    have := hb.2 e1 e2
    omega
theorem right_of_rst {d : List Rg} (hn : d.length ≤ 4096) (h : ∀ i, i < d.length → rstR d i = true) : rightB d = true := by
  rw [rightB_true]
  refine ⟨hn, fun i hi => ?_⟩
  have h0 := h i hi
  unfold rstR at h0
  rw [Bool.and_eq_true, Bool.and_eq_true, List.all_eq_true] at h0
  obtain ⟨⟨h1, h2⟩, h3⟩ := h0
  unfold stepB
  rw [h1, Bool.true_and]
  by_cases hz : i = 0
  · simp [hz]
  · have hp := h3 (i - 1) (List.mem_range.2 (by omega))
    unfold pairR at hp
    have hl : decide (cmpR (gRg d (i - 1)) (gRg d i) < 0) = true := by simpa [hz] using h2
    rw [hl, hp]
    simp
theorem right_false_rst {d : List Rg} {i : Nat} (hi : i < d.length) (h : rstR d i = false) : rightB d = false := by
  rw [Bool.eq_false_iff]
  intro e
  rw [rst_of_right e hi] at h
  cases h
theorem rst_pair {d : List Rg} {i k : Nat} (hk : k < i) (h : pairR d i k = false) : rstR d i = false := by
  rw [Bool.eq_false_iff]
  intro e
  unfold rstR at e
  rw [Bool.and_eq_true, List.all_eq_true] at e
  rw [e.2 k (List.mem_range.2 hk)] at h
  cases h
theorem rrange_b {fr tn st en ow : Int} (b : Bool) (h : rangeB fr tn st en ow = b) (w : World) :
    Calls Tryz.prog 102 #[.agg #[.int .i64 fr, .int .i64 tn, .int .i64 st, .int .i64 en, .int .i64 ow]] w fun e w' => e = .returned (.bool b) ∧ Below w.heap.size w w' := h ▸ rrange_any fr tn st en ow w
set_option maxHeartbeats 8000000 in
set_option maxRecDepth 100000 in
theorem rright7_any (A : Option Addr) (n c : Nat) (d : List Rg) (w : World) (hd : d.length = n) (hn : n ≤ 1000000) (h : Sl w w.heap.size 5 A n c (flatRg d)) (b : Bool) (hb : rightB d = b) :
    Calls Tryz.prog 64 #[.slice A n c] w fun e w' => e = .returned (.bool b) ∧ Below w.heap.size w w' := by
  have HD := Lib.hid hd
  have HL := Lib.hid h
  have HB := Lib.hid hb
  clear hd h hb
  go_enter Tryz.func64, Tryz.ntmps64
  go_wp2
  go_loopw [3] (fun iv wr => ∃ i : Nat, iv = .int .i64 i ∧ i ≤ n ∧ Hid (∀ j, j < i → rstR d j = true) ∧ Below w.heap.size w wr) (fun iv _ => n - (intOf iv).toNat)
  case atStart => exact ⟨0, rfl, by omega, (fun j hj => by omega), Below.refl _ _⟩
  case round =>
    obtain ⟨i, rfl, hi, HQ, hB⟩ := hrel
    by_cases hin : i < n
    · obtain ⟨ad, rfl, hab, c0, c1, c2, c3, c4⟩ := (HL.out.below hB).lst.atRg HD.out hin
      obtain ⟨x, hx⟩ : ∃ x, gRg d i = x := ⟨_, rfl⟩
      rw [hx] at c0 c1 c2 c3 c4
      have HX := Lib.hid hx
      have hs := hB.size
      clear hx
      obtain ⟨ok, hok⟩ : ∃ ok, okR x = ok := ⟨_, rfl⟩
      have HOK := Lib.hid hok
      clear hok
      go_wp2_with fail
      refine (rrange_b ok (show rangeB x.fr x.tn x.st x.en x.ow = ok from HOK.out) wr).mono ?_
      rintro e w3 ⟨rfl, hb3⟩
      replace hB := hB.trans (hb3.mono hs)
      clear hb3 hs c0 c1 c2 c3 c4
      have hs := hB.size
      obtain ⟨ae, he, _, c0, c1, c2, c3, c4⟩ := (HL.out.below hB).lst.atRg HD.out hin
      injection he with he
      subst he
      rw [HX.out] at c0 c1 c2 c3 c4
      cases ok
      · have hf : b = false := by rw [← HB.out]; exact right_false_rst (i := i) (by rw [HD.out]; exact hin) (by unfold rstR; rw [HX.out, HOK.out]; rfl)
        have HF := Lib.hid hf
        clear hf
        go_wp2_with fail
        have q_c0 := fun d os => cell_regrown c0 d os
        have q_c1 := fun d os => cell_regrown c1 d os
        have q_c2 := fun d os => cell_regrown c2 d os
        have q_c3 := fun d os => cell_regrown c3 d os
        have q_c4 := fun d os => cell_regrown c4 d os
        try simp only [List.append]
        first | refine wp_region_text_below ?_ | refine wp_region_quiet_below (by kernel_rfl) (by kernel_rfl) ?_
        repeat (go_big_quiet_step ((fail)))
        refine wpQuiet_nil ?_
        intro _ hqw
        obtain ⟨pq, hqw⟩ := hqw
        subst hqw
        clear q_c0 q_c1 q_c2 q_c3 q_c4
        have hbq := hB.trans ((below_regrown w3 pq.d pq.os).mono hB.size)
        clear c0 c1 c2 c3 c4
        generalize grow (redrawn w3 pq.d) pq.os = wq at *
        go_wp2_with fail
        go_ret
        exact ⟨by rw [HF.out]; rfl, hbq⟩
      · have hcase : i = 0 ∨ ∃ p, i = p + 1 := by cases i with | zero => exact .inl rfl | succ p => exact .inr ⟨p, rfl⟩
        rcases hcase with rfl | ⟨p, rfl⟩
        · have hd0 : decide (((0 : Nat) : Int) > 0) = false := by simp
          have HST : Hid (rstR d 0 = true) := by
            show rstR d 0 = true
            unfold rstR; rw [HX.out, HOK.out]; rfl
          try simp only [Int.natCast_zero]
          go_wp2_with fail
          have q_c0 := fun d os => cell_regrown c0 d os
          have q_c1 := fun d os => cell_regrown c1 d os
          have q_c2 := fun d os => cell_regrown c2 d os
          have q_c3 := fun d os => cell_regrown c3 d os
          have q_c4 := fun d os => cell_regrown c4 d os
          try simp only [List.append]
          first | refine wp_region_text_below ?_ | refine wp_region_quiet_below (by kernel_rfl) (by kernel_rfl) ?_
          repeat (go_big_quiet_step ((fail)))
          refine wpQuiet_nil ?_
          intro _ hqw
          obtain ⟨pq, hqw⟩ := hqw
          subst hqw
          clear q_c0 q_c1 q_c2 q_c3 q_c4
          have hbq := hB.trans ((below_regrown w3 pq.d pq.os).mono hB.size)
          clear c0 c1 c2 c3 c4
          generalize grow (redrawn w3 pq.d) pq.os = wq at *
          go_wp2_with fail
          go_loopw [5] (fun kv wx => kv = .int .i64 0 ∧ wq = wx) (fun _ _ => 1)
          case atStart => exact ⟨rfl, rfl⟩
          case round =>
            obtain ⟨rfl, rfl⟩ := hrel
            go_wp2_with fail
            go_roundw
            case rel => exact ⟨1, by go_num, by omega, (fun j hj => by obtain rfl : j = 0 := by omega
                                                                       exact HST.out), hbq⟩
            case measure => simp [intOf]; omega
        · have hpn : p < n := by omega
          obtain ⟨af, hf, _, p0, p1, p2, p3, p4⟩ := (HL.out.below hB).lst.atRg HD.out hpn
          injection hf with hf
          subst hf
          obtain ⟨y, hy⟩ : ∃ y, gRg d p = y := ⟨_, rfl⟩
          rw [hy] at p0 p1 p2 p3 p4
          have HY := Lib.hid hy
          have hwr : IntKind.i64.wrap (((p + 1 : Nat) : Int) - 1) = (p : Int) := by rw [show ((p + 1 : Nat) : Int) - 1 = (p : Int) by omega]; exact IntWalk.i64_in _ (by omega)
          have hwr2 : IntKind.i64.wrap ((p : Int) + 1 - 1) = (p : Int) := by rw [show (p : Int) + 1 - 1 = (p : Int) by omega]; exact IntWalk.i64_in _ (by omega)
          have hgt : decide ((((p + 1 : Nat)) : Int) > 0) = true := decide_eq_true (by omega)
          have hpI : (p : Int) < (n : Int) := by omega
          have hp0 : (0 : Int) ≤ (p : Int) := by omega
          obtain ⟨lt, hlt⟩ : ∃ lt, decide (cmpR y x < 0) = lt := ⟨_, rfl⟩
          have HLT := Lib.hid hlt
          clear hy hlt
          cases lt
          · have hf : b = false := by rw [← HB.out]; exact right_false_rst (i := p + 1) (by rw [HD.out]; exact hin) (by unfold rstR; rw [HX.out, HOK.out, Nat.add_sub_cancel, HY.out, HLT.out]; rfl)
            have HF := Lib.hid hf
            clear hf
            go_wp2_with fail
            have q_c0 := fun d os => cell_regrown c0 d os
            have q_c1 := fun d os => cell_regrown c1 d os
            have q_c2 := fun d os => cell_regrown c2 d os
            have q_c3 := fun d os => cell_regrown c3 d os
            have q_c4 := fun d os => cell_regrown c4 d os
            have q_p0 := fun d os => cell_regrown p0 d os
            have q_p1 := fun d os => cell_regrown p1 d os
            have q_p2 := fun d os => cell_regrown p2 d os
            have q_p3 := fun d os => cell_regrown p3 d os
            have q_p4 := fun d os => cell_regrown p4 d os
            try simp only [List.append]
            first | refine wp_region_text_below ?_ | refine wp_region_quiet_below (by kernel_rfl) (by kernel_rfl) ?_
            repeat (go_big_quiet_step (((go_at_call 103; with_reducible exact Calls.regrown_of (rless_any y x _ HLT.out _)))))
            refine wpQuiet_nil ?_
            intro _ hqw
            obtain ⟨pq, hqw⟩ := hqw
            subst hqw
            clear q_c0 q_c1 q_c2 q_c3 q_c4 q_p0 q_p1 q_p2 q_p3 q_p4
            have hbq := hB.trans ((below_regrown w3 pq.d pq.os).mono hB.size)
            clear c0 c1 c2 c3 c4 p0 p1 p2 p3 p4
            generalize grow (redrawn w3 pq.d) pq.os = wq at *
            go_wp2_with fail
            go_ret
            exact ⟨by rw [HF.out]; rfl, hbq⟩
          · have HP1 : Hid (∀ k : Nat, (∀ j, j < p + 1 → pairR d (p + 1) j = true) → rstR d (p + 1) = true) := fun _ hh => by
              unfold rstR
              rw [HX.out, HOK.out, Nat.add_sub_cancel, HY.out, HLT.out]
              rw [Bool.and_eq_true, List.all_eq_true]
              exact ⟨by simp, fun k hk => hh k (List.mem_range.1 hk)⟩
            go_wp2_with fail
            have q_c0 := fun d os => cell_regrown c0 d os
            have q_c1 := fun d os => cell_regrown c1 d os
            have q_c2 := fun d os => cell_regrown c2 d os
            have q_c3 := fun d os => cell_regrown c3 d os
            have q_c4 := fun d os => cell_regrown c4 d os
            have q_p0 := fun d os => cell_regrown p0 d os
            have q_p1 := fun d os => cell_regrown p1 d os
            have q_p2 := fun d os => cell_regrown p2 d os
            have q_p3 := fun d os => cell_regrown p3 d os
            have q_p4 := fun d os => cell_regrown p4 d os
            try simp only [List.append]
            first | refine wp_region_text_below ?_ | refine wp_region_quiet_below (by kernel_rfl) (by kernel_rfl) ?_
            repeat (go_big_quiet_step (((go_at_call 103; with_reducible exact Calls.regrown_of (rless_any y x _ HLT.out _)))))
            refine wpQuiet_nil ?_
            intro _ hqw
            obtain ⟨pq, hqw⟩ := hqw
            subst hqw
            clear q_c0 q_c1 q_c2 q_c3 q_c4 q_p0 q_p1 q_p2 q_p3 q_p4
            have hbq := hB.trans ((below_regrown w3 pq.d pq.os).mono hB.size)
            clear c0 c1 c2 c3 c4 p0 p1 p2 p3 p4
            generalize grow (redrawn w3 pq.d) pq.os = wq at *
            clear hB hs hwr hwr2 hgt hpI hp0 hpn
            go_wp2_with fail
            go_loopw [5] (fun kv wx => ∃ k : Nat, kv = .int .i64 k ∧ k ≤ p + 1 ∧ Hid (∀ j, j < k → pairR d (p + 1) j = true) ∧ Below w.heap.size w wx) (fun kv _ => p + 1 - (intOf kv).toNat)
            case atStart => exact ⟨0, rfl, by omega, (fun j hj => by omega), hbq⟩
            case round =>
              obtain ⟨k, rfl, hk, HK, hB⟩ := hrel
              by_cases hkp : k < p + 1
              · obtain ⟨ae, he, _, c0, c1, c2, c3, c4⟩ := (HL.out.below hB).lst.atRg HD.out hin
                injection he with he
                subst he
                rw [HX.out] at c0 c1 c2 c3 c4
                have hkn : k < n := by omega
                obtain ⟨af, hf, _, p0, p1, p2, p3, p4⟩ := (HL.out.below hB).lst.atRg HD.out hkn
                injection hf with hf
                subst hf
                obtain ⟨z, hz⟩ : ∃ z, gRg d k = z := ⟨_, rfl⟩
                rw [hz] at p0 p1 p2 p3 p4
                have HZ := Lib.hid hz
                clear hz
                obtain ⟨ov, hov⟩ : ∃ ov, overR z x = ov := ⟨_, rfl⟩
                have HOV := Lib.hid hov
                clear hov
                go_wp2_with fail
                have q_c0 := fun d os => cell_regrown c0 d os
                have q_c1 := fun d os => cell_regrown c1 d os
                have q_c2 := fun d os => cell_regrown c2 d os
                have q_c3 := fun d os => cell_regrown c3 d os
                have q_c4 := fun d os => cell_regrown c4 d os
                have q_p0 := fun d os => cell_regrown p0 d os
                have q_p1 := fun d os => cell_regrown p1 d os
                have q_p2 := fun d os => cell_regrown p2 d os
                have q_p3 := fun d os => cell_regrown p3 d os
                have q_p4 := fun d os => cell_regrown p4 d os
                try simp only [List.append]
                first | refine wp_region_text_below ?_ | refine wp_region_quiet_below (by kernel_rfl) (by kernel_rfl) ?_
                repeat (go_big_quiet_step (((go_at_call 104; with_reducible exact Calls.regrown_of (roverlap_any z x _ HOV.out _)))))
                refine wpQuiet_nil ?_
                intro _ hqw
                obtain ⟨pq, hqw⟩ := hqw
                subst hqw
                clear q_c0 q_c1 q_c2 q_c3 q_c4 q_p0 q_p1 q_p2 q_p3 q_p4
                have hbq2 := hB.trans ((below_regrown wr pq.d pq.os).mono hB.size)
                clear c0 c1 c2 c3 c4 p0 p1 p2 p3 p4 hB
                generalize grow (redrawn wr pq.d) pq.os = wy at *
                have hB := hbq2
                clear hbq2
                cases ov
                · have HK2 : Hid (∀ j, j < k + 1 → pairR d (p + 1) j = true) := fun j hj => by
                    by_cases e : j = k
                    · subst e
                      unfold pairR
                      rw [HX.out, HZ.out, HOV.out]; rfl
                    · exact HK.out j (by omega)
                  go_wp2_with fail
                  go_roundw
                  case rel => exact ⟨k + 1, by go_num, by omega, HK2, hB⟩
                  case measure => simp [intOf]; omega
                · have hf : b = false := by rw [← HB.out]; exact right_false_rst (i := p + 1) (by rw [HD.out]; exact hin) (rst_pair hkp (by unfold pairR; rw [HX.out, HZ.out, HOV.out]; rfl))
                  have HF := Lib.hid hf
                  clear hf
                  go_wp2_with fail
                  go_ret
                  exact ⟨by rw [HF.out]; rfl, hB⟩
              · obtain rfl : k = p + 1 := by omega
                have HRS : Hid (∀ j, j < p + 1 + 1 → rstR d j = true) := fun j hj => by
                  by_cases e : j = p + 1
                  · subst e; exact HP1.out 0 HK.out
                  · exact HQ.out j (by omega)
                go_wp2_with fail
                go_roundw
                case rel => exact ⟨p + 1 + 1, by go_num, by omega, HRS, hB⟩
                case measure => simp [intOf]; omega
    · obtain rfl : i = n := by omega
      by_cases h4 : i ≤ 4096
      · have hb1 : b = true := by rw [← HB.out]; exact right_of_rst (by rw [HD.out]; exact h4) (fun j hj => HQ.out j (by rw [HD.out] at hj; exact hj))
        have HB1 := Lib.hid hb1
        clear hb1
        have h4i : decide ((i : Int) ≤ 4096) = true := decide_eq_true (by omega)
        go_wp2_with fail
        go_ret
        exact ⟨by rw [HB1.out]; rfl, hB⟩
      · have hb1 : b = false := by
          rw [← HB.out, Bool.eq_false_iff]
          intro e
          have := (rightB_true.1 e).1
          rw [HD.out] at this
          omega
        have HB1 := Lib.hid hb1
        clear hb1
        have h4i : decide ((i : Int) ≤ 4096) = false := decide_eq_false (by omega)
        go_wp2_with fail
        go_ret
        exact ⟨by rw [HB1.out]; rfl, hB⟩
end Go.Proofs.YtodcoockhkghdaaGreat.Kr
namespace Go.Proofs.YtodcoockhkghdaaGreat
open Go.ChangeShapes Go.WideShapes Go.ChangeAt Go.RowKit Go.Sort
set_option linter.unusedSimpArgs false
set_option linter.unusedVariables false
theorem any_atC {cs:List Co} {clk:Int} {i:Nat} (hi:i < cs.length) (h:(gCo cs i).en ≤ clk):(cs.any fun x => decide (x.en ≤ clk)) = true:=List.any_eq_true.2 ⟨_,gCo_mem hi,decide_eq_true h⟩
theorem any_noC {cs:List Co} {clk:Int} (h:∀ j,j < cs.length → clk < (gCo cs j).en):(cs.any fun x => decide (x.en ≤ clk)) = false:=by
 rw [List.any_eq_false]
 intro x hx
 obtain ⟨j,hj,rfl⟩:=List.getElem_of_mem hx
 have:=h j hj
 rw [gCo_eq hj] at this
 simp; omega
theorem any_atR {cs:List Rg} {clk:Int} {i:Nat} (hi:i < cs.length) (h:(gRg cs i).en ≤ clk):(cs.any fun x => decide (x.en ≤ clk)) = true:=List.any_eq_true.2 ⟨_,gRg_mem hi,decide_eq_true h⟩
theorem any_noR {cs:List Rg} {clk:Int} (h:∀ j,j < cs.length → clk < (gRg cs j).en):(cs.any fun x => decide (x.en ≤ clk)) = false:=by
 rw [List.any_eq_false]
 intro x hx
 obtain ⟨j,hj,rfl⟩:=List.getElem_of_mem hx
 have:=h j hj
 rw [gRg_eq hj] at this
 simp; omega
set_option maxHeartbeats 8000000 in
set_option maxRecDepth 100000 in
theorem rright8_any (A1:Option Addr) (n1 c1:Nat) (cs:List Co) (A:Option Addr) (n c:Nat) (rs:List Rg) (clk ver:Int) (w:World) (hd1:cs.length = n1) (hn1:n1 ≤ 1000000) (hd:rs.length = n) (hn:n ≤ 1000000) (h1:Sl w w.heap.size 6 A1 n1 c1 (flatCo cs)) (h:Sl w w.heap.size 5 A n c (flatRg rs)) (b:Bool) (hb:rightP cs rs clk ver = b) :
  Calls Tryz.prog 31 #[.agg #[.slice A1 n1 c1,.slice A n c,.int .i64 clk,.int .i64 ver]] w fun e w' => e = .returned (.bool b) ∧ Below w.heap.size w w':=by
 have hB:Below w.heap.size w (w.alloc (.cells #[.slice A1 n1 c1,.slice A n c,.int .i64 clk,.int .i64 ver] 25)):=by (repeat (first | exact Below.refl _ _ | refine Below.alloc ?_ (by first | omega | (simp; done) | (simp; omega)) _ | refine Below.setCell ?_ (by first | omega | (simp; done) | (simp; omega)) _ | refine Below.drew ?_))
 have hP:=Blok.new w 25 #[.slice A1 n1 c1,.slice A n c,.int .i64 clk,.int .i64 ver]
 replace h1:=h1.up hB
 replace h:=h.up hB
 have hs:=hB.size
 have HB:=Lib.hid hb
 have HD1:=Lib.hid hd1
 have HD:=Lib.hid hd
 clear hb hd hd1
 obtain ⟨b1,q1⟩:∃ q,Kc.rightC cs = q:=⟨_,rfl⟩
 obtain ⟨b2,q2⟩:∃ q,Kr.rightB rs = q:=⟨_,rfl⟩
 obtain ⟨b3,q3⟩:∃ q,inB clk 0 2147483647 = q:=⟨_,rfl⟩
 obtain ⟨b4,q4⟩:∃ q,inB ver 0 1099511627776 = q:=⟨_,rfl⟩
 obtain ⟨b5,q5⟩:∃ q,(cs.any fun x => decide (x.en ≤ clk)) = q:=⟨_,rfl⟩
 obtain ⟨b6,q6⟩:∃ q,(rs.any fun x => decide (x.en ≤ clk)) = q:=⟨_,rfl⟩
 have hbb:b = (b1 && (b2 && (b3 && (b4 && (!b5 && !b6))))):=by rw [← HB.out]; unfold rightP aheadC aheadR; rw [q1,q2,q3,q4,q5,q6]
 have Q1:=Lib.hid q1
 have Q2:=Lib.hid q2
 have Q3:=Lib.hid q3
 have Q4:=Lib.hid q4
 have Q5:=Lib.hid q5
 have Q6:=Lib.hid q6
 have HBB:=Lib.hid hbb
 clear q1 q2 q3 q4 q5 q6 hbb HB
 go_enter Tryz.func31,Tryz.ntmps31
 go_upto_region 1 with fail
 generalize w.alloc (.cells #[.slice A1 n1 c1,.slice A n c,.int .i64 clk,.int .i64 ver] 25) = w0 at *
 have r0:w0.cell? ⟨w.heap.size,0,none⟩ = some (.slice A1 n1 c1):=hP.cell 0
 have lt_p:=hP.lt
 go_wp2_with fail
 clear r0 lt_p
 refine (Kc.rright6_any A1 n1 c1 cs w0 HD1.out hn1 h1 b1 Q1.out).mono ?_
 rintro e w1 ⟨rfl,hb⟩
 replace h1:=h1.up hb
 replace h:=h.up hb
 replace hP:=hP.below hb hP.lt
 replace hB:=hB.trans (hb.mono hs)
 replace hs:=hB.size
 clear hb
 have r1:w1.cell? ⟨w.heap.size,1,none⟩ = some (.slice A n c):=hP.cell 1
 have lt_p:=hP.lt
 go_wp2_with fail
 clear r1 lt_p
 refine (Kr.rright7_any A n c rs w1 HD.out hn h b2 Q2.out).mono ?_
 rintro e w2 ⟨rfl,hb⟩
 replace h1:=h1.up hb
 replace h:=h.up hb
 replace hP:=hP.below hb hP.lt
 replace hB:=hB.trans (hb.mono hs)
 replace hs:=hB.size
 clear hb
 have r0:w2.cell? ⟨w.heap.size,0,none⟩ = some (.slice A1 n1 c1):=hP.cell 0
 have r1:w2.cell? ⟨w.heap.size,1,none⟩ = some (.slice A n c):=hP.cell 1
 have r2:w2.cell? ⟨w.heap.size,2,none⟩ = some (.int .i64 clk):=hP.cell 2
 have r3:w2.cell? ⟨w.heap.size,3,none⟩ = some (.int .i64 ver):=hP.cell 3
 have lt_p:=hP.lt
 cases b1
 ·go_wp2_with fail
  go_ret
  exact ⟨by rw [HBB.out]; rfl,hB⟩
 cases b2
 ·go_wp2_with fail
  go_ret
  exact ⟨by rw [HBB.out]; rfl,hB⟩
 have hq3:=Q3.out
 have hq4:=Q4.out
 unfold inB at hq3 hq4
 by_cases k1:clk < 0
 ·have d1:decide (clk < 0) = true:=decide_eq_true k1
  have HF:Hid (b = false):=by show b = false; rw [HBB.out,← hq3,decide_eq_false (by omega)]; rfl
  clear hq3 hq4 k1
  go_wp2_with fail
  go_ret
  exact ⟨by rw [HF.out]; rfl,hB⟩
 have d1:decide (clk < 0) = false:=decide_eq_false k1
 by_cases k2:clk > 2147483647
 ·have d2:decide (clk > 2147483647) = true:=decide_eq_true k2
  have HF:Hid (b = false):=by show b = false; rw [HBB.out,← hq3,decide_eq_false (by omega)]; rfl
  clear hq3 hq4 k1 k2
  go_wp2_with fail
  go_ret
  exact ⟨by rw [HF.out]; rfl,hB⟩
 have d2:decide (clk > 2147483647) = false:=decide_eq_false k2
 by_cases k3:ver < 0
 ·have d3:decide (ver < 0) = true:=decide_eq_true k3
  have HF:Hid (b = false):=by show b = false; rw [HBB.out,← hq4,decide_eq_false (by omega:¬ (0 ≤ ver ∧ ver ≤ 1099511627776))]; cases b3 <;> rfl
  clear hq3 hq4 k1 k2 k3
  go_wp2_with fail
  go_ret
  exact ⟨by rw [HF.out]; rfl,hB⟩
 have d3:decide (ver < 0) = false:=decide_eq_false k3
 by_cases k4:ver > 1099511627776
 ·have d4:decide (ver > 1099511627776) = true:=decide_eq_true k4
  have HF:Hid (b = false):=by show b = false; rw [HBB.out,← hq4,decide_eq_false (by omega:¬ (0 ≤ ver ∧ ver ≤ 1099511627776))]; cases b3 <;> rfl
  clear hq3 hq4 k1 k2 k3 k4
  go_wp2_with fail
  go_ret
  exact ⟨by rw [HF.out]; rfl,hB⟩
 have d4:decide (ver > 1099511627776) = false:=decide_eq_false k4
 have HBC:Hid (b = (!b5 && !b6)):=by
  show b = (!b5 && !b6)
  rw [HBB.out,← hq3,← hq4,decide_eq_true (by omega:0 ≤ clk ∧ clk ≤ 2147483647),decide_eq_true (by omega:0 ≤ ver ∧ ver ≤ 1099511627776)]
  rfl
 clear hq3 hq4 k1 k2 k3 k4
 go_upto_region 5 with fail
 have H1:=Lib.hid h1
 have H2:=Lib.hid h
 have HP:=Lib.hid hP
 clear h1 h hP r0 r1 r2 r3 lt_p
 go_wp2_with fail
 go_loopw [5] (fun iv wr => ∃ i:Nat,iv = .int .i64 i ∧ i ≤ n1 ∧ Hid (∀ j,j < i → clk < (gCo cs j).en) ∧ Below w2.heap.size w2 wr) (fun iv _ => n1 - (intOf iv).toNat)
 case atStart => exact ⟨0,rfl,by omega,(fun j hj => by omega),Below.refl _ _⟩
 case round =>
  obtain ⟨i,rfl,hi,HQ,hC⟩:=hrel
  by_cases hin:i < n1
  ·obtain ⟨ad,rfl,hab,c0,c1_,c2,c3,c4,c5⟩:=(H1.out.below hC).lst.atCo HD1.out hin
   obtain ⟨x,hx⟩:∃ x,gCo cs i = x:=⟨_,rfl⟩
   rw [hx] at c0 c1_ c2 c3 c4 c5
   have HX:=Lib.hid hx
   have hw2:IntKind.i64.wrap ((i:Int) + 1) = (i:Int) + 1:=IntWalk.i64_in _ (by omega)
   have hg:=HP.out.below hC HP.out.lt
   have y0:wr.cell? ⟨w.heap.size,0,none⟩ = some (.slice (some ad) n1 c1):=hg.cell 0
   have y2:wr.cell? ⟨w.heap.size,2,none⟩ = some (.int .i64 clk):=hg.cell 2
   have lt_p:=hg.lt
   clear hx hab hg
   by_cases he:x.en ≤ clk
   ·have e1:decide (x.en ≤ clk) = true:=decide_eq_true he
    have HF:Hid (b = false):=by show b = false; rw [HBC.out,← Q5.out,any_atC (i:=i) (by rw [HD1.out]; exact hin) (by rw [HX.out]; exact he)]; rfl
    clear he
    go_wp2_with fail
    have q_c0:=fun d os => cell_regrown c0 d os
    have q_c1_:=fun d os => cell_regrown c1_ d os
    have q_c2:=fun d os => cell_regrown c2 d os
    have q_c3:=fun d os => cell_regrown c3 d os
    have q_c4:=fun d os => cell_regrown c4 d os
    have q_c5:=fun d os => cell_regrown c5 d os
    have q_y0:=fun d os => cell_regrown y0 d os
    have q_y2:=fun d os => cell_regrown y2 d os
    try simp only [List.append]
    first | refine wp_region_text_below ?_ | refine wp_region_quiet_below (by kernel_rfl) (by kernel_rfl) ?_
    repeat (go_big_quiet_step ((fail)))
    refine wpQuiet_nil ?_
    intro _ hqw
    obtain ⟨pq,hqw⟩:=hqw
    subst hqw
    clear q_c0 q_c1_ q_c2 q_c3 q_c4 q_c5 q_y0 q_y2
    have hC2:=hC.trans ((below_regrown wr pq.d pq.os).mono hC.size)
    clear c0 c1_ c2 c3 c4 c5 y0 y2 lt_p hC
    generalize grow (redrawn wr pq.d) pq.os = wq at *
    go_wp2_with fail
    go_ret
    exact ⟨by rw [HF.out]; rfl,hB.trans (hC2.mono hs)⟩
   ·have e1:decide (x.en ≤ clk) = false:=decide_eq_false he
    have HQ2:Hid (∀ j,j < i + 1 → clk < (gCo cs j).en):=fun j hj => by
     by_cases e:j = i
     ·subst e; rw [HX.out]; omega
     ·exact HQ.out j (by omega)
    clear he
    go_wp2_with fail
    have q_c0:=fun d os => cell_regrown c0 d os
    have q_c1_:=fun d os => cell_regrown c1_ d os
    have q_c2:=fun d os => cell_regrown c2 d os
    have q_c3:=fun d os => cell_regrown c3 d os
    have q_c4:=fun d os => cell_regrown c4 d os
    have q_c5:=fun d os => cell_regrown c5 d os
    have q_y0:=fun d os => cell_regrown y0 d os
    have q_y2:=fun d os => cell_regrown y2 d os
    try simp only [List.append]
    first | refine wp_region_text_below ?_ | refine wp_region_quiet_below (by kernel_rfl) (by kernel_rfl) ?_
    repeat (go_big_quiet_step ((fail)))
    refine wpQuiet_nil ?_
    intro _ hqw
    obtain ⟨pq,hqw⟩:=hqw
    subst hqw
    clear q_c0 q_c1_ q_c2 q_c3 q_c4 q_c5 q_y0 q_y2
    have hC2:=hC.trans ((below_regrown wr pq.d pq.os).mono hC.size)
    clear c0 c1_ c2 c3 c4 c5 y0 y2 lt_p hC
    generalize grow (redrawn wr pq.d) pq.os = wq at *
    go_wp2_with fail
    go_roundw
    case rel => exact ⟨i + 1,by go_num,by omega,HQ2,hC2⟩
    case measure => simp [intOf]; omega
  ·obtain rfl:i = n1:=by omega
   have HBD:Hid (b = !b6):=by show b = !b6; rw [HBC.out,← Q5.out,any_noC (fun j hj => HQ.out j (by rw [← HD1.out]; exact hj))]; rfl
   have hg:=HP.out.below hC HP.out.lt
   have y0:wr.cell? ⟨w.heap.size,0,none⟩ = some (.slice A1 i c1):=hg.cell 0
   have lt_p:=hg.lt
   clear hin hi hg
   go_wp2_with fail
   clear y0 lt_p
   go_loopw [6] (fun iv wr => ∃ k:Nat,iv = .int .i64 k ∧ k ≤ n ∧ Hid (∀ j,j < k → clk < (gRg rs j).en) ∧ Below w2.heap.size w2 wr) (fun iv _ => n - (intOf iv).toNat)
   case atStart => exact ⟨0,rfl,by omega,(fun j hj => by omega),hC⟩
   case round =>
    clear hC
    obtain ⟨k,rfl,hk,HK,hC⟩:=hrel
    by_cases hkn:k < n
    ·obtain ⟨ad,rfl,hab,c0,c1_,c2,c3,c4⟩:=(H2.out.below hC).lst.atRg HD.out hkn
     obtain ⟨x,hx⟩:∃ x,gRg rs k = x:=⟨_,rfl⟩
     rw [hx] at c0 c1_ c2 c3 c4
     have HX:=Lib.hid hx
     have hw2:IntKind.i64.wrap ((k:Int) + 1) = (k:Int) + 1:=IntWalk.i64_in _ (by omega)
     have hg:=HP.out.below hC HP.out.lt
     have y1:wr.cell? ⟨w.heap.size,1,none⟩ = some (.slice (some ad) n c):=hg.cell 1
     have y2:wr.cell? ⟨w.heap.size,2,none⟩ = some (.int .i64 clk):=hg.cell 2
     have lt_p:=hg.lt
     clear hx hab hg
     by_cases he:x.en ≤ clk
     ·have e1:decide (x.en ≤ clk) = true:=decide_eq_true he
      have HF:Hid (b = false):=by show b = false; rw [HBD.out,← Q6.out,any_atR (i:=k) (by rw [HD.out]; exact hkn) (by rw [HX.out]; exact he)]; rfl
      clear he
      go_wp2_with fail
      have q_c0:=fun d os => cell_regrown c0 d os
      have q_c1_:=fun d os => cell_regrown c1_ d os
      have q_c2:=fun d os => cell_regrown c2 d os
      have q_c3:=fun d os => cell_regrown c3 d os
      have q_c4:=fun d os => cell_regrown c4 d os
      have q_y1:=fun d os => cell_regrown y1 d os
      have q_y2:=fun d os => cell_regrown y2 d os
      try simp only [List.append]
      first | refine wp_region_text_below ?_ | refine wp_region_quiet_below (by kernel_rfl) (by kernel_rfl) ?_
      repeat (go_big_quiet_step ((fail)))
      refine wpQuiet_nil ?_
      intro _ hqw
      obtain ⟨pq,hqw⟩:=hqw
      subst hqw
      clear q_c0 q_c1_ q_c2 q_c3 q_c4 q_y1 q_y2
      have hC2:=hC.trans ((below_regrown wr pq.d pq.os).mono hC.size)
      clear c0 c1_ c2 c3 c4 y1 y2 lt_p hC
      generalize grow (redrawn wr pq.d) pq.os = wq at *
      go_wp2_with fail
      go_ret
      exact ⟨by rw [HF.out]; rfl,hB.trans (hC2.mono hs)⟩
     ·have e1:decide (x.en ≤ clk) = false:=decide_eq_false he
      have HQ2:Hid (∀ j,j < k + 1 → clk < (gRg rs j).en):=fun j hj => by
       by_cases e:j = k
       ·subst e; rw [HX.out]; omega
       ·exact HK.out j (by omega)
      clear he
      go_wp2_with fail
      have q_c0:=fun d os => cell_regrown c0 d os
      have q_c1_:=fun d os => cell_regrown c1_ d os
      have q_c2:=fun d os => cell_regrown c2 d os
      have q_c3:=fun d os => cell_regrown c3 d os
      have q_c4:=fun d os => cell_regrown c4 d os
      have q_y1:=fun d os => cell_regrown y1 d os
      have q_y2:=fun d os => cell_regrown y2 d os
      try simp only [List.append]
      first | refine wp_region_text_below ?_ | refine wp_region_quiet_below (by kernel_rfl) (by kernel_rfl) ?_
      repeat (go_big_quiet_step ((fail)))
      refine wpQuiet_nil ?_
      intro _ hqw
      obtain ⟨pq,hqw⟩:=hqw
      subst hqw
      clear q_c0 q_c1_ q_c2 q_c3 q_c4 q_y1 q_y2
      have hC2:=hC.trans ((below_regrown wr pq.d pq.os).mono hC.size)
      clear c0 c1_ c2 c3 c4 y1 y2 lt_p hC
      generalize grow (redrawn wr pq.d) pq.os = wq at *
      go_wp2_with fail
      go_roundw
      case rel => exact ⟨k + 1,by go_num,by omega,HQ2,hC2⟩
      case measure => simp [intOf]; omega
    ·obtain rfl:k = n:=by omega
     have hg:=HP.out.below hC HP.out.lt
     have y1:wr.cell? ⟨w.heap.size,1,none⟩ = some (.slice A k c):=hg.cell 1
     have lt_p:=hg.lt
     clear hg
     have HF:Hid (b = true):=by show b = true; rw [HBD.out,← Q6.out,any_noR (fun j hj => HK.out j (by rw [← HD.out]; exact hj))]; rfl
     go_wp2_with fail
     go_ret
     exact ⟨by rw [HF.out]; rfl,hB.trans (hC.mono hs)⟩
def smallP (cs:List Co) (rs:List Rg) (clk ver:Int) (bk:List Bk):Bool:=(decide (cs.length ≤ 10) && decide (rs.length ≤ 50) && decide (bk.length ≤ 50)) && (rightP cs rs clk ver && Kb.rightB bk)
theorem smallP_spec {cs:List Co} {rs:List Rg} {clk ver:Int} {bk:List Bk}:smallP cs rs clk ver bk = true ↔ (cs.length ≤ 10 ∧ rs.length ≤ 50 ∧ bk.length ≤ 50) ∧ RightP cs rs clk ver ∧ Kb.rightB bk = true:=by
 unfold smallP
 rw [Bool.and_eq_true,Bool.and_eq_true,Bool.and_eq_true,Bool.and_eq_true,decide_eq_true_eq,decide_eq_true_eq,decide_eq_true_eq,rightP_spec]
 constructor
 ·rintro ⟨⟨⟨h1,h2⟩,h3⟩,h4,h5⟩; exact ⟨⟨h1,h2,h3⟩,h4,h5⟩
 ·rintro ⟨⟨h1,h2,h3⟩,h4,h5⟩; exact ⟨⟨⟨h1,h2⟩,h3⟩,h4,h5⟩
theorem smallP_no {cs:List Co} {rs:List Rg} {clk ver:Int} {bk:List Bk} (h:10 < cs.length ∨ 50 < rs.length ∨ 50 < bk.length):smallP cs rs clk ver bk = false:=by
 cases hc:smallP cs rs clk ver bk with
 | false => rfl
 | true =>
  obtain ⟨⟨h1,h2,h3⟩,_⟩:=smallP_spec.1 hc
  omega
theorem smallP_in {cs:List Co} {rs:List Rg} {clk ver:Int} {bk:List Bk} (h1:cs.length ≤ 10) (h2:rs.length ≤ 50) (h3:bk.length ≤ 50):smallP cs rs clk ver bk = (rightP cs rs clk ver && Kb.rightB bk):=by
 unfold smallP
 rw [decide_eq_true h1,decide_eq_true h2,decide_eq_true h3]
 rfl
set_option maxHeartbeats 8000000 in
set_option maxRecDepth 100000 in
theorem Small20_any (A1:Option Addr) (n1 c1:Nat) (cs:List Co) (A:Option Addr) (n c:Nat) (rs:List Rg) (clk ver:Int) (A2:Option Addr) (n2 c2:Nat) (bk:List Bk) (w:World) (hd1:cs.length = n1) (hd:rs.length = n) (hd2:bk.length = n2) (h1:Sl w w.heap.size 6 A1 n1 c1 (flatCo cs)) (h:Sl w w.heap.size 5 A n c (flatRg rs)) (h2:Sl w w.heap.size 4 A2 n2 c2 (flatBk bk)) (b:Bool) (hb:smallP cs rs clk ver bk = b) :
  Calls Tryz.prog 10 #[.agg #[.slice A1 n1 c1,.slice A n c,.int .i64 clk,.int .i64 ver],.slice A2 n2 c2] w fun e w' => e = .returned (.bool b) ∧ Below w.heap.size w w':=by
 have hB:Below w.heap.size w (w.alloc (.cells #[.slice A1 n1 c1,.slice A n c,.int .i64 clk,.int .i64 ver] 25)):=by (repeat (first | exact Below.refl _ _ | refine Below.alloc ?_ (by first | omega | (simp; done) | (simp; omega)) _ | refine Below.setCell ?_ (by first | omega | (simp; done) | (simp; omega)) _ | refine Below.drew ?_))
 have hP:=Blok.new w 25 #[.slice A1 n1 c1,.slice A n c,.int .i64 clk,.int .i64 ver]
 have HD1:=Lib.hid hd1
 have HD:=Lib.hid hd
 have HD2:=Lib.hid hd2
 have HL1:=Lib.hid (fun w' (hb:Below w.heap.size w w') => h1.up hb)
 have HL:=Lib.hid (fun w' (hb:Below w.heap.size w w') => h.up hb)
 have HL2:=Lib.hid (fun w' (hb:Below w.heap.size w w') => h2.up hb)
 have HS:=Lib.hid hb
 obtain ⟨b1,q1⟩:∃ q,rightP cs rs clk ver = q:=⟨_,rfl⟩
 obtain ⟨b2,q2⟩:∃ q,Kb.rightB bk = q:=⟨_,rfl⟩
 have HQ1:=Lib.hid q1
 have HQ2:=Lib.hid q2
 clear hd1 hd hd2 h1 h h2 hb q1 q2
 go_enter Tryz.func10,Tryz.ntmps10
 go_upto_region 1 with fail
 generalize w.alloc (.cells #[.slice A1 n1 c1,.slice A n c,.int .i64 clk,.int .i64 ver] 25) = w0 at *
 by_cases hg:10 < n1 ∨ 50 < n ∨ 50 < n2
 ·have hf:b = false:=by rw [← HS.out]; exact smallP_no (by rw [HD1.out,HD.out,HD2.out]; exact hg)
  subst hf
  have hg':(10 < n1) ∨ (n1 ≤ 10 ∧ 50 < n) ∨ (n1 ≤ 10 ∧ n ≤ 50 ∧ 50 < n2):=by omega
  clear hg
  have p0:w0.cell? ⟨w.heap.size,0,none⟩ = some (.slice A1 n1 c1):=hP.cell 0
  have p1:w0.cell? ⟨w.heap.size,1,none⟩ = some (.slice A n c):=hP.cell 1
  have p2:w0.cell? ⟨w.heap.size,2,none⟩ = some (.int .i64 clk):=hP.cell 2
  have p3:w0.cell? ⟨w.heap.size,3,none⟩ = some (.int .i64 ver):=hP.cell 3
  have lt_p:=hP.lt
  rcases hg' with g0 | ⟨g0,g1⟩ | ⟨g0,g1,g2⟩
  all_goals
   go_wp2_with fail
   go_ret
   exact ⟨rfl,hB⟩
 have hg0:n1 ≤ 10:=by omega
 have hg1:n ≤ 50:=by omega
 have hg2:n2 ≤ 50:=by omega
 have HSV:=Lib.hid ((smallP_in (clk:=clk) (ver:=ver) (by rw [HD1.out]; exact hg0) (by rw [HD.out]; exact hg1) (by rw [HD2.out]; exact hg2)).symm.trans HS.out)
 clear hg HS
 have p0:w0.cell? ⟨w.heap.size,0,none⟩ = some (.slice A1 n1 c1):=hP.cell 0
 have p1:w0.cell? ⟨w.heap.size,1,none⟩ = some (.slice A n c):=hP.cell 1
 have p2:w0.cell? ⟨w.heap.size,2,none⟩ = some (.int .i64 clk):=hP.cell 2
 have p3:w0.cell? ⟨w.heap.size,3,none⟩ = some (.int .i64 ver):=hP.cell 3
 have lt_p:=hP.lt
 have HP:=Lib.hid hP
 clear hP
 go_wp2_with fail
 refine (rright8_any A1 n1 c1 cs A n c rs clk ver w0 HD1.out (by omega) HD.out (by omega) (HL1.out _ hB) (HL.out _ hB) b1 HQ1.out).mono ?_
 rintro e w1 ⟨rfl,hb⟩
 replace hB:=hB.trans (hb.mono hB.size)
 clear hb p0 p1 p2 p3 lt_p HP
 go_wp2_with fail
 refine (Kb.rright_any A2 n2 c2 bk w1 HD2.out (by omega) (HL2.out _ hB)).mono ?_
 rintro e w2 ⟨rfl,hb⟩
 replace hB:=hB.trans (hb.mono hB.size)
 clear hb
 rw [HQ2.out]
 have hbv:b = (b1 && b2):=by rw [← HSV.out,HQ1.out,HQ2.out]
 subst hbv
 cases b1 with
 | false =>
  go_wp2_with fail
  go_ret
  exact ⟨rfl,hB⟩
 | true =>
  go_wp2_with fail
  go_ret
  exact ⟨rfl,hB⟩
end Go.Proofs.YtodcoockhkghdaaGreat
