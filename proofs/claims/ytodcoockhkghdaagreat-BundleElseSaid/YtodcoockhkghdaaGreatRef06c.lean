/- The document's own contacts: Right. -/
import Derived.Test.YtodcoockhkghdaaGreatGQ33
import Derived.Test.YtodcoockhkghdaaGreatGQ11
namespace Go.Proofs.YtodcoockhkghdaaGreat.Kc
open Go.ChangeShapes Go.WideShapes Go.ChangeAt Go.RowKit Go.Sort
set_option linter.unusedSimpArgs false
set_option linter.unusedVariables false
/-- What the document's Right asks of two places. -/
def pairC (d : List Co) (i k : Nat) : Bool := !((gCo d k).id == (gCo d i).id) && !overC (gCo d k) (gCo d i)
def rstC (d : List Co) (i : Nat) : Bool := okC (gCo d i) && (i == 0 || decide (cmpC (gCo d (i - 1)) (gCo d i) < 0)) && (List.range i).all (pairC d i)
theorem overC_false_of {a b : Co} (ha : okC a = true) (h : a.fr = b.fr → a.tn = b.tn → a.en ≤ b.st) : overC a b = false := by
  unfold overC
  rw [decide_eq_false_iff_not]
  rintro ⟨e1, e2, e3, e4⟩
  have := h e1 e2
  omega
theorem rst_of_right {d : List Co} (h : rightC d = true) {i : Nat} (hi : i < d.length) : rstC d i = true := by
  obtain ⟨h1, h2, h3⟩ := right_step h hi
  unfold rstC
  rw [h1, Bool.true_and, Bool.and_eq_true, List.all_eq_true]
  refine ⟨?_, fun k hk => ?_⟩
  · by_cases h0 : i = 0
    · simp [h0]
    · have := cmpC_lt.2 (h3 h0).1
      simp [this]
  · have hb := right_bef h i k (List.mem_range.1 hk) hi
    have hki : k < d.length := Nat.lt_trans (List.mem_range.1 hk) hi
    unfold pairC
    rw [overC_false_of (right_step h hki).1 hb.2.2]
    simp [hb.2.1]
theorem right_of_rst {d : List Co} (hn : d.length ≤ 4096) (h : ∀ i, i < d.length → rstC d i = true) : rightC d = true := by
  rw [rightC_true]
  refine ⟨hn, fun i hi => ?_⟩
  have h0 := h i hi
  unfold rstC at h0
  rw [Bool.and_eq_true, Bool.and_eq_true, List.all_eq_true] at h0
  obtain ⟨⟨h1, h2⟩, h3⟩ := h0
  unfold stepC
  rw [h1, Bool.true_and]
  have hid : idIn (d.take i) (gCo d i).id = false := by
    unfold idIn
    rw [List.any_eq_false]
    intro x hx
    obtain ⟨j, hj, rfl⟩ := List.mem_take_iff_getElem.1 hx
    have := h3 j (List.mem_range.2 (by omega))
    unfold pairC at this
    rw [Bool.and_eq_true] at this
    rw [gCo_eq (by omega : j < d.length)] at this
    simpa using this.1
  rw [hid]
  by_cases hz : i = 0
  · simp [hz]
  · have hp := h3 (i - 1) (List.mem_range.2 (by omega))
    unfold pairC at hp
    rw [Bool.and_eq_true] at hp
    have hl : decide (cmpC (gCo d (i - 1)) (gCo d i) < 0) = true := by simpa [hz] using h2
    rw [hl]
    simpa [hz] using hp.2
theorem right_false_rst {d : List Co} {i : Nat} (hi : i < d.length) (h : rstC d i = false) : rightC d = false := by
  rw [Bool.eq_false_iff]
  intro e
  rw [rst_of_right e hi] at h
  cases h
theorem rst_pair {d : List Co} {i k : Nat} (hk : k < i) (h : pairC d i k = false) : rstC d i = false := by
  rw [Bool.eq_false_iff]
  intro e
  unfold rstC at e
  rw [Bool.and_eq_true, List.all_eq_true] at e
  rw [e.2 k (List.mem_range.2 hk)] at h
  cases h
set_option maxHeartbeats 8000000 in
set_option maxRecDepth 100000 in
theorem rright6_any (A : Option Addr) (n c : Nat) (d : List Co) (w : World) (hd : d.length = n) (hn : n ≤ 1000000) (h : Sl w w.heap.size 6 A n c (flatCo d)) (b : Bool) (hb : rightC d = b) :
    Calls Tryz.prog 63 #[.slice A n c] w fun e w' => e = .returned (.bool b) ∧ Below w.heap.size w w' := by
  have HD := Lib.hid hd
  have HL := Lib.hid h
  have HB := Lib.hid hb
  clear hd h hb
  go_enter Tryz.func63, Tryz.ntmps63
  go_wp2
  go_loopw [3] (fun iv wr => ∃ i : Nat, iv = .int .i64 i ∧ i ≤ n ∧ Hid (∀ j, j < i → rstC d j = true) ∧ Below w.heap.size w wr) (fun iv _ => n - (intOf iv).toNat)
  case atStart => exact ⟨0, rfl, by omega, (fun j hj => by omega), Below.refl _ _⟩
  case round =>
    obtain ⟨i, rfl, hi, HQ, hB⟩ := hrel
    by_cases hin : i < n
    · obtain ⟨ad, rfl, hab, c0, c1, c2, c3, c4, c5⟩ := (HL.out.below hB).lst.atCo HD.out hin
      obtain ⟨x, hx⟩ : ∃ x, gCo d i = x := ⟨_, rfl⟩
      rw [hx] at c0 c1 c2 c3 c4 c5
      have HX := Lib.hid hx
      have hs := hB.size
      clear hx
      obtain ⟨ok, hok⟩ : ∃ ok, okC x = ok := ⟨_, rfl⟩
      have HOK := Lib.hid hok
      clear hok
      go_wp2_with fail
      refine (rcontact_is ok (show contactB x.id x.fr x.tn x.st x.en x.rt = ok from HOK.out) wr).mono ?_
      rintro e w3 ⟨rfl, hb3⟩
      replace hB := hB.trans (hb3.mono hs)
      clear hb3 hs c0 c1 c2 c3 c4 c5
      have hs := hB.size
      obtain ⟨ae, he, _, c0, c1, c2, c3, c4, c5⟩ := (HL.out.below hB).lst.atCo HD.out hin
      injection he with he
      subst he
      rw [HX.out] at c0 c1 c2 c3 c4 c5
      cases ok
      · have hf : b = false := by rw [← HB.out]; exact right_false_rst (i := i) (by rw [HD.out]; exact hin) (by unfold rstC; rw [HX.out, HOK.out]; rfl)
        have HF := Lib.hid hf
        clear hf
        go_wp2_with fail
        have q_c0 := fun d os => cell_regrown c0 d os
        have q_c1 := fun d os => cell_regrown c1 d os
        have q_c2 := fun d os => cell_regrown c2 d os
        have q_c3 := fun d os => cell_regrown c3 d os
        have q_c4 := fun d os => cell_regrown c4 d os
        have q_c5 := fun d os => cell_regrown c5 d os
        try simp only [List.append]
        first | refine wp_region_text_below ?_ | refine wp_region_quiet_below (by kernel_rfl) (by kernel_rfl) ?_
        repeat (go_big_quiet_step ((fail)))
        refine wpQuiet_nil ?_
        intro _ hqw
        obtain ⟨pq, hqw⟩ := hqw
        subst hqw
        clear q_c0 q_c1 q_c2 q_c3 q_c4 q_c5
        have hbq := hB.trans ((below_regrown w3 pq.d pq.os).mono hB.size)
        clear c0 c1 c2 c3 c4 c5
        generalize grow (redrawn w3 pq.d) pq.os = wq at *
        go_wp2_with fail
        go_ret
        exact ⟨by rw [HF.out]; rfl, hbq⟩
      · have hcase : i = 0 ∨ ∃ p, i = p + 1 := by cases i with | zero => exact .inl rfl | succ p => exact .inr ⟨p, rfl⟩
        rcases hcase with rfl | ⟨p, rfl⟩
        · have hd0 : decide (((0 : Nat) : Int) > 0) = false := by simp
          have HST : Hid (rstC d 0 = true) := by
            show rstC d 0 = true
            unfold rstC; rw [HX.out, HOK.out]; rfl
          try simp only [Int.natCast_zero]
          go_wp2_with fail
          have q_c0 := fun d os => cell_regrown c0 d os
          have q_c1 := fun d os => cell_regrown c1 d os
          have q_c2 := fun d os => cell_regrown c2 d os
          have q_c3 := fun d os => cell_regrown c3 d os
          have q_c4 := fun d os => cell_regrown c4 d os
          have q_c5 := fun d os => cell_regrown c5 d os
          try simp only [List.append]
          first | refine wp_region_text_below ?_ | refine wp_region_quiet_below (by kernel_rfl) (by kernel_rfl) ?_
          repeat (go_big_quiet_step ((fail)))
          refine wpQuiet_nil ?_
          intro _ hqw
          obtain ⟨pq, hqw⟩ := hqw
          subst hqw
          clear q_c0 q_c1 q_c2 q_c3 q_c4 q_c5
          have hbq := hB.trans ((below_regrown w3 pq.d pq.os).mono hB.size)
          clear c0 c1 c2 c3 c4 c5
          generalize grow (redrawn w3 pq.d) pq.os = wq at *
          go_wp2_with fail
          go_loopw [5] (fun kv wx => kv = .int .i64 0 ∧ wq = wx) (fun _ _ => 1)
          case atStart => exact ⟨rfl, rfl⟩
          case round =>
            obtain ⟨rfl, rfl⟩ := hrel
            go_wp2_with fail
            go_roundw
            case rel => exact ⟨1, by go_num, by omega, (fun j hj => by obtain rfl : j = 0 := by omega
                                                                       exact HST.out), hbq⟩
            case measure => simp [intOf]; omega
        · have hpn : p < n := by omega
          obtain ⟨af, hf, _, p0, p1, p2, p3, p4, p5⟩ := (HL.out.below hB).lst.atCo HD.out hpn
          injection hf with hf
          subst hf
          obtain ⟨y, hy⟩ : ∃ y, gCo d p = y := ⟨_, rfl⟩
          rw [hy] at p0 p1 p2 p3 p4 p5
          have HY := Lib.hid hy
          have hwr : IntKind.i64.wrap (((p + 1 : Nat) : Int) - 1) = (p : Int) := by rw [show ((p + 1 : Nat) : Int) - 1 = (p : Int) by omega]; exact IntWalk.i64_in _ (by omega)
          have hwr2 : IntKind.i64.wrap ((p : Int) + 1 - 1) = (p : Int) := by rw [show (p : Int) + 1 - 1 = (p : Int) by omega]; exact IntWalk.i64_in _ (by omega)
          have hgt : decide ((((p + 1 : Nat)) : Int) > 0) = true := decide_eq_true (by omega)
          have hpI : (p : Int) < (n : Int) := by omega
          have hp0 : (0 : Int) ≤ (p : Int) := by omega
          obtain ⟨lt, hlt⟩ : ∃ lt, decide (cmpC y x < 0) = lt := ⟨_, rfl⟩
          have HLT := Lib.hid hlt
          clear hy hlt
          cases lt
          · have hf : b = false := by rw [← HB.out]; exact right_false_rst (i := p + 1) (by rw [HD.out]; exact hin) (by unfold rstC; rw [HX.out, HOK.out, Nat.add_sub_cancel, HY.out, HLT.out]; rfl)
            have HF := Lib.hid hf
            clear hf
            go_wp2_with fail
            have q_c0 := fun d os => cell_regrown c0 d os
            have q_c1 := fun d os => cell_regrown c1 d os
            have q_c2 := fun d os => cell_regrown c2 d os
            have q_c3 := fun d os => cell_regrown c3 d os
            have q_c4 := fun d os => cell_regrown c4 d os
            have q_c5 := fun d os => cell_regrown c5 d os
            have q_p0 := fun d os => cell_regrown p0 d os
            have q_p1 := fun d os => cell_regrown p1 d os
            have q_p2 := fun d os => cell_regrown p2 d os
            have q_p3 := fun d os => cell_regrown p3 d os
            have q_p4 := fun d os => cell_regrown p4 d os
            have q_p5 := fun d os => cell_regrown p5 d os
            try simp only [List.append]
            first | refine wp_region_text_below ?_ | refine wp_region_quiet_below (by kernel_rfl) (by kernel_rfl) ?_
            repeat (go_big_quiet_step (((go_at_call 100; with_reducible exact Calls.regrown_of (rless_any y x _ HLT.out _)))))
            refine wpQuiet_nil ?_
            intro _ hqw
            obtain ⟨pq, hqw⟩ := hqw
            subst hqw
            clear q_c0 q_c1 q_c2 q_c3 q_c4 q_c5 q_p0 q_p1 q_p2 q_p3 q_p4 q_p5
            have hbq := hB.trans ((below_regrown w3 pq.d pq.os).mono hB.size)
            clear c0 c1 c2 c3 c4 c5 p0 p1 p2 p3 p4 p5
            generalize grow (redrawn w3 pq.d) pq.os = wq at *
            go_wp2_with fail
            go_ret
            exact ⟨by rw [HF.out]; rfl, hbq⟩
          · have HP1 : Hid (∀ k : Nat, (∀ j, j < p + 1 → pairC d (p + 1) j = true) → rstC d (p + 1) = true) := fun _ hh => by
              unfold rstC
              rw [HX.out, HOK.out, Nat.add_sub_cancel, HY.out, HLT.out]
              rw [Bool.and_eq_true, List.all_eq_true]
              exact ⟨by simp, fun k hk => hh k (List.mem_range.1 hk)⟩
            go_wp2_with fail
            have q_c0 := fun d os => cell_regrown c0 d os
            have q_c1 := fun d os => cell_regrown c1 d os
            have q_c2 := fun d os => cell_regrown c2 d os
            have q_c3 := fun d os => cell_regrown c3 d os
            have q_c4 := fun d os => cell_regrown c4 d os
            have q_c5 := fun d os => cell_regrown c5 d os
            have q_p0 := fun d os => cell_regrown p0 d os
            have q_p1 := fun d os => cell_regrown p1 d os
            have q_p2 := fun d os => cell_regrown p2 d os
            have q_p3 := fun d os => cell_regrown p3 d os
            have q_p4 := fun d os => cell_regrown p4 d os
            have q_p5 := fun d os => cell_regrown p5 d os
            try simp only [List.append]
            first | refine wp_region_text_below ?_ | refine wp_region_quiet_below (by kernel_rfl) (by kernel_rfl) ?_
            repeat (go_big_quiet_step (((go_at_call 100; with_reducible exact Calls.regrown_of (rless_any y x _ HLT.out _)))))
            refine wpQuiet_nil ?_
            intro _ hqw
            obtain ⟨pq, hqw⟩ := hqw
            subst hqw
            clear q_c0 q_c1 q_c2 q_c3 q_c4 q_c5 q_p0 q_p1 q_p2 q_p3 q_p4 q_p5
            have hbq := hB.trans ((below_regrown w3 pq.d pq.os).mono hB.size)
            clear c0 c1 c2 c3 c4 c5 p0 p1 p2 p3 p4 p5
            generalize grow (redrawn w3 pq.d) pq.os = wq at *
            clear hB hs hwr hwr2 hgt hpI hp0 hpn
            go_wp2_with fail
            go_loopw [5] (fun kv wx => ∃ k : Nat, kv = .int .i64 k ∧ k ≤ p + 1 ∧ Hid (∀ j, j < k → pairC d (p + 1) j = true) ∧ Below w.heap.size w wx) (fun kv _ => p + 1 - (intOf kv).toNat)
            case atStart => exact ⟨0, rfl, by omega, (fun j hj => by omega), hbq⟩
            case round =>
              obtain ⟨k, rfl, hk, HK, hB⟩ := hrel
              by_cases hkp : k < p + 1
              · obtain ⟨ae, he, _, c0, c1, c2, c3, c4, c5⟩ := (HL.out.below hB).lst.atCo HD.out hin
                injection he with he
                subst he
                rw [HX.out] at c0 c1 c2 c3 c4 c5
                have hkn : k < n := by omega
                obtain ⟨af, hf, _, p0, p1, p2, p3, p4, p5⟩ := (HL.out.below hB).lst.atCo HD.out hkn
                injection hf with hf
                subst hf
                obtain ⟨z, hz⟩ : ∃ z, gCo d k = z := ⟨_, rfl⟩
                rw [hz] at p0 p1 p2 p3 p4 p5
                have HZ := Lib.hid hz
                clear hz
                by_cases hid : z.id = x.id
                · have g1 : (z.id == x.id) = true := beq_iff_eq.2 hid
                  have hf : b = false := by rw [← HB.out]; exact right_false_rst (i := p + 1) (by rw [HD.out]; exact hin) (rst_pair hkp (by unfold pairC; rw [HX.out, HZ.out, g1]; rfl))
                  have HF := Lib.hid hf
                  clear hf hid
                  go_wp2_with fail
                  have q_c0 := fun d os => cell_regrown c0 d os
                  have q_c1 := fun d os => cell_regrown c1 d os
                  have q_c2 := fun d os => cell_regrown c2 d os
                  have q_c3 := fun d os => cell_regrown c3 d os
                  have q_c4 := fun d os => cell_regrown c4 d os
                  have q_c5 := fun d os => cell_regrown c5 d os
                  have q_p0 := fun d os => cell_regrown p0 d os
                  have q_p1 := fun d os => cell_regrown p1 d os
                  have q_p2 := fun d os => cell_regrown p2 d os
                  have q_p3 := fun d os => cell_regrown p3 d os
                  have q_p4 := fun d os => cell_regrown p4 d os
                  have q_p5 := fun d os => cell_regrown p5 d os
                  try simp only [List.append]
                  first | refine wp_region_text_below ?_ | refine wp_region_quiet_below (by kernel_rfl) (by kernel_rfl) ?_
                  repeat (go_big_quiet_step ((fail)))
                  refine wpQuiet_nil ?_
                  intro _ hqw
                  obtain ⟨pq, hqw⟩ := hqw
                  subst hqw
                  clear q_c0 q_c1 q_c2 q_c3 q_c4 q_c5 q_p0 q_p1 q_p2 q_p3 q_p4 q_p5
                  have hbq2 := hB.trans ((below_regrown wr pq.d pq.os).mono hB.size)
                  clear c0 c1 c2 c3 c4 c5 p0 p1 p2 p3 p4 p5
                  generalize grow (redrawn wr pq.d) pq.os = wy at *
                  go_wp2_with fail
                  go_ret
                  exact ⟨by rw [HF.out]; rfl, hbq2⟩
                · have g1 : (z.id == x.id) = false := beq_eq_false_iff_ne.2 hid
                  obtain ⟨ov, hov⟩ : ∃ ov, overC z x = ov := ⟨_, rfl⟩
                  have HOV := Lib.hid hov
                  clear hov hid
                  cases ov
                  · have HK2 : Hid (∀ j, j < k + 1 → pairC d (p + 1) j = true) := fun j hj => by
                      by_cases e : j = k
                      · subst e
                        unfold pairC
                        rw [HX.out, HZ.out, g1, HOV.out]; rfl
                      · exact HK.out j (by omega)
                    go_wp2_with fail
                    have q_c0 := fun d os => cell_regrown c0 d os
                    have q_c1 := fun d os => cell_regrown c1 d os
                    have q_c2 := fun d os => cell_regrown c2 d os
                    have q_c3 := fun d os => cell_regrown c3 d os
                    have q_c4 := fun d os => cell_regrown c4 d os
                    have q_c5 := fun d os => cell_regrown c5 d os
                    have q_p0 := fun d os => cell_regrown p0 d os
                    have q_p1 := fun d os => cell_regrown p1 d os
                    have q_p2 := fun d os => cell_regrown p2 d os
                    have q_p3 := fun d os => cell_regrown p3 d os
                    have q_p4 := fun d os => cell_regrown p4 d os
                    have q_p5 := fun d os => cell_regrown p5 d os
                    try simp only [List.append]
                    first | refine wp_region_text_below ?_ | refine wp_region_quiet_below (by kernel_rfl) (by kernel_rfl) ?_
                    repeat (go_big_quiet_step (((go_at_call 101; with_reducible exact Calls.regrown_of (roverlap_any z x _ HOV.out _)))))
                    refine wpQuiet_nil ?_
                    intro _ hqw
                    obtain ⟨pq, hqw⟩ := hqw
                    subst hqw
                    clear q_c0 q_c1 q_c2 q_c3 q_c4 q_c5 q_p0 q_p1 q_p2 q_p3 q_p4 q_p5
                    have hbq2 := hB.trans ((below_regrown wr pq.d pq.os).mono hB.size)
                    clear c0 c1 c2 c3 c4 c5 p0 p1 p2 p3 p4 p5
                    generalize grow (redrawn wr pq.d) pq.os = wy at *
                    go_wp2_with fail
                    go_roundw
                    case rel => exact ⟨k + 1, by go_num, by omega, HK2, hbq2⟩
                    case measure => simp [intOf]; omega
                  · have hf : b = false := by rw [← HB.out]; exact right_false_rst (i := p + 1) (by rw [HD.out]; exact hin) (rst_pair hkp (by unfold pairC; rw [HX.out, HZ.out, g1, HOV.out]; rfl))
                    have HF := Lib.hid hf
                    clear hf
                    go_wp2_with fail
                    have q_c0 := fun d os => cell_regrown c0 d os
                    have q_c1 := fun d os => cell_regrown c1 d os
                    have q_c2 := fun d os => cell_regrown c2 d os
                    have q_c3 := fun d os => cell_regrown c3 d os
                    have q_c4 := fun d os => cell_regrown c4 d os
                    have q_c5 := fun d os => cell_regrown c5 d os
                    have q_p0 := fun d os => cell_regrown p0 d os
                    have q_p1 := fun d os => cell_regrown p1 d os
                    have q_p2 := fun d os => cell_regrown p2 d os
                    have q_p3 := fun d os => cell_regrown p3 d os
                    have q_p4 := fun d os => cell_regrown p4 d os
                    have q_p5 := fun d os => cell_regrown p5 d os
                    try simp only [List.append]
                    first | refine wp_region_text_below ?_ | refine wp_region_quiet_below (by kernel_rfl) (by kernel_rfl) ?_
                    repeat (go_big_quiet_step (((go_at_call 101; with_reducible exact Calls.regrown_of (roverlap_any z x _ HOV.out _)))))
                    refine wpQuiet_nil ?_
                    intro _ hqw
                    obtain ⟨pq, hqw⟩ := hqw
                    subst hqw
                    clear q_c0 q_c1 q_c2 q_c3 q_c4 q_c5 q_p0 q_p1 q_p2 q_p3 q_p4 q_p5
                    have hbq2 := hB.trans ((below_regrown wr pq.d pq.os).mono hB.size)
                    clear c0 c1 c2 c3 c4 c5 p0 p1 p2 p3 p4 p5
                    generalize grow (redrawn wr pq.d) pq.os = wy at *
                    go_wp2_with fail
                    go_ret
                    exact ⟨by rw [HF.out]; rfl, hbq2⟩
              · obtain rfl : k = p + 1 := by omega
                have HRS : Hid (∀ j, j < p + 1 + 1 → rstC d j = true) := fun j hj => by
                  by_cases e : j = p + 1
                  · subst e; exact HP1.out 0 HK.out
                  · exact HQ.out j (by omega)
                go_wp2_with fail
                go_roundw
                case rel => exact ⟨p + 1 + 1, by go_num, by omega, HRS, hB⟩
                case measure => simp [intOf]; omega
    · obtain rfl : i = n := by omega
      by_cases h4 : i ≤ 4096
      · have hb1 : b = true := by rw [← HB.out]; exact right_of_rst (by rw [HD.out]; exact h4) (fun j hj => HQ.out j (by rw [HD.out] at hj; exact hj))
        have HB1 := Lib.hid hb1
        clear hb1
        have h4i : decide ((i : Int) ≤ 4096) = true := decide_eq_true (by omega)
        go_wp2_with fail
        go_ret
        exact ⟨by rw [HB1.out]; rfl, hB⟩
      · have hb1 : b = false := by
          rw [← HB.out, Bool.eq_false_iff]
          intro e
          have := (rightC_true.1 e).1
          rw [HD.out] at this
          omega
        have HB1 := Lib.hid hb1
        clear hb1
        have h4i : decide ((i : Int) ≤ 4096) = false := decide_eq_false (by omega)
        go_wp2_with fail
        go_ret
        exact ⟨by rw [HB1.out]; rfl, hB⟩
end Go.Proofs.YtodcoockhkghdaaGreat.Kc
