/- Several texts of mine in one: Ref06c, Ref06d. No condition. -/
import Derived.Test.YtolaabllhibkdaaGreatRef06b
import Derived.Test.YtolaabllhibkdaaGreatGN

/- The document's own contacts: Right. -/
namespace Go.Proofs.YtolaabllhibkdaaGreat.Kc
open Go.ChangeShapes Go.WideShapes Go.ChangeAt Go.RowKit Go.Sort
set_option linter.unusedSimpArgs false
set_option linter.unusedVariables false
/-- What the document's Right asks of two places. -/
def pairC (d : List Co) (i k : Nat) : Bool := !((gCo d k).id == (gCo d i).id) && !overC (gCo d k) (gCo d i)
def rstC (d : List Co) (i : Nat) : Bool := okC (gCo d i) && (i == 0 || decide (cmpC (gCo d (i - 1)) (gCo d i) < 0)) && (List.range i).all (pairC d i)
theorem overC_false_of {a b : Co} (ha : okC a = true) (h : a.fr = b.fr → a.tn = b.tn → a.en ≤ b.st) : overC a b = false := by
  unfold overC
  rw [decide_eq_false_iff_not]
  rintro ⟨e1, e2, e3, e4⟩
  have := h e1 e2
  omega
theorem rst_of_right {d : List Co} (h : rightC d = true) {i : Nat} (hi : i < d.length) : rstC d i = true := by
  obtain ⟨h1, h2, h3⟩ := right_step h hi
  unfold rstC
  rw [h1, Bool.true_and, Bool.and_eq_true, List.all_eq_true]
  refine ⟨?_, fun k hk => ?_⟩
  · by_cases h0 : i = 0
    · simp [h0]
    · have := cmpC_lt.2 (h3 h0).1
      simp [this]
  · have hb := right_bef h i k (List.mem_range.1 hk) hi
    have hki : k < d.length := Nat.lt_trans (List.mem_range.1 hk) hi
    unfold pairC
    rw [overC_false_of (right_step h hki).1 hb.2.2]
    simp [hb.2.1]
theorem right_of_rst {d : List Co} (hn : d.length ≤ 4096) (h : ∀ i, i < d.length → rstC d i = true) : rightC d = true := by
  rw [rightC_true]
  refine ⟨hn, fun i hi => ?_⟩
  have h0 := h i hi
  unfold rstC at h0
  rw [Bool.and_eq_true, Bool.and_eq_true, List.all_eq_true] at h0
  obtain ⟨⟨h1, h2⟩, h3⟩ := h0
  unfold stepC
  rw [h1, Bool.true_and]
  have hid : idIn (d.take i) (gCo d i).id = false := by
    unfold idIn
    rw [List.any_eq_false]
    intro x hx
    obtain ⟨j, hj, rfl⟩ := List.mem_take_iff_getElem.1 hx
    have := h3 j (List.mem_range.2 (by omega))
    unfold pairC at this
    rw [Bool.and_eq_true] at this
    rw [gCo_eq (by omega : j < d.length)] at this
    simpa using this.1
  rw [hid]
  by_cases hz : i = 0
  · simp [hz]
  · have hp := h3 (i - 1) (List.mem_range.2 (by omega))
    unfold pairC at hp
    rw [Bool.and_eq_true] at hp
    have hl : decide (cmpC (gCo d (i - 1)) (gCo d i) < 0) = true := by simpa [hz] using h2
    rw [hl]
    simpa [hz] using hp.2
theorem right_false_rst {d : List Co} {i : Nat} (hi : i < d.length) (h : rstC d i = false) : rightC d = false := by
  rw [Bool.eq_false_iff]
  intro e
  rw [rst_of_right e hi] at h
  cases h
theorem rst_pair {d : List Co} {i k : Nat} (hk : k < i) (h : pairC d i k = false) : rstC d i = false := by
  rw [Bool.eq_false_iff]
  intro e
  unfold rstC at e
  rw [Bool.and_eq_true, List.all_eq_true] at e
  rw [e.2 k (List.mem_range.2 hk)] at h
  cases h
set_option maxHeartbeats 8000000 in
set_option maxRecDepth 100000 in
theorem rright6_any (A : Option Addr) (n c : Nat) (d : List Co) (w : World) (hd : d.length = n) (hn : n ≤ 1000000) (h : Sl w w.heap.size 6 A n c (flatCo d)) (b : Bool) (hb : rightC d = b) :
    Calls Tryz.prog 41 #[.slice A n c] w fun e w' => e = .returned (.bool b) ∧ Below w.heap.size w w' := by
  have HD := Lib.hid hd
  have HL := Lib.hid h
  have HB := Lib.hid hb
  clear hd h hb
  go_enter Tryz.func41, Tryz.ntmps41
  go_wp2
  go_loopw [3] (fun iv wr => ∃ i : Nat, iv = .int .i64 i ∧ i ≤ n ∧ Hid (∀ j, j < i → rstC d j = true) ∧ Below w.heap.size w wr) (fun iv _ => n - (intOf iv).toNat)
  case atStart => exact ⟨0, rfl, by omega, (fun j hj => by omega), Below.refl _ _⟩
  case round =>
    obtain ⟨i, rfl, hi, HQ, hB⟩ := hrel
    by_cases hin : i < n
    · obtain ⟨ad, rfl, hab, c0, c1, c2, c3, c4, c5⟩ := (HL.out.below hB).lst.atCo HD.out hin
      obtain ⟨x, hx⟩ : ∃ x, gCo d i = x := ⟨_, rfl⟩
      rw [hx] at c0 c1 c2 c3 c4 c5
      have HX := Lib.hid hx
      have hs := hB.size
      clear hx
      obtain ⟨ok, hok⟩ : ∃ ok, okC x = ok := ⟨_, rfl⟩
      have HOK := Lib.hid hok
      clear hok
      go_wp2_with fail
      refine (rcontact_is ok (show contactB x.id x.fr x.tn x.st x.en x.rt = ok from HOK.out) wr).mono ?_
      rintro e w3 ⟨rfl, hb3⟩
      replace hB := hB.trans (hb3.mono hs)
      clear hb3 hs c0 c1 c2 c3 c4 c5
      have hs := hB.size
      obtain ⟨ae, he, _, c0, c1, c2, c3, c4, c5⟩ := (HL.out.below hB).lst.atCo HD.out hin
      injection he with he
      subst he
      rw [HX.out] at c0 c1 c2 c3 c4 c5
      cases ok
      · have hf : b = false := by rw [← HB.out]; exact right_false_rst (i := i) (by rw [HD.out]; exact hin) (by unfold rstC; rw [HX.out, HOK.out]; rfl)
        have HF := Lib.hid hf
        clear hf
        go_wp2_with fail
        have q_c0 := fun d os => cell_regrown c0 d os
        have q_c1 := fun d os => cell_regrown c1 d os
        have q_c2 := fun d os => cell_regrown c2 d os
        have q_c3 := fun d os => cell_regrown c3 d os
        have q_c4 := fun d os => cell_regrown c4 d os
        have q_c5 := fun d os => cell_regrown c5 d os
        try simp only [List.append]
        first | refine wp_region_text_below ?_ | refine wp_region_quiet_below (by kernel_rfl) (by kernel_rfl) ?_
        repeat (go_big_quiet_step ((fail)))
        refine wpQuiet_nil ?_
        intro _ hqw
        obtain ⟨pq, hqw⟩ := hqw
        subst hqw
        clear q_c0 q_c1 q_c2 q_c3 q_c4 q_c5
        have hbq := hB.trans ((below_regrown w3 pq.d pq.os).mono hB.size)
        clear c0 c1 c2 c3 c4 c5
        generalize grow (redrawn w3 pq.d) pq.os = wq at *
        go_wp2_with fail
        go_ret
        exact ⟨by rw [HF.out]; rfl, hbq⟩
      · have hcase : i = 0 ∨ ∃ p, i = p + 1 := by cases i with | zero => exact .inl rfl | succ p => exact .inr ⟨p, rfl⟩
        rcases hcase with rfl | ⟨p, rfl⟩
        · have hd0 : decide (((0 : Nat) : Int) > 0) = false := by simp
          have HST : Hid (rstC d 0 = true) := by
            show rstC d 0 = true
            unfold rstC; rw [HX.out, HOK.out]; rfl
          try simp only [Int.natCast_zero]
          go_wp2_with fail
          have q_c0 := fun d os => cell_regrown c0 d os
          have q_c1 := fun d os => cell_regrown c1 d os
          have q_c2 := fun d os => cell_regrown c2 d os
          have q_c3 := fun d os => cell_regrown c3 d os
          have q_c4 := fun d os => cell_regrown c4 d os
          have q_c5 := fun d os => cell_regrown c5 d os
          try simp only [List.append]
          first | refine wp_region_text_below ?_ | refine wp_region_quiet_below (by kernel_rfl) (by kernel_rfl) ?_
          repeat (go_big_quiet_step ((fail)))
          refine wpQuiet_nil ?_
          intro _ hqw
          obtain ⟨pq, hqw⟩ := hqw
          subst hqw
          clear q_c0 q_c1 q_c2 q_c3 q_c4 q_c5
          have hbq := hB.trans ((below_regrown w3 pq.d pq.os).mono hB.size)
          clear c0 c1 c2 c3 c4 c5
          generalize grow (redrawn w3 pq.d) pq.os = wq at *
          go_wp2_with fail
          go_loopw [5] (fun kv wx => kv = .int .i64 0 ∧ wq = wx) (fun _ _ => 1)
          case atStart => exact ⟨rfl, rfl⟩
          case round =>
            obtain ⟨rfl, rfl⟩ := hrel
            go_wp2_with fail
            go_roundw
            case rel => exact ⟨1, by go_num, by omega, (fun j hj => by obtain rfl : j = 0 := by omega
                                                                       exact HST.out), hbq⟩
            case measure => simp [intOf]; omega
        · have hpn : p < n := by omega
          obtain ⟨af, hf, _, p0, p1, p2, p3, p4, p5⟩ := (HL.out.below hB).lst.atCo HD.out hpn
          injection hf with hf
          subst hf
          obtain ⟨y, hy⟩ : ∃ y, gCo d p = y := ⟨_, rfl⟩
          rw [hy] at p0 p1 p2 p3 p4 p5
          have HY := Lib.hid hy
          have hwr : IntKind.i64.wrap (((p + 1 : Nat) : Int) - 1) = (p : Int) := by rw [show ((p + 1 : Nat) : Int) - 1 = (p : Int) by omega]; exact IntWalk.i64_in _ (by omega)
          have hwr2 : IntKind.i64.wrap ((p : Int) + 1 - 1) = (p : Int) := by rw [show (p : Int) + 1 - 1 = (p : Int) by omega]; exact IntWalk.i64_in _ (by omega)
          have hgt : decide ((((p + 1 : Nat)) : Int) > 0) = true := decide_eq_true (by omega)
          have hpI : (p : Int) < (n : Int) := by omega
          have hp0 : (0 : Int) ≤ (p : Int) := by omega
          obtain ⟨lt, hlt⟩ : ∃ lt, decide (cmpC y x < 0) = lt := ⟨_, rfl⟩
          have HLT := Lib.hid hlt
          clear hy hlt
          cases lt
          · have hf : b = false := by rw [← HB.out]; exact right_false_rst (i := p + 1) (by rw [HD.out]; exact hin) (by unfold rstC; rw [HX.out, HOK.out, Nat.add_sub_cancel, HY.out, HLT.out]; rfl)
            have HF := Lib.hid hf
            clear hf
            go_wp2_with fail
            have q_c0 := fun d os => cell_regrown c0 d os
            have q_c1 := fun d os => cell_regrown c1 d os
            have q_c2 := fun d os => cell_regrown c2 d os
            have q_c3 := fun d os => cell_regrown c3 d os
            have q_c4 := fun d os => cell_regrown c4 d os
            have q_c5 := fun d os => cell_regrown c5 d os
            have q_p0 := fun d os => cell_regrown p0 d os
            have q_p1 := fun d os => cell_regrown p1 d os
            have q_p2 := fun d os => cell_regrown p2 d os
            have q_p3 := fun d os => cell_regrown p3 d os
            have q_p4 := fun d os => cell_regrown p4 d os
            have q_p5 := fun d os => cell_regrown p5 d os
            try simp only [List.append]
            first | refine wp_region_text_below ?_ | refine wp_region_quiet_below (by kernel_rfl) (by kernel_rfl) ?_
            repeat (go_big_quiet_step (((go_at_call 72; with_reducible exact Calls.regrown_of (rless_any y x _ HLT.out _)))))
            refine wpQuiet_nil ?_
            intro _ hqw
            obtain ⟨pq, hqw⟩ := hqw
            subst hqw
            clear q_c0 q_c1 q_c2 q_c3 q_c4 q_c5 q_p0 q_p1 q_p2 q_p3 q_p4 q_p5
            have hbq := hB.trans ((below_regrown w3 pq.d pq.os).mono hB.size)
            clear c0 c1 c2 c3 c4 c5 p0 p1 p2 p3 p4 p5
            generalize grow (redrawn w3 pq.d) pq.os = wq at *
            go_wp2_with fail
            go_ret
            exact ⟨by rw [HF.out]; rfl, hbq⟩
          · have HP1 : Hid (∀ k : Nat, (∀ j, j < p + 1 → pairC d (p + 1) j = true) → rstC d (p + 1) = true) := fun _ hh => by
              unfold rstC
              rw [HX.out, HOK.out, Nat.add_sub_cancel, HY.out, HLT.out]
              rw [Bool.and_eq_true, List.all_eq_true]
              exact ⟨by simp, fun k hk => hh k (List.mem_range.1 hk)⟩
            go_wp2_with fail
            have q_c0 := fun d os => cell_regrown c0 d os
            have q_c1 := fun d os => cell_regrown c1 d os
            have q_c2 := fun d os => cell_regrown c2 d os
            have q_c3 := fun d os => cell_regrown c3 d os
            have q_c4 := fun d os => cell_regrown c4 d os
            have q_c5 := fun d os => cell_regrown c5 d os
            have q_p0 := fun d os => cell_regrown p0 d os
            have q_p1 := fun d os => cell_regrown p1 d os
            have q_p2 := fun d os => cell_regrown p2 d os
            have q_p3 := fun d os => cell_regrown p3 d os
            have q_p4 := fun d os => cell_regrown p4 d os
            have q_p5 := fun d os => cell_regrown p5 d os
            try simp only [List.append]
            first | refine wp_region_text_below ?_ | refine wp_region_quiet_below (by kernel_rfl) (by kernel_rfl) ?_
            repeat (go_big_quiet_step (((go_at_call 72; with_reducible exact Calls.regrown_of (rless_any y x _ HLT.out _)))))
            refine wpQuiet_nil ?_
            intro _ hqw
            obtain ⟨pq, hqw⟩ := hqw
            subst hqw
            clear q_c0 q_c1 q_c2 q_c3 q_c4 q_c5 q_p0 q_p1 q_p2 q_p3 q_p4 q_p5
            have hbq := hB.trans ((below_regrown w3 pq.d pq.os).mono hB.size)
            clear c0 c1 c2 c3 c4 c5 p0 p1 p2 p3 p4 p5
            generalize grow (redrawn w3 pq.d) pq.os = wq at *
            clear hB hs hwr hwr2 hgt hpI hp0 hpn
            go_wp2_with fail
            go_loopw [5] (fun kv wx => ∃ k : Nat, kv = .int .i64 k ∧ k ≤ p + 1 ∧ Hid (∀ j, j < k → pairC d (p + 1) j = true) ∧ Below w.heap.size w wx) (fun kv _ => p + 1 - (intOf kv).toNat)
            case atStart => exact ⟨0, rfl, by omega, (fun j hj => by omega), hbq⟩
            case round =>
              obtain ⟨k, rfl, hk, HK, hB⟩ := hrel
              by_cases hkp : k < p + 1
              · obtain ⟨ae, he, _, c0, c1, c2, c3, c4, c5⟩ := (HL.out.below hB).lst.atCo HD.out hin
                injection he with he
                subst he
                rw [HX.out] at c0 c1 c2 c3 c4 c5
                have hkn : k < n := by omega
                obtain ⟨af, hf, _, p0, p1, p2, p3, p4, p5⟩ := (HL.out.below hB).lst.atCo HD.out hkn
                injection hf with hf
                subst hf
                obtain ⟨z, hz⟩ : ∃ z, gCo d k = z := ⟨_, rfl⟩
                rw [hz] at p0 p1 p2 p3 p4 p5
                have HZ := Lib.hid hz
                clear hz
                by_cases hid : z.id = x.id
                · have g1 : (z.id == x.id) = true := beq_iff_eq.2 hid
                  have hf : b = false := by rw [← HB.out]; exact right_false_rst (i := p + 1) (by rw [HD.out]; exact hin) (rst_pair hkp (by unfold pairC; rw [HX.out, HZ.out, g1]; rfl))
                  have HF := Lib.hid hf
                  clear hf hid
                  go_wp2_with fail
                  have q_c0 := fun d os => cell_regrown c0 d os
                  have q_c1 := fun d os => cell_regrown c1 d os
                  have q_c2 := fun d os => cell_regrown c2 d os
                  have q_c3 := fun d os => cell_regrown c3 d os
                  have q_c4 := fun d os => cell_regrown c4 d os
                  have q_c5 := fun d os => cell_regrown c5 d os
                  have q_p0 := fun d os => cell_regrown p0 d os
                  have q_p1 := fun d os => cell_regrown p1 d os
                  have q_p2 := fun d os => cell_regrown p2 d os
                  have q_p3 := fun d os => cell_regrown p3 d os
                  have q_p4 := fun d os => cell_regrown p4 d os
                  have q_p5 := fun d os => cell_regrown p5 d os
                  try simp only [List.append]
                  first | refine wp_region_text_below ?_ | refine wp_region_quiet_below (by kernel_rfl) (by kernel_rfl) ?_
                  repeat (go_big_quiet_step ((fail)))
                  refine wpQuiet_nil ?_
                  intro _ hqw
                  obtain ⟨pq, hqw⟩ := hqw
                  subst hqw
                  clear q_c0 q_c1 q_c2 q_c3 q_c4 q_c5 q_p0 q_p1 q_p2 q_p3 q_p4 q_p5
                  have hbq2 := hB.trans ((below_regrown wr pq.d pq.os).mono hB.size)
                  clear c0 c1 c2 c3 c4 c5 p0 p1 p2 p3 p4 p5
                  generalize grow (redrawn wr pq.d) pq.os = wy at *
                  go_wp2_with fail
                  go_ret
                  exact ⟨by rw [HF.out]; rfl, hbq2⟩
                · have g1 : (z.id == x.id) = false := beq_eq_false_iff_ne.2 hid
                  obtain ⟨ov, hov⟩ : ∃ ov, overC z x = ov := ⟨_, rfl⟩
                  have HOV := Lib.hid hov
                  clear hov hid
                  cases ov
                  · have HK2 : Hid (∀ j, j < k + 1 → pairC d (p + 1) j = true) := fun j hj => by
                      by_cases e : j = k
                      · subst e
                        unfold pairC
                        rw [HX.out, HZ.out, g1, HOV.out]; rfl
                      · exact HK.out j (by omega)
                    go_wp2_with fail
                    have q_c0 := fun d os => cell_regrown c0 d os
                    have q_c1 := fun d os => cell_regrown c1 d os
                    have q_c2 := fun d os => cell_regrown c2 d os
                    have q_c3 := fun d os => cell_regrown c3 d os
                    have q_c4 := fun d os => cell_regrown c4 d os
                    have q_c5 := fun d os => cell_regrown c5 d os
                    have q_p0 := fun d os => cell_regrown p0 d os
                    have q_p1 := fun d os => cell_regrown p1 d os
                    have q_p2 := fun d os => cell_regrown p2 d os
                    have q_p3 := fun d os => cell_regrown p3 d os
                    have q_p4 := fun d os => cell_regrown p4 d os
                    have q_p5 := fun d os => cell_regrown p5 d os
                    try simp only [List.append]
                    first | refine wp_region_text_below ?_ | refine wp_region_quiet_below (by kernel_rfl) (by kernel_rfl) ?_
                    repeat (go_big_quiet_step (((go_at_call 73; with_reducible exact Calls.regrown_of (roverlap_any z x _ HOV.out _)))))
                    refine wpQuiet_nil ?_
                    intro _ hqw
                    obtain ⟨pq, hqw⟩ := hqw
                    subst hqw
                    clear q_c0 q_c1 q_c2 q_c3 q_c4 q_c5 q_p0 q_p1 q_p2 q_p3 q_p4 q_p5
                    have hbq2 := hB.trans ((below_regrown wr pq.d pq.os).mono hB.size)
                    clear c0 c1 c2 c3 c4 c5 p0 p1 p2 p3 p4 p5
                    generalize grow (redrawn wr pq.d) pq.os = wy at *
                    go_wp2_with fail
                    go_roundw
                    case rel => exact ⟨k + 1, by go_num, by omega, HK2, hbq2⟩
                    case measure => simp [intOf]; omega
                  · have hf : b = false := by rw [← HB.out]; exact right_false_rst (i := p + 1) (by rw [HD.out]; exact hin) (rst_pair hkp (by unfold pairC; rw [HX.out, HZ.out, g1, HOV.out]; rfl))
                    have HF := Lib.hid hf
                    clear hf
                    go_wp2_with fail
                    have q_c0 := fun d os => cell_regrown c0 d os
                    have q_c1 := fun d os => cell_regrown c1 d os
                    have q_c2 := fun d os => cell_regrown c2 d os
                    have q_c3 := fun d os => cell_regrown c3 d os
                    have q_c4 := fun d os => cell_regrown c4 d os
                    have q_c5 := fun d os => cell_regrown c5 d os
                    have q_p0 := fun d os => cell_regrown p0 d os
                    have q_p1 := fun d os => cell_regrown p1 d os
                    have q_p2 := fun d os => cell_regrown p2 d os
                    have q_p3 := fun d os => cell_regrown p3 d os
                    have q_p4 := fun d os => cell_regrown p4 d os
                    have q_p5 := fun d os => cell_regrown p5 d os
                    try simp only [List.append]
                    first | refine wp_region_text_below ?_ | refine wp_region_quiet_below (by kernel_rfl) (by kernel_rfl) ?_
                    repeat (go_big_quiet_step (((go_at_call 73; with_reducible exact Calls.regrown_of (roverlap_any z x _ HOV.out _)))))
                    refine wpQuiet_nil ?_
                    intro _ hqw
                    obtain ⟨pq, hqw⟩ := hqw
                    subst hqw
                    clear q_c0 q_c1 q_c2 q_c3 q_c4 q_c5 q_p0 q_p1 q_p2 q_p3 q_p4 q_p5
                    have hbq2 := hB.trans ((below_regrown wr pq.d pq.os).mono hB.size)
                    clear c0 c1 c2 c3 c4 c5 p0 p1 p2 p3 p4 p5
                    generalize grow (redrawn wr pq.d) pq.os = wy at *
                    go_wp2_with fail
                    go_ret
                    exact ⟨by rw [HF.out]; rfl, hbq2⟩
              · obtain rfl : k = p + 1 := by omega
                have HRS : Hid (∀ j, j < p + 1 + 1 → rstC d j = true) := fun j hj => by
                  by_cases e : j = p + 1
                  · subst e; exact HP1.out 0 HK.out
                  · exact HQ.out j (by omega)
                go_wp2_with fail
                go_roundw
                case rel => exact ⟨p + 1 + 1, by go_num, by omega, HRS, hB⟩
                case measure => simp [intOf]; omega
    · obtain rfl : i = n := by omega
      by_cases h4 : i ≤ 4096
      · have hb1 : b = true := by rw [← HB.out]; exact right_of_rst (by rw [HD.out]; exact h4) (fun j hj => HQ.out j (by rw [HD.out] at hj; exact hj))
        have HB1 := Lib.hid hb1
        clear hb1
        have h4i : decide ((i : Int) ≤ 4096) = true := decide_eq_true (by omega)
        go_wp2_with fail
        go_ret
        exact ⟨by rw [HB1.out]; rfl, hB⟩
      · have hb1 : b = false := by
          rw [← HB.out, Bool.eq_false_iff]
          intro e
          have := (rightC_true.1 e).1
          rw [HD.out] at this
          omega
        have HB1 := Lib.hid hb1
        clear hb1
        have h4i : decide ((i : Int) ≤ 4096) = false := decide_eq_false (by omega)
        go_wp2_with fail
        go_ret
        exact ⟨by rw [HB1.out]; rfl, hB⟩
end Go.Proofs.YtolaabllhibkdaaGreat.Kc

/- The document's own contacts: Delete, Change, Expire. -/
namespace Go.Proofs.YtolaabllhibkdaaGreat.Kc
open Go.ChangeShapes Go.WideShapes Go.ChangeAt Go.RowKit Go.Sort
set_option linter.unusedSimpArgs false
set_option linter.unusedVariables false
def keepC (d:List Co) (id:Int):List Co:=d.filter (fun x => !(x.id == id))
theorem keepC_next {d:List Co} {i:Nat} (id:Int) (h:i < d.length):keepC (d.take (i + 1)) id = keepC (d.take i) id ++ (if (gCo d i).id = id then [] else [gCo d i]):=by
 unfold keepC
 rw [take_nextCo h,List.filter_append]
 congr 1
 by_cases e:(gCo d i).id = id <;> simp [List.filter_cons,e]
theorem flatCo_one_ (y:Co):flatCo [y] = [.int .i64 y.id,.int .i64 y.fr,.int .i64 y.tn,.int .i64 y.st,.int .i64 y.en,.int .i64 y.rt]:=rfl
set_option maxHeartbeats 4000000 in
set_option maxRecDepth 100000 in
theorem rdel6_any (A:Option Addr) (n c:Nat) (d:List Co) (id:Int) (w:World) (hd:d.length = n) (hn:n ≤ 1000000) (h:Sl w w.heap.size 6 A n c (flatCo d)) :
  Calls Tryz.prog 51 #[.slice A n c,.int .i64 id] w fun e w' => ∃ v,e = .returned (.tuple #[v,.int .i64 (delCode (keepC d id).length n)]) ∧ w'.ownsRow w.heap.size 33 6 v (keepC d id).length (flatCo (keepC d id)) ∧ Below w.heap.size w w':=by
 obtain ⟨i0,hi0,hz0,hz1,hz2⟩:=info_parts infoCo
 have HD:=Lib.hid hd
 have HL:=Lib.hid h
 clear hd h
 go_enter Tryz.func51,Tryz.ntmps51
 go_wp2
 go_loopw [6,7] (fun ov iv wr => ∃ (o:List Co) (k i:Nat),iv = .int .i64 i ∧ i ≤ n ∧ k ≤ i ∧ Hid (o.length = k) ∧ wr.ownsRow w.heap.size 33 6 ov k (flatCo o) ∧ Below w.heap.size w wr ∧ Hid (keepC (d.take i) id = o)) (fun _ iv _ => n - (intOf iv).toNat)
 case atStart => exact ⟨[],0,0,rfl,by omega,by omega,rfl,World.ownsRow_nil _ _ _ _,Below.refl _ _,rfl⟩
 case round =>
  obtain ⟨o,k,i,rfl,hi,hk,HO,hown,hB,HF⟩:=hrel
  have hs:=hB.size
  by_cases hin:i < n
  ·obtain ⟨ad,rfl,hab,c0,c1,c2,c3,c4,c5⟩:=(HL.out.below hB).lst.atCo HD.out hin
   have hnx:=keepC_next id (d:=d) (i:=i) (by rw [HD.out]; exact hin)
   obtain ⟨r,hr⟩:∃ r,gCo d i = r:=⟨_,rfl⟩
   rw [HF.out,hr] at hnx
   rw [hr] at c0 c1 c2 c3 c4 c5
   clear hr HF
   by_cases he:r.id = id
   ·have g1:(r.id != id) = false:=by simp [he]
    rw [if_pos he,List.append_nil] at hnx
    have HNX:=Lib.hid hnx
    clear hnx he
    go_wp2_with fail
    go_roundw
    case rel => exact ⟨o,k,i + 1,by go_num,by omega,by omega,HO,hown,hB,HNX⟩
    case measure => simp [intOf]; omega
   ·have g1:(r.id != id) = true:=by simp [he]
    rw [if_neg he] at hnx
    have HNX:=Lib.hid hnx
    clear hnx he
    go_wp2_with (first | (at_builtin; refine wpList_append_own _ rfl _ _ 22 rfl w.heap.size 33 i0 _ 6 48 Tryz.underlying22 hi0 hz0 hz1 hz2 rfl (by decide) _ _ _ rfl (hown.alloc _) ⟨wr.heap.size,0,none⟩ 1 1 [.int .i64 r.id,.int .i64 r.fr,.int .i64 r.tn,.int .i64 r.st,.int .i64 r.en,.int .i64 r.rt] rfl rfl (by exact lit_cells wr #[.int .i64 r.id,.int .i64 r.fr,.int .i64 r.tn,.int .i64 r.st,.int .i64 r.en,.int .i64 r.rt] _ _ rfl) (by simp [Value.oneCell']) (by unfold maxLen; omega) (by omega) (by simp; omega) ?_; intro v' w3 hown' hgrow3 hnil3))
    have hbN:=(hB.alloc hs _).grown hgrow3 (by simp; omega) (fun q hq => (hown.lt q hq).1)
    clear hgrow3 hnil3
    go_wp2_with fail
    go_roundw
    case rel => exact ⟨o ++ [r],k + 1,i + 1,by go_num,by omega,by omega,by simp [Hid,HO.out],(by rw [flatCo_append,flatCo_one_]; exact hown'),hbN,HNX⟩
    case measure => simp [intOf]; omega
  ·have hie:i = n:=by omega
   have hf:=HF.out
   rw [List.take_of_length_le (by rw [HD.out]; omega)] at hf
   have HF2:=Lib.hid hf
   clear hf HF
   obtain ⟨Ao,co,rfl⟩:=slice_of_own hown
   by_cases hkn:k = n
   ·have g1:((k:Int) == (n:Int)) = true:=by simp [hkn]
    have HKN:=Lib.hid hkn
    clear hkn
    go_wp2_with fail
    go_ret2
    refine ⟨_,?_,by rw [HF2.out,HO.out]; exact hown,hB⟩
    rw [HF2.out,HO.out,delCode,if_pos HKN.out]; rfl
   ·have g1:((k:Int) == (n:Int)) = false:=beq_eq_false_iff_ne.2 (by omega)
    go_wp2_with fail
    go_ret2
    refine ⟨_,?_,by rw [HF2.out,HO.out]; exact hown,hB⟩
    rw [HF2.out,HO.out,delCode,if_neg hkn]; rfl
/-- What Change leaves, and its code. -/
def chgL (d:List Co) (id rt:Int):List Co:=if inB rt 1 2147483647 = true ∧ idIn d id = true then d.set (d.findIdx (fun x => x.id == id)) (withRt (gCo d (d.findIdx (fun x => x.id == id))) rt) else d
def chgQ (d:List Co) (id rt:Int):Int:=if inB rt 1 2147483647 = false then 1 else if idIn d id = true then 0 else 6
theorem find_idx {d:List Co} {id:Int} {q:Nat} (hq:q < d.length) (hb:∀ j,j < q → ((gCo d j).id == id) = false) (hh:((gCo d q).id == id) = true):d.findIdx (fun x => x.id == id) = q:=by
 rw [List.findIdx_eq hq]
 refine ⟨by rw [← gCo_eq hq]; exact hh,fun j hj => ?_⟩
 have:=hb j hj
 rw [gCo_eq (by omega:j < d.length)] at this
 exact this
theorem idIn_of {d:List Co} {id:Int} {q:Nat} (hq:q < d.length) (hh:((gCo d q).id == id) = true):idIn d id = true:=by
 unfold idIn
 exact List.any_eq_true.2 ⟨_,gCo_mem hq,hh⟩
theorem idIn_no {d:List Co} {id:Int} (h:∀ j,j < d.length → ((gCo d j).id == id) = false):idIn d id = false:=by
 unfold idIn
 rw [List.any_eq_false]
 intro x hx
 obtain ⟨j,hj,rfl⟩:=mem_gCo hx
 simp [h j hj]
theorem chg_arg {d:List Co} {id rt:Int} (h:inB rt 1 2147483647 = false):chgL d id rt = d ∧ chgQ d id rt = 1:=by
 unfold chgL chgQ; simp [h]
theorem chg_none {d:List Co} {id rt:Int} (h:inB rt 1 2147483647 = true) (h2:idIn d id = false):chgL d id rt = d ∧ chgQ d id rt = 6:=by
 unfold chgL chgQ; simp [h,h2]
theorem chg_hit {d:List Co} {id rt:Int} {q:Nat} (h:inB rt 1 2147483647 = true) (hq:q < d.length) (hb:∀ j,j < q → ((gCo d j).id == id) = false) (hh:((gCo d q).id == id) = true):chgL d id rt = d.set q (withRt (gCo d q) rt) ∧ chgQ d id rt = 0:=by
 unfold chgL chgQ; rw [find_idx hq hb hh]; simp [h,idIn_of hq hh]
set_option maxHeartbeats 4000000 in
set_option maxRecDepth 100000 in
theorem rchange6_any (A:Option Addr) (n c:Nat) (d:List Co) (id rt:Int) (w:World) (hd:d.length = n) (hn:n ≤ 1000000) (h:Sl w w.heap.size 6 A n c (flatCo d)) (l:List Co) (hl:chgL d id rt = l) (q:Int) (hq:chgQ d id rt = q) :
  Calls Tryz.prog 53 #[.slice A n c,.int .i64 id,.int .i64 rt] w fun e w' => ∃ v,e = .returned (.tuple #[v,.int .i64 q]) ∧ w'.ownsRow w.heap.size 33 6 v n (flatCo l) ∧ Below w.heap.size w w':=by
 have HD:=Lib.hid hd
 have HLL:=Lib.hid hl
 have HQQ:=Lib.hid hq
 clear hd hl hq
 go_enter Tryz.func53,Tryz.ntmps53
 go_wp2_with fail
 refine (rcopy6_any A n c d w HD.out hn h).mono ?_
 rintro e w3 ⟨v,rfl,hown,hB⟩
 clear h
 by_cases h1:rt < 1
 ·obtain ⟨e1,e2⟩:=chg_arg (d:=d) (id:=id) (rt:=rt) (by unfold inB; simp; omega)
  have HL2:=Lib.hid (HLL.out.symm.trans e1)
  have HQ2:=Lib.hid (HQQ.out.symm.trans e2)
  clear e1 e2
  obtain ⟨Av,cv,rfl⟩:=slice_of_own hown
  go_wp2_with fail
  go_ret2
  exact ⟨_,by rw [HQ2.out]; rfl,by rw [HL2.out]; exact hown,hB⟩
 ·by_cases h2:2147483647 < rt
  ·obtain ⟨e1,e2⟩:=chg_arg (d:=d) (id:=id) (rt:=rt) (by unfold inB; simp; omega)
   have HL2:=Lib.hid (HLL.out.symm.trans e1)
   have HQ2:=Lib.hid (HQQ.out.symm.trans e2)
   clear e1 e2
   obtain ⟨Av,cv,rfl⟩:=slice_of_own hown
   go_wp2_with fail
   go_ret2
   exact ⟨_,by rw [HQ2.out]; rfl,by rw [HL2.out]; exact hown,hB⟩
  ·have HIN:Hid (inB rt 1 2147483647 = true):=by
    show inB rt 1 2147483647 = true
    unfold inB; simp; omega
   obtain ⟨Av,cv,rfl⟩:=slice_of_own hown
   have HOW:=Lib.hid hown
   clear hown
   go_wp2_with fail
   clear h1 h2
   go_loopw [9] (fun iv wr => ∃ i:Nat,iv = .int .i64 i ∧ i ≤ n ∧ Hid (∀ j,j < i → ((gCo d j).id == id) = false) ∧ w3 = wr) (fun iv _ => n - (intOf iv).toNat)
   case atStart => exact ⟨0,rfl,by omega,(fun j hj => by omega),rfl⟩
   case round =>
    obtain ⟨i,rfl,hi,HN,rfl⟩:=hrel
    by_cases hin:i < n
    ·obtain ⟨g5,c5,hA,hnc5,hcm5,hgb5,hgl5⟩:=own_at HOW.out (by omega)
     unfold maxLen at hcm5
     injection hA with hA _ hcc
     subst hA hcc
     have hii:(0:Int) ≤ (i:Int):=by omega
     have hinI:(i:Int) < (n:Int):=by omega
     obtain ⟨c0,c1,c2,c3,c4,c5'⟩:=ownCo_at HOW.out HD.out hin
     obtain ⟨x,hx⟩:∃ x,gCo d i = x:=⟨_,rfl⟩
     rw [hx] at c0 c1 c2 c3 c4 c5'
     have HX:=Lib.hid hx
     clear hx
     by_cases he:x.id = id
     ·have g1:(x.id == id) = true:=beq_iff_eq.2 he
      obtain ⟨e1,e2⟩:=chg_hit HIN.out (by rw [HD.out]; exact hin) HN.out (by rw [HX.out]; exact g1)
      rw [HX.out] at e1
      have HL2:=Lib.hid (HLL.out.symm.trans e1)
      have HQ2:=Lib.hid (HQQ.out.symm.trans e2)
      have hf4:=HOW.out.frozenAt (i * 6 + 5)
      obtain ⟨hst,hgr⟩:=HOW.out.stored (i * 6 + 5) (.int .i64 rt)
      rw [flatCo_rt d i rt (by have:=HD.out; omega),HX.out] at hst
      clear e1 e2 he c1 c2 c3 c4
      go_wp2_with fail
      go_ret2
      refine ⟨_,by rw [HQ2.out]; rfl,by rw [HL2.out]; exact hst,Below.grown hB hgr hB.size (fun k hk => by simp at hk; omega)⟩
     ·have g1:(x.id == id) = false:=beq_eq_false_iff_ne.2 he
      have HN2:Hid (∀ j,j < i + 1 → ((gCo d j).id == id) = false):=fun j hj => by
       by_cases e:j = i
       ·subst e; rw [HX.out]; exact g1
       ·exact HN.out j (by omega)
      clear he c1 c2 c3 c4 c5'
      go_wp2_with fail
      go_roundw
      case rel => exact ⟨i + 1,by go_num,by omega,HN2,by first | rfl | trivial⟩
      case measure => simp [intOf]; omega
    ·obtain rfl:i = n:=by omega
     obtain ⟨e1,e2⟩:=chg_none HIN.out (idIn_no (fun j hj => HN.out j (by rw [HD.out] at hj; exact hj)))
     have HL2:=Lib.hid (HLL.out.symm.trans e1)
     have HQ2:=Lib.hid (HQQ.out.symm.trans e2)
     clear e1 e2
     go_wp2_with fail
     go_ret2
     exact ⟨_,by rw [HQ2.out]; rfl,by rw [HL2.out]; exact HOW.out,hB⟩
end Go.Proofs.YtolaabllhibkdaaGreat.Kc
