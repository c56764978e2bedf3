/- The document's own contacts: Add. -/
import Derived.Test.YtolaabllhibkdaaGreatRef06e
namespace Go.Proofs.YtolaabllhibkdaaGreat.Kc
open Go.ChangeShapes Go.WideShapes Go.ChangeAt Go.RowKit Go.Sort
set_option linter.unusedSimpArgs false
set_option linter.unusedVariables false
/-- Behind the last one that stands ahead. -/
def lastC (d : List Co) (r : Co) : Nat → Nat
  | 0 => 0
  | i + 1 => if cmpC (gCo d i) r < 0 then i + 1 else lastC d r i
theorem lastC_le (d : List Co) (r : Co) : ∀ i, lastC d r i ≤ i
  | 0 => Nat.le_refl _
  | i + 1 => by rw [lastC]; split; · omega
                · have := lastC_le d r i; omega
theorem lastC_at (d : List Co) (r : Co) : ∀ i, lastC d r i = 0 ∨ cmpC (gCo d (lastC d r i - 1)) r < 0
  | 0 => .inl rfl
  | i + 1 => by
    rw [lastC]; split
    · right; rw [Nat.add_sub_cancel]; assumption
    · exact lastC_at d r i
theorem lastC_hi (d : List Co) (r : Co) : ∀ i j, lastC d r i ≤ j → j < i → 0 ≤ cmpC (gCo d j) r
  | 0, j, _, h => by omega
  | i + 1, j, h1, h2 => by
    rw [lastC] at h1
    split at h1
    · omega
    · rename_i hc
      by_cases e : j = i
      · subst e; omega
      · exact lastC_hi d r i j h1 (by omega)
theorem lastC_end {d : List Co} (r : Co) : lastC d r d.length = d.length ∨ 0 ≤ cmpC (gCo d (lastC d r d.length)) r := by
  by_cases h : lastC d r d.length = d.length
  · exact .inl h
  · have := lastC_le d r d.length
    exact .inr (lastC_hi d r _ _ (Nat.le_refl _) (by omega))
theorem may_arg {d : List Co} {r : Co} (h : okC r = false) : mayC d r = 1 := by unfold mayC; rw [if_pos h]
theorem may_full {d : List Co} {r : Co} (h : okC r = true) (h2 : 4096 ≤ d.length) : mayC d r = 3 := by unfold mayC; rw [if_neg (by rw [h]; simp), if_pos h2]
theorem may_twi {d : List Co} {r : Co} (h : okC r = true) (h2 : d.length < 4096) (h3 : idIn d r.id = true) : mayC d r = 4 := by
  unfold mayC; unfold idIn at h3; rw [if_neg (by rw [h]; simp), if_neg (by omega), if_pos h3]
theorem may_over {d : List Co} {r : Co} (h : okC r = true) (h2 : d.length < 4096) (h3 : idIn d r.id = false) (h4 : d.any (fun o => overC o r) = true) : mayC d r = 5 := by
  unfold mayC; unfold idIn at h3; rw [if_neg (by rw [h]; simp), if_neg (by omega), if_neg (by rw [h3]; simp), if_pos h4]
theorem may_zero {d : List Co} {r : Co} (h : okC r = true) (h2 : d.length < 4096) (h3 : idIn d r.id = false) (h4 : d.any (fun o => overC o r) = false) : mayC d r = 0 := by
  unfold mayC; unfold idIn at h3; rw [if_neg (by rw [h]; simp), if_neg (by omega), if_neg (by rw [h3]; simp), if_neg (by rw [h4]; simp)]
/-- What Add leaves. -/
def addL (d : List Co) (r : Co) : List Co := if mayC d r = 0 then insC d (lastC d r d.length) r else d
theorem addL_no {d : List Co} {r : Co} (h : mayC d r ≠ 0) : addL d r = d := by unfold addL; rw [if_neg h]
theorem addL_yes {d : List Co} {r : Co} (h : mayC d r = 0) : addL d r = insC d (lastC d r d.length) r := by unfold addL; rw [if_pos h]
theorem any_over {d : List Co} {r : Co} {i : Nat} (hi : i < d.length) (h : overC (gCo d i) r = true) : d.any (fun o => overC o r) = true := List.any_eq_true.2 ⟨_, gCo_mem hi, h⟩
theorem any_none {d : List Co} {r : Co} (h : ∀ j, j < d.length → overC (gCo d j) r = false) : d.any (fun o => overC o r) = false := by
  rw [List.any_eq_false]
  intro x hx
  obtain ⟨j, hj, rfl⟩ := mem_gCo hx
  simp [h j hj]
set_option maxHeartbeats 8000000 in
set_option maxRecDepth 100000 in
theorem radd6_any (A : Option Addr) (n c : Nat) (d : List Co) (r : Co) (w : World) (hd : d.length = n) (hn : n ≤ 1000000 - 1) (h : Sl w w.heap.size 6 A n c (flatCo d)) (q : Int) (hq : mayC d r = q) (l : List Co) (hl : addL d r = l) :
    Calls Tryz.prog 49 #[.slice A n c, .agg #[.int .i64 r.id, .int .i64 r.fr, .int .i64 r.tn, .int .i64 r.st, .int .i64 r.en, .int .i64 r.rt]] w fun e w' => ∃ v, e = .returned (.tuple #[v, .int .i64 q]) ∧ w'.ownsRow w.heap.size 33 6 v l.length (flatCo l) ∧ Below w.heap.size w w' := by
  obtain ⟨i0, hi0, hz0, hz1, hz2⟩ := info_parts infoCo
  have hB : Below w.heap.size w (w.alloc (.cells #[.int .i64 r.id, .int .i64 r.fr, .int .i64 r.tn, .int .i64 r.st, .int .i64 r.en, .int .i64 r.rt] 33)) := by (repeat (first | exact Below.refl _ _ | refine Below.alloc ?_ (by first | omega | (simp; done) | (simp; omega)) _ | refine Below.setCell ?_ (by first | omega | (simp; done) | (simp; omega)) _ | refine Below.drew ?_))
  have hX := Blok.new w 33 #[.int .i64 r.id, .int .i64 r.fr, .int .i64 r.tn, .int .i64 r.st, .int .i64 r.en, .int .i64 r.rt]
  have hs := h.up hB
  have hcap := h.cap
  have hmax := h.max
  unfold maxLen at hmax
  have HD := Lib.hid hd
  have HQ := Lib.hid hq
  have HLL := Lib.hid hl
  obtain ⟨ok, hok⟩ : ∃ ok, okC r = ok := ⟨_, rfl⟩
  have HOK := Lib.hid hok
  clear h hd hq hl hok
  go_enter Tryz.func49, Tryz.ntmps49
  go_wp2_with fail
  generalize w.alloc (.cells #[.int .i64 r.id, .int .i64 r.fr, .int .i64 r.tn, .int .i64 r.st, .int .i64 r.en, .int .i64 r.rt] 33) = w2 at *
  refine (rcontact_is ok (show contactB r.id r.fr r.tn r.st r.en r.rt = ok from HOK.out) w2).mono ?_
  rintro e w3 ⟨rfl, hb3⟩
  replace hs := hs.up hb3
  replace hX := hX.below hb3 hX.lt
  replace hB := hB.trans (hb3.mono hB.size)
  clear hb3
  cases ok
  · have hm := may_arg (d := d) HOK.out
    have HQ2 := Lib.hid (HQ.out.symm.trans hm)
    have HL2 := Lib.hid (HLL.out.symm.trans (addL_no (by rw [hm]; decide)))
    clear hm
    go_wp2_with fail
    refine (rcopy6_any A n c d w3 HD.out (by omega) hs).mono ?_
    rintro e w4 ⟨v, rfl, hown, hb4⟩
    have hsz := hB.size
    go_wp2_with fail
    go_ret2
    exact ⟨_, by rw [HQ2.out]; rfl, by rw [HL2.out, HD.out]; exact own_down hown hsz, hB.trans (hb4.mono hsz)⟩
  · by_cases hbig : 4096 ≤ n
    · have hm := may_full (d := d) HOK.out (by rw [HD.out]; exact hbig)
      have HQ2 := Lib.hid (HQ.out.symm.trans hm)
      have HL2 := Lib.hid (HLL.out.symm.trans (addL_no (by rw [hm]; decide)))
      have g1 : decide ((n : Int) ≥ 4096) = true := decide_eq_true (by omega)
      clear hm
      go_wp2_with fail
      refine (rcopy6_any A n c d w3 HD.out (by omega) hs).mono ?_
      rintro e w4 ⟨v, rfl, hown, hb4⟩
      have hsz := hB.size
      go_wp2_with fail
      go_ret2
      exact ⟨_, by rw [HQ2.out]; rfl, by rw [HL2.out, HD.out]; exact own_down hown hsz, hB.trans (hb4.mono hsz)⟩
    · have g1 : decide ((n : Int) ≥ 4096) = false := decide_eq_false (by omega)
      obtain ⟨fx, hfx⟩ : ∃ fx, foundC d r.id = fx := ⟨_, rfl⟩
      obtain ⟨fb, hfb⟩ : ∃ fb, idIn d r.id = fb := ⟨_, rfl⟩
      have HFX := Lib.hid hfx
      have HFB := Lib.hid hfb
      have x0 : w3.cell? ⟨w.heap.size, 0, none⟩ = some (.int .i64 r.id) := hX.cell 0
      have lt_x := hX.lt
      clear hfx hfb
      go_wp2_with fail
      clear x0
      refine (rfind6_any A n c d r.id w3 HD.out (by omega) hs fx fb HFX.out HFB.out).mono ?_
      rintro e w4 ⟨rfl, hb4⟩
      replace hs := hs.up hb4
      replace hX := hX.below hb4 hX.lt
      replace hB := hB.trans (hb4.mono hB.size)
      clear hb4
      have hB5 : Below w4.heap.size w4 (w4.alloc (.cells #[.int .i64 fx.id, .int .i64 fx.fr, .int .i64 fx.tn, .int .i64 fx.st, .int .i64 fx.en, .int .i64 fx.rt] 33)) := by (repeat (first | exact Below.refl _ _ | refine Below.alloc ?_ (by first | omega | (simp; done) | (simp; omega)) _ | refine Below.setCell ?_ (by first | omega | (simp; done) | (simp; omega)) _ | refine Below.drew ?_))
      replace lt_x := hX.lt
      cases fb
      · go_wp2_with fail
        replace hs := hs.up hB5
        replace hX := hX.below hB5 hX.lt
        replace hB := hB.trans (hB5.mono hB.size)
        clear hB5
        generalize w4.alloc (.cells #[.int .i64 fx.id, .int .i64 fx.fr, .int .i64 fx.tn, .int .i64 fx.st, .int .i64 fx.en, .int .i64 fx.rt] 33) = w5 at *
        have HSX := Lib.hid hs
        have HXX := Lib.hid hX
        have HBX := Lib.hid hB
        clear hs hX hB lt_x
        go_loopw [8, 9] (fun kv iv wr => ∃ (k i : Nat), kv = .int .i64 k ∧ iv = .int .i64 i ∧ i ≤ n ∧ Hid (lastC d r i = k) ∧ Hid (∀ j, j < i → overC (gCo d j) r = false) ∧ Below w5.heap.size w5 wr) (fun _ iv _ => n - (intOf iv).toNat)
        case atStart => exact ⟨0, 0, rfl, rfl, by omega, rfl, (fun j hj => by omega), Below.refl _ _⟩
        case round =>
          obtain ⟨k, i, rfl, rfl, hi, HK, HV, hb⟩ := hrel
          have hX := HXX.out.below hb HXX.out.lt
          have hs := HSX.out.up hb
          have hB := HBX.out.trans (hb.mono HBX.out.size)
          have lt_x := hX.lt
          have x0 : wr.cell? ⟨w.heap.size, 0, none⟩ = some (.int .i64 r.id) := hX.cell 0
          have x1 : wr.cell? ⟨w.heap.size, 1, none⟩ = some (.int .i64 r.fr) := hX.cell 1
          have x2 : wr.cell? ⟨w.heap.size, 2, none⟩ = some (.int .i64 r.tn) := hX.cell 2
          have x3 : wr.cell? ⟨w.heap.size, 3, none⟩ = some (.int .i64 r.st) := hX.cell 3
          have x4 : wr.cell? ⟨w.heap.size, 4, none⟩ = some (.int .i64 r.en) := hX.cell 4
          have x5 : wr.cell? ⟨w.heap.size, 5, none⟩ = some (.int .i64 r.rt) := hX.cell 5
          by_cases hin : i < n
          · obtain ⟨ad, rfl, hab, c0, c1, c2, c3, c4, c5⟩ := hs.lst.atCo HD.out hin
            obtain ⟨y, hy⟩ : ∃ y, gCo d i = y := ⟨_, rfl⟩
            rw [hy] at c0 c1 c2 c3 c4 c5
            have HY := Lib.hid hy
            obtain ⟨ov, hov⟩ : ∃ ov, overC y r = ov := ⟨_, rfl⟩
            have HOV := Lib.hid hov
            clear hy hov
            go_wp2_with fail
            have q_c0 := fun d os => cell_regrown c0 d os
            have q_c1 := fun d os => cell_regrown c1 d os
            have q_c2 := fun d os => cell_regrown c2 d os
            have q_c3 := fun d os => cell_regrown c3 d os
            have q_c4 := fun d os => cell_regrown c4 d os
            have q_c5 := fun d os => cell_regrown c5 d os
            have q_x0 := fun d os => cell_regrown x0 d os
            have q_x1 := fun d os => cell_regrown x1 d os
            have q_x2 := fun d os => cell_regrown x2 d os
            have q_x3 := fun d os => cell_regrown x3 d os
            have q_x4 := fun d os => cell_regrown x4 d os
            have q_x5 := fun d os => cell_regrown x5 d os
            try simp only [List.append]
            first | refine wp_region_text_below ?_ | refine wp_region_quiet_below (by kernel_rfl) (by kernel_rfl) ?_
            repeat (go_big_quiet_step (((go_at_call 73; with_reducible exact Calls.regrown_of (roverlap_any y r _ HOV.out _)))))
            refine wpQuiet_nil ?_
            intro _ hqw
            obtain ⟨pq, hqw⟩ := hqw
            subst hqw
            clear q_c0 q_c1 q_c2 q_c3 q_c4 q_c5 q_x0 q_x1 q_x2 q_x3 q_x4 q_x5
            have hbel := below_regrown wr pq.d pq.os
            replace hb := hb.trans (hbel.mono hb.size)
            clear hbel c0 c1 c2 c3 c4 c5 x0 x1 x2 x3 x4 x5 hX hs hB lt_x
            generalize grow (redrawn wr pq.d) pq.os = wq at *
            have hX := HXX.out.below hb HXX.out.lt
            have hs := HSX.out.up hb
            have hB := HBX.out.trans (hb.mono HBX.out.size)
            have lt_x := hX.lt
            cases ov
            · obtain ⟨ae, he, _, c0, c1, c2, c3, c4, c5⟩ := hs.lst.atCo HD.out hin
              injection he with he
              subst he
              rw [HY.out] at c0 c1 c2 c3 c4 c5
              have x0 : wq.cell? ⟨w.heap.size, 0, none⟩ = some (.int .i64 r.id) := hX.cell 0
              have x1 : wq.cell? ⟨w.heap.size, 1, none⟩ = some (.int .i64 r.fr) := hX.cell 1
              have x2 : wq.cell? ⟨w.heap.size, 2, none⟩ = some (.int .i64 r.tn) := hX.cell 2
              have x3 : wq.cell? ⟨w.heap.size, 3, none⟩ = some (.int .i64 r.st) := hX.cell 3
              have x4 : wq.cell? ⟨w.heap.size, 4, none⟩ = some (.int .i64 r.en) := hX.cell 4
              have x5 : wq.cell? ⟨w.heap.size, 5, none⟩ = some (.int .i64 r.rt) := hX.cell 5
              have HV2 : Hid (∀ j, j < i + 1 → overC (gCo d j) r = false) := fun j hj => by
                by_cases e : j = i
                · subst e; rw [HY.out]; exact HOV.out
                · exact HV.out j (by omega)
              have hnl : lastC d r (i + 1) = if cmpC y r < 0 then i + 1 else k := by rw [lastC, HY.out, HK.out]
              obtain ⟨lt, hlt⟩ : ∃ lt, decide (cmpC y r < 0) = lt := ⟨_, rfl⟩
              have HLT := Lib.hid hlt
              cases lt
              · rw [if_neg (by simpa using hlt)] at hnl
                have HNL := Lib.hid hnl
                clear hnl hlt
                go_wp2_with fail
                have q_c0 := fun d os => cell_regrown c0 d os
                have q_c1 := fun d os => cell_regrown c1 d os
                have q_c2 := fun d os => cell_regrown c2 d os
                have q_c3 := fun d os => cell_regrown c3 d os
                have q_c4 := fun d os => cell_regrown c4 d os
                have q_c5 := fun d os => cell_regrown c5 d os
                have q_x0 := fun d os => cell_regrown x0 d os
                have q_x1 := fun d os => cell_regrown x1 d os
                have q_x2 := fun d os => cell_regrown x2 d os
                have q_x3 := fun d os => cell_regrown x3 d os
                have q_x4 := fun d os => cell_regrown x4 d os
                have q_x5 := fun d os => cell_regrown x5 d os
                try simp only [List.append]
                first | refine wp_region_text_below ?_ | refine wp_region_quiet_below (by kernel_rfl) (by kernel_rfl) ?_
                repeat (go_big_quiet_step (((go_at_call 72; with_reducible exact Calls.regrown_of (rless_any y r _ HLT.out _)))))
                refine wpQuiet_nil ?_
                intro _ hqw
                obtain ⟨pq, hqw⟩ := hqw
                subst hqw
                clear q_c0 q_c1 q_c2 q_c3 q_c4 q_c5 q_x0 q_x1 q_x2 q_x3 q_x4 q_x5
                have hbel := below_regrown wq pq.d pq.os
                replace hb := hb.trans (hbel.mono hb.size)
                clear hbel c0 c1 c2 c3 c4 c5 x0 x1 x2 x3 x4 x5 hX hs hB lt_x
                generalize grow (redrawn wq pq.d) pq.os = wp at *
                go_wp2_with fail
                go_roundw
                case rel => exact ⟨k, i + 1, rfl, by go_num, by omega, HNL, HV2, hb⟩
                case measure => simp [intOf]; omega
              · rw [if_pos (by simpa using hlt)] at hnl
                have HNL := Lib.hid hnl
                clear hnl hlt
                go_wp2_with fail
                have q_c0 := fun d os => cell_regrown c0 d os
                have q_c1 := fun d os => cell_regrown c1 d os
                have q_c2 := fun d os => cell_regrown c2 d os
                have q_c3 := fun d os => cell_regrown c3 d os
                have q_c4 := fun d os => cell_regrown c4 d os
                have q_c5 := fun d os => cell_regrown c5 d os
                have q_x0 := fun d os => cell_regrown x0 d os
                have q_x1 := fun d os => cell_regrown x1 d os
                have q_x2 := fun d os => cell_regrown x2 d os
                have q_x3 := fun d os => cell_regrown x3 d os
                have q_x4 := fun d os => cell_regrown x4 d os
                have q_x5 := fun d os => cell_regrown x5 d os
                try simp only [List.append]
                first | refine wp_region_text_below ?_ | refine wp_region_quiet_below (by kernel_rfl) (by kernel_rfl) ?_
                repeat (go_big_quiet_step (((go_at_call 72; with_reducible exact Calls.regrown_of (rless_any y r _ HLT.out _)))))
                refine wpQuiet_nil ?_
                intro _ hqw
                obtain ⟨pq, hqw⟩ := hqw
                subst hqw
                clear q_c0 q_c1 q_c2 q_c3 q_c4 q_c5 q_x0 q_x1 q_x2 q_x3 q_x4 q_x5
                have hbel := below_regrown wq pq.d pq.os
                replace hb := hb.trans (hbel.mono hb.size)
                clear hbel c0 c1 c2 c3 c4 c5 x0 x1 x2 x3 x4 x5 hX hs hB lt_x
                generalize grow (redrawn wq pq.d) pq.os = wp at *
                go_wp2_with fail
                go_roundw
                case rel => exact ⟨i + 1, i + 1, by go_num, by go_num, by omega, HNL, HV2, hb⟩
                case measure => simp [intOf]; omega
            · have hm := may_over (d := d) (r := r) HOK.out (by rw [HD.out]; omega) HFB.out (any_over (i := i) (by rw [HD.out]; exact hin) (by rw [HY.out]; exact HOV.out))
              have HQ2 := Lib.hid (HQ.out.symm.trans hm)
              have HL2 := Lib.hid (HLL.out.symm.trans (addL_no (by rw [hm]; decide)))
              clear hm
              go_wp2_with fail
              refine (rcopy6_any _ n c d wq HD.out (by omega) hs).mono ?_
              rintro e w6 ⟨v, rfl, hown, hb6⟩
              have hsz := hB.size
              go_wp2_with fail
              go_ret2
              exact ⟨_, by rw [HQ2.out]; rfl, by rw [HL2.out, HD.out]; exact own_down hown hsz, hB.trans (hb6.mono hsz)⟩
          · obtain rfl : i = n := by omega
            have hm := may_zero (d := d) (r := r) HOK.out (by rw [HD.out]; omega) HFB.out (any_none (fun j hj => HV.out j (by rw [HD.out] at hj; exact hj)))
            have HQ2 := Lib.hid (HQ.out.symm.trans hm)
            have hk : k ≤ i := by rw [← HK.out]; exact lastC_le d r i
            have hl2 := HLL.out.symm.trans (addL_yes hm)
            rw [HD.out, HK.out] at hl2
            have HL2 := Lib.hid hl2
            clear hm hl2
            have hkI : (k : Int) ≤ (i : Int) := by omega
            have hk0 : (0 : Int) ≤ (k : Int) := by omega
            have hkc : k ≤ c := by omega
            have hkcI : (k : Int) ≤ (c : Int) := by omega
            have hs1 := hs.upto hk
            have hs2 := hs.from_ hk
            rw [flatCo_take] at hs1
            rw [flatCo_drop] at hs2
            have HDT := Lib.hid (show (d.take k).length = k by rw [List.length_take, HD.out]; omega)
            have HDL := Lib.hid (show (d.drop k).length = i - k by rw [List.length_drop, HD.out])
            clear hs
            go_wp2_with fail
            go_region_held3 (fun w' => w'.cell? ⟨w.heap.size, 0, none⟩ = some (.int .i64 r.id) ∧ w'.cell? ⟨w.heap.size, 1, none⟩ = some (.int .i64 r.fr) ∧ w'.cell? ⟨w.heap.size, 2, none⟩ = some (.int .i64 r.tn) ∧ w'.cell? ⟨w.heap.size, 3, none⟩ = some (.int .i64 r.st) ∧ w'.cell? ⟨w.heap.size, 4, none⟩ = some (.int .i64 r.en) ∧ w'.cell? ⟨w.heap.size, 5, none⟩ = some (.int .i64 r.rt))
              (first | go_keep | exact ⟨hx3.cell 0, hx3.cell 1, hx3.cell 2, hx3.cell 3, hx3.cell 4, hx3.cell 5⟩ | exact ⟨hx4.cell 0, hx4.cell 1, hx4.cell 2, hx4.cell 3, hx4.cell 4, hx4.cell 5⟩ | exact ⟨hx5.cell 0, hx5.cell 1, hx5.cell 2, hx5.cell 3, hx5.cell 4, hx5.cell 5⟩)
              (first
                | (go_at_call 84; (with_reducible refine Calls.mono (rcopy6_any A k c (d.take k) _ HDT.out (by omega) (hs1.up (by (repeat (first | exact Below.refl _ _ | refine Below.alloc ?_ (by first | omega | (simp; done) | (simp; omega)) _ | refine Below.setCell ?_ (by first | omega | (simp; done) | (simp; omega)) _ | refine Below.drew ?_))))) ?_); rintro e w3 ⟨v3, rfl, hown3, hb3⟩; have hB3 : Below wr.heap.size wr w3 := Below.trans (by (repeat (first | exact Below.refl _ _ | refine Below.alloc ?_ (by first | omega | (simp; done) | (simp; omega)) _ | refine Below.setCell ?_ (by first | omega | (simp; done) | (simp; omega)) _ | refine Below.drew ?_))) (hb3.mono (by simp)); have hx3 := hX.below hB3 lt_x; replace hown3 := own_down (base' := wr.heap.size) hown3 (by simp); dsimp only)
                | (refine step_append_lst _ (by rfl) (.tmp 55) (.tmp 57) 22 (by rfl) wr.heap.size 33 i0 _ 6 48 Tryz.underlying22 hi0 hz0 hz1 hz2 (by rfl) (by decide) v3 _ _ (by rfl) (by first | exact hown3 | exact hown3.alloc _) _ (some ⟨w3.heap.size, 0, none⟩) 1 1 [.int .i64 r.id, .int .i64 r.fr, .int .i64 r.tn, .int .i64 r.st, .int .i64 r.en, .int .i64 r.rt] (by rfl) ⟨by rfl, fun _ => ⟨_, rfl, (show w3.heap.size < w3.heap.size + 1 by omega), lit_cells w3 #[.int .i64 r.id, .int .i64 r.fr, .int .i64 r.tn, .int .i64 r.st, .int .i64 r.en, .int .i64 r.rt] _ _ rfl⟩⟩ (by simp [Value.oneCell']) (by unfold maxLen; omega) (by omega) (by have := hB3.size; simp at *; omega) ?_; intro v4 w4 hown4 hg4 hat4; have hB4 : Below wr.heap.size wr w4 := Below.grown (hB3.alloc hB3.size _) hg4 (by have := hB3.size; simp; omega) (fun k hk => (hown3.lt k hk).1); have hx4 := hX.below hB4 lt_x)
                | (refine step_append_lst _ (by rfl) (.tmp 55) (.tmp 57) 22 (by rfl) wr.heap.size 33 i0 _ 6 48 Tryz.underlying22 hi0 hz0 hz1 hz2 (by rfl) (by decide) v3 _ _ (by rfl) hown3 _ (some ⟨wr.heap.size, 0, none⟩) 1 1 [.int .i64 r.id, .int .i64 r.fr, .int .i64 r.tn, .int .i64 r.st, .int .i64 r.en, .int .i64 r.rt] (by rfl) (by exact (Lst.of_own (own_lit wr.drew 0 33 6 1 #[.int .i64 r.id, .int .i64 r.fr, .int .i64 r.tn, .int .i64 r.st, .int .i64 r.en, .int .i64 r.rt] (by omega) rfl (by simp [maxLen]))).below hb3) (by simp [Value.oneCell']) (by unfold maxLen; omega) (by omega) (by have := hB3.size; omega) ?_; intro v4 w4 hown4 hg4 hat4; have hB4 : Below wr.heap.size wr w4 := Below.grown hB3 hg4 hB3.size (fun k hk => (hown3.lt k hk).1); have hx4 := hX.below hB4 lt_x)
                | (refine step_append_lst _ (by rfl) (.tmp 58) (.tmp 61) 22 (by rfl) wr.heap.size 33 i0 _ 6 48 Tryz.underlying22 hi0 hz0 hz1 hz2 (by rfl) (by decide) v4 _ _ (by rfl) hown4 wr.heap.size _ (i - k) _ (flatCo (d.drop k)) (by first | rfl | (simp [Act.eval, Act.put]; done)) (by have h := (hs2.below hB4).lst; first | exact h | simpa using h) (flatCo_one _) (by unfold maxLen; omega) (by omega) (by have := hB4.size; omega) ?_; intro v5 w5 hown5 hg5 hat5; have hB5 : Below wr.heap.size wr w5 := Below.grown hB4 hg5 hB4.size (fun k hk => (hown4.lt k hk).1); have hx5 := hX.below hB5 lt_x))
            all_goals
              have hfin := hB.trans (hB5.mono hB.size)
              have hown6 := own_down (base' := w.heap.size) hown5 hB.size
              clear hown3 hown4 hown5 hb3 hB3 hB4 hB5 hx3 hx4 hx5 hg4 hg5 hat4 hat5 hs1 hs2 x0 x1 x2 x3 x4 x5 hX lt_x
              go_wp2_with fail
              all_goals
                go_ret2
                refine ⟨_, by rw [HQ2.out]; rfl, ?_, hfin⟩
                rw [HL2.out, insC_length r (by rw [HD.out]; exact hk), HD.out]
                unfold insC
                rw [flatCo_append, flatCo_append, flatCo_one_]
                rw [show k + 1 + (i - k) = i + 1 by omega] at hown6
                exact hown6
      · have hm := may_twi (d := d) HOK.out (by rw [HD.out]; omega) HFB.out
        have HQ2 := Lib.hid (HQ.out.symm.trans hm)
        have HL2 := Lib.hid (HLL.out.symm.trans (addL_no (by rw [hm]; decide)))
        clear hm
        go_wp2_with fail
        replace hs := hs.up hB5
        replace hB := hB.trans (hB5.mono hB.size)
        refine (rcopy6_any A n c d _ HD.out (by omega) hs).mono ?_
        rintro e w6 ⟨v, rfl, hown, hb6⟩
        have hsz := hB.size
        go_wp2_with fail
        go_ret2
        exact ⟨_, by rw [HQ2.out]; rfl, by rw [HL2.out, HD.out]; exact own_down hown hsz, hB.trans (hb6.mono hsz)⟩
end Go.Proofs.YtolaabllhibkdaaGreat.Kc
