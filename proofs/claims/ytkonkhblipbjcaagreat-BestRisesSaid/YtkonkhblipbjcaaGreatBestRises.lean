/- They rise, no two are the same, and each is a route in time, the first one the best one: BestRises returns true. No condition. -/
import Derived.Test.YtkonkhblipbjcaaGreatRows
import Derived.Test.YtkonkhblipbjcaaGreatGQ28
import Derived.Test.YtkonkhblipbjcaaGreatGQ29
import Derived.BigQuiet
import Derived.Deep.QuietTactic
import Derived.Test.YtkonkhblipbjcaaGreatBestLaw
namespace Go.Proofs.YtkonkhblipbjcaaGreat
open Go.ChangeShapes Go.WideShapes Go.ChangeAt Go.RowKit Go.Sort Hp
set_option linter.unusedSimpArgs false
set_option linter.unusedVariables false
set_option maxHeartbeats 8000000 in
set_option maxRecDepth 100000 in
theorem bestRises_w (A : Option Addr) (n c : Nat) (l : List Ed) (f q now size by_ k : Int) (w : World) (hd : l.length = n)  (hl : Sl w w.heap.size 8 A n c (flatEd l))  :
    Calls Tryz.prog 4 #[.slice A n c, .int .i64 f, .int .i64 q, .int .i64 now, .int .i64 size, .int .i64 by_, .int .i64 k] w fun e w' => e = .returned (.bool true) ∧ Below w.heap.size w w' := by
  have HD := Lib.hid hd
  have HL := Lib.hid (fun w' (hb : Below w.heap.size w w') => hl.up hb)
  clear hd hl
  go_enter Tryz.func4, Tryz.ntmps4
  go_wp2_with fail
  refine (small19_any w).mono ?_
  rintro e w1 ⟨rfl, hB⟩
  by_cases hG : 12 < n ∨ 20 < k
  · have hG' : (12 < n) ∨ (n ≤ 12 ∧ 20 < k) := by omega
    clear hG
    rcases hG' with g0 | ⟨g0, g1⟩
    all_goals
      go_wp2_with fail
      go_ret
      exact ⟨rfl, hB⟩
  have hn1 : n ≤ 12 := by omega
  have hn2 : k ≤ 20 := by omega
  clear hG
  obtain ⟨Ra, hRa⟩ : ∃ R, (allR l f q now size by_).take (k : Int).toNat = R := ⟨_, rfl⟩
  obtain ⟨ma, hma⟩ : ∃ m, Ra.length = m := ⟨_, rfl⟩
  have HRa := Lib.hid hRa
  have HMa := Lib.hid hma
  clear hRa hma
  have HMK : Hid (ma ≤ k.toNat) := by
    show ma ≤ k.toNat
    rw [← HMa.out, ← HRa.out, List.length_take]; exact Nat.min_le_left _ _
  have hm20 : ma ≤ 20 := by have := HMK.out; omega
  go_wp2_with fail
  refine (broutes_v A n c l f q now size by_ k w1 HD.out (by omega) (by omega) (HL.out _ hB) Ra HRa.out ma HMa.out).mono ?_
  rintro e wk1 ⟨Aa, ca, rfl, ra, hb⟩
  replace hB := hB.trans (hb.mono hB.size)
  clear hb
  have Fra := Lib.hid (fun w' (hb : Below wk1.heap.size wk1 w') => ra.below hb)
  have HBA := Lib.hid hB
  clear ra hB
  go_wp2_with fail
  go_loopw [17] (fun iv wr => ∃ (i : Nat), iv = .int .i64 i ∧ i ≤ ma ∧ Below wk1.heap.size wk1 wr) (fun iv _ => ma - (intOf iv).toNat)
  case atStart => exact ⟨0, rfl, by omega, Below.refl _ _⟩
  case round =>
    obtain ⟨i, rfl, hi, hBr⟩ := hrel
    by_cases him : i < ma
    · obtain ⟨ga, hga, _, hgl, _⟩ := (Fra.out _ hBr).addr (by omega)
      subst hga
      obtain ⟨A1, n1, c1, x10, x11, hl1, hm1, sl1⟩ := (Fra.out _ hBr).cells (k := i) (by omega)
      obtain ⟨p1, hp1⟩ : ∃ z, Ra.getD (i) ([], 0) = z := ⟨_, rfl⟩
      rw [hp1] at x11 hl1 sl1
      obtain ⟨H1, t1⟩ := p1
      replace x11 : wr.cell? ⟨ga, (i) * 2 + 1, none⟩ = some (.int .i64 t1) := x11
      replace sl1 : Sl wr wr.heap.size 3 A1 n1 c1 (flatHp H1) := sl1
      have HL1 : Hid (H1.length = n1) := hl1
      have HP1 := Lib.hid hp1
      clear hl1 hp1
      have hrt : RtOk l f q now size by_ (H1, t1) := by
        have h := take_ok (l := l) (f := f) (q := q) (now := now) (size := size) (by_ := by_) (k := k.toNat) (i := i) (by rw [HRa.out, HMa.out]; exact him)
        rw [HRa.out, HP1.out] at h
        exact h
      have hiI : (i : Int) < (ma : Int) := by omega
      obtain ⟨ids, hids⟩ : ∃ z, H1.map Hp.id = z := ⟨_, rfl⟩
      have hrt1 : routeE l ids f q now size = some (H1, t1) := by rw [← hids]; exact hrt.1
      have hwf : ∀ m ∈ ids, (Lit.int .i64 m).wf = true := by rw [← hids]; exact rtok_wf hrt
      have hle : t1 ≤ by_ := hrt.2
      have hn1n : n1 ≤ n := by have h := rtok_len hrt; rw [HD.out] at h; have h2 : H1.length = n1 := HL1.out; have h3 : H1.length ≤ n := h; omega
      have HIDS := Lib.hid hids
      have HRT := Lib.hid hrt1
      have HWF := Lib.hid hwf
      clear hrt hids hrt1 hwf
      go_wp2_with fail
      try clear x10 x11 hgl
      refine (pids_v A1 n1 c1 H1 t1 wr HL1.out (by omega) sl1 ids HIDS.out).mono ?_
      rintro e wk1 ⟨Ai, ci, rfl, hil, si, hb⟩
      replace sl1 := sl1.up hb
      replace hBr := hBr.trans (hb.mono hBr.size)
      clear hb
      have HIL := Lib.hid hil
      clear hil
      go_wp2_with fail
      refine (proute_v A n c l Ai n1 ci ids f q now size wk1 HD.out (by omega) HIL.out (by omega) (wf_getD HIL.out HWF.out) (HL.out _ (HBA.out.trans (hBr.mono HBA.out.size))) si (some (H1, t1)) HRT.out H1 rfl t1 rfl true rfl).mono ?_
      rintro e wk2 ⟨As, ns, cs, rfl, hs1, hs2, ss, hb⟩
      obtain rfl : n1 = ns := by have := HL1.out; omega
      clear hs1 hs2
      replace sl1 := sl1.up hb
      replace si := si.up hb
      replace hBr := hBr.trans (hb.mono hBr.size)
      clear hb
      clear si
      go_wp2_with fail
      have hb : Below wk2.heap.size wk2 (wk2.alloc (.cells #[.slice As n1 cs, .int .i64 t1] 30)) := (Below.refl _ _).alloc (Nat.le_refl _) _
      have xs := Blok.new wk2 30 #[.slice As n1 cs, .int .i64 t1]
      obtain ⟨bxs, hbxs⟩ : ∃ q, wk2.heap.size = q := ⟨_, rfl⟩
      have hsxs : (wk2.alloc (.cells #[.slice As n1 cs, .int .i64 t1] 30)).heap.size = bxs + 1 := by rw [← hbxs]; simp
      replace sl1 := sl1.up hb
      replace ss := ss.up hb
      replace hBr := hBr.trans (hb.mono hBr.size)
      clear hb
      generalize wk2.alloc (.cells #[.slice As n1 cs, .int .i64 t1] 30) = wk3 at *
      rw [hbxs] at xs
      try rw [hbxs]
      clear hbxs
      rcases Nat.eq_zero_or_pos i with hi0 | hi0
      · have hra := Fra.out _ hBr
        obtain ⟨Ax, nx, cx, x0, x1, hlx, hmx, slx⟩ := hra.cells (k := i) (by omega)
        rw [HP1.out] at x1 hlx slx
        replace x1 : wk3.cell? ⟨ga, i * 2 + 1, none⟩ = some (.int .i64 t1) := x1
        replace slx : Sl wk3 wk3.heap.size 3 Ax nx cx (flatHp H1) := slx
        have HLX : Hid (H1.length = nx) := hlx
        clear hlx
        have y0 : wk3.cell? ⟨bxs, 0, none⟩ = some (.slice As n1 cs) := xs.cell 0
        have y1 : wk3.cell? ⟨bxs, 1, none⟩ = some (.int .i64 t1) := xs.cell 1
        have hbl := xs.lt
        have HQ1 := Lib.hid (fun (dd : Nat) (os : Array Obj) => ss.up (below_regrown wk3 dd os))
        have HQ2 := Lib.hid (fun (dd : Nat) (os : Array Obj) => slx.up (below_regrown wk3 dd os))
        have g1 : decide (by_ < t1) = false := decide_eq_false (by omega)
        have g2 : decide (t1 > by_) = false := decide_eq_false (by omega)
        have g3 : decide (0 < i) = false := decide_eq_false (by omega)
        have g4 : decide ((0 : Int) < (i : Int)) = false := decide_eq_false (by omega)
        clear hi0
        clear hra slx ss xs
        try simp only [List.append]
        have q_x0 := fun d os => cell_regrown x0 d os
        have q_x1 := fun d os => cell_regrown x1 d os
        have q_y0 := fun d os => cell_regrown y0 d os
        have q_y1 := fun d os => cell_regrown y1 d os
        try simp only [List.append]
        first | refine wp_region_text_below ?_ | refine wp_region_quiet_below (by kernel_rfl) (by kernel_rfl) ?_
        repeat (go_big_quiet_step (((go_at_call 14; with_reducible exact Calls.regrown_of (psame_any As Ax n1 cs nx cx H1 H1 t1 t1 _ HL1.out HLX.out hm1 hmx (HQ1.out _ _) (HQ2.out _ _) true (by simp))))))
        refine wpQuiet_nil ?_
        intro _ hqw
        obtain ⟨pq, hqw⟩ := hqw
        subst hqw
        clear q_x0 q_x1 q_y0 q_y1
        have hbel := below_regrown wk3 pq.d pq.os
        replace hBr := hBr.trans (hbel.mono hBr.size)
        clear hbel x0 x1 y0 y1 g1 g2 g3 g4 hbl
        generalize grow (redrawn wk3 pq.d) pq.os = wq at *
        go_wp2_with fail
        go_roundw
        case rel => exact ⟨i + 1, by go_num, by omega, hBr⟩
        case measure => simp [intOf]; omega
      · have hra := Fra.out _ hBr
        obtain ⟨Ax, nx, cx, x0, x1, hlx, hmx, slx⟩ := hra.cells (k := i) (by omega)
        rw [HP1.out] at x1 hlx slx
        replace x1 : wk3.cell? ⟨ga, i * 2 + 1, none⟩ = some (.int .i64 t1) := x1
        replace slx : Sl wk3 wk3.heap.size 3 Ax nx cx (flatHp H1) := slx
        have HLX : Hid (H1.length = nx) := hlx
        clear hlx
        have y0 : wk3.cell? ⟨bxs, 0, none⟩ = some (.slice As n1 cs) := xs.cell 0
        have y1 : wk3.cell? ⟨bxs, 1, none⟩ = some (.int .i64 t1) := xs.cell 1
        have hbl := xs.lt
        have HQ1 := Lib.hid (fun (dd : Nat) (os : Array Obj) => ss.up (below_regrown wk3 dd os))
        have HQ2 := Lib.hid (fun (dd : Nat) (os : Array Obj) => slx.up (below_regrown wk3 dd os))
        have g1 : decide (by_ < t1) = false := decide_eq_false (by omega)
        have g2 : decide (t1 > by_) = false := decide_eq_false (by omega)
        obtain ⟨j, hj⟩ : ∃ j, i = j + 1 := ⟨i - 1, by omega⟩
        obtain ⟨Ay, ny, cy, z0, z1, hly, hmy, sly⟩ := hra.cells (k := j) (by omega)
        obtain ⟨py, hpy⟩ : ∃ z, Ra.getD j ([], 0) = z := ⟨_, rfl⟩
        rw [hpy] at z1 hly sly
        obtain ⟨Hy, ty⟩ := py
        replace z1 : wk3.cell? ⟨ga, j * 2 + 1, none⟩ = some (.int .i64 ty) := z1
        replace sly : Sl wk3 wk3.heap.size 3 Ay ny cy (flatHp Hy) := sly
        have HLY : Hid (Hy.length = ny) := hly
        have HZ : Hid (cmpR ty Hy t1 H1 = -1) := by
          have h := take_rises (l := l) (f := f) (q := q) (now := now) (size := size) (by_ := by_) (k := k.toNat) (i := j) (by rw [HRa.out, HMa.out]; omega)
          rw [HRa.out, hpy, ← hj, HP1.out] at h
          exact h
        have HQ3 := Lib.hid (fun (dd : Nat) (os : Array Obj) => sly.up (below_regrown wk3 dd os))
        have hji : (i : Int) - 1 = (j : Int) := by omega
        have hw1 : IntKind.i64.wrap ((i : Int) - 1) = (j : Int) := by rw [IntWalk.i64_in _ (by omega)]; omega
        have hjI : (j : Int) < (ma : Int) := by omega
        have hjN : j < ma := by omega
        have g3 : decide (0 < i) = true := decide_eq_true hi0
        have g4 : decide ((0 : Int) < (i : Int)) = true := decide_eq_true (by omega)
        clear hly hpy sly hj
        clear hra slx ss xs
        try simp only [List.append]
        have q_x0 := fun d os => cell_regrown x0 d os
        have q_x1 := fun d os => cell_regrown x1 d os
        have q_y0 := fun d os => cell_regrown y0 d os
        have q_y1 := fun d os => cell_regrown y1 d os
        have q_z0 := fun d os => cell_regrown z0 d os
        have q_z1 := fun d os => cell_regrown z1 d os
        try simp only [List.append]
        first | refine wp_region_text_below ?_ | refine wp_region_quiet_below (by kernel_rfl) (by kernel_rfl) ?_
        repeat (go_big_quiet_step ((first | (go_at_call 14; with_reducible exact Calls.regrown_of (psame_any As Ax n1 cs nx cx H1 H1 t1 t1 _ HL1.out HLX.out hm1 hmx (HQ1.out _ _) (HQ2.out _ _) true (by simp))) | (go_at_call 15; with_reducible exact Calls.regrown_of (ocmp_any Ay Ax ny cy nx cx Hy H1 ty t1 _ HLY.out HLX.out hmy hmx (HQ3.out _ _) (HQ2.out _ _) (-1) HZ.out)))))
        refine wpQuiet_nil ?_
        intro _ hqw
        obtain ⟨pq, hqw⟩ := hqw
        subst hqw
        clear q_x0 q_x1 q_y0 q_y1 q_z0 q_z1
        have hbel := below_regrown wk3 pq.d pq.os
        replace hBr := hBr.trans (hbel.mono hBr.size)
        clear hbel x0 x1 y0 y1 g1 g2 g3 g4 hbl z0 z1 hji hw1
        generalize grow (redrawn wk3 pq.d) pq.os = wq at *
        go_wp2_with fail
        go_roundw
        case rel => exact ⟨i + 1, by go_num, by omega, hBr⟩
        case measure => simp [intOf]; omega
    · obtain rfl : ma = i := by omega
      obtain ⟨wA, hwA⟩ : ∃ x, x = wr := ⟨_, rfl⟩
      subst hwA
      have gii : ¬ (ma : Int) < (ma : Int) := by omega
      obtain ⟨oz, hoz⟩ : ∃ o, bestX l f q now size by_ [] = o := ⟨_, rfl⟩
      obtain ⟨tz, htz⟩ : ∃ t, bestV oz = t := ⟨_, rfl⟩
      obtain ⟨Hz, hHz⟩ : ∃ H, bestH oz = H := ⟨_, rfl⟩
      obtain ⟨kz, hkz⟩ : ∃ b, oz.isSome = b := ⟨_, rfl⟩
      have HOz := Lib.hid hoz
      have HTz := Lib.hid htz
      have HHz := Lib.hid hHz
      have HKz := Lib.hid hkz
      clear hoz htz hHz hkz him
      go_wp2_with fail
      refine (lroute_v A n c l f q now size by_ none 0 0 [] wA HD.out (by omega) rfl (by omega) (fun k hk => by omega) (HL.out _ (HBA.out.trans (hBr.mono HBA.out.size))) (Sl.nil0 _ _ _) oz HOz.out tz HTz.out Hz HHz.out kz HKz.out).mono ?_
      rintro e wk1 ⟨Az, nz, cz, rfl, hnz, hmz, sz, hb⟩
      replace hBr := hBr.trans (hb.mono hBr.size)
      clear hb
      have HNZ := Lib.hid hnz
      clear hnz
      by_cases hk1 : k < 1
      · obtain rfl : ma = 0 := by have := HMK.out; omega
        go_wp2_with fail
        have hB := HBA.out.trans (hBr.mono HBA.out.size)
        have hb : Below wk1.heap.size wk1 (wk1.alloc (.cells #[.slice Az nz cz, .int .i64 tz] 30)) := (Below.refl _ _).alloc (Nat.le_refl _) _
        have xz := Blok.new wk1 30 #[.slice Az nz cz, .int .i64 tz]
        obtain ⟨bxz, hbxz⟩ : ∃ q, wk1.heap.size = q := ⟨_, rfl⟩
        have hsxz : (wk1.alloc (.cells #[.slice Az nz cz, .int .i64 tz] 30)).heap.size = bxz + 1 := by rw [← hbxz]; simp
        replace sz := sz.up hb
        replace hBr := hBr.trans (hb.mono hBr.size)
        clear hb
        generalize wk1.alloc (.cells #[.slice Az nz cz, .int .i64 tz] 30) = wk2 at *
        rw [hbxz] at xz
        try rw [hbxz]
        clear hbxz
        have hB := HBA.out.trans (hBr.mono HBA.out.size)
        go_ret
        exact ⟨rfl, hB⟩
      · have hhd : Ra.head? = oz := by rw [← HRa.out, ← HOz.out, ← allR_head, List.head?_take, if_neg (by omega)]
        have HHD := Lib.hid hhd
        clear hhd
        have gk1 : ¬ k < 1 := hk1
        have gmk : (ma : Int) ≤ k := by have := HMK.out; omega
        have gmk2 : decide ((ma : Int) ≤ k) = true := decide_eq_true gmk
        go_wp2_with fail
        have hb : Below wk1.heap.size wk1 (wk1.alloc (.cells #[.slice Az nz cz, .int .i64 tz] 30)) := (Below.refl _ _).alloc (Nat.le_refl _) _
        have xz := Blok.new wk1 30 #[.slice Az nz cz, .int .i64 tz]
        obtain ⟨bxz, hbxz⟩ : ∃ q, wk1.heap.size = q := ⟨_, rfl⟩
        have hsxz : (wk1.alloc (.cells #[.slice Az nz cz, .int .i64 tz] 30)).heap.size = bxz + 1 := by rw [← hbxz]; simp
        replace sz := sz.up hb
        replace hBr := hBr.trans (hb.mono hBr.size)
        clear hb
        generalize wk1.alloc (.cells #[.slice Az nz cz, .int .i64 tz] 30) = wk2 at *
        rw [hbxz] at xz
        try rw [hbxz]
        clear hbxz
        cases kz with
        | false =>
          have hon : oz = none := by have h := HKz.out; cases oz with | none => rfl | some p => cases h
          have hmn : ma = 0 := by
            rw [← HMa.out]
            have h := HHD.out
            rw [hon] at h
            rw [List.head?_eq_none_iff.1 h]; rfl
          have gp1 : decide (0 < ma) = false := decide_eq_false (by omega)
          have gp2 : decide ((0 : Int) < (ma : Int)) = false := decide_eq_false (by omega)
          clear hon hmn
          try simp only [List.append]
          first | refine wp_region_text_below ?_ | refine wp_region_quiet_below (by kernel_rfl) (by kernel_rfl) ?_
          repeat (go_big_quiet_step ((fail)))
          refine wpQuiet_nil ?_
          intro _ hqw
          obtain ⟨pq, hqw⟩ := hqw
          subst hqw
          have hbel := below_regrown wk2 pq.d pq.os
          have hB := HBA.out.trans ((hBr.trans (hbel.mono hBr.size)).mono HBA.out.size)
          clear hbel
          generalize grow (redrawn wk2 pq.d) pq.os = wq at *
          go_wp2_with fail
          go_ret
          exact ⟨rfl, hB⟩
        | true =>
          obtain ⟨p, hp⟩ : ∃ p, oz = some p := Option.isSome_iff_exists.1 HKz.out
          have hh := HHD.out
          rw [hp] at hh
          obtain ⟨rr, hrr⟩ : ∃ rr, Ra = p :: rr := by
            cases hR : Ra with
            | nil => rw [hR] at hh; cases hh
            | cons a b => rw [hR] at hh; injection hh with hh; exact ⟨b, by rw [hh]⟩
          have hmp : 0 < ma := by rw [← HMa.out, hrr]; simp
          have hp1 : p.1 = Hz := by have h := HHz.out; rw [hp] at h; exact h
          have hp2 : p.2 = tz := by have h := HTz.out; rw [hp] at h; exact h
          have hg0 : Ra.getD 0 ([], 0) = (Hz, tz) := by rw [hrr, ← hp1, ← hp2]; rfl
          have hra := Fra.out _ hBr
          obtain ⟨ga, hga, _, hgl, _⟩ := hra.addr hmp
          subst hga
          obtain ⟨Ax, nx, cx, x0, x1, hlx, hmx, slx⟩ := hra.cells (k := 0) hmp
          rw [hg0] at x1 hlx slx
          replace x0 : wk2.cell? ⟨ga, 0, none⟩ = some (.slice Ax nx cx) := by simpa using x0
          replace x1 : wk2.cell? ⟨ga, 1, none⟩ = some (.int .i64 tz) := by simpa using x1
          replace slx : Sl wk2 wk2.heap.size 3 Ax nx cx (flatHp Hz) := slx
          have HLX : Hid (Hz.length = nx) := hlx
          have y0 : wk2.cell? ⟨bxz, 0, none⟩ = some (.slice Az nz cz) := xz.cell 0
          have y1 : wk2.cell? ⟨bxz, 1, none⟩ = some (.int .i64 tz) := xz.cell 1
          have hbl := xz.lt
          have HQ1 := Lib.hid (fun (dd : Nat) (os : Array Obj) => sz.up (below_regrown wk2 dd os))
          have HQ2 := Lib.hid (fun (dd : Nat) (os : Array Obj) => slx.up (below_regrown wk2 dd os))
          have gp1 : decide (0 < ma) = true := decide_eq_true hmp
          have gp2 : decide ((0 : Int) < (ma : Int)) = true := decide_eq_true (by omega)
          have hmpI : (0 : Int) < (ma : Int) := by omega
          clear hp hh hrr hp1 hp2 hg0 hra hlx slx
          have q_x0 := fun d os => cell_regrown x0 d os
          have q_x1 := fun d os => cell_regrown x1 d os
          have q_y0 := fun d os => cell_regrown y0 d os
          have q_y1 := fun d os => cell_regrown y1 d os
          try simp only [List.append]
          first | refine wp_region_text_below ?_ | refine wp_region_quiet_below (by kernel_rfl) (by kernel_rfl) ?_
          repeat (go_big_quiet_step (((go_at_call 14; with_reducible exact Calls.regrown_of (psame_any Az Ax nz cz nx cx Hz Hz tz tz _ HNZ.out HLX.out (by omega) hmx (HQ1.out _ _) (HQ2.out _ _) true (by simp))))))
          refine wpQuiet_nil ?_
          intro _ hqw
          obtain ⟨pq, hqw⟩ := hqw
          subst hqw
          clear q_x0 q_x1 q_y0 q_y1
          have hbel := below_regrown wk2 pq.d pq.os
          have hB := HBA.out.trans ((hBr.trans (hbel.mono hBr.size)).mono HBA.out.size)
          clear hbel
          generalize grow (redrawn wk2 pq.d) pq.os = wq at *
          go_wp2_with fail
          go_ret
          exact ⟨rfl, hB⟩
theorem bestRises_walk (A : Option Addr) (n kk : Nat) (ns : List Int) (f : Int) (q : Int) (now : Int) (size : Int) (by_ : Int) (k : Int) (hnl : ns.length = n * 8) (_ : ∀ m ∈ ns, (Lit.int .i64 m).wf = true) (_ : (Lit.int .i64 f).wf = true) (_ : (Lit.int .i64 q).wf = true) (_ : (Lit.int .i64 now).wf = true) (_ : (Lit.int .i64 size).wf = true) (_ : (Lit.int .i64 by_).wf = true) (_ : (Lit.int .i64 k).wf = true) (w : World) (hl : Sl w w.heap.size 8 A n kk (ns.map (Value.int .i64))) :
    Calls Tryz.prog 4 #[.slice A n kk, .int .i64 f, .int .i64 q, .int .i64 now, .int .i64 size, .int .i64 by_, .int .i64 k] w fun e w' => e = .returned (.bool true) ∧ Below w.heap.size w w' := by
  obtain ⟨d, hd, hlf⟩ := rowsEd_of n ns hnl

  rw [hlf] at hl
  exact bestRises_w A n kk d f q now size by_ k w hd  hl 
theorem bestRises_own : ownKnob Tryz.prog.godebug = none := by kernel_rfl
theorem bestRises_laidOut : laidOutB Tryz.prog = true := by kernel_rfl

set_option maxHeartbeats 1000000 in
set_option maxRecDepth 100000 in
theorem bestRises_lifted (os : Os) (started : os.Started) (H : Type) (enc : TypeId × Value → H) :
    ReturnsInHanded {} Tryz.checked os 4 .any (Rows.bestRisesSpec.pre6 enc Tryz.prog Tryz.f4 Rows.bestRisesRow.domain false) (Rows.bestRisesSpec.post enc Tryz.prog Tryz.f4 false true false false) := by
  refine returnsInHanded_of_change (C := Tryz.checked) bestRises_own started (by kernel_rfl) Tryz.func4
    (ChangeSpec.witness6 (enc := enc) (C := Tryz.checked) false ⟨#[], #[.slice none 0 0, .int .i64 0, .int .i64 0, .int .i64 0, .int .i64 0, .int .i64 0, .int .i64 0], []⟩ 8 (by kernel_rfl) (by kernel_rfl) (by kernel_rfl) (by kernel_rfl)) ?_
  intro W base args ds gs before hval0 hW hcnd _
  have hval : ∀ (j : Nat) t v, Tryz.f4.params[j]? = some t → args[j]? = some v → Value.okWide Tryz.prog W .any base t v := hval0
  have hW' := hW
  obtain ⟨p, q, hA0, hV, rfl, hfz, hnd⟩ := hW
  have hA : DataW.TrodAll enc Tryz.prog W 0 (fun _ => true) true Tryz.f4.params.toList args.toList ds p := hA0
  rw [Tryz.params4] at hA hval
  obtain ⟨v0, vs0, d0, ds0, p0, q0, hargs, rfl, rfl, h0, r0⟩ := trodAll_cons hA
  obtain ⟨v1, vs1, d1, ds1, p1, q1, rfl, rfl, rfl, h1, r1⟩ := trodAll_cons r0
  obtain ⟨v2, vs2, d2, ds2, p2, q2, rfl, rfl, rfl, h2, r2⟩ := trodAll_cons r1
  obtain ⟨v3, vs3, d3, ds3, p3, q3, rfl, rfl, rfl, h3, r3⟩ := trodAll_cons r2
  obtain ⟨v4, vs4, d4, ds4, p4, q4, rfl, rfl, rfl, h4, r4⟩ := trodAll_cons r3
  obtain ⟨v5, vs5, d5, ds5, p5, q5, rfl, rfl, rfl, h5, r5⟩ := trodAll_cons r4
  obtain ⟨v6, vs6, d6, ds6, p6, q6, rfl, rfl, rfl, h6, r6⟩ := trodAll_cons r5
  obtain ⟨rfl, rfl, rfl⟩ := trodAll_nil r6
  obtain rfl : args = #[v0, v1, v2, v3, v4, v5, v6] := by cases args; simp_all
  obtain ⟨rfl, rfl⟩ := trodVars_none hV
  obtain ⟨A0, n0, c0, ns0, rfl, hl0, nl0, w0⟩ := open_rowsS 4 (K := 8) Tryz.underlying22 (by kernel_rfl) (by kernel_rfl) (by omega) (hval 0 22 v0 rfl rfl) h0
  obtain ⟨a1, rfl, rfl, rfl, w1⟩ := open_int Tryz.underlying3 (hval 1 3 v1 rfl rfl) h1
  obtain ⟨a2, rfl, rfl, rfl, w2⟩ := open_int Tryz.underlying3 (hval 2 3 v2 rfl rfl) h2
  obtain ⟨a3, rfl, rfl, rfl, w3⟩ := open_int Tryz.underlying3 (hval 3 3 v3 rfl rfl) h3
  obtain ⟨a4, rfl, rfl, rfl, w4⟩ := open_int Tryz.underlying3 (hval 4 3 v4 rfl rfl) h4
  obtain ⟨a5, rfl, rfl, rfl, w5⟩ := open_int Tryz.underlying3 (hval 5 3 v5 rfl rfl) h5
  obtain ⟨a6, rfl, rfl, rfl, w6⟩ := open_int Tryz.underlying3 (hval 6 3 v6 rfl rfl) h6
  clear hA0 hval0
  refine (bestRises_walk A0 n0 c0 ns0 a1 a2 a3 a4 a5 a6 nl0 w0 w1 w2 w3 w4 w5 w6 W hl0).mono fun e W' ⟨he, bel⟩ => ?_
  subst he
  exact ⟨_, rfl, law_post bestRises_laidOut (by kernel_rfl) rfl Tryz.underlying4 rfl rfl hW' bel⟩

theorem bestRises_proved : Rows.BestRisesSaid :=
  OpenClaim.holds_of_wide 4 Tryz.f4 rfl rfl rfl rfl rfl rfl rfl ⟨rfl, rfl, rfl, rfl, rfl⟩ rfl rfl rfl rfl rfl (by kernel_rfl) Tryz.func4 (by kernel_rfl)
    (of_decide_eq_true (by kernel_rfl)) (by unfold Func.isWrapper; first | (rw [if_pos (by decide +kernel)]; kernel_rfl) | (rw [if_neg (by decide +kernel)]; exact ⟨rfl, rfl⟩))
    (fun os started H enc _ => bestRises_lifted os started H enc)
#print axioms bestRises_proved
end Go.Proofs.YtkonkhblipbjcaaGreat
