/- What is sorted is in order, has one route of each place, and is sorted again the same: OrderSorts returns true. No condition. -/
import Derived.Test.YtbhhkaaidhapbaaRows
import Derived.Test.YtbhhkaaidhapbaaSmall13
import Derived.Test.YtbhhkaaidhapbaaOrdRead
namespace Go.Proofs.Ytbhhkaaidhapbaa
open Go.ChangeShapes Go.WideShapes Go.ChangeAt Go.RowKit Go.Sort
set_option linter.unusedSimpArgs false
set_option linter.unusedVariables false
set_option maxHeartbeats 8000000 in
set_option maxRecDepth 100000 in
theorem orderSorts_walk (A : Option Addr) (n c : Nat) (L : List Rx) (nl : L.length = n) (w : World) (hl : Sl w w.heap.size 2 A n c (flatRh (hdRx L))) (hr : ∀ x ∈ L, x.raw w) :
    Calls Try.prog 4 #[.slice A n c] w fun e w' => e = .returned (.bool true) ∧ Below w.heap.size w w' := by
  have HN := Lib.hid nl
  have HL := Lib.hid (fun w' (hb : Below w.heap.size w w') => hl.up hb)
  have HR := Lib.hid hr
  clear nl hl hr
  go_enter Try.func4, Try.ntmps4
  go_wp2_with fail
  refine (small13_any w).mono ?_
  rintro e w1 ⟨rfl, hB⟩
  go_wp2_with fail
  refine (few13_any A n c L w1 HN.out (HL.out _ hB)).mono ?_
  rintro e w2 ⟨b, rfl, hb, rfl⟩
  cases b
  · clear hb
    go_wp2
    go_ret
    exact ⟨rfl, hB⟩
  have HF := Lib.hid (hb rfl)
  have hn50 : n ≤ 50 := by have := HF.out.1; have := HN.out; omega
  have HOK := Lib.hid (few_ok HF.out HR.out)
  clear hb
  obtain ⟨T, hT⟩ : ∃ T, L.map Rx.rt = T := ⟨_, rfl⟩
  have HT := Lib.hid hT
  have HTN : Hid (T.length = n) := by rw [← HT.out, ← HN.out]; exact List.length_map ..
  clear hT
  obtain ⟨D, hD⟩ : ∃ D, compactT (sortT T) = D := ⟨_, rfl⟩
  have HD := Lib.hid hD
  have HDS : Hid (Ds T D) := by rw [← HD.out]; exact ds_sort T
  clear hD
  obtain ⟨kd, hkd⟩ : ∃ k, D.length = k := ⟨_, rfl⟩
  have hkd50 : kd ≤ 50 := by
    have := kpT_len (sortT T) (sortT T).length
    have h3 : (sortT T).length = T.length := sortT_len _
    have h4 : (kpT (sortT T) (sortT T).length).length = kd := by rw [← hkd, ← HD.out]; rfl
    have := HTN.out
    omega
  have HKD := Lib.hid hkd
  clear hkd
  have HRL : Hid (RL w2 (.slice A n c) T) := ⟨A, n, c, L, rfl, HN.out, HT.out, HL.out _ hB, fun x hx => (HOK.out x hx).below hB⟩
  go_wp2_with fail
  refine (sortV' HRL.out (by rw [HTN.out]; omega) D HD.out).mono ?_
  rintro e w4 ⟨v, rfl, hv, hb4⟩
  have HBA := Lib.hid (hB.trans (hb4.mono hB.size))
  obtain ⟨As, cs, rfl⟩ := hv.len HKD.out
  have HLT := Lib.hid (fun w' (hb : Below w4.heap.size w4 w') => (HRL.out.below hb4).below hb)
  have HST := Lib.hid (fun w' (hb : Below w4.heap.size w4 w') => hv.below hb)
  clear hb4 hv hB HRL HL HR HOK HF
  go_wp2
  go_loopw [6] (fun iv wr => ∃ i : Nat, iv = .int .i64 i ∧ 1 ≤ i ∧ (i ≤ kd ∨ i = 1) ∧ Below w4.heap.size w4 wr) (fun iv _ => kd - (intOf iv).toNat)
  case atStart => exact ⟨1, rfl, by omega, .inr rfl, Below.refl _ _⟩
  case round =>
    obtain ⟨i, rfl, hi1, hi, hB⟩ := hrel
    by_cases h1 : i < kd
    · have h1z : (i : Int) < (kd : Int) := by omega
      obtain ⟨j, hj⟩ : ∃ j, i = j + 1 := ⟨i - 1, by omega⟩
      obtain ⟨adx, Ax, nx, cx, hax, x0, x1, lx, mx, sx⟩ := (HST.out _ hB).cells (k := i) h1
      obtain ⟨x, hx⟩ : ∃ z, gT D i = z := ⟨_, rfl⟩
      rw [hx] at x1 lx sx
      obtain ⟨Hx, tx⟩ := x
      replace x1 : wr.cell? ⟨(adx.add (i * 2)).block, (adx.add (i * 2)).off + 1, none⟩ = some (.int .i64 tx) := x1
      replace sx : Sl wr wr.heap.size 3 Ax nx cx (flatHp Hx) := sx
      have Lx : Hid (Hx.length = nx) := lx
      have Vx := Lib.hid hx
      have Sx := Lib.hid (fun (dd : Nat) (os : Array Obj) => sx.up (below_regrown wr dd os))
      clear hx lx sx
      obtain ⟨ady, Ay, ny, cy, hay, y0, y1, ly, my, sy⟩ := (HST.out _ hB).cells (k := j) (by omega)
      obtain ⟨y, hy⟩ : ∃ z, gT D j = z := ⟨_, rfl⟩
      rw [hy] at y1 ly sy
      obtain ⟨Hy, ty⟩ := y
      replace y1 : wr.cell? ⟨(ady.add (j * 2)).block, (ady.add (j * 2)).off + 1, none⟩ = some (.int .i64 ty) := y1
      replace sy : Sl wr wr.heap.size 3 Ay ny cy (flatHp Hy) := sy
      have Ly : Hid (Hy.length = ny) := ly
      have Vy := Lib.hid hy
      have Sy := Lib.hid (fun (dd : Nat) (os : Array Obj) => sy.up (below_regrown wr dd os))
      clear hy ly sy
      have HZ : Hid (cmpR ty Hy tx Hx = -1) := by
        have h2 := srtT_ne HDS.out.srt (i := j) (j := i) (by rw [HKD.out]; omega) (by rw [HKD.out]; omega) (by omega)
        rw [← gT_get, ← gT_get, Vx.out, Vy.out] at h2
        exact cT_lt h2
      have hae : adx = ady := by rw [hax] at hay; injection hay
      subst hae
      subst hax
      have hji : (i : Int) - 1 = (j : Int) := by omega
      have hw1 : IntKind.i64.wrap ((i : Int) - 1) = (j : Int) := by rw [IntWalk.i64_in _ (by omega)]; omega
      have hjN : j < kd := by omega
      have hjI : (j : Int) < (kd : Int) := by omega
      clear hj hay
      go_wp2_with fail
      have q_x0 := fun d os => cell_regrown x0 d os
      have q_x1 := fun d os => cell_regrown x1 d os
      have q_y0 := fun d os => cell_regrown y0 d os
      have q_y1 := fun d os => cell_regrown y1 d os
      try simp only [List.append]
      first | refine wp_region_text_below ?_ | refine wp_region_quiet_below (by kernel_rfl) (by kernel_rfl) ?_
      repeat (go_big_quiet_step ((with_reducible exact Calls.regrown_of (ocmp_any Ay Ax ny cy nx cx Hy Hx ty tx _ Ly.out Lx.out my mx (Sy.out _ _) (Sx.out _ _) (-1) HZ.out))))
      refine wpQuiet_nil ?_
      intro _ hqw
      obtain ⟨pq, hqw⟩ := hqw
      subst hqw
      clear q_x0 q_x1 q_y0 q_y1
      replace hB := hB.trans ((below_regrown wr pq.d pq.os).mono hB.size)
      clear x0 x1 y0 y1 Sy Sx hji hw1 hjN hjI HZ
      generalize grow (redrawn wr pq.d) pq.os = wq at *
      go_wp2
      go_roundw
      case rel => exact ⟨i + 1, by go_num, by omega, .inl (by omega), hB⟩
      case measure => simp [intOf]; omega
    · have h1z : ¬ (i : Int) < (kd : Int) := by omega
      obtain ⟨wA, hwA⟩ : ∃ x, x = wr := ⟨_, rfl⟩
      subst hwA
      clear hi1 hi h1
      go_wp2
      clear h1z
      go_loopw [7, 8, 9] (fun iv nv kv wr => ∃ i : Nat, iv = .int .i64 i ∧ i ≤ n ∧ Below w4.heap.size w4 wr) (fun iv _ _ _ => n - (intOf iv).toNat)
      case atStart => exact ⟨0, rfl, by omega, hB⟩
      case round =>
        clear hB
        obtain ⟨i, rfl, hin, hB⟩ := hrel
        by_cases h1 : i < n
        · have h1z : (i : Int) < (n : Int) := by omega
          obtain ⟨wO, hwO⟩ : ∃ x, x = wr := ⟨_, rfl⟩
          subst hwO
          go_wp2
          go_loopw [8, 9] (fun nv kv wr => ∃ k m : Nat, kv = .int .i64 k ∧ nv = .int .i64 m ∧ k ≤ kd ∧ m ≤ k ∧ Hid ((D.take k).countP (fun y => decide (cT y (gT T i) = 0)) = m) ∧ Below w4.heap.size w4 wr) (fun _ kv _ => kd - (intOf kv).toNat)
          case atStart => exact ⟨0, 0, rfl, rfl, by omega, by omega, rfl, hB⟩
          case round =>
            clear hB
            obtain ⟨k, m, rfl, rfl, hk, hmk, HM, hB⟩ := hrel
            by_cases h2 : k < kd
            · have h2z : (k : Int) < (kd : Int) := by omega
              obtain ⟨adx, Ax, nx, cx, hax, x0, x1, lx, mx, sx⟩ := (HST.out _ hB).cells (k := k) h2
              obtain ⟨x, hx⟩ : ∃ z, gT D k = z := ⟨_, rfl⟩
              rw [hx] at x1 lx sx
              obtain ⟨Hx, tx⟩ := x
              replace x1 : wr.cell? ⟨(adx.add (k * 2)).block, (adx.add (k * 2)).off + 1, none⟩ = some (.int .i64 tx) := x1
              replace sx : Sl wr wr.heap.size 3 Ax nx cx (flatHp Hx) := sx
              have Lx : Hid (Hx.length = nx) := lx
              have Vx := Lib.hid hx
              have Sx := Lib.hid (fun (dd : Nat) (os : Array Obj) => sx.up (below_regrown wr dd os))
              clear hx lx sx
              obtain ⟨ady, Ay, ny, cy, hay, y0, y1, ly, my, sy⟩ := (HLT.out _ hB).cells (k := i) h1
              obtain ⟨y, hy⟩ : ∃ z, gT T i = z := ⟨_, rfl⟩
              rw [hy] at y1 ly sy
              obtain ⟨Hy, ty⟩ := y
              replace y1 : wr.cell? ⟨(ady.add (i * 2)).block, (ady.add (i * 2)).off + 1, none⟩ = some (.int .i64 ty) := y1
              replace sy : Sl wr wr.heap.size 3 Ay ny cy (flatHp Hy) := sy
              have Ly : Hid (Hy.length = ny) := ly
              have Vy := Lib.hid hy
              have Sy := Lib.hid (fun (dd : Nat) (os : Array Obj) => sy.up (below_regrown wr dd os))
              clear hy ly sy
              have hst : (D.take (k + 1)).countP (fun y => decide (cT y (gT T i) = 0)) = m + if cT (Hx, tx) (gT T i) = 0 then 1 else 0 := by
                rw [List.take_succ_eq_append_getElem (by rw [HKD.out]; exact h2), List.countP_append, HM.out, ← gT_get, Vx.out]
                by_cases hz : cT (Hx, tx) (gT T i) = 0
                · rw [if_pos hz, List.countP_cons_of_pos (by simp [hz])]; rfl
                · rw [if_neg hz, List.countP_cons_of_neg (by simp [hz])]; rfl
              have HSTP := Lib.hid hst
              clear hst
              subst hax
              subst hay
              by_cases hz0 : cmpR tx Hx ty Hy = 0
              · have HZ := Lib.hid hz0
                have HM2 : Hid ((D.take (k + 1)).countP (fun y => decide (cT y (gT T i) = 0)) = m + 1) := by show _ = _; rw [HSTP.out, Vy.out, if_pos (show cT (Hx, tx) (Hy, ty) = 0 from HZ.out)]
                clear hz0
                go_wp2_with fail
                have q_x0 := fun d os => cell_regrown x0 d os
                have q_x1 := fun d os => cell_regrown x1 d os
                have q_y0 := fun d os => cell_regrown y0 d os
                have q_y1 := fun d os => cell_regrown y1 d os
                try simp only [List.append]
                first | refine wp_region_text_below ?_ | refine wp_region_quiet_below (by kernel_rfl) (by kernel_rfl) ?_
                repeat (go_big_quiet_step ((with_reducible exact Calls.regrown_of (ocmp_any Ax Ay nx cx ny cy Hx Hy tx ty _ Lx.out Ly.out mx my (Sx.out _ _) (Sy.out _ _) 0 HZ.out))))
                refine wpQuiet_nil ?_
                intro _ hqw
                obtain ⟨pq, hqw⟩ := hqw
                subst hqw
                clear q_x0 q_x1 q_y0 q_y1
                replace hB := hB.trans ((below_regrown wr pq.d pq.os).mono hB.size)
                clear x0 x1 y0 y1 Sx Sy HZ HSTP
                generalize grow (redrawn wr pq.d) pq.os = wq at *
                go_wp2
                go_roundw
                case rel => exact ⟨k + 1, m + 1, by go_num, by go_num, by omega, by omega, HM2, hB⟩
                case measure => simp [intOf]; omega
              · obtain ⟨z, hz⟩ : ∃ z, cmpR tx Hx ty Hy = z := ⟨_, rfl⟩
                rw [hz] at hz0
                have HZ := Lib.hid hz
                have hzb : (z == 0) = false := beq_eq_false_iff_ne.2 hz0
                have HM2 : Hid ((D.take (k + 1)).countP (fun y => decide (cT y (gT T i) = 0)) = m) := by rw [HSTP.out, Vy.out, if_neg (show ¬ cT (Hx, tx) (Hy, ty) = 0 from fun e => hz0 (by rw [← hz]; exact e))]; rfl
                clear hz
                go_wp2_with fail
                have q_x0 := fun d os => cell_regrown x0 d os
                have q_x1 := fun d os => cell_regrown x1 d os
                have q_y0 := fun d os => cell_regrown y0 d os
                have q_y1 := fun d os => cell_regrown y1 d os
                try simp only [List.append]
                first | refine wp_region_text_below ?_ | refine wp_region_quiet_below (by kernel_rfl) (by kernel_rfl) ?_
                repeat (go_big_quiet_step ((with_reducible exact Calls.regrown_of (ocmp_any Ax Ay nx cx ny cy Hx Hy tx ty _ Lx.out Ly.out mx my (Sx.out _ _) (Sy.out _ _) z HZ.out))))
                refine wpQuiet_nil ?_
                intro _ hqw
                obtain ⟨pq, hqw⟩ := hqw
                subst hqw
                clear q_x0 q_x1 q_y0 q_y1
                replace hB := hB.trans ((below_regrown wr pq.d pq.os).mono hB.size)
                clear x0 x1 y0 y1 Sx Sy HZ HSTP
                generalize grow (redrawn wr pq.d) pq.os = wq at *
                go_wp2
                go_roundw
                case rel => exact ⟨k + 1, m, by go_num, by go_num, by omega, by omega, HM2, hB⟩
                case measure => simp [intOf]; omega
            · have h2z : ¬ (k : Int) < (kd : Int) := by omega
              have hm1 : m = 1 := by
                rw [← HM.out, List.take_of_length_le (by rw [HKD.out]; omega)]
                refine count_one HDS.out ?_
                rw [gT_get (by rw [HTN.out]; exact h1)]
                exact List.getElem_mem _
              subst hm1
              go_wp2
              go_roundw
              case rel => exact ⟨i + 1, by go_num, by omega, hB⟩
              case measure => simp [intOf]; omega
        · have h1z : ¬ (i : Int) < (n : Int) := by omega
          obtain ⟨wO, hwO⟩ : ∃ x, x = wr := ⟨_, rfl⟩
          subst hwO
          go_wp2
          clear h1z h1 hin
          go_loopw [10, 11, 12] (fun kv fv iv wr => ∃ k : Nat, kv = .int .i64 k ∧ k ≤ kd ∧ Below w4.heap.size w4 wr) (fun kv _ _ _ => kd - (intOf kv).toNat)
          case atStart => exact ⟨0, rfl, by omega, hB⟩
          case round =>
            clear hB
            obtain ⟨k, rfl, hk, hB⟩ := hrel
            by_cases h1 : k < kd
            · have h1z : (k : Int) < (kd : Int) := by omega
              obtain ⟨wP, hwP⟩ : ∃ x, x = wr := ⟨_, rfl⟩
              subst hwP
              go_wp2
              go_loopw [12] (fun iv wr => ∃ i : Nat, iv = .int .i64 i ∧ i ≤ n ∧ Hid (∀ j, j < i → cT (gT D k) (gT T j) ≠ 0) ∧ Below w4.heap.size w4 wr) (fun iv _ => n - (intOf iv).toNat)
              case atStart => exact ⟨0, rfl, by omega, fun j hj => by omega, hB⟩
              case round =>
                clear hB
                obtain ⟨i, rfl, hin, HNO, hB⟩ := hrel
                have hfst : Fst T (gT D k) := (HDS.out.mem _).1 (by rw [gT_get (by rw [HKD.out]; exact h1)]; exact List.getElem_mem _)
                by_cases h2 : i < n
                · have h2z : (i : Int) < (n : Int) := by omega
                  obtain ⟨adx, Ax, nx, cx, hax, x0, x1, lx, mx, sx⟩ := (HST.out _ hB).cells (k := k) h1
                  obtain ⟨x, hx⟩ : ∃ z, gT D k = z := ⟨_, rfl⟩
                  rw [hx] at x1 lx sx
                  obtain ⟨Hx, tx⟩ := x
                  replace x1 : wr.cell? ⟨(adx.add (k * 2)).block, (adx.add (k * 2)).off + 1, none⟩ = some (.int .i64 tx) := x1
                  replace sx : Sl wr wr.heap.size 3 Ax nx cx (flatHp Hx) := sx
                  have Lx : Hid (Hx.length = nx) := lx
                  have Vx := Lib.hid hx
                  have Sx := Lib.hid (fun (dd : Nat) (os : Array Obj) => sx.up (below_regrown wr dd os))
                  clear hx lx sx
                  obtain ⟨ady, Ay, ny, cy, hay, y0, y1, ly, my, sy⟩ := (HLT.out _ hB).cells (k := i) h2
                  obtain ⟨y, hy⟩ : ∃ z, gT T i = z := ⟨_, rfl⟩
                  rw [hy] at y1 ly sy
                  obtain ⟨Hy, ty⟩ := y
                  replace y1 : wr.cell? ⟨(ady.add (i * 2)).block, (ady.add (i * 2)).off + 1, none⟩ = some (.int .i64 ty) := y1
                  replace sy : Sl wr wr.heap.size 3 Ay ny cy (flatHp Hy) := sy
                  have Ly : Hid (Hy.length = ny) := ly
                  have Vy := Lib.hid hy
                  have Sy := Lib.hid (fun (dd : Nat) (os : Array Obj) => sy.up (below_regrown wr dd os))
                  clear hy ly sy
                  subst hax
                  subst hay
                  by_cases hz0 : cmpR tx Hx ty Hy = 0
                  · have hsm : (Hy, ty) = (Hx, tx) := by
                      have h3 := fst_at hfst (i := i) (by rw [HTN.out]; exact h2) (by rw [← gT_get, Vx.out, Vy.out]; exact hz0) (fun j hj => by rw [← gT_get]; exact HNO.out j hj)
                      rw [← gT_get, Vx.out, Vy.out] at h3
                      exact h3
                    have HZ := Lib.hid hz0
                    clear hz0 hfst
                    go_wp2_with fail
                    have q_x0 := fun d os => cell_regrown x0 d os
                    have q_x1 := fun d os => cell_regrown x1 d os
                    have q_y0 := fun d os => cell_regrown y0 d os
                    have q_y1 := fun d os => cell_regrown y1 d os
                    try simp only [List.append]
                    first | refine wp_region_text_below ?_ | refine wp_region_quiet_below (by kernel_rfl) (by kernel_rfl) ?_
                    repeat (go_big_quiet_step ((with_reducible exact Calls.regrown_of (ocmp_any Ax Ay nx cx ny cy Hx Hy tx ty _ Lx.out Ly.out mx my (Sx.out _ _) (Sy.out _ _) 0 HZ.out))))
                    refine wpQuiet_nil ?_
                    intro _ hqw
                    obtain ⟨pq, hqw⟩ := hqw
                    subst hqw
                    clear q_x0 q_x1 q_y0 q_y1
                    replace hB := hB.trans ((below_regrown wr pq.d pq.os).mono hB.size)
                    clear x0 x1 y0 y1 Sx Sy HZ Lx Ly mx my
                    generalize grow (redrawn wr pq.d) pq.os = wq at *
                    obtain ⟨adu, Au, nu, cu, hau, u0, u1, lu, mu, su⟩ := (HST.out _ hB).cells (k := k) h1
                    obtain ⟨u, hu⟩ : ∃ z, gT D k = z := ⟨_, rfl⟩
                    rw [hu] at u1 lu su
                    obtain ⟨Hu, tu⟩ := u
                    replace u1 : wq.cell? ⟨(adu.add (k * 2)).block, (adu.add (k * 2)).off + 1, none⟩ = some (.int .i64 tu) := u1
                    replace su : Sl wq wq.heap.size 3 Au nu cu (flatHp Hu) := su
                    have Lu : Hid (Hu.length = nu) := lu
                    have Vu := Lib.hid hu
                    have Su := Lib.hid (fun (dd : Nat) (os : Array Obj) => su.up (below_regrown wq dd os))
                    clear hu lu su
                    obtain ⟨adv, Av, nv, cv, hav, v0, v1, lv, mv, sv⟩ := (HLT.out _ hB).cells (k := i) h2
                    obtain ⟨v, hv⟩ : ∃ z, gT T i = z := ⟨_, rfl⟩
                    rw [hv] at v1 lv sv
                    obtain ⟨Hv, tv⟩ := v
                    replace v1 : wq.cell? ⟨(adv.add (i * 2)).block, (adv.add (i * 2)).off + 1, none⟩ = some (.int .i64 tv) := v1
                    replace sv : Sl wq wq.heap.size 3 Av nv cv (flatHp Hv) := sv
                    have Lv : Hid (Hv.length = nv) := lv
                    have Vv := Lib.hid hv
                    have Sv := Lib.hid (fun (dd : Nat) (os : Array Obj) => sv.up (below_regrown wq dd os))
                    clear hv lv sv
                    have hau := Option.some.inj hau
                    subst hau
                    have hav := Option.some.inj hav
                    subst hav
                    have hux : (Hu, tu) = (Hx, tx) := Vu.out.symm.trans Vx.out
                    have hvy : (Hv, tv) = (Hy, ty) := Vv.out.symm.trans Vy.out
                    have HE : Hid ((decide (tu = tv) && decide (Hu = Hv)) = true) := by
                      have h3 : (Hu, tu) = (Hv, tv) := hux.trans (hsm.symm.trans hvy.symm)
                      have h4 : Hu = Hv := congrArg Prod.fst h3
                      have h5 : tu = tv := congrArg Prod.snd h3
                      show (decide (tu = tv) && decide (Hu = Hv)) = true
                      rw [h4, h5]; simp
                    clear hux hvy hsm Vx Vy Vu Vv
                    go_wp2_with fail
                    have q_u0 := fun d os => cell_regrown u0 d os
                    have q_u1 := fun d os => cell_regrown u1 d os
                    have q_v0 := fun d os => cell_regrown v0 d os
                    have q_v1 := fun d os => cell_regrown v1 d os
                    try simp only [List.append]
                    first | refine wp_region_text_below ?_ | refine wp_region_quiet_below (by kernel_rfl) (by kernel_rfl) ?_
                    repeat (go_big_quiet_step ((with_reducible exact Calls.regrown_of (psame_any Au Av nu cu nv cv Hu Hv tu tv _ Lu.out Lv.out mu mv (Su.out _ _) (Sv.out _ _) true HE.out))))
                    refine wpQuiet_nil ?_
                    intro _ hqw
                    obtain ⟨pq, hqw⟩ := hqw
                    subst hqw
                    clear q_u0 q_u1 q_v0 q_v1
                    replace hB := hB.trans ((below_regrown wq pq.d pq.os).mono hB.size)
                    clear u0 u1 v0 v1 Su Sv HE
                    generalize grow (redrawn wq pq.d) pq.os = wz at *
                    go_wp2
                    go_roundw
                    case rel => exact ⟨k + 1, by go_num, by omega, hB⟩
                    case measure => simp [intOf]; omega
                  · obtain ⟨z, hz⟩ : ∃ z, cmpR tx Hx ty Hy = z := ⟨_, rfl⟩
                    rw [hz] at hz0
                    have HZ := Lib.hid hz
                    have hzb : (z == 0) = false := beq_eq_false_iff_ne.2 hz0
                    have HNO2 : Hid (∀ j, j < i + 1 → cT (gT D k) (gT T j) ≠ 0) := fun j hj => by
                      by_cases e : j = i
                      · rw [e, Vx.out, Vy.out]
                        exact fun e2 => hz0 (by rw [← HZ.out]; exact e2)
                      · exact HNO.out j (by omega)
                    clear hz hfst
                    go_wp2_with fail
                    have q_x0 := fun d os => cell_regrown x0 d os
                    have q_x1 := fun d os => cell_regrown x1 d os
                    have q_y0 := fun d os => cell_regrown y0 d os
                    have q_y1 := fun d os => cell_regrown y1 d os
                    try simp only [List.append]
                    first | refine wp_region_text_below ?_ | refine wp_region_quiet_below (by kernel_rfl) (by kernel_rfl) ?_
                    repeat (go_big_quiet_step ((with_reducible exact Calls.regrown_of (ocmp_any Ax Ay nx cx ny cy Hx Hy tx ty _ Lx.out Ly.out mx my (Sx.out _ _) (Sy.out _ _) z HZ.out))))
                    refine wpQuiet_nil ?_
                    intro _ hqw
                    obtain ⟨pq, hqw⟩ := hqw
                    subst hqw
                    clear q_x0 q_x1 q_y0 q_y1
                    replace hB := hB.trans ((below_regrown wr pq.d pq.os).mono hB.size)
                    clear x0 x1 y0 y1 Sx Sy HZ
                    generalize grow (redrawn wr pq.d) pq.os = wq at *
                    go_wp2
                    go_roundw
                    case rel => exact ⟨i + 1, by go_num, by omega, HNO2, hB⟩
                    case measure => simp [intOf]; omega
                · exfalso
                  have hm := hfst.mem
                  obtain ⟨j, hj, e⟩ := List.getElem_of_mem hm
                  have hj2 : j < i := by have := HTN.out; omega
                  refine HNO.out j hj2 ?_
                  rw [gT_get hj, e, cT_self]
            · have h1z : ¬ (k : Int) < (kd : Int) := by omega
              obtain ⟨wO, hwO⟩ : ∃ x, x = wr := ⟨_, rfl⟩
              subst hwO
              go_wp2_with fail
              refine (sortV' (HST.out _ hB) (by rw [HKD.out]; omega) D (sort_self HDS.out.srt)).mono ?_
              rintro e w5 ⟨v5, rfl, hv5, hb5⟩
              have hB5 := hB.trans (hb5.mono hB.size)
              have hst5 := HST.out _ hB5
              clear h1z h1 hk hb5 hB
              obtain ⟨A5, c5, rfl⟩ := hv5.len HKD.out
              go_wp2_with fail
              refine (sameV hv5 hst5 (by rw [HKD.out]; omega) (by rw [HKD.out]; omega) true (by simp)).mono ?_
              rintro e w6 ⟨rfl, hb6⟩
              go_wp2
              go_ret
              exact ⟨by simp, HBA.out.trans ((hB5.trans (hb6.mono hB5.size)).mono HBA.out.size)⟩
theorem orderSorts_own : ownKnob Try.prog.godebug = none := by kernel_rfl
theorem orderSorts_laidOut : laidOutB Try.prog = true := by kernel_rfl

set_option maxHeartbeats 1000000 in
set_option maxRecDepth 100000 in
theorem orderSorts_lifted (os : Os) (started : os.Started) (H : Type) (enc : TypeId × Value → H) :
    ReturnsInHanded {} Try.checked os 4 .any (Rows.orderSortsSpec.pre6 enc Try.prog Try.f4 Rows.orderSortsRow.domain false) (Rows.orderSortsSpec.post enc Try.prog Try.f4 false true false false) := by
  refine returnsInHanded_of_change (C := Try.checked) orderSorts_own started (by kernel_rfl) Try.func4
    (ChangeSpec.witness6 (enc := enc) (C := Try.checked) false ⟨#[], #[.slice none 0 0], []⟩ 8 (by kernel_rfl) (by kernel_rfl) (by kernel_rfl) (by kernel_rfl)) ?_
  intro W base args ds gs before hval0 hW hcnd _
  have hval : ∀ (j : Nat) t v, Try.f4.params[j]? = some t → args[j]? = some v → Value.okWide Try.prog W .any base t v := hval0
  have hW' := hW
  obtain ⟨p, q, hA0, hV, rfl, hfz, hnd⟩ := hW
  have hA : DataW.TrodAll enc Try.prog W 0 (fun _ => true) true Try.f4.params.toList args.toList ds p := hA0
  rw [Try.params4] at hA hval
  obtain ⟨v0, vs0, d0, ds0, p0, q0, hargs, rfl, rfl, h0, r0⟩ := trodAll_cons hA
  obtain ⟨rfl, rfl, rfl⟩ := trodAll_nil r0
  obtain rfl : args = #[v0] := by cases args; simp_all
  obtain ⟨rfl, rfl⟩ := trodVars_none hV
  obtain ⟨A0, n0, c0, L0, rfl, hl0, nl0, w0⟩ := open_routes 4 Try.underlying22 Try.underlying25 (by kernel_rfl) Try.underlying23 Try.underlying3 (by kernel_rfl) (by kernel_rfl) (hval 0 22 v0 rfl rfl) h0
  clear hA0 hval0
  refine (orderSorts_walk A0 n0 c0 L0 nl0 W hl0 w0).mono fun e W' ⟨he, bel⟩ => ?_
  subst he
  exact ⟨_, rfl, law_post orderSorts_laidOut (by kernel_rfl) rfl Try.underlying4 rfl rfl hW' bel⟩

theorem orderSorts_proved : Rows.OrderSortsSaid :=
  OpenClaim.holds_of_wide 4 Try.f4 rfl rfl rfl rfl rfl rfl rfl ⟨rfl, rfl, rfl, rfl, rfl⟩ rfl rfl rfl rfl rfl (by kernel_rfl) Try.func4 (by kernel_rfl)
    (of_decide_eq_true (by kernel_rfl)) (by unfold Func.isWrapper; first | (rw [if_pos (by decide +kernel)]; kernel_rfl) | (rw [if_neg (by decide +kernel)]; exact ⟨rfl, rfl⟩))
    (fun os started H enc _ => orderSorts_lifted os started H enc)
#print axioms orderSorts_proved
end Go.Proofs.Ytbhhkaaidhapbaa
