/- The document's Same, of any two rows of routes. It makes new memory alone. No condition but on sizes. -/
import Derived.Test.YtbhhkaaidhapbaaO13b
namespace Go.Proofs.Ytbhhkaaidhapbaa
open Go.ChangeShapes Go.WideShapes Go.ChangeAt Go.RowKit Go.Sort
set_option linter.unusedSimpArgs false
set_option linter.unusedVariables false
set_option maxHeartbeats 16000000 in
set_option maxRecDepth 100000 in
theorem rsame13_all (A A' : Option Addr) (n n' c c' : Nat) (L L' : List Rx) (w : World) (hl : L.length = n) (hl' : L'.length = n') (hn : n ≤ 1000000) (hn' : n' ≤ 1000000) (h : Sl w w.heap.size 2 A n c (flatRh (hdRx L))) (h' : Sl w w.heap.size 2 A' n' c' (flatRh (hdRx L'))) (hok : ∀ x ∈ L, x.ok w) (hok' : ∀ x ∈ L', x.ok w) (bb : Bool) (he : decide (L.map Rx.rt = L'.map Rx.rt) = bb) :
    Calls Try.prog 15 #[.slice A n c, .slice A' n' c'] w fun e w' => e = .returned (.bool bb) ∧ Below w.heap.size w w' := by
  have HL := Lib.hid hl
  have HL' := Lib.hid hl'
  have HH := Lib.hid (fun w' (hb : Below w.heap.size w w') => h.up hb)
  have HH' := Lib.hid (fun w' (hb : Below w.heap.size w w') => h'.up hb)
  have HOK := Lib.hid hok
  have HOK' := Lib.hid hok'
  have HE := Lib.hid he
  clear hl hl' h h' hok hok' he
  by_cases hnn : n = n'
  · subst hnn
    go_enter Try.func15, Try.ntmps15
    go_wp2_with fail
    go_loopw [5] (fun iv wr => ∃ (i : Nat), iv = .int .i64 (i : Int) ∧ i ≤ n ∧ Hid (∀ j, j < i → (gRx L j).rt = (gRx L' j).rt) ∧ Below w.heap.size w wr) (fun iv _ => n - (intOf iv).toNat)
    case atStart => exact ⟨0, rfl, Nat.zero_le _, fun j hj => by omega, Below.refl _ _⟩
    case round =>
      obtain ⟨i, rfl, hi, HQ, hB⟩ := hrel
      by_cases hin : i < n
      · obtain ⟨ad, hA, hab, p0, p1⟩ := rl_cell HL.out (HH.out _ hB) hin
        obtain ⟨ae, hA', hae, r0, r1⟩ := rl_cell HL'.out (HH'.out _ hB) hin
        subst hA hA'
        obtain ⟨x, hx⟩ : ∃ x, gRx L i = x := ⟨_, rfl⟩
        obtain ⟨y, hy⟩ : ∃ y, gRx L' i = y := ⟨_, rfl⟩
        rw [hx] at p0 p1
        rw [hy] at r0 r1
        obtain ⟨x1, x2, x3⟩ := (HOK.out x (by rw [← hx]; exact gRx_mem (by rw [HL.out]; exact hin))).below hB
        obtain ⟨y1, y2, y3⟩ := (HOK'.out y (by rw [← hy]; exact gRx_mem (by rw [HL'.out]; exact hin))).below hB
        obtain ⟨⟨xA, xn, xc, xt⟩, xd⟩ := x
        obtain ⟨⟨yA, yn, yc, yt⟩, yd⟩ := y
        have HXLn : Hid (xd.length = xn) := x1
        have HYL : Hid (yd.length = yn) := y1
        have hxm : xn ≤ 1000000 := x2
        have hym : yn ≤ 1000000 := y2
        have s0 : wr.cell? (ad.add (i * 2)) = some (.slice xA xn xc) := p0
        have s1 : wr.cell? ⟨(ad.add (i * 2)).block, (ad.add (i * 2)).off + 1, none⟩ = some (.int .i64 xt) := p1
        have q0 : wr.cell? (ae.add (i * 2)) = some (.slice yA yn yc) := r0
        have q1 : wr.cell? ⟨(ae.add (i * 2)).block, (ae.add (i * 2)).off + 1, none⟩ = some (.int .i64 yt) := r1
        have HQX := Lib.hid (fun (dd : Nat) (os : Array Obj) => Sl.up (show Sl wr wr.heap.size 3 xA xn xc (flatHp xd) from x3) (below_regrown wr dd os))
        have HQY := Lib.hid (fun (dd : Nat) (os : Array Obj) => Sl.up (show Sl wr wr.heap.size 3 yA yn yc (flatHp yd) from y3) (below_regrown wr dd os))
        have HX := Lib.hid hx
        have HY := Lib.hid hy
        obtain ⟨r, hr⟩ : ∃ r, (decide (xt = yt) && decide (xd = yd)) = r := ⟨_, rfl⟩
        have HBB := Lib.hid hr
        have hiI : (i : Int) < (n : Int) := by omega
        have HBW := Lib.hid hB
        clear hx hy p0 p1 r0 r1 x1 x2 x3 y1 y2 y3 hB hr
        cases r
        · have HF : Hid (bb = false) := by
            rw [← HE.out]
            refine decide_eq_false fun e => ?_
            have h1 : (gRx L i).rt = (gRx L' i).rt := by rw [← gT_rt, ← gT_rt, e]
            rw [HX.out, HY.out] at h1
            have h3 := HBB.out
            have h4 : xd = yd := congrArg Prod.fst h1
            have h5 : xt = yt := congrArg Prod.snd h1
            rw [h4, h5] at h3
            simp at h3
          go_wp2_with fail
          have q_q0 := fun d os => cell_regrown q0 d os
          have q_q1 := fun d os => cell_regrown q1 d os
          have q_s0 := fun d os => cell_regrown s0 d os
          have q_s1 := fun d os => cell_regrown s1 d os
          try simp only [List.append]
          first | refine wp_region_text_below ?_ | refine wp_region_quiet_below (by kernel_rfl) (by kernel_rfl) ?_
          repeat (go_big_quiet_step (((go_at_call 28; with_reducible exact Calls.regrown_of (rsame12_any xA yA xn xc yn yc xd yd xt yt _ HXLn.out HYL.out hxm hym (HQX.out _ _) (HQY.out _ _) false HBB.out)))))
          refine wpQuiet_nil ?_
          intro _ hqw
          obtain ⟨pq, hqw⟩ := hqw
          subst hqw
          clear q_q0 q_q1 q_s0 q_s1
          have hbel := below_regrown wr pq.d pq.os
          have hBq := HBW.out.trans (hbel.mono HBW.out.size)
          clear q0 q1 s0 s1 HQX HQY hbel
          generalize grow (redrawn wr pq.d) pq.os = wq at *
          go_wp2_with fail
          go_ret
          exact ⟨by rw [HF.out]; rfl, hBq⟩
        · have HQ2 : Hid (∀ j, j < i + 1 → (gRx L j).rt = (gRx L' j).rt) := fun j hj => by
            by_cases e : j = i
            · rw [e, HX.out, HY.out]
              have h3 := HBB.out
              rw [Bool.and_eq_true, decide_eq_true_eq, decide_eq_true_eq] at h3
              show (xd, xt) = (yd, yt)
              rw [h3.1, h3.2]
            · exact HQ.out j (by omega)
          go_wp2_with fail
          have q_q0 := fun d os => cell_regrown q0 d os
          have q_q1 := fun d os => cell_regrown q1 d os
          have q_s0 := fun d os => cell_regrown s0 d os
          have q_s1 := fun d os => cell_regrown s1 d os
          try simp only [List.append]
          first | refine wp_region_text_below ?_ | refine wp_region_quiet_below (by kernel_rfl) (by kernel_rfl) ?_
          repeat (go_big_quiet_step (((go_at_call 28; with_reducible exact Calls.regrown_of (rsame12_any xA yA xn xc yn yc xd yd xt yt _ HXLn.out HYL.out hxm hym (HQX.out _ _) (HQY.out _ _) true HBB.out)))))
          refine wpQuiet_nil ?_
          intro _ hqw
          obtain ⟨pq, hqw⟩ := hqw
          subst hqw
          clear q_q0 q_q1 q_s0 q_s1
          have hbel := below_regrown wr pq.d pq.os
          have hBq := HBW.out.trans (hbel.mono HBW.out.size)
          clear q0 q1 s0 s1 HQX HQY hbel
          generalize grow (redrawn wr pq.d) pq.os = wq at *
          go_wp2_with fail
          go_roundw
          case rel => exact ⟨i + 1, by go_num, by omega, HQ2, hBq⟩
          case measure => simp [intOf]; omega
      · obtain rfl : i = n := by omega
        have HT : Hid (bb = true) := by
          rw [← HE.out]
          refine decide_eq_true (List.ext_getElem (by rw [List.length_map, List.length_map, HL.out, HL'.out]) fun j h1 h2 => ?_)
          have h3 := HQ.out j (by rw [List.length_map, HL.out] at h1; exact h1)
          rw [← gT_rt, ← gT_rt, gT_get h1, gT_get h2] at h3
          exact h3
        go_wp2_with fail
        go_ret
        exact ⟨by rw [HT.out]; rfl, hB⟩
  · have HF : Hid (bb = false) := by
      rw [← HE.out]
      refine decide_eq_false fun e => hnn ?_
      have := congrArg List.length e
      rw [List.length_map, List.length_map, HL.out, HL'.out] at this
      exact this
    have hz : ((n : Int) != (n' : Int)) = true := by simp; omega
    have hz2 : ¬ (n : Int) = (n' : Int) := by omega
    go_enter Try.func15, Try.ntmps15
    go_wp2_with fail
    go_ret
    exact ⟨by rw [HF.out]; rfl, Below.refl _ _⟩
theorem rsame13V {w : World} {u v : Value} {a b : List Rt} (hu : RL w u a) (hv : RL w v b) (ha : a.length ≤ 1000000) (hb : b.length ≤ 1000000) (z : Bool) (hz : decide (a = b) = z) : Calls Try.prog 15 #[u, v] w fun e w' => e = .returned (.bool z) ∧ Below w.heap.size w w' := by
  obtain ⟨A, n, c, L, rfl, h2, rfl, h4, h5⟩ := hu
  obtain ⟨A', n', c', L', rfl, k2, rfl, k4, k5⟩ := hv
  rw [List.length_map] at ha hb
  exact rsame13_all A A' n n' c c' L L' w h2 k2 (by omega) (by omega) h4 k4 h5 k5 z hz
end Go.Proofs.Ytbhhkaaidhapbaa
