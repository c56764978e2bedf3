/- slices.CompactFunc by order.Sort's equality at routes, a row of the call's own. No condition but on sizes. -/
import Derived.Test.YtbhhkaaidhapbaaOrder6
namespace Go.Proofs.Ytbhhkaaidhapbaa
open Go.ChangeShapes Go.WideShapes Go.ChangeAt Go.RowKit Go.Sort
set_option linter.unusedSimpArgs false
set_option linter.unusedVariables false
def keepX (l : List Rx) (j : Nat) : Bool := !decide (cfX (gRx l j) (gRx l (j - 1)) = 0)
/-- Of the first ones: the first, and each that is not at one place with the one ahead. -/
def kpX (l : List Rx) : Nat → List Rx
  | 0 => []
  | j + 1 => kpX l j ++ if j = 0 ∨ keepX l j = true then [gRx l j] else []
def compactX (l : List Rx) : List Rx := kpX l l.length
theorem take_nextRx {l : List Rx} {k : Nat} (h : k < l.length) : l.take (k + 1) = l.take k ++ [gRx l k] := by
  rw [List.take_succ_eq_append_getElem h]
  unfold gRx
  rw [List.getD_eq_getElem?_getD, List.getElem?_eq_getElem h]; rfl
theorem kpX_all {l : List Rx} : ∀ k, k ≤ l.length → (∀ j, 0 < j → j < k → keepX l j = true) → kpX l k = l.take k
  | 0, _, _ => by simp [kpX]
  | k + 1, hk, h => by
    rw [kpX, kpX_all k (by omega) (fun j h1 h2 => h j h1 (by omega)), take_nextRx (by omega)]
    by_cases h0 : k = 0
    · rw [if_pos (.inl h0)]
    · rw [if_pos (.inr (h k (by omega) (by omega)))]
theorem kpX_mem {l : List Rx} : ∀ k, k ≤ l.length → ∀ x ∈ kpX l k, x ∈ l
  | 0, _, x, hx => by simp [kpX] at hx
  | k + 1, hk, x, hx => by
    rw [kpX, List.mem_append] at hx
    rcases hx with hx | hx
    · exact kpX_mem k (by omega) x hx
    · split at hx
      · simp at hx; subst hx; exact gRx_mem (by omega)
      · simp at hx
theorem kpX_len {l : List Rx} : ∀ k, (kpX l k).length ≤ k
  | 0 => by simp [kpX]
  | k + 1 => by
    rw [kpX, List.length_append]
    have := kpX_len (l := l) k
    split <;> simp <;> omega
theorem hd_take (l : List Rx) (k : Nat) : (flatRh (hdRx l)).take (k * 2) = flatRh (hdRx (l.take k)) := by rw [flatRh_take]; simp [hdRx]
theorem drop_atRx {e d : List Rx} {j i : Nat} (he : e.length = d.length) (h : e.drop j = d.drop j) (hj : j ≤ i) (hi : i < d.length) : gRx e i = gRx d i := by
  have h1 : (e.drop j)[i - j]? = (d.drop j)[i - j]? := by rw [h]
  rw [List.getElem?_drop, List.getElem?_drop, show j + (i - j) = i by omega] at h1
  unfold gRx
  rw [List.getD_eq_getElem?_getD, List.getD_eq_getElem?_getD, h1]
theorem drop_more {e d : List Rx} {a b : Nat} (h : e.drop a = d.drop a) (hab : a ≤ b) : e.drop b = d.drop b := by
  have := congrArg (List.drop (b - a)) h
  rwa [List.drop_drop, List.drop_drop, show a + (b - a) = b by omega] at this
theorem ownRx_at {w : World} {base : Nat} {g n c : Nat} {d : List Rx} (h : w.ownsRow base 25 2 (.slice (some ⟨g, 0, none⟩) n c) n (flatRh (hdRx d))) (hd : d.length = n) {k : Nat} (hk : k < n) : w.cell? ⟨g, k * 2, none⟩ = some (.slice (gRx d k).h.A (gRx d k).h.n (gRx d k).h.c) ∧ w.cell? ⟨g, k * 2 + 1, none⟩ = some (.int .i64 (gRx d k).h.t) := by
  have := ownRh_at h (by simp [hdRx, hd]) hk
  rw [gRx_hd (by omega)] at this
  exact this
theorem ownRx_store {w : World} {base : Nat} {g n c : Nat} {d : List Rx} (h : w.ownsRow base 25 2 (.slice (some ⟨g, 0, none⟩) n c) n (flatRh (hdRx d))) (i : Nat) (x : Rx) : ((w.setCell ⟨g, i * 2, none⟩ (.slice x.h.A x.h.n x.h.c)).setCell ⟨g, i * 2 + 1, none⟩ (.int .i64 x.h.t)).ownsRow base 25 2 (.slice (some ⟨g, 0, none⟩) n c) n (flatRh (hdRx (d.set i x))) ∧ w.grownBy ((w.setCell ⟨g, i * 2, none⟩ (.slice x.h.A x.h.n x.h.c)).setCell ⟨g, i * 2 + 1, none⟩ (.int .i64 x.h.t)) (some g) := by
  obtain ⟨r0, g0⟩ := h.stored (i * 2) (.slice x.h.A x.h.n x.h.c)
  obtain ⟨r1, g1⟩ := r0.stored (i * 2 + 1) (.int .i64 x.h.t)
  rw [flatRh_set] at r1
  refine ⟨?_, grown_trans g0 g1⟩
  have e : (hdRx d).set i x.h = hdRx (d.set i x) := by simp [hdRx, List.map_set]
  rw [← e]
  exact r1
theorem sort1_app (x y : Rx) (w : World) (hx : x.ok w) (hy : y.ok w) (b : Bool) (hb : decide (cfX x y = 0) = b) :
    Calls Try.prog 26 #[.agg #[.slice x.h.A x.h.n x.h.c, .int .i64 x.h.t], .agg #[.slice y.h.A y.h.n y.h.c, .int .i64 y.h.t]] w fun e w' => e = .returned (.bool b) ∧ Below w.heap.size w w' := by
  exact sort1_any x y w hx hy b hb
set_option maxHeartbeats 4000000 in
set_option maxRecDepth 100000 in
theorem compactRx (g0 c n : Nat) (l : List Rx) (w : World) (base : Nat) (hl : l.length = n) (hn : n ≤ 1000000) (hown : w.ownsRow base 25 2 (.slice (some ⟨g0, 0, none⟩) n c) n (flatRh (hdRx l))) (hok : ∀ x ∈ l, x.ok w ∧ x.off g0) :
    Calls Try.prog 25 #[.slice (some ⟨g0, 0, none⟩) n c, .func (.func 26) #[] #[]] w fun e w' => ∃ c', e = .returned (.slice (some ⟨g0, 0, none⟩) (compactX l).length c') ∧ w'.ownsRow base 25 2 (.slice (some ⟨g0, 0, none⟩) (compactX l).length c') (compactX l).length (flatRh (hdRx (compactX l))) ∧ w.grownBy w' (some g0) := by
  obtain ⟨i0, hi0, hz0, hz1, hz2⟩ := info_parts infoRh
  have hnc : n ≤ c ∧ c ≤ maxLen := by
    rcases hown.2 with ⟨h0, _⟩ | ⟨g2, cap, cur, e, _, _, h1, h2, _, _⟩
    · cases h0
    · injection e with e1 e2 e3; omega
  obtain ⟨hnc, hcm⟩ := hnc
  unfold maxLen at hcm
  have hgl := (hown.lt g0 rfl).2
  have hcf : ∀ vals w, (callFunc 26 vals).run Try.prog w = .ok (.enter 26 vals) w := enters_of Try.func26 (by kernel_rfl) rfl
  have HOK := Lib.hid hok
  have HL := Lib.hid hl
  clear hok
  by_cases hn2 : n < 2
  · have hc : compactX l = l := by
      unfold compactX
      rw [kpX_all l.length (Nat.le_refl _) (fun j h1 h2 => by omega), List.take_length]
    have hd : decide ((n : Int) < 2) = true := decide_eq_true (by omega)
    rw [hc, hl]
    clear hl hc
    go_enter Try.func25, Try.ntmps25
    go_wp2
    go_ret
    exact ⟨c, rfl, hown, grown_refl _ _⟩
  · have hd : decide ((n : Int) < 2) = false := decide_eq_false (by omega)
    clear hl
    go_enter Try.func25, Try.ntmps25
    go_wp2
    go_loopw [5] (fun i wr => ∃ q : Nat, q + 1 ≤ n ∧ i = .int .i64 ((q : Int) + 1) ∧ Hid (∀ j, 0 < j → j < q + 1 → keepX l j = true) ∧ Below w.heap.size w wr) (fun i _ => n - (intOf i).toNat)
    case atStart => exact ⟨0, by omega, rfl, (fun j h1 h2 => by omega), Below.refl _ _⟩
    case round =>
      obtain ⟨q, hq, rfl, HQ, hB⟩ := hrel
      have hs := hB.size
      have hownr := hown.kept (grown_of_below (row := none) hB) (.inr (by simp [Value.ownBlock]))
      by_cases hqn : q + 1 < n
      · have hdq : decide ((q : Int) + 1 < (n : Int)) = true := decide_eq_true (by omega)
        obtain ⟨a0, a1⟩ := ownRx_at hownr HL.out (k := q + 1) hqn
        obtain ⟨b0, b1⟩ := ownRx_at hownr HL.out (k := q) (by omega)
        have hxo := (HOK.out _ (gRx_mem (d := l) (i := q + 1) (by have := HL.out; omega))).1.below hB
        have hyo := (HOK.out _ (gRx_mem (d := l) (i := q) (by have := HL.out; omega))).1.below hB
        obtain ⟨r, hr⟩ : ∃ r, decide (cfX (gRx l (q + 1)) (gRx l q) = 0) = r := ⟨_, rfl⟩
        have hkp : keepX l (q + 1) = !r := by unfold keepX; rw [Nat.add_sub_cancel, hr]
        have HKP := Lib.hid hkp
        obtain ⟨x, hx⟩ : ∃ x, gRx l (q + 1) = x := ⟨_, rfl⟩
        obtain ⟨y, hy⟩ : ∃ y, gRx l q = y := ⟨_, rfl⟩
        rw [hx] at a0 a1 hxo hr
        rw [hy] at b0 b1 hyo hr
        have HX1 : Hid (∀ d os, x.ok (grow (redrawn wr d) os)) := fun d os => hxo.below (below_regrown wr d os)
        have HY1 : Hid (∀ d os, y.ok (grow (redrawn wr d) os)) := fun d os => hyo.below (below_regrown wr d os)
        have HR := Lib.hid hr
        clear hx hy hr hxo hyo hkp hownr
        cases r
        · go_wp2_with fail
          have q_a0 := fun d os => cell_regrown a0 d os
          have q_a1 := fun d os => cell_regrown a1 d os
          have q_b0 := fun d os => cell_regrown b0 d os
          have q_b1 := fun d os => cell_regrown b1 d os
          try simp only [List.append]
          first | refine wp_region_text_below ?_ | refine wp_region_quiet_below (by kernel_rfl) (by kernel_rfl) ?_
          repeat (go_big_quiet_step ((with_reducible exact Calls.regrown_of (sort1_app x y _ (HX1.out _ _) (HY1.out _ _) false HR.out))))
          refine wpQuiet_nil ?_
          intro _ hqw
          obtain ⟨pq, hqw⟩ := hqw
          subst hqw
          clear q_a0 q_a1 q_b0 q_b1
          have hB2 := hB.trans ((below_regrown wr pq.d pq.os).mono hs)
          have HQ2 : Hid (∀ j, 0 < j → j < q + 1 + 1 → keepX l j = true) := fun j h1 h2 => by
            by_cases e : j = q + 1
            · rw [e]; exact HKP.out
            · exact HQ.out j h1 (by omega)
          clear a0 a1 b0 b1 HX1 HY1 hB hs
          generalize grow (redrawn wr pq.d) pq.os = wq at *
          go_wp2
          go_roundw
          case rel => exact ⟨q + 1, by omega, by go_num, HQ2, hB2⟩
          case measure => simp [intOf]; omega
        · go_wp2_with fail
          have q_a0 := fun d os => cell_regrown a0 d os
          have q_a1 := fun d os => cell_regrown a1 d os
          have q_b0 := fun d os => cell_regrown b0 d os
          have q_b1 := fun d os => cell_regrown b1 d os
          try simp only [List.append]
          first | refine wp_region_text_below ?_ | refine wp_region_quiet_below (by kernel_rfl) (by kernel_rfl) ?_
          repeat (go_big_quiet_step ((with_reducible exact Calls.regrown_of (sort1_app x y _ (HX1.out _ _) (HY1.out _ _) true HR.out))))
          refine wpQuiet_nil ?_
          intro _ hqw
          obtain ⟨pq, hqw⟩ := hqw
          subst hqw
          clear q_a0 q_a1 q_b0 q_b1
          have hB2 := hB.trans ((below_regrown wr pq.d pq.os).mono hs)
          clear a0 a1 b0 b1 HX1 HY1 hB hs
          generalize grow (redrawn wr pq.d) pq.os = wq at *
          have hown2 := hown.kept (grown_of_below (row := none) hB2) (.inr (by simp [Value.ownBlock]))
          have hg2 : w.grownBy wq (some g0) := grown_of_below hB2
          have hck : ¬ c = q + 1 := by omega
          have hkI : (q : Int) + 1 ≤ (n : Int) := by omega
          have hkc : q + 1 ≤ c := by omega
          have hst : l.take (q + 1) = kpX l (q + 1 + 1) := by
            rw [kpX, kpX_all (q + 1) (by have := HL.out; omega) HQ.out, if_neg (by rw [HKP.out]; simp), List.append_nil]
          have HST := Lib.hid hst
          clear hst hB2 hown
          go_wp2
          go_loopw [5, 7] (fun iv jv wr => ∃ (i p : Nat) (e : List Rx), iv = .int .i64 i ∧ jv = .int .i64 ((p : Int) + 1) ∧ i ≤ q + 1 + p ∧ q + 1 + (p + 1) ≤ n ∧ Hid (e.length = n) ∧ Hid (e.take i = kpX l (q + 1 + (p + 1))) ∧ Hid (e.drop (q + 1 + p) = l.drop (q + 1 + p)) ∧ wr.ownsRow base 25 2 (.slice (some ⟨g0, 0, none⟩) n c) n (flatRh (hdRx e)) ∧ w.grownBy wr (some g0)) (fun _ jv _ => n - (intOf jv).toNat)
          case atStart => exact ⟨q + 1, 0, l, by go_num, by go_num, by omega, by omega, HL.out, HST.out, rfl, hown2, hg2⟩
          case round =>
            clear hown2 hg2 HST
            obtain ⟨i, p, e, rfl, rfl, hij, hjn, HE, HT, HD, hown, hg⟩ := hrel
            have hgw := (hown.lt g0 rfl).2
            by_cases hj : q + 1 + (p + 1) < n
            · have hj2 : p + 1 < n - (q + 1) := by omega
              have hj3 : (p : Int) + 1 < ((n - (q + 1) : Nat) : Int) := by omega
              have hj5 : decide ((p : Int) + 1 < ((n - (q + 1) : Nat) : Int)) = true := decide_eq_true hj3
              have hj4 : p < n - (q + 1) := by omega
              obtain ⟨a0, a1⟩ := ownRx_at hown HE.out (k := q + 1 + (p + 1)) hj
              obtain ⟨b0, b1⟩ := ownRx_at hown HE.out (k := q + 1 + p) (by omega)
              rw [drop_atRx (by rw [HE.out, HL.out]) HD.out (by omega) (by have := HL.out; omega), Nat.add_mul] at a0 a1
              rw [drop_atRx (by rw [HE.out, HL.out]) HD.out (by omega) (by have := HL.out; omega), Nat.add_mul] at b0 b1
              have hxo := (HOK.out _ (gRx_mem (d := l) (i := q + 1 + (p + 1)) (by have := HL.out; omega)))
              have hyo := (HOK.out _ (gRx_mem (d := l) (i := q + 1 + p) (by have := HL.out; omega)))
              have hxo := hxo.1.kept hg hxo.2
              have hyo := hyo.1.kept hg hyo.2
              obtain ⟨r, hr⟩ : ∃ r, decide (cfX (gRx l (q + 1 + (p + 1))) (gRx l (q + 1 + p)) = 0) = r := ⟨_, rfl⟩
              have hkp2 : keepX l (q + 1 + (p + 1)) = !r := by unfold keepX; rw [show q + 1 + (p + 1) - 1 = q + 1 + p by omega, hr]
              have hstep : kpX l (q + 1 + (p + 1) + 1) = kpX l (q + 1 + (p + 1)) ++ (if r = false then [gRx l (q + 1 + (p + 1))] else []) := by
                rw [kpX, hkp2]
                cases r
                · rw [if_pos (.inr rfl), if_pos rfl]
                · rw [if_neg (by simp), if_neg (by simp)]
              obtain ⟨x, hx⟩ : ∃ x, gRx l (q + 1 + (p + 1)) = x := ⟨_, rfl⟩
              obtain ⟨y, hy⟩ : ∃ y, gRx l (q + 1 + p) = y := ⟨_, rfl⟩
              rw [hx] at a0 a1 hxo hr hstep
              rw [hy] at b0 b1 hyo hr
              have HSP := Lib.hid hstep
              have HX1 : Hid (∀ d os, x.ok (grow (redrawn wr d) os)) := fun d os => hxo.below (below_regrown wr d os)
              have HY1 : Hid (∀ d os, y.ok (grow (redrawn wr d) os)) := fun d os => hyo.below (below_regrown wr d os)
              have HR2 := Lib.hid hr
              have hdr : e.drop (q + 1 + (p + 1)) = l.drop (q + 1 + (p + 1)) := drop_more HD.out (by omega)
              have HDR := Lib.hid hdr
              have HXX := Lib.hid hx
              clear hx hy hr hxo hyo hkp2 hstep hdr
              cases r
              · go_wp2_with fail
                have q_a0 := fun d os => cell_regrown a0 d os
                have q_a1 := fun d os => cell_regrown a1 d os
                have q_b0 := fun d os => cell_regrown b0 d os
                have q_b1 := fun d os => cell_regrown b1 d os
                try simp only [List.append]
                first | refine wp_region_text_below ?_ | refine wp_region_quiet_below (by kernel_rfl) (by kernel_rfl) ?_
                repeat (go_big_quiet_step ((with_reducible exact Calls.regrown_of (sort1_app x y _ (HX1.out _ _) (HY1.out _ _) false HR2.out))))
                refine wpQuiet_nil ?_
                intro _ hqw
                obtain ⟨pq, hqw⟩ := hqw
                subst hqw
                clear q_a0 q_a1 q_b0 q_b1
                have hbel := below_regrown wr pq.d pq.os
                have hown3 := hown.kept (grown_of_below (row := none) hbel) (.inr (by simp [Value.ownBlock]))
                have hg3 := grown_trans hg (grown_of_below (row := some g0) hbel)
                clear a0 a1 b0 b1 HX1 HY1 hbel hown hg
                generalize grow (redrawn wr pq.d) pq.os = wz at *
                obtain ⟨hS1, hS2⟩ := ownRx_store hown3 i x
                have hg4 := grown_trans hg3 hS2
                obtain ⟨o0, o1⟩ := ownRx_at hown3 HE.out (k := i) (by omega)
                have z0 := hown3.frozenAt (i * 2)
                have z1 := hown3.frozenAt (i * 2 + 1)
                have hin : i < n := by omega
                have hinI : (i : Int) < (n : Int) := by omega
                obtain ⟨a0, a1⟩ := ownRx_at hown3 HE.out (k := q + 1 + (p + 1)) hj
                have HE2 : Hid ((e.set i x).length = n) := by have := HE.out; show (e.set i x).length = n; simpa using this
                have HT2 : Hid ((e.set i x).take (i + 1) = kpX l (q + 1 + (p + 1 + 1))) := by
                  show _ = kpX l (q + 1 + (p + 1) + 1)
                  rw [HSP.out, ← HT.out]
                  show _ = e.take i ++ [x]
                  rw [List.take_succ_eq_append_getElem (by have := HE2.out; omega), List.take_set_of_le (Nat.le_refl _)]
                  simp
                have HD2 : Hid ((e.set i x).drop (q + 1 + (p + 1)) = l.drop (q + 1 + (p + 1))) := by
                  show _ = _
                  rw [List.drop_set_of_lt (by omega)]
                  exact HDR.out
                rw [drop_atRx (by rw [HE.out, HL.out]) HD.out (by omega) (by have := HL.out; omega), Nat.add_mul] at a0 a1
                rw [HXX.out] at a0 a1
                clear hown3 hg3 hS2
                go_wp2
                go_roundw
                case rel => exact ⟨i + 1, p + 1, e.set i x, by go_num, by go_num, by omega, by omega, HE2, HT2, HD2, hS1, hg4⟩
                case measure => simp [intOf]; omega
              · go_wp2_with fail
                have q_a0 := fun d os => cell_regrown a0 d os
                have q_a1 := fun d os => cell_regrown a1 d os
                have q_b0 := fun d os => cell_regrown b0 d os
                have q_b1 := fun d os => cell_regrown b1 d os
                try simp only [List.append]
                first | refine wp_region_text_below ?_ | refine wp_region_quiet_below (by kernel_rfl) (by kernel_rfl) ?_
                repeat (go_big_quiet_step ((with_reducible exact Calls.regrown_of (sort1_app x y _ (HX1.out _ _) (HY1.out _ _) true HR2.out))))
                refine wpQuiet_nil ?_
                intro _ hqw
                obtain ⟨pq, hqw⟩ := hqw
                subst hqw
                clear q_a0 q_a1 q_b0 q_b1
                have hbel := below_regrown wr pq.d pq.os
                have hown3 := hown.kept (grown_of_below (row := none) hbel) (.inr (by simp [Value.ownBlock]))
                have hg3 := grown_trans hg (grown_of_below (row := some g0) hbel)
                have HT2 : Hid (e.take i = kpX l (q + 1 + (p + 1 + 1))) := by
                  show _ = kpX l (q + 1 + (p + 1) + 1)
                  rw [HSP.out, HT.out, if_neg (by simp), List.append_nil]
                clear a0 a1 b0 b1 HX1 HY1 hbel hown hg
                generalize grow (redrawn wr pq.d) pq.os = wz at *
                go_wp2
                go_roundw
                case rel => exact ⟨i, p + 1, e, rfl, by go_num, by omega, by omega, HE.out, HT2, HDR.out, hown3, hg3⟩
                case measure => simp [intOf]; omega
            · have hjn2 : q + 1 + (p + 1) = n := by omega
              have hj2 : ¬ p + 1 < n - (q + 1) := by omega
              have hj3 : ¬ (p : Int) + 1 < ((n - (q + 1) : Nat) : Int) := by omega
              have hci : ¬ c = i := by omega
              have hiI : (i : Int) ≤ (n : Int) := by omega
              have hicI : (i : Int) ≤ (c : Int) := by omega
              have hfin : compactX l = e.take i := by
                unfold compactX
                rw [HL.out, ← hjn2]
                exact HT.out.symm
              have hlen : (compactX l).length = i := by rw [hfin, List.length_take, HE.out]; omega
              have HF := Lib.hid hfin
              have HLN := Lib.hid hlen
              clear hfin hlen
              go_wp2_with (first
                | (with_reducible refine wpList_clear_own rfl (.tmp 61) 22 rfl base 25 i0 _ 2 Try.underlying22 hi0 hz0 rfl (by simp [Value.oneCell', Value.cells]) g0 n c i (flatRh (hdRx e)) hown (by omega) (some ⟨g0, i * 2, none⟩) (c - i) rfl (.inl (by rw [Addr.add_lit, Nat.zero_add])) ?_
                   intro w2 ys hown2 htake hg2))
              go_ret
              rw [HLN.out]
              refine ⟨_, rfl, ?_, grown_trans hg hg2⟩
              have hc := own_cut hown2 (m := i) (by omega)
              rw [htake, hd_take, ← HF.out] at hc
              exact hc
      · obtain rfl : q + 1 = n := by omega
        have hc : compactX l = l := by
          unfold compactX
          rw [kpX_all l.length (Nat.le_refl _) (fun j h1 h2 => HQ.out j h1 (by have := HL.out; omega)), List.take_length]
        have HC := Lib.hid hc
        clear hc
        go_wp2
        go_ret
        rw [HC.out, HL.out]
        exact ⟨c, rfl, hownr, grown_of_below hB⟩
end Go.Proofs.Ytbhhkaaidhapbaa
