
/- The generic library's functions at 34-rows: Clone, Equal, Grow, Concat, IndexFunc, ContainsFunc, DeleteFunc. -/
import Derived.Test.YtfdphpmcgidmiaaTyEd
namespace Go.Proofs.Ytfdphpmcgidmiaa
open Go.ChangeShapes Go.WideShapes Go.ChangeAt Go.RowKit Go.Sort
set_option linter.unusedSimpArgs false
set_option linter.unusedVariables false
set_option maxHeartbeats 1000000 in
set_option maxRecDepth 100000 in
theorem equalEd (A A' : Option Addr) (n c n' c' : Nat) (d d' : List Ed) (w : World) (hd : d.length = n) (hd' : d'.length = n') (hn : n ≤ 1000000) (hn' : n' ≤ 1000000) (h : Sl w w.heap.size 8 A n c (flatEd d)) (h' : Sl w w.heap.size 8 A' n' c' (flatEd d')) :
    Calls Try.prog 45 #[.slice A n c, .slice A' n' c'] w fun e w' => e = .returned (.bool (decide (d = d'))) ∧ Below w.heap.size w w' := by
  by_cases hne : n = n'
  · subst hne
    have hz : ((n : Int) != (n : Int)) = false := by simp
    go_enter Try.func45, Try.ntmps45
    go_wp2
    go_loopw [13] (fun i wr => ∃ k : Nat, k ≤ n ∧ i = .int .i64 k ∧ Hid (∀ j, j < k → gEd d j = gEd d' j) ∧ Below w.heap.size w wr) (fun i _ => n - (intOf i).toNat)
    case atStart => exact ⟨0, by omega, rfl, (fun j hj => by omega), Below.refl _ _⟩
    case round =>
      obtain ⟨k, hk, rfl, HQ, hB⟩ := hrel
      by_cases hkn : k < n
      · obtain ⟨ad, rfl, hab, c0, c1, c2, c3, c4, c5, c6, c7⟩ := (h.below hB).lst.atEd hd hkn
        obtain ⟨ad', rfl, hab', e0, e1, e2, e3, e4, e5, e6, e7⟩ := (h'.below hB).lst.atEd hd' hkn
        generalize hx : gEd d k = x at *
        generalize hy : gEd d' k = y at *
        have HX := Lib.hid hx
        have HY := Lib.hid hy
        clear hx hy
        have hneq := neqEd x y
        go_wp2_with fail
        have q_c0 := fun d os => cell_regrown c0 d os
        have q_c1 := fun d os => cell_regrown c1 d os
        have q_c2 := fun d os => cell_regrown c2 d os
        have q_c3 := fun d os => cell_regrown c3 d os
        have q_c4 := fun d os => cell_regrown c4 d os
        have q_c5 := fun d os => cell_regrown c5 d os
        have q_c6 := fun d os => cell_regrown c6 d os
        have q_c7 := fun d os => cell_regrown c7 d os
        have q_e0 := fun d os => cell_regrown e0 d os
        have q_e1 := fun d os => cell_regrown e1 d os
        have q_e2 := fun d os => cell_regrown e2 d os
        have q_e3 := fun d os => cell_regrown e3 d os
        have q_e4 := fun d os => cell_regrown e4 d os
        have q_e5 := fun d os => cell_regrown e5 d os
        have q_e6 := fun d os => cell_regrown e6 d os
        have q_e7 := fun d os => cell_regrown e7 d os
        by_cases hxy : x = y
        · have HE := Lib.hid hxy
          have hrun : ∀ w0, (binOp .neq 34 (.agg #[.int .i64 x.id, .int .i64 x.fr, .int .i64 x.tn, .int .i64 x.op, .int .i64 x.en, .int .i64 x.ra, .int .i64 x.ow, .int .i64 x.ro]) (.agg #[.int .i64 y.id, .int .i64 y.fr, .int .i64 y.tn, .int .i64 y.op, .int .i64 y.en, .int .i64 y.ra, .int .i64 y.ow, .int .i64 y.ro])).run Try.prog w0 = .ok (.bool false) w0 := fun w0 => by rw [hneq]; simp [HE.out]
          clear hneq hxy
          try simp only [List.append]
          first | refine wp_region_text_below ?_ | refine wp_region_quiet_below (by kernel_rfl) (by kernel_rfl) ?_
          repeat (go_big_quiet_step ((fail)))
          refine wpQuiet_nil ?_
          intro _ hqw
          obtain ⟨pq, hqw⟩ := hqw
          subst hqw
          clear q_c0 q_c1 q_c2 q_c3 q_c4 q_c5 q_c6 q_c7 q_e0 q_e1 q_e2 q_e3 q_e4 q_e5 q_e6 q_e7
          have hbel := below_regrown wr pq.d pq.os
          have hB2 := hB.trans (hbel.mono hB.size)
          clear hbel c0 c1 c2 c3 c4 c5 c6 c7 e0 e1 e2 e3 e4 e5 e6 e7 hB hrun
          generalize grow (redrawn wr pq.d) pq.os = wq at *
          go_wp2
          go_roundw
          case rel => exact ⟨k + 1, by omega, by go_num, (fun j hj => by
            by_cases e : j = k
            · rw [e, HX.out, HY.out]; exact HE.out
            · exact HQ.out j (by omega)), hB2⟩
          case measure => simp [intOf]; omega
        · have hrun : ∀ w0, (binOp .neq 34 (.agg #[.int .i64 x.id, .int .i64 x.fr, .int .i64 x.tn, .int .i64 x.op, .int .i64 x.en, .int .i64 x.ra, .int .i64 x.ow, .int .i64 x.ro]) (.agg #[.int .i64 y.id, .int .i64 y.fr, .int .i64 y.tn, .int .i64 y.op, .int .i64 y.en, .int .i64 y.ra, .int .i64 y.ow, .int .i64 y.ro])).run Try.prog w0 = .ok (.bool true) w0 := fun w0 => by rw [hneq]; simp [hxy]
          have hfin : decide (d = d') = false := by
            rw [decide_eq_false_iff_not]
            intro e
            have e1 := HX.out
            rw [e, HY.out] at e1
            exact hxy e1.symm
          have HF := Lib.hid hfin
          clear hneq hxy hfin
          try simp only [List.append]
          first | refine wp_region_text_below ?_ | refine wp_region_quiet_below (by kernel_rfl) (by kernel_rfl) ?_
          repeat (go_big_quiet_step ((fail)))
          refine wpQuiet_nil ?_
          intro _ hqw
          obtain ⟨pq, hqw⟩ := hqw
          subst hqw
          clear q_c0 q_c1 q_c2 q_c3 q_c4 q_c5 q_c6 q_c7 q_e0 q_e1 q_e2 q_e3 q_e4 q_e5 q_e6 q_e7
          have hbel := below_regrown wr pq.d pq.os
          have hB2 := hB.trans (hbel.mono hB.size)
          clear hbel c0 c1 c2 c3 c4 c5 c6 c7 e0 e1 e2 e3 e4 e5 e6 e7 hB hrun
          generalize grow (redrawn wr pq.d) pq.os = wq at *
          go_wp2
          go_ret
          exact ⟨by rw [HF.out]; rfl, hB2⟩
      · obtain rfl : k = n := by omega
        have hfin : decide (d = d') = true := by
          rw [decide_eq_true_eq]
          exact extEd (by omega) (fun j hj => HQ.out j (by omega))
        have HF := Lib.hid hfin
        clear hfin
        go_wp2
        go_ret
        exact ⟨by rw [HF.out]; rfl, hB⟩
  · have hz : ((n : Int) != (n' : Int)) = true := by rw [bne_iff_ne]; omega
    go_enter Try.func45, Try.ntmps45
    go_wp2
    go_ret
    refine ⟨?_, Below.refl _ _⟩
    rw [decide_eq_false (show ¬ d = d' from fun e => by subst e; omega)]
    rfl
theorem noHitEd {d : List Ed} {p : Ed → Bool} (h : d.any p = false) {j : Nat} (hj : j < d.length) : p (gEd d j) = false := by
  have := List.any_eq_false.1 h _ (gEd_mem hj)
  simpa using this
theorem firstHitEd {d : List Ed} {p : Ed → Bool} (h : d.any p = true) : ∃ q, q < d.length ∧ (∀ j, j < q → p (gEd d j) = false) ∧ p (gEd d q) = true := by
  have hl : d.findIdx p < d.length := List.findIdx_lt_length.2 (by simpa using h)
  refine ⟨d.findIdx p, hl, fun j hj => ?_, ?_⟩
  · rw [gEd_eq (by omega)]
    have := List.not_of_lt_findIdx hj
    simpa using this
  · rw [gEd_eq hl]
    exact List.findIdx_getElem
/-- A function value that tells p, in whatever world that has grown from W but for this block. -/
structure PredEd (g : FuncId) (lb : Array Value) (row : Option Nat) (W : World) (p : Ed → Bool) : Prop where
  run : ∀ vals w, (callFunc g vals).run Try.prog w = .ok (.enter g vals) w
  tells : ∀ w', W.grownBy w' row → ∀ x : Ed, Calls Try.prog g (#[.agg #[.int .i64 x.id, .int .i64 x.fr, .int .i64 x.tn, .int .i64 x.op, .int .i64 x.en, .int .i64 x.ra, .int .i64 x.ow, .int .i64 x.ro]] ++ lb) w' fun e w'' => e = .returned (.bool (p x)) ∧ Below w'.heap.size w' w''
theorem PredEd.next {g : FuncId} {lb : Array Value} {row : Option Nat} {W W' : World} {p : Ed → Bool} (h : PredEd g lb row W p) (hg : W.grownBy W' row) : PredEd g lb row W' p := ⟨h.run, fun w' h' x => h.tells w' (grown_trans hg h') x⟩
theorem PredEd.below {g : FuncId} {lb : Array Value} {row : Option Nat} {W W' : World} {p : Ed → Bool} (h : PredEd g lb row W p) (hb : Below W.heap.size W W') : PredEd g lb row W' p := h.next (grown_of_below hb)
theorem filt_nextEd {d : List Ed} {p : Ed → Bool} {j : Nat} (hj : j < d.length) : (d.take (j + 1)).filter (fun x => !p x) = (d.take j).filter (fun x => !p x) ++ if p (gEd d j) = true then [] else [gEd d j] := by
  rw [take_nextEd hj, List.filter_append]
  congr 1
  cases h : p (gEd d j) <;> simp [List.filter_cons, h]
theorem filt_allEd {d : List Ed} {p : Ed → Bool} : ∀ q, q ≤ d.length → (∀ j, j < q → p (gEd d j) = false) → (d.take q).filter (fun x => !p x) = d.take q
  | 0, _, _ => by simp
  | q + 1, h, hl => by
    rw [filt_nextEd (by omega), filt_allEd q (by omega) (fun j hj => hl j (by omega)), if_neg (by rw [hl q (by omega)]; simp), ← take_nextEd (by omega)]
theorem filt_lenEd {d : List Ed} {p : Ed → Bool} (j : Nat) : ((d.take j).filter (fun x => !p x)).length ≤ j := by
  have h1 := List.length_filter_le (fun x => !p x) (d.take j)
  rw [List.length_take] at h1
  omega
theorem set_stepEd {e d : List Ed} {p : Ed → Bool} {i j n : Nat} (he : e.length = n) (hd : d.length = n) (hij : i < j) (hj : j < n) (h1 : e.take i = (d.take j).filter (fun x => !p x)) (h2 : e.drop j = d.drop j) (hp : p (gEd d j) = false) :
    (e.set i (gEd d j)).take (i + 1) = (d.take (j + 1)).filter (fun x => !p x) ∧ (e.set i (gEd d j)).drop (j + 1) = d.drop (j + 1) := by
  refine ⟨?_, ?_⟩
  · rw [filt_nextEd (by omega), if_neg (by rw [hp]; simp), ← h1]
    rw [List.take_succ_eq_append_getElem (by simp; omega), List.getElem_set_self, List.take_set_of_le (Nat.le_refl _)]
  · rw [List.drop_set_of_lt (by omega), ← List.drop_drop, ← List.drop_drop, h2]
theorem drop_atEd {e d : List Ed} {j : Nat} (he : e.length = d.length) (h : e.drop j = d.drop j) (hj : j < d.length) : gEd e j = gEd d j := by
  rw [gEd_eq (by omega), gEd_eq hj]
  have h1 : (e.drop j)[0]'(by simp; omega) = (d.drop j)[0]'(by simp; omega) := by simp [h]
  simpa using h1
/-- Lists, one behind the other. -/
def catEd (d : Nat → List Ed) : Nat → List Ed
  | 0 => []
  | k + 1 => catEd d k ++ d k
theorem catEd_le (d : Nat → List Ed) : ∀ {k m : Nat}, k ≤ m → (catEd d k).length ≤ (catEd d m).length
  | k, 0, h => by
    obtain rfl : k = 0 := by omega
    exact Nat.le_refl _
  | k, m + 1, h => by
    by_cases e : k = m + 1
    · subst e; exact Nat.le_refl _
    · have := catEd_le d (k := k) (m := m) (by omega)
      simp only [catEd, List.length_append]
      omega
/-- A function value that compares with t, as cf says, in whatever world that has grown from W. -/
structure CmpEd (g : FuncId) (lb : Array Value) (t : Ed) (W : World) (cf : Ed → Int) : Prop where
  run : ∀ vals w, (callFunc g vals).run Try.prog w = .ok (.enter g vals) w
  tells : ∀ w', Below W.heap.size W w' → ∀ x : Ed, Calls Try.prog g (#[.agg #[.int .i64 x.id, .int .i64 x.fr, .int .i64 x.tn, .int .i64 x.op, .int .i64 x.en, .int .i64 x.ra, .int .i64 x.ow, .int .i64 x.ro], .agg #[.int .i64 t.id, .int .i64 t.fr, .int .i64 t.tn, .int .i64 t.op, .int .i64 t.en, .int .i64 t.ra, .int .i64 t.ow, .int .i64 t.ro]] ++ lb) w' fun e w'' => e = .returned (.int .i64 (cf x)) ∧ Below w'.heap.size w' w''
end Go.Proofs.Ytfdphpmcgidmiaa
