/- The generic library's functions at 34-rows: Clone, Equal, Grow, Concat, IndexFunc, ContainsFunc, DeleteFunc. -/
import Derived.Test.YtbhhkaaidhapbaaTyHp
namespace Go.Proofs.Ytbhhkaaidhapbaa
open Go.ChangeShapes Go.WideShapes Go.ChangeAt Go.RowKit Go.Sort
set_option linter.unusedSimpArgs false
set_option linter.unusedVariables false
set_option maxRecDepth 100000 in
theorem cloneHp (A : Option Addr) (n c : Nat) (d : List Hp) (w : World) (hd : d.length = n) (hn : n ≤ 1000000) (h : Sl w w.heap.size 3 A n c (flatHp d)) :
    Calls Try.prog 35 #[.slice A n c] w fun e w' => ∃ v, e = .returned v ∧ w'.ownsRow w.heap.size 34 3 v n (flatHp d) ∧ Below w.heap.size w w' := by
  obtain ⟨i0, hi0, hz0, hz1, hz2⟩ := info_parts infoHp
  have hsl := fun (w : World) (a : Option Addr) (l c : Nat) => run_eql_slice_nil (P := Try.prog) w 23 34 a l c Try.underlying23
  cases A with
  | none =>
    obtain rfl : c = 0 := h.nil rfl
    obtain rfl : n = 0 := by have := h.cap; omega
    obtain rfl : d = [] := List.eq_nil_of_length_eq_zero hd
    go_enter Try.func35, Try.ntmps35
    go_wp2
    go_ret
    exact ⟨_, rfl, World.ownsRow_nil _ _ _ _, Below.refl _ _⟩
  | some ad =>
    go_enter Try.func35, Try.ntmps35
    go_wp2_with (first
      | (at_builtin
         refine wpList_append_lst _ rfl (.tmp 5) (.tmp 6) 23 rfl w.heap.size 34 i0 _ 3 24 Try.underlying23 hi0 hz0 hz1 hz2 rfl (by decide) (.slice (some ⟨w.heap.size, 0, none⟩) 0 0) 0 [] rfl (World.ownsRow_made w #[] 0 (Nat.le_refl _) (by simp) (by simp)) w.heap.size (some ad) n c (flatHp d) rfl (h.lst.below ((Below.refl _ _).alloc (Nat.le_refl _) _)) (flatHp_one _) (by unfold maxLen; omega) (by omega) (by simp) ?_
         intro v1 w1 hown hg hat))
    go_ret
    refine ⟨_, rfl, by simpa using hown, Below.grown ((Below.refl _ _).alloc (Nat.le_refl _) _) hg (by simp) (fun k hk => ?_)⟩
    simp [Value.ownBlock] at hk
    omega
set_option maxHeartbeats 1000000 in
set_option maxRecDepth 100000 in
theorem equalHp (A A' : Option Addr) (n c n' c' : Nat) (d d' : List Hp) (w : World) (hd : d.length = n) (hd' : d'.length = n') (hn : n ≤ 1000000) (hn' : n' ≤ 1000000) (h : Sl w w.heap.size 3 A n c (flatHp d)) (h' : Sl w w.heap.size 3 A' n' c' (flatHp d')) :
    Calls Try.prog 33 #[.slice A n c, .slice A' n' c'] w fun e w' => e = .returned (.bool (decide (d = d'))) ∧ Below w.heap.size w w' := by
  by_cases hne : n = n'
  · subst hne
    have hz : ((n : Int) != (n : Int)) = false := by simp
    go_enter Try.func33, Try.ntmps33
    go_wp2
    go_loopw [13] (fun i wr => ∃ k : Nat, k ≤ n ∧ i = .int .i64 k ∧ Hid (∀ j, j < k → gHp d j = gHp d' j) ∧ Below w.heap.size w wr) (fun i _ => n - (intOf i).toNat)
    case atStart => exact ⟨0, by omega, rfl, (fun j hj => by omega), Below.refl _ _⟩
    case round =>
      obtain ⟨k, hk, rfl, HQ, hB⟩ := hrel
      by_cases hkn : k < n
      · obtain ⟨ad, rfl, hab, c0, c1, c2⟩ := (h.below hB).lst.atHp hd hkn
        obtain ⟨ad', rfl, hab', e0, e1, e2⟩ := (h'.below hB).lst.atHp hd' hkn
        generalize hx : gHp d k = x at *
        generalize hy : gHp d' k = y at *
        have HX := Lib.hid hx
        have HY := Lib.hid hy
        clear hx hy
        have hneq := neqHp x y
        go_wp2_with fail
        have q_c0 := fun d os => cell_regrown c0 d os
        have q_c1 := fun d os => cell_regrown c1 d os
        have q_c2 := fun d os => cell_regrown c2 d os
        have q_e0 := fun d os => cell_regrown e0 d os
        have q_e1 := fun d os => cell_regrown e1 d os
        have q_e2 := fun d os => cell_regrown e2 d os
        by_cases hxy : x = y
        · have HE := Lib.hid hxy
          have hrun : ∀ w0, (binOp .neq 34 (.agg #[.int .i64 x.id, .int .i64 x.se, .int .i64 x.ar]) (.agg #[.int .i64 y.id, .int .i64 y.se, .int .i64 y.ar])).run Try.prog w0 = .ok (.bool false) w0 := fun w0 => by rw [hneq]; simp [HE.out]
          clear hneq hxy
          try simp only [List.append]
          first | refine wp_region_text_below ?_ | refine wp_region_quiet_below (by kernel_rfl) (by kernel_rfl) ?_
          repeat (go_big_quiet_step ((fail)))
          refine wpQuiet_nil ?_
          intro _ hqw
          obtain ⟨pq, hqw⟩ := hqw
          subst hqw
          clear q_c0 q_c1 q_c2 q_e0 q_e1 q_e2
          have hbel := below_regrown wr pq.d pq.os
          have hB2 := hB.trans (hbel.mono hB.size)
          clear hbel c0 c1 c2 e0 e1 e2 hB hrun
          generalize grow (redrawn wr pq.d) pq.os = wq at *
          go_wp2
          go_roundw
          case rel => exact ⟨k + 1, by omega, by go_num, (fun j hj => by
            by_cases e : j = k
            · rw [e, HX.out, HY.out]; exact HE.out
            · exact HQ.out j (by omega)), hB2⟩
          case measure => simp [intOf]; omega
        · have hrun : ∀ w0, (binOp .neq 34 (.agg #[.int .i64 x.id, .int .i64 x.se, .int .i64 x.ar]) (.agg #[.int .i64 y.id, .int .i64 y.se, .int .i64 y.ar])).run Try.prog w0 = .ok (.bool true) w0 := fun w0 => by rw [hneq]; simp [hxy]
          have hfin : decide (d = d') = false := by
            rw [decide_eq_false_iff_not]
            intro e
            have e1 := HX.out
            rw [e, HY.out] at e1
            exact hxy e1.symm
          have HF := Lib.hid hfin
          clear hneq hxy hfin
          try simp only [List.append]
          first | refine wp_region_text_below ?_ | refine wp_region_quiet_below (by kernel_rfl) (by kernel_rfl) ?_
          repeat (go_big_quiet_step ((fail)))
          refine wpQuiet_nil ?_
          intro _ hqw
          obtain ⟨pq, hqw⟩ := hqw
          subst hqw
          clear q_c0 q_c1 q_c2 q_e0 q_e1 q_e2
          have hbel := below_regrown wr pq.d pq.os
          have hB2 := hB.trans (hbel.mono hB.size)
          clear hbel c0 c1 c2 e0 e1 e2 hB hrun
          generalize grow (redrawn wr pq.d) pq.os = wq at *
          go_wp2
          go_ret
          exact ⟨by rw [HF.out]; rfl, hB2⟩
      · obtain rfl : k = n := by omega
        have hfin : decide (d = d') = true := by
          rw [decide_eq_true_eq]
          exact extHp (by omega) (fun j hj => HQ.out j (by omega))
        have HF := Lib.hid hfin
        clear hfin
        go_wp2
        go_ret
        exact ⟨by rw [HF.out]; rfl, hB⟩
  · have hz : ((n : Int) != (n' : Int)) = true := by rw [bne_iff_ne]; omega
    go_enter Try.func33, Try.ntmps33
    go_wp2
    go_ret
    refine ⟨?_, Below.refl _ _⟩
    rw [decide_eq_false (show ¬ d = d' from fun e => by subst e; omega)]
    rfl
theorem noHitHp {d : List Hp} {p : Hp → Bool} (h : d.any p = false) {j : Nat} (hj : j < d.length) : p (gHp d j) = false := by
  have := List.any_eq_false.1 h _ (gHp_mem hj)
  simpa using this
theorem firstHitHp {d : List Hp} {p : Hp → Bool} (h : d.any p = true) : ∃ q, q < d.length ∧ (∀ j, j < q → p (gHp d j) = false) ∧ p (gHp d q) = true := by
  have hl : d.findIdx p < d.length := List.findIdx_lt_length.2 (by simpa using h)
  refine ⟨d.findIdx p, hl, fun j hj => ?_, ?_⟩
  · rw [gHp_eq (by omega)]
    have := List.not_of_lt_findIdx hj
    simpa using this
  · rw [gHp_eq hl]
    exact List.findIdx_getElem
/-- A function value that tells p, in whatever world that has grown from W but for this block. -/
structure PredHp (g : FuncId) (lb : Array Value) (row : Option Nat) (W : World) (p : Hp → Bool) : Prop where
  run : ∀ vals w, (callFunc g vals).run Try.prog w = .ok (.enter g vals) w
  tells : ∀ w', W.grownBy w' row → ∀ x : Hp, Calls Try.prog g (#[.agg #[.int .i64 x.id, .int .i64 x.se, .int .i64 x.ar]] ++ lb) w' fun e w'' => e = .returned (.bool (p x)) ∧ Below w'.heap.size w' w''
theorem PredHp.next {g : FuncId} {lb : Array Value} {row : Option Nat} {W W' : World} {p : Hp → Bool} (h : PredHp g lb row W p) (hg : W.grownBy W' row) : PredHp g lb row W' p := ⟨h.run, fun w' h' x => h.tells w' (grown_trans hg h') x⟩
theorem PredHp.below {g : FuncId} {lb : Array Value} {row : Option Nat} {W W' : World} {p : Hp → Bool} (h : PredHp g lb row W p) (hb : Below W.heap.size W W') : PredHp g lb row W' p := h.next (grown_of_below hb)
theorem filt_nextHp {d : List Hp} {p : Hp → Bool} {j : Nat} (hj : j < d.length) : (d.take (j + 1)).filter (fun x => !p x) = (d.take j).filter (fun x => !p x) ++ if p (gHp d j) = true then [] else [gHp d j] := by
  rw [take_nextHp hj, List.filter_append]
  congr 1
  cases h : p (gHp d j) <;> simp [List.filter_cons, h]
theorem filt_allHp {d : List Hp} {p : Hp → Bool} : ∀ q, q ≤ d.length → (∀ j, j < q → p (gHp d j) = false) → (d.take q).filter (fun x => !p x) = d.take q
  | 0, _, _ => by simp
  | q + 1, h, hl => by
    rw [filt_nextHp (by omega), filt_allHp q (by omega) (fun j hj => hl j (by omega)), if_neg (by rw [hl q (by omega)]; simp), ← take_nextHp (by omega)]
theorem filt_lenHp {d : List Hp} {p : Hp → Bool} (j : Nat) : ((d.take j).filter (fun x => !p x)).length ≤ j := by
  have h1 := List.length_filter_le (fun x => !p x) (d.take j)
  rw [List.length_take] at h1
  omega
theorem set_stepHp {e d : List Hp} {p : Hp → Bool} {i j n : Nat} (he : e.length = n) (hd : d.length = n) (hij : i < j) (hj : j < n) (h1 : e.take i = (d.take j).filter (fun x => !p x)) (h2 : e.drop j = d.drop j) (hp : p (gHp d j) = false) :
    (e.set i (gHp d j)).take (i + 1) = (d.take (j + 1)).filter (fun x => !p x) ∧ (e.set i (gHp d j)).drop (j + 1) = d.drop (j + 1) := by
  refine ⟨?_, ?_⟩
  · rw [filt_nextHp (by omega), if_neg (by rw [hp]; simp), ← h1]
    rw [List.take_succ_eq_append_getElem (by simp; omega), List.getElem_set_self, List.take_set_of_le (Nat.le_refl _)]
  · rw [List.drop_set_of_lt (by omega), ← List.drop_drop, ← List.drop_drop, h2]
theorem drop_atHp {e d : List Hp} {j : Nat} (he : e.length = d.length) (h : e.drop j = d.drop j) (hj : j < d.length) : gHp e j = gHp d j := by
  rw [gHp_eq (by omega), gHp_eq hj]
  have h1 : (e.drop j)[0]'(by simp; omega) = (d.drop j)[0]'(by simp; omega) := by simp [h]
  simpa using h1
/-- Lists, one behind the other. -/
def catHp (d : Nat → List Hp) : Nat → List Hp
  | 0 => []
  | k + 1 => catHp d k ++ d k
theorem catHp_le (d : Nat → List Hp) : ∀ {k m : Nat}, k ≤ m → (catHp d k).length ≤ (catHp d m).length
  | k, 0, h => by
    obtain rfl : k = 0 := by omega
    exact Nat.le_refl _
  | k, m + 1, h => by
    by_cases e : k = m + 1
    · subst e; exact Nat.le_refl _
    · have := catHp_le d (k := k) (m := m) (by omega)
      simp only [catHp, List.length_append]
      omega
/-- A function value that compares with t, as cf says, in whatever world that has grown from W. -/
structure CmpHp (g : FuncId) (lb : Array Value) (t : Hp) (W : World) (cf : Hp → Int) : Prop where
  run : ∀ vals w, (callFunc g vals).run Try.prog w = .ok (.enter g vals) w
  tells : ∀ w', Below W.heap.size W w' → ∀ x : Hp, Calls Try.prog g (#[.agg #[.int .i64 x.id, .int .i64 x.se, .int .i64 x.ar], .agg #[.int .i64 t.id, .int .i64 t.se, .int .i64 t.ar]] ++ lb) w' fun e w'' => e = .returned (.int .i64 (cf x)) ∧ Below w'.heap.size w' w''
end Go.Proofs.Ytbhhkaaidhapbaa
