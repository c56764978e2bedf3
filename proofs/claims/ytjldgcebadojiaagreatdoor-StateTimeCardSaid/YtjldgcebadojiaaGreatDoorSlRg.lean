/- The generic library's functions at 36-rows: Clone, Equal, Grow, Concat, IndexFunc, ContainsFunc, DeleteFunc. -/
import Derived.Test.YtjldgcebadojiaaGreatDoorTyRg
namespace Go.Proofs.YtjldgcebadojiaaGreatDoor
open Go.ChangeShapes Go.WideShapes Go.ChangeAt Go.RowKit Go.Sort
set_option linter.unusedSimpArgs false
set_option linter.unusedVariables false
set_option maxRecDepth 100000 in
theorem cloneRg (A : Option Addr) (n c : Nat) (d : List Rg) (w : World) (hd : d.length = n) (hn : n ≤ 1000000) (h : Sl w w.heap.size 5 A n c (flatRg d)) :
    Calls Tryz.prog 113 #[.slice A n c] w fun e w' => ∃ v, e = .returned v ∧ w'.ownsRow w.heap.size 36 5 v n (flatRg d) ∧ Below w.heap.size w w' := by
  obtain ⟨i0, hi0, hz0, hz1, hz2⟩ := info_parts infoRg
  have hsl := fun (w : World) (a : Option Addr) (l c : Nat) => run_eql_slice_nil (P := Tryz.prog) w 23 36 a l c Tryz.underlying23
  cases A with
  | none =>
    obtain rfl : c = 0 := h.nil rfl
    obtain rfl : n = 0 := by have := h.cap; omega
    obtain rfl : d = [] := List.eq_nil_of_length_eq_zero hd
    go_enter Tryz.func113, Tryz.ntmps113
    go_wp2
    go_ret
    exact ⟨_, rfl, World.ownsRow_nil _ _ _ _, Below.refl _ _⟩
  | some ad =>
    go_enter Tryz.func113, Tryz.ntmps113
    go_wp2_with (first
      | (at_builtin
         refine wpList_append_lst _ rfl (.tmp 5) (.tmp 6) 23 rfl w.heap.size 36 i0 _ 5 40 Tryz.underlying23 hi0 hz0 hz1 hz2 rfl (by decide) (.slice (some ⟨w.heap.size, 0, none⟩) 0 0) 0 [] rfl (World.ownsRow_made w #[] 0 (Nat.le_refl _) (by simp) (by simp)) w.heap.size (some ad) n c (flatRg d) rfl (h.lst.below ((Below.refl _ _).alloc (Nat.le_refl _) _)) (flatRg_one _) (by unfold maxLen; omega) (by omega) (by simp) ?_
         intro v1 w1 hown hg hat))
    go_ret
    refine ⟨_, rfl, by simpa using hown, Below.grown ((Below.refl _ _).alloc (Nat.le_refl _) _) hg (by simp) (fun k hk => ?_)⟩
    simp [Value.ownBlock] at hk
    omega
set_option maxHeartbeats 1000000 in
set_option maxRecDepth 100000 in
theorem equalRg (A A' : Option Addr) (n c n' c' : Nat) (d d' : List Rg) (w : World) (hd : d.length = n) (hd' : d'.length = n') (hn : n ≤ 1000000) (hn' : n' ≤ 1000000) (h : Sl w w.heap.size 5 A n c (flatRg d)) (h' : Sl w w.heap.size 5 A' n' c' (flatRg d')) :
    Calls Tryz.prog 100 #[.slice A n c, .slice A' n' c'] w fun e w' => e = .returned (.bool (decide (d = d'))) ∧ Below w.heap.size w w' := by
  by_cases hne : n = n'
  · subst hne
    have hz : ((n : Int) != (n : Int)) = false := by simp
    go_enter Tryz.func100, Tryz.ntmps100
    go_wp2
    go_loopw [13] (fun i wr => ∃ k : Nat, k ≤ n ∧ i = .int .i64 k ∧ Hid (∀ j, j < k → gRg d j = gRg d' j) ∧ Below w.heap.size w wr) (fun i _ => n - (intOf i).toNat)
    case atStart => exact ⟨0, by omega, rfl, (fun j hj => by omega), Below.refl _ _⟩
    case round =>
      obtain ⟨k, hk, rfl, HQ, hB⟩ := hrel
      by_cases hkn : k < n
      · obtain ⟨ad, rfl, hab, c0, c1, c2, c3, c4⟩ := (h.below hB).lst.atRg hd hkn
        obtain ⟨ad', rfl, hab', e0, e1, e2, e3, e4⟩ := (h'.below hB).lst.atRg hd' hkn
        generalize hx : gRg d k = x at *
        generalize hy : gRg d' k = y at *
        have HX := Lib.hid hx
        have HY := Lib.hid hy
        clear hx hy
        have hneq := neqRg x y
        go_wp2_with fail
        have q_c0 := fun d os => cell_regrown c0 d os
        have q_c1 := fun d os => cell_regrown c1 d os
        have q_c2 := fun d os => cell_regrown c2 d os
        have q_c3 := fun d os => cell_regrown c3 d os
        have q_c4 := fun d os => cell_regrown c4 d os
        have q_e0 := fun d os => cell_regrown e0 d os
        have q_e1 := fun d os => cell_regrown e1 d os
        have q_e2 := fun d os => cell_regrown e2 d os
        have q_e3 := fun d os => cell_regrown e3 d os
        have q_e4 := fun d os => cell_regrown e4 d os
        by_cases hxy : x = y
        · have HE := Lib.hid hxy
          have hrun : ∀ w0, (binOp .neq 36 (.agg #[.int .i64 x.fr, .int .i64 x.tn, .int .i64 x.st, .int .i64 x.en, .int .i64 x.ow]) (.agg #[.int .i64 y.fr, .int .i64 y.tn, .int .i64 y.st, .int .i64 y.en, .int .i64 y.ow])).run Tryz.prog w0 = .ok (.bool false) w0 := fun w0 => by rw [hneq]; simp [HE.out]
          clear hneq hxy
          try simp only [List.append]
          first | refine wp_region_text_below ?_ | refine wp_region_quiet_below (by kernel_rfl) (by kernel_rfl) ?_
          repeat (go_big_quiet_step ((fail)))
          refine wpQuiet_nil ?_
          intro _ hqw
          obtain ⟨pq, hqw⟩ := hqw
          subst hqw
          clear q_c0 q_c1 q_c2 q_c3 q_c4 q_e0 q_e1 q_e2 q_e3 q_e4
          have hbel := below_regrown wr pq.d pq.os
          have hB2 := hB.trans (hbel.mono hB.size)
          clear hbel c0 c1 c2 c3 c4 e0 e1 e2 e3 e4 hB hrun
          generalize grow (redrawn wr pq.d) pq.os = wq at *
          go_wp2
          go_roundw
          case rel => exact ⟨k + 1, by omega, by go_num, (fun j hj => by
            by_cases e : j = k
            · rw [e, HX.out, HY.out]; exact HE.out
            · exact HQ.out j (by omega)), hB2⟩
          case measure => simp [intOf]; omega
        · have hrun : ∀ w0, (binOp .neq 36 (.agg #[.int .i64 x.fr, .int .i64 x.tn, .int .i64 x.st, .int .i64 x.en, .int .i64 x.ow]) (.agg #[.int .i64 y.fr, .int .i64 y.tn, .int .i64 y.st, .int .i64 y.en, .int .i64 y.ow])).run Tryz.prog w0 = .ok (.bool true) w0 := fun w0 => by rw [hneq]; simp [hxy]
          have hfin : decide (d = d') = false := by
            rw [decide_eq_false_iff_not]
            intro e
            have e1 := HX.out
            rw [e, HY.out] at e1
            exact hxy e1.symm
          have HF := Lib.hid hfin
          clear hneq hxy hfin
          try simp only [List.append]
          first | refine wp_region_text_below ?_ | refine wp_region_quiet_below (by kernel_rfl) (by kernel_rfl) ?_
          repeat (go_big_quiet_step ((fail)))
          refine wpQuiet_nil ?_
          intro _ hqw
          obtain ⟨pq, hqw⟩ := hqw
          subst hqw
          clear q_c0 q_c1 q_c2 q_c3 q_c4 q_e0 q_e1 q_e2 q_e3 q_e4
          have hbel := below_regrown wr pq.d pq.os
          have hB2 := hB.trans (hbel.mono hB.size)
          clear hbel c0 c1 c2 c3 c4 e0 e1 e2 e3 e4 hB hrun
          generalize grow (redrawn wr pq.d) pq.os = wq at *
          go_wp2
          go_ret
          exact ⟨by rw [HF.out]; rfl, hB2⟩
      · obtain rfl : k = n := by omega
        have hfin : decide (d = d') = true := by
          rw [decide_eq_true_eq]
          exact extRg (by omega) (fun j hj => HQ.out j (by omega))
        have HF := Lib.hid hfin
        clear hfin
        go_wp2
        go_ret
        exact ⟨by rw [HF.out]; rfl, hB⟩
  · have hz : ((n : Int) != (n' : Int)) = true := by rw [bne_iff_ne]; omega
    go_enter Tryz.func100, Tryz.ntmps100
    go_wp2
    go_ret
    refine ⟨?_, Below.refl _ _⟩
    rw [decide_eq_false (show ¬ d = d' from fun e => by subst e; omega)]
    rfl
set_option maxRecDepth 100000 in
theorem growRg (n : Nat) (w : World) (hn : n ≤ 1000000) :
    Calls Tryz.prog 252 #[.slice none 0 0, .int .i64 n] w fun e w' => ∃ v, e = .returned v ∧ w'.ownsRow w.heap.size 36 5 v 0 [] ∧ Below w.heap.size w w' := by
  obtain ⟨i0, hi0, hz0, hz1, hz2⟩ := info_parts infoRg
  by_cases h0 : n = 0
  · subst h0
    go_enter Tryz.func252, Tryz.ntmps252
    go_wp2
    go_ret
    exact ⟨_, rfl, World.ownsRow_nil _ _ _ _, Below.refl _ _⟩
  · have hp : 0 < n := by omega
    have hpi : (0 : Int) < (n : Int) := by omega
    go_enter Tryz.func252, Tryz.ntmps252
    go_wp2_with (first
      | (at_builtin
         refine wpList_append_made rfl (.tmp 20) (.tmp 21) 23 3 rfl 36 i0 _ 5 Tryz.underlying23 Tryz.underlying3 hi0 hz0 hz1 rfl n rfl rfl hp (by decide) (by omega) (by rw [hz2]; omega) ?_
         intro c1 w1 hown hB hc1))
    go_ret
    exact ⟨_, rfl, hown, hB⟩
theorem noHitRg {d : List Rg} {p : Rg → Bool} (h : d.any p = false) {j : Nat} (hj : j < d.length) : p (gRg d j) = false := by
  have := List.any_eq_false.1 h _ (gRg_mem hj)
  simpa using this
theorem firstHitRg {d : List Rg} {p : Rg → Bool} (h : d.any p = true) : ∃ q, q < d.length ∧ (∀ j, j < q → p (gRg d j) = false) ∧ p (gRg d q) = true := by
  have hl : d.findIdx p < d.length := List.findIdx_lt_length.2 (by simpa using h)
  refine ⟨d.findIdx p, hl, fun j hj => ?_, ?_⟩
  · rw [gRg_eq (by omega)]
    have := List.not_of_lt_findIdx hj
    simpa using this
  · rw [gRg_eq hl]
    exact List.findIdx_getElem
/-- A function value that tells p, in whatever world that has grown from W but for this block. -/
structure PredRg (g : FuncId) (lb : Array Value) (row : Option Nat) (W : World) (p : Rg → Bool) : Prop where
  run : ∀ vals w, (callFunc g vals).run Tryz.prog w = .ok (.enter g vals) w
  tells : ∀ w', W.grownBy w' row → ∀ x : Rg, Calls Tryz.prog g (#[.agg #[.int .i64 x.fr, .int .i64 x.tn, .int .i64 x.st, .int .i64 x.en, .int .i64 x.ow]] ++ lb) w' fun e w'' => e = .returned (.bool (p x)) ∧ Below w'.heap.size w' w''
theorem PredRg.next {g : FuncId} {lb : Array Value} {row : Option Nat} {W W' : World} {p : Rg → Bool} (h : PredRg g lb row W p) (hg : W.grownBy W' row) : PredRg g lb row W' p := ⟨h.run, fun w' h' x => h.tells w' (grown_trans hg h') x⟩
theorem PredRg.below {g : FuncId} {lb : Array Value} {row : Option Nat} {W W' : World} {p : Rg → Bool} (h : PredRg g lb row W p) (hb : Below W.heap.size W W') : PredRg g lb row W' p := h.next (grown_of_below hb)
set_option maxHeartbeats 1000000 in
set_option maxRecDepth 100000 in
theorem indexRg (A : Option Addr) (n c : Nat) (d : List Rg) (g : FuncId) (lb : Array Value) (row : Option Nat) (p : Rg → Bool) (w : World) (hd : d.length = n) (hn : n ≤ 1000000) (h : Sl w w.heap.size 5 A n c (flatRg d)) (hp : PredRg g lb row w p) (q : Nat) (hq : q ≤ n) (hlow : ∀ j, j < q → p (gRg d j) = false) (hhit : q < n → p (gRg d q) = true) :
    Calls Tryz.prog 130 #[.slice A n c, .func (.func g) #[] lb] w fun e w' => e = .returned (.int .i64 (idxOf q n)) ∧ Below w.heap.size w w' := by
  have HL := Lib.hid hlow
  have HH := Lib.hid hhit
  have HP := Lib.hid hp
  have hcf := hp.run
  clear hlow hhit hp
  go_enter Tryz.func130, Tryz.ntmps130
  go_wp2
  go_loopw [8] (fun i wr => ∃ k : Nat, k ≤ q ∧ i = .int .i64 k ∧ Below w.heap.size w wr) (fun i _ => n - (intOf i).toNat)
  case atStart => exact ⟨0, by omega, rfl, Below.refl _ _⟩
  case round =>
    obtain ⟨k, hk, rfl, hB⟩ := hrel
    by_cases hkn : k < n
    · obtain ⟨ad, rfl, hab, c0, c1, c2, c3, c4⟩ := (h.below hB).lst.atRg hd hkn
      have habw : ad.block < wr.heap.size := by have := hB.size; omega
      by_cases hkq : k < q
      · have hf := HL.out k hkq
        generalize hx : gRg d k = x at *
        have HF := Lib.hid hf
        clear hx hf
        go_wp2_with fail
        refine (HF.out ▸ (HP.out.below hB).tells wr (grown_refl _ _) x).mono ?_
        rintro e w1 ⟨rfl, hb1⟩
        have hB2 := hB.trans (hb1.mono hB.size)
        clear hb1 hB c0 c1 c2 c3 c4
        go_wp2
        go_roundw
        case rel => exact ⟨k + 1, by omega, by go_num, hB2⟩
        case measure => simp [intOf]; omega
      · obtain rfl : k = q := by omega
        have hf := HH.out hkn
        generalize hx : gRg d k = x at *
        have HF := Lib.hid hf
        clear hx hf
        go_wp2_with fail
        refine (HF.out ▸ (HP.out.below hB).tells wr (grown_refl _ _) x).mono ?_
        rintro e w1 ⟨rfl, hb1⟩
        have hB2 := hB.trans (hb1.mono hB.size)
        clear hb1 hB c0 c1 c2 c3 c4
        go_wp2
        go_ret
        exact ⟨by rw [idxOf_yes hkn]; rfl, hB2⟩
    · go_wp2
      go_ret
      exact ⟨by rw [idxOf_no (by omega)]; rfl, hB⟩
set_option maxRecDepth 100000 in
theorem containsRg (A : Option Addr) (n c : Nat) (d : List Rg) (g : FuncId) (lb : Array Value) (row : Option Nat) (p : Rg → Bool) (w : World) (hd : d.length = n) (hn : n ≤ 1000000) (h : Sl w w.heap.size 5 A n c (flatRg d)) (hp : PredRg g lb row w p) :
    Calls Tryz.prog 79 #[.slice A n c, .func (.func g) #[] lb] w fun e w' => e = .returned (.bool (d.any p)) ∧ Below w.heap.size w w' := by
  have HP := Lib.hid hp
  clear hp
  by_cases ha : d.any p = true
  · obtain ⟨q, hq, h1, h2⟩ := firstHitRg ha
    have hqi : (0 : Int) ≤ (q : Int) := by omega
    go_enter Tryz.func79, Tryz.ntmps79
    go_wp2_with fail
    refine (indexRg A n c d g lb row p w hd hn h HP.out q (by omega) h1 (fun _ => h2)).mono ?_
    rintro e w1 ⟨rfl, hB⟩
    rw [idxOf_yes (by omega : q < n)]
    go_wp2
    go_ret
    exact ⟨by rw [ha]; rfl, hB⟩
  · have ha' : d.any p = false := by simpa using ha
    go_enter Tryz.func79, Tryz.ntmps79
    go_wp2_with fail
    refine (indexRg A n c d g lb row p w hd hn h HP.out n (Nat.le_refl _) (fun j hj => noHitRg ha' (by omega)) (fun h => by omega)).mono ?_
    rintro e w1 ⟨rfl, hB⟩
    rw [idxOf_no (by omega : ¬ n < n)]
    go_wp2
    go_ret
    exact ⟨by rw [ha']; rfl, hB⟩
theorem filt_nextRg {d : List Rg} {p : Rg → Bool} {j : Nat} (hj : j < d.length) : (d.take (j + 1)).filter (fun x => !p x) = (d.take j).filter (fun x => !p x) ++ if p (gRg d j) = true then [] else [gRg d j] := by
  rw [take_nextRg hj, List.filter_append]
  congr 1
  cases h : p (gRg d j) <;> simp [List.filter_cons, h]
theorem filt_allRg {d : List Rg} {p : Rg → Bool} : ∀ q, q ≤ d.length → (∀ j, j < q → p (gRg d j) = false) → (d.take q).filter (fun x => !p x) = d.take q
  | 0, _, _ => by simp
  | q + 1, h, hl => by
    rw [filt_nextRg (by omega), filt_allRg q (by omega) (fun j hj => hl j (by omega)), if_neg (by rw [hl q (by omega)]; simp), ← take_nextRg (by omega)]
theorem set_stepRg {e d : List Rg} {p : Rg → Bool} {i j n : Nat} (he : e.length = n) (hd : d.length = n) (hij : i < j) (hj : j < n) (h1 : e.take i = (d.take j).filter (fun x => !p x)) (h2 : e.drop j = d.drop j) (hp : p (gRg d j) = false) :
    (e.set i (gRg d j)).take (i + 1) = (d.take (j + 1)).filter (fun x => !p x) ∧ (e.set i (gRg d j)).drop (j + 1) = d.drop (j + 1) := by
  refine ⟨?_, ?_⟩
  · rw [filt_nextRg (by omega), if_neg (by rw [hp]; simp), ← h1]
    rw [List.take_succ_eq_append_getElem (by simp; omega), List.getElem_set_self, List.take_set_of_le (Nat.le_refl _)]
  · rw [List.drop_set_of_lt (by omega), ← List.drop_drop, ← List.drop_drop, h2]
theorem drop_atRg {e d : List Rg} {j : Nat} (he : e.length = d.length) (h : e.drop j = d.drop j) (hj : j < d.length) : gRg e j = gRg d j := by
  rw [gRg_eq (by omega), gRg_eq hj]
  have h1 : (e.drop j)[0]'(by simp; omega) = (d.drop j)[0]'(by simp; omega) := by simp [h]
  simpa using h1
set_option maxHeartbeats 2000000 in
set_option maxRecDepth 100000 in
theorem deleteRg (v : Value) (n : Nat) (d : List Rg) (g : FuncId) (lb : Array Value) (p : Rg → Bool) (w : World) (base : Nat) (hd : d.length = n) (hn : n ≤ 1000000) (hown : w.ownsRow base 36 5 v n (flatRg d)) (hp : PredRg g lb v.ownBlock w p) :
    Calls Tryz.prog 188 #[v, .func (.func g) #[] lb] w fun e w' => ∃ v', e = .returned v' ∧ w'.ownsRow base 36 5 v' (d.filter (fun x => !p x)).length (flatRg (d.filter (fun x => !p x))) ∧ w.grownBy w' v.ownBlock := by
  by_cases ha : d.any p = true
  · obtain ⟨q, hq, h1, h2⟩ := firstHitRg ha
    obtain ⟨g0, c0, rfl, hnc, hcm, hgb, hgl⟩ := own_at hown (by omega)
    unfold maxLen at hcm
    obtain ⟨i0, hi0, hz0, hz1, hz2⟩ := info_parts infoRg
    have hqn : q < n := by omega
    have hcf := hp.run
    have hS := Sl.of_own hown
    have HP := Lib.hid hp
    have hpos : ((q : Int) == -1) = false := beq_eq_false_iff_ne.2 (by omega)
    have hst : (d.take (q + 1)).filter (fun x => !p x) = d.take q := by
      rw [filt_nextRg hq, filt_allRg q (by omega) h1, if_pos h2, List.append_nil]
    have HST := Lib.hid hst
    have HD := Lib.hid hd
    clear hp ha hst
    go_enter Tryz.func188, Tryz.ntmps188
    go_wp2_with fail
    refine (indexRg (some ⟨g0, 0, none⟩) n c0 d g lb _ p w HD.out hn hS HP.out q (by omega) h1 (fun _ => h2)).mono ?_
    rintro e w1 ⟨rfl, hB⟩
    rw [idxOf_yes hqn]
    have hown1 := hown.kept (grown_of_below (row := none) hB) (.inr (by simp [Value.ownBlock]))
    have hg1 : w.grownBy w1 (some g0) := grown_of_below hB
    clear hB hown hS h1 h2 hd
    go_wp2
    go_loopw [5, 6] (fun iv jv wr => ∃ (i j : Nat) (e : List Rg), iv = .int .i64 i ∧ jv = .int .i64 j ∧ i < j ∧ j ≤ n ∧ Hid (e.length = n) ∧ Hid (e.take i = (d.take j).filter (fun x => !p x)) ∧ Hid (e.drop j = d.drop j) ∧ wr.ownsRow base 36 5 (.slice (some ⟨g0, 0, none⟩) n c0) n (flatRg e) ∧ w.grownBy wr (some g0)) (fun _ jv _ => n - (intOf jv).toNat)
    case atStart => exact ⟨q, q + 1, d, rfl, by go_num, by omega, by omega, HD.out, HST.out.symm, rfl, hown1, hg1⟩
    case round =>
      clear hown1 hg1
      obtain ⟨i, j, e, rfl, rfl, hij, hjn, HE, HT, HR, hown, hg⟩ := hrel
      have hic : i < c0 := by omega
      by_cases hj : j < n
      · obtain ⟨c0, c1, c2, c3, c4⟩ := ownRg_at hown HE.out hj
        have hx0 : gRg e j = gRg d j := drop_atRg (by rw [HE.out, HD.out]) HR.out (by have := HD.out; omega)
        obtain ⟨x, hx⟩ : ∃ x, gRg d j = x := ⟨_, rfl⟩
        rw [hx0, hx] at c0 c1 c2 c3 c4
        have HX := Lib.hid hx
        clear hx hx0
        have hgw : g0 < wr.heap.size := by have := hg.size; omega
        go_wp2_with fail
        have hBa : Below wr.heap.size wr (wr.alloc (.cells #[.int .i64 x.fr, .int .i64 x.tn, .int .i64 x.st, .int .i64 x.en, .int .i64 x.ow] 36)) := (Below.refl _ _).alloc (Nat.le_refl _) _
        have hBlk := Blok.new wr 36 #[.int .i64 x.fr, .int .i64 x.tn, .int .i64 x.st, .int .i64 x.en, .int .i64 x.ow]
        have ht := (HP.out.next (grown_trans hg (grown_of_below (row := some g0) hBa))).tells _ (grown_refl _ _) x
        cases hpx : p x
        · have hgo := set_stepRg (p := p) HE.out HD.out hij hj HT.out HR.out (by rw [HX.out]; exact hpx)
          rw [HX.out] at hgo
          have HG := Lib.hid hgo
          rw [hpx] at ht
          have HPX := Lib.hid hpx
          clear hgo hpx
          refine ht.mono ?_
          rintro e1 w2 ⟨rfl, hb2⟩
          have hBlk2 := hBlk.below hb2 (by simp)
          have hb3 := hBa.trans (hb2.mono (by simp))
          have hown2 := hown.kept (grown_of_below (row := none) hb3) (.inr (by simp [Value.ownBlock]))
          have hg2 := grown_trans hg (grown_of_below (row := some g0) hb3)
          have b0 : w2.cell? ⟨wr.heap.size, 0, none⟩ = some (.int .i64 x.fr) := hBlk2.cell 0
          have b1 : w2.cell? ⟨wr.heap.size, 1, none⟩ = some (.int .i64 x.tn) := hBlk2.cell 1
          have b2 : w2.cell? ⟨wr.heap.size, 2, none⟩ = some (.int .i64 x.st) := hBlk2.cell 2
          have b3 : w2.cell? ⟨wr.heap.size, 3, none⟩ = some (.int .i64 x.en) := hBlk2.cell 3
          have b4 : w2.cell? ⟨wr.heap.size, 4, none⟩ = some (.int .i64 x.ow) := hBlk2.cell 4
          have z0 := hown2.frozenAt (i * 5)
          have z1 := hown2.frozenAt (i * 5 + 1)
          have z2 := hown2.frozenAt (i * 5 + 2)
          have z3 := hown2.frozenAt (i * 5 + 3)
          have z4 := hown2.frozenAt (i * 5 + 4)
          obtain ⟨hS1, hS2⟩ := ownRg_store hown2 i x
          clear ht hBlk hb2 hb3 hBa c0 c1 c2 c3 c4 hBlk2
          obtain ⟨o0, o1, o2, o3, o4⟩ := ownRg_at hown2 HE.out (k := i) (by omega)
          go_wp2
          go_roundw
          case rel => exact ⟨i + 1, j + 1, e.set i x, by go_num, by go_num, by omega, by omega, (Lib.hid (by have := HE.out; simpa using this)), HG.out.1, HG.out.2, hS1, grown_trans hg2 hS2⟩
          case measure => simp [intOf]; omega
        · rw [hpx] at ht
          have hfn : (d.take (j + 1)).filter (fun x => !p x) = (d.take j).filter (fun x => !p x) := by
            rw [filt_nextRg (by have := HD.out; omega), HX.out, if_pos hpx, List.append_nil]
          have HF := Lib.hid hfn
          clear hpx hfn
          refine ht.mono ?_
          rintro e1 w2 ⟨rfl, hb2⟩
          have hb3 := hBa.trans (hb2.mono (by simp))
          have hown2 := hown.kept (grown_of_below (row := none) hb3) (.inr (by simp [Value.ownBlock]))
          have hg2 := grown_trans hg (grown_of_below (row := some g0) hb3)
          have hdr : e.drop (j + 1) = d.drop (j + 1) := by
            rw [← List.drop_drop, ← List.drop_drop, HR.out]
          have HDR := Lib.hid hdr
          clear ht hBlk hb2 hb3 hBa c0 c1 c2 c3 c4 hdr
          go_wp2
          go_roundw
          case rel => exact ⟨i, j + 1, e, rfl, by go_num, by omega, by omega, HE.out, HT.out.trans HF.out.symm, HDR.out, hown2, hg2⟩
          case measure => simp [intOf]; omega
      · obtain rfl : j = n := by omega
        have hci : ¬ c0 = i := by omega
        have hiI : (i : Int) ≤ (j : Int) := by omega
        have hicI : (i : Int) ≤ (c0 : Int) := by omega
        have hfin : e.take i = d.filter (fun x => !p x) := by
          have := HT.out
          rw [List.take_of_length_le (l := d) (by have := HD.out; omega)] at this
          exact this
        have HFIN := Lib.hid hfin
        have hlen : (d.filter (fun x => !p x)).length = i := by
          rw [← hfin, List.length_take, HE.out]; omega
        have HLEN := Lib.hid hlen
        clear hfin hlen
        go_wp2_with (first
          | (with_reducible refine wpList_clear_own rfl (.tmp 38) 23 rfl base 36 i0 _ 5 Tryz.underlying23 hi0 hz0 rfl (by simp [Value.oneCell', Value.cells]) g0 j c0 i (flatRg e) hown (by omega) (some ⟨g0, i * 5, none⟩) (c0 - i) rfl (.inl (by rw [Addr.add_lit, Nat.zero_add])) ?_
             intro w2 ys hown2 htake hg2))
        go_ret
        refine ⟨_, rfl, ?_, grown_trans hg hg2⟩
        have hc := own_cut hown2 (m := i) (by omega)
        rw [htake, flatRg_take, HFIN.out] at hc
        rw [HLEN.out]
        exact hc
  · have ha' : d.any p = false := by simpa using ha
    obtain ⟨A, c, rfl⟩ := slice_of_own hown
    have hS := Sl.of_own hown
    have HP := Lib.hid hp
    have hcf := hp.run
    have hno : ((-1 : Int) == -1) = true := by simp
    have hfil : d.filter (fun x => !p x) = d := by
      have := filt_allRg (p := p) d.length (Nat.le_refl _) (fun j hj => noHitRg ha' hj)
      rw [List.take_length] at this
      exact this
    rw [hfil]
    have HD := Lib.hid hd
    clear hp ha hfil hd
    go_enter Tryz.func188, Tryz.ntmps188
    go_wp2_with fail
    refine (indexRg A n c d g lb _ p w HD.out hn hS HP.out n (Nat.le_refl _) (fun j hj => noHitRg ha' (by have := HD.out; omega)) (fun h => by omega)).mono ?_
    rintro e w1 ⟨rfl, hB⟩
    rw [idxOf_no (by omega : ¬ n < n)]
    go_wp2
    go_ret
    refine ⟨_, rfl, ?_, grown_of_below hB⟩
    rw [HD.out]
    exact hown.kept (grown_of_below (row := some w.heap.size) hB) (.inr (fun e => by have := (hown.lt _ e).2; omega))
/-- Lists, one behind the other. -/
def catRg (d : Nat → List Rg) : Nat → List Rg
  | 0 => []
  | k + 1 => catRg d k ++ d k
theorem catRg_le (d : Nat → List Rg) : ∀ {k m : Nat}, k ≤ m → (catRg d k).length ≤ (catRg d m).length
  | k, 0, h => by
    obtain rfl : k = 0 := by omega
    exact Nat.le_refl _
  | k, m + 1, h => by
    by_cases e : k = m + 1
    · subst e; exact Nat.le_refl _
    · have := catRg_le d (k := k) (m := m) (by omega)
      simp only [catRg, List.length_append]
      omega
set_option maxHeartbeats 1000000 in
set_option maxRecDepth 100000 in
theorem concatRg (gO m cO : Nat) (A : Nat → Option Addr) (n c : Nat → Nat) (d : Nat → List Rg) (w : World) (hm : m ≤ 1000) (hd : ∀ k, k < m → (d k).length = n k) (hn : (catRg d m).length ≤ 1000000) (hO : ∀ k, k < m → w.cell? ⟨gO, k, none⟩ = some (.slice (A k) (n k) (c k))) (h : ∀ k, k < m → Sl w w.heap.size 5 (A k) (n k) (c k) (flatRg (d k))) :
    Calls Tryz.prog 233 #[.slice (some ⟨gO, 0, none⟩) m cO] w fun e w' => ∃ v, e = .returned v ∧ w'.ownsRow w.heap.size 36 5 v (catRg d m).length (flatRg (catRg d m)) ∧ Below w.heap.size w w' := by
  obtain ⟨i0, hi0, hz0, hz1, hz2⟩ := info_parts infoRg
  have HO := Lib.hid hO
  have HD := Lib.hid hd
  clear hO hd
  go_enter Tryz.func233, Tryz.ntmps233
  go_wp2
  go_loop [3, 11] (fun s i => ∃ k : Nat, k ≤ m ∧ i = .int .i64 k ∧ s = .int .i64 (catRg d k).length) (fun _ i => m - (intOf i).toNat)
  case atStart => exact ⟨0, by omega, rfl, rfl⟩
  case round =>
    obtain ⟨k, hk, rfl, rfl⟩ := hrel
    have hle := catRg_le d hk
    by_cases hkm : k < m
    · have hle2 := catRg_le d (k := k + 1) (m := m) (by omega)
      have hO := HO.out k hkm
      have hlk : (catRg d (k + 1)).length = (catRg d k).length + n k := by simp only [catRg, List.length_append, HD.out k hkm]
      have HLK := Lib.hid hlk
      have hnk : n k ≤ 1000000 := by omega
      generalize hL : (catRg d k).length = L at *
      have HL := Lib.hid hL
      clear hlk hL
      go_wp2
      go_round
      case rel => exact ⟨k + 1, by omega, by go_num, by rw [HLK.out]; go_num⟩
      case measure => simp [intOf]; omega
    · obtain rfl : k = m := by omega
      generalize hL : (catRg d k).length = L at *
      have HL := Lib.hid hL
      clear hL
      go_wp2_with fail
      refine (growRg L w (by omega)).mono ?_
      rintro e w1 ⟨v, rfl, hown, hB⟩
      obtain ⟨A1, c1, rfl⟩ := slice_of_own hown
      go_wp2
      go_loopw [6, 27] (fun vv i wr => ∃ (q : Nat), q ≤ k ∧ i = .int .i64 q ∧ Below w.heap.size w wr ∧ wr.ownsRow w.heap.size 36 5 vv (catRg d q).length (flatRg (catRg d q))) (fun _ i _ => k - (intOf i).toNat)
      case atStart => exact ⟨0, by omega, rfl, hB, hown⟩
      case round =>
        clear hown hB
        rename Value => v0
        obtain ⟨q, hq, rfl, hB, hown⟩ := hrel
        have hle := catRg_le d hq
        by_cases hqk : q < k
        · have hO : _ := HO.out q hqk
          have hOw : ∀ wx, Below w.heap.size w wx → wx.cell? ⟨gO, q, none⟩ = some (.slice (A q) (n q) (c q)) := fun wx hb => by
            rw [hb.cell (World.block_lt_of_cell? w _ hO)]; exact hO
          have hOr := hOw _ hB
          have hle2 := catRg_le d (k := q + 1) (m := k) (by omega)
          have hlk : (catRg d (q + 1)).length = (catRg d q).length + n q := by simp only [catRg, List.length_append, HD.out q hqk]
          have hnq : (catRg d q).length + n q ≤ 1000000 := by have := HL.out; omega
          have HLK := Lib.hid hlk
          have hs := (h q hqk).below hB
          clear hlk hO hOw
          obtain ⟨A2, c2, rfl⟩ := slice_of_own hown
          have hob : ∀ g, (Value.slice A2 (catRg d q).length c2).ownBlock = some g → w.heap.size ≤ g := fun g hg => (hown.lt g hg).1
          have hsB := hB.size
          generalize hLq : (catRg d q).length = Lq at *
          generalize hNq : n q = Nq at *
          generalize hAq : A q = Aq at *
          generalize hcq : c q = cq at *
          have HAll := Lib.hid (And.intro hLq (And.intro hNq (And.intro hAq hcq)))
          clear hLq hNq hAq hcq
          go_wp2_with (first
            | (at_builtin
               refine wpList_append_lst _ rfl (.tmp 31) (.tmp 32) 23 rfl w.heap.size 36 i0 _ 5 40 Tryz.underlying23 hi0 hz0 hz1 hz2 rfl (by decide) (.slice A2 Lq c2) Lq (flatRg (catRg d q)) rfl hown w.heap.size Aq Nq cq (flatRg (d q)) rfl hs.lst (flatRg_one _) (by unfold maxLen; omega) (by omega) hsB ?_
               intro v4 w4 hown4 hg4 hat4))
          have hB4 : Below w.heap.size w w4 := Below.grown hB hg4 hsB hob
          have hown5 : w4.ownsRow w.heap.size 36 5 v4 (catRg d (q + 1)).length (flatRg (catRg d (q + 1))) := by
            rw [HLK.out]
            simp only [catRg, flatRg_append]
            exact hown4
          clear hown hown4 hg4 hat4 hOr hs hob hB
          go_wp2
          go_roundw
          case rel => exact ⟨q + 1, by omega, by go_num, hB4, hown5⟩
          case measure => simp [intOf]; omega
        · obtain rfl : q = k := by omega
          obtain ⟨A2, c2, rfl⟩ := slice_of_own hown
          go_wp2
          go_ret
          exact ⟨_, rfl, hown, hB⟩
/-- A function value that compares with t, as cf says, in whatever world that has grown from W. -/
structure CmpRg (g : FuncId) (lb : Array Value) (t : Rg) (W : World) (cf : Rg → Int) : Prop where
  run : ∀ vals w, (callFunc g vals).run Tryz.prog w = .ok (.enter g vals) w
  tells : ∀ w', Below W.heap.size W w' → ∀ x : Rg, Calls Tryz.prog g (#[.agg #[.int .i64 x.fr, .int .i64 x.tn, .int .i64 x.st, .int .i64 x.en, .int .i64 x.ow], .agg #[.int .i64 t.fr, .int .i64 t.tn, .int .i64 t.st, .int .i64 t.en, .int .i64 t.ow]] ++ lb) w' fun e w'' => e = .returned (.int .i64 (cf x)) ∧ Below w'.heap.size w' w''
set_option maxHeartbeats 1000000 in
set_option maxRecDepth 100000 in
theorem binaryRg (A : Option Addr) (n c : Nat) (d : List Rg) (t : Rg) (g : FuncId) (lb : Array Value) (cf : Rg → Int) (w : World) (hd : d.length = n) (hn : n ≤ 1000000) (h : Sl w w.heap.size 5 A n c (flatRg d)) (hp : CmpRg g lb t w cf) :
    Calls Tryz.prog 232 #[.slice A n c, .agg #[.int .i64 t.fr, .int .i64 t.tn, .int .i64 t.st, .int .i64 t.en, .int .i64 t.ow], .func (.func g) #[] lb] w fun e w' => ∃ (i : Nat) (b : Bool), e = .returned (.tuple #[.int .i64 i, .bool b]) ∧ i ≤ n ∧ (i = 0 ∨ cf (gRg d (i - 1)) < 0) ∧ (i = n ∨ 0 ≤ cf (gRg d i)) ∧ b = (decide (i < n) && cf (gRg d i) == 0) ∧ Below w.heap.size w w' := by
  have hcf := hp.run
  have HP := Lib.hid hp
  have HD := Lib.hid hd
  have hBa : Below w.heap.size w (w.alloc (.cells #[.int .i64 t.fr, .int .i64 t.tn, .int .i64 t.st, .int .i64 t.en, .int .i64 t.ow] 36)) := (Below.refl _ _).alloc (Nat.le_refl _) _
  have hX := Blok.new w 36 #[.int .i64 t.fr, .int .i64 t.tn, .int .i64 t.st, .int .i64 t.en, .int .i64 t.ow]
  clear hp hd
  go_enter Tryz.func232, Tryz.ntmps232
  go_wp2
  go_loopw [9, 10] (fun iv jv wr => ∃ i j : Nat, iv = .int .i64 i ∧ jv = .int .i64 j ∧ i ≤ j ∧ j ≤ n ∧ Hid (i = 0 ∨ cf (gRg d (i - 1)) < 0) ∧ Hid (j = n ∨ 0 ≤ cf (gRg d j)) ∧ Below w.heap.size w wr ∧ Blok wr w.heap.size 36 #[.int .i64 t.fr, .int .i64 t.tn, .int .i64 t.st, .int .i64 t.en, .int .i64 t.ow]) (fun iv jv _ => (intOf jv - intOf iv).toNat)
  case atStart => exact ⟨0, n, rfl, rfl, by omega, Nat.le_refl _, .inl rfl, .inl rfl, hBa, hX⟩
  case round =>
    clear hBa hX
    obtain ⟨i, j, rfl, rfl, hij, hjn, HI, HJ, hB, hX⟩ := hrel
    have hs := hB.size
    have t0 : wr.cell? ⟨w.heap.size, 0, none⟩ = some (.int .i64 t.fr) := hX.cell 0
    have t1 : wr.cell? ⟨w.heap.size, 1, none⟩ = some (.int .i64 t.tn) := hX.cell 1
    have t2 : wr.cell? ⟨w.heap.size, 2, none⟩ = some (.int .i64 t.st) := hX.cell 2
    have t3 : wr.cell? ⟨w.heap.size, 3, none⟩ = some (.int .i64 t.en) := hX.cell 3
    have t4 : wr.cell? ⟨w.heap.size, 4, none⟩ = some (.int .i64 t.ow) := hX.cell 4
    by_cases hlt : i < j
    · obtain ⟨m, hm⟩ : ∃ m : Nat, (i + j) / 2 = m := ⟨_, rfl⟩
      have hmi : ((i : Int) + (j : Int)) / 2 = (m : Int) := by omega
      have hm1 : i ≤ m := by omega
      have hm2 : m < j := by omega
      have HM := Lib.hid hmi
      clear hm hmi
      go_wp2
      rw [HM.out]
      obtain ⟨ad, rfl, hab, c0, c1, c2, c3, c4⟩ := (h.below hB).lst.atRg HD.out (k := m) (by omega)
      obtain ⟨x, hx⟩ : ∃ x, gRg d m = x := ⟨_, rfl⟩
      rw [hx] at c0 c1 c2 c3 c4
      have HX := Lib.hid hx
      clear hx
      have hmn : m < n := by omega
      have ht := fun w' (hb : Below wr.heap.size wr w') => HP.out.tells w' (hB.trans (hb.mono hs)) x
      go_wp2_with fail
      have q_t0 := fun d os => cell_regrown t0 d os
      have q_t1 := fun d os => cell_regrown t1 d os
      have q_t2 := fun d os => cell_regrown t2 d os
      have q_t3 := fun d os => cell_regrown t3 d os
      have q_t4 := fun d os => cell_regrown t4 d os
      have q_c0 := fun d os => cell_regrown c0 d os
      have q_c1 := fun d os => cell_regrown c1 d os
      have q_c2 := fun d os => cell_regrown c2 d os
      have q_c3 := fun d os => cell_regrown c3 d os
      have q_c4 := fun d os => cell_regrown c4 d os
      by_cases hneg : cf x < 0
      · generalize hy : cf x = y at *
        have HT := Lib.hid ht
        have HY := Lib.hid hy
        clear ht hy
        try simp only [List.append]
        first | refine wp_region_text_below ?_ | refine wp_region_quiet_below (by kernel_rfl) (by kernel_rfl) ?_
        repeat (go_big_quiet_step ((with_reducible exact Calls.regrown_of (HT.out _ (below_regrown _ _ _)))))
        refine wpQuiet_nil ?_
        intro _ hqw
        obtain ⟨pq, hqw⟩ := hqw
        subst hqw
        clear q_t0 q_t1 q_t2 q_t3 q_t4 q_c0 q_c1 q_c2 q_c3 q_c4
        have hbel := below_regrown wr pq.d pq.os
        replace hB := hB.trans (hbel.mono hs)
        replace hX := hX.below hbel hX.lt
        clear hbel t0 t1 t2 t3 t4 c0 c1 c2 c3 c4
        generalize grow (redrawn wr pq.d) pq.os = wq at *
        go_wp2
        go_roundw
        case rel => exact ⟨m + 1, j, by go_num, rfl, by omega, by omega, (.inr (by rw [Nat.add_sub_cancel, HX.out, HY.out]; exact hneg)), HJ, hB, hX⟩
        case measure => simp [intOf]; omega
      · generalize hy : cf x = y at *
        have HT := Lib.hid ht
        have HY := Lib.hid hy
        clear ht hy
        try simp only [List.append]
        first | refine wp_region_text_below ?_ | refine wp_region_quiet_below (by kernel_rfl) (by kernel_rfl) ?_
        repeat (go_big_quiet_step ((with_reducible exact Calls.regrown_of (HT.out _ (below_regrown _ _ _)))))
        refine wpQuiet_nil ?_
        intro _ hqw
        obtain ⟨pq, hqw⟩ := hqw
        subst hqw
        clear q_t0 q_t1 q_t2 q_t3 q_t4 q_c0 q_c1 q_c2 q_c3 q_c4
        have hbel := below_regrown wr pq.d pq.os
        replace hB := hB.trans (hbel.mono hs)
        replace hX := hX.below hbel hX.lt
        clear hbel t0 t1 t2 t3 t4 c0 c1 c2 c3 c4
        generalize grow (redrawn wr pq.d) pq.os = wq at *
        go_wp2
        go_roundw
        case rel => exact ⟨i, m, rfl, rfl, by omega, by omega, HI, (.inr (by rw [HX.out, HY.out]; omega)), hB, hX⟩
        case measure => simp [intOf]; omega
    · obtain rfl : i = j := by omega
      by_cases hin : i < n
      · obtain ⟨ad, rfl, hab, c0, c1, c2, c3, c4⟩ := (h.below hB).lst.atRg HD.out (k := i) (by omega)
        obtain ⟨x, hx⟩ : ∃ x, gRg d i = x := ⟨_, rfl⟩
        rw [hx] at c0 c1 c2 c3 c4
        have HX := Lib.hid hx
        clear hx
        have hini : (i : Int) < (n : Int) := by omega
        have ht := fun w' (hb : Below wr.heap.size wr w') => HP.out.tells w' (hB.trans (hb.mono hs)) x
        go_wp2
        have q_t0 := fun d os => cell_regrown t0 d os
        have q_t1 := fun d os => cell_regrown t1 d os
        have q_t2 := fun d os => cell_regrown t2 d os
        have q_t3 := fun d os => cell_regrown t3 d os
        have q_t4 := fun d os => cell_regrown t4 d os
        have q_c0 := fun d os => cell_regrown c0 d os
        have q_c1 := fun d os => cell_regrown c1 d os
        have q_c2 := fun d os => cell_regrown c2 d os
        have q_c3 := fun d os => cell_regrown c3 d os
        have q_c4 := fun d os => cell_regrown c4 d os
        generalize hy : cf x = y at *
        have HT := Lib.hid ht
        have HY := Lib.hid hy
        clear ht hy
        try simp only [List.append]
        first | refine wp_region_text_below ?_ | refine wp_region_quiet_below (by kernel_rfl) (by kernel_rfl) ?_
        repeat (go_big_quiet_step ((with_reducible exact Calls.regrown_of (HT.out _ (below_regrown _ _ _)))))
        refine wpQuiet_nil ?_
        intro _ hqw
        obtain ⟨pq, hqw⟩ := hqw
        subst hqw
        clear q_t0 q_t1 q_t2 q_t3 q_t4 q_c0 q_c1 q_c2 q_c3 q_c4
        have hbel := below_regrown wr pq.d pq.os
        replace hB := hB.trans (hbel.mono hs)
        replace hX := hX.below hbel hX.lt
        clear hbel t0 t1 t2 t3 t4 c0 c1 c2 c3 c4
        generalize grow (redrawn wr pq.d) pq.os = wq at *
        go_wp2
        go_ret2
        refine ⟨i, (y == 0), rfl, hjn, HI.out, HJ.out, ?_, hB⟩
        rw [HX.out, HY.out, decide_eq_true hin]; simp
      · have hdn : decide ((i : Int) < (n : Int)) = false := by simp; omega
        go_wp2
        try simp only [List.append]
        first | refine wp_region_text_below ?_ | refine wp_region_quiet_below (by kernel_rfl) (by kernel_rfl) ?_
        repeat (go_big_quiet_step ((fail)))
        refine wpQuiet_nil ?_
        intro _ hqw
        obtain ⟨pq, hqw⟩ := hqw
        subst hqw
        have hbel := below_regrown wr pq.d pq.os
        replace hB := hB.trans (hbel.mono hs)
        clear hbel t0 t1 t2 t3 t4
        generalize grow (redrawn wr pq.d) pq.os = wq at *
        go_wp2
        go_ret2
        refine ⟨i, false, rfl, hjn, HI.out, HJ.out, ?_, hB⟩
        rw [decide_eq_false hin]; simp
end Go.Proofs.YtjldgcebadojiaaGreatDoor
