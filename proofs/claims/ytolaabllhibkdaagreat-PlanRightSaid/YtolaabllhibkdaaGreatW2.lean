/- Contracts and plain facts, several texts of mine in one: SlCo, Check, Cmp, MapIB, Step, OpenS, OpenR, OpenP, MapV, Ints, Shelf, SortI, StCo, Contacts, Contacts2. No condition. -/
import Derived.Test.YtolaabllhibkdaaGreatW1
import Derived.Test.YtolaabllhibkdaaGreatChecked
import Derived.Maps.OwnOps
import Derived.Maps.Views
import Derived.ChangeSame
import Derived.Lib.SmallJoins
import Derived.Maps.OwnSet
import Derived.Shelf.Small.Bits
import Derived.Shelf.Small.Wraps
import Derived.Shelf.Strconv.Itoa0
import Derived.Shelf.Sort.Plain
import Derived.Ground.Names2Prog
import Derived.Shelf.Slices.SearchI
import Derived.Shelf.Slices.In.SortNone
import Derived.Test.YtolaabllhibkdaaGreatProg
import Derived.Sort.OwnSortedInts
import Derived.StillTailTactics
import Derived.Deep.RegionHeld3

/- The generic library's functions at 33-rows: Clone, Equal, Grow, Concat, IndexFunc, ContainsFunc, DeleteFunc. -/
namespace Go.Proofs.YtolaabllhibkdaaGreat
open Go.ChangeShapes Go.WideShapes Go.ChangeAt Go.RowKit Go.Sort
set_option linter.unusedSimpArgs false
set_option linter.unusedVariables false
set_option maxRecDepth 100000 in
theorem cloneCo (A : Option Addr) (n c : Nat) (d : List Co) (w : World) (hd : d.length = n) (hn : n ≤ 1000000) (h : Sl w w.heap.size 6 A n c (flatCo d)) :
    Calls Tryz.prog 45 #[.slice A n c] w fun e w' => ∃ v, e = .returned v ∧ w'.ownsRow w.heap.size 33 6 v n (flatCo d) ∧ Below w.heap.size w w' := by
  obtain ⟨i0, hi0, hz0, hz1, hz2⟩ := info_parts infoCo
  have hsl := fun (w : World) (a : Option Addr) (l c : Nat) => run_eql_slice_nil (P := Tryz.prog) w 22 33 a l c Tryz.underlying22
  cases A with
  | none =>
    obtain rfl : c = 0 := h.nil rfl
    obtain rfl : n = 0 := by have := h.cap; omega
    obtain rfl : d = [] := List.eq_nil_of_length_eq_zero hd
    go_enter Tryz.func45, Tryz.ntmps45
    go_wp2
    go_ret
    exact ⟨_, rfl, World.ownsRow_nil _ _ _ _, Below.refl _ _⟩
  | some ad =>
    go_enter Tryz.func45, Tryz.ntmps45
    go_wp2_with (first
      | (at_builtin
         refine wpList_append_lst _ rfl (.tmp 5) (.tmp 6) 22 rfl w.heap.size 33 i0 _ 6 48 Tryz.underlying22 hi0 hz0 hz1 hz2 rfl (by decide) (.slice (some ⟨w.heap.size, 0, none⟩) 0 0) 0 [] rfl (World.ownsRow_made w #[] 0 (Nat.le_refl _) (by simp) (by simp)) w.heap.size (some ad) n c (flatCo d) rfl (h.lst.below ((Below.refl _ _).alloc (Nat.le_refl _) _)) (flatCo_one _) (by unfold maxLen; omega) (by omega) (by simp) ?_
         intro v1 w1 hown hg hat))
    go_ret
    refine ⟨_, rfl, by simpa using hown, Below.grown ((Below.refl _ _).alloc (Nat.le_refl _) _) hg (by simp) (fun k hk => ?_)⟩
    simp [Value.ownBlock] at hk
    omega
set_option maxHeartbeats 1000000 in
set_option maxRecDepth 100000 in
theorem equalCo (A A' : Option Addr) (n c n' c' : Nat) (d d' : List Co) (w : World) (hd : d.length = n) (hd' : d'.length = n') (hn : n ≤ 1000000) (hn' : n' ≤ 1000000) (h : Sl w w.heap.size 6 A n c (flatCo d)) (h' : Sl w w.heap.size 6 A' n' c' (flatCo d')) :
    Calls Tryz.prog 60 #[.slice A n c, .slice A' n' c'] w fun e w' => e = .returned (.bool (decide (d = d'))) ∧ Below w.heap.size w w' := by
  by_cases hne : n = n'
  · subst hne
    have hz : ((n : Int) != (n : Int)) = false := by simp
    go_enter Tryz.func60, Tryz.ntmps60
    go_wp2
    go_loopw [13] (fun i wr => ∃ k : Nat, k ≤ n ∧ i = .int .i64 k ∧ Hid (∀ j, j < k → gCo d j = gCo d' j) ∧ Below w.heap.size w wr) (fun i _ => n - (intOf i).toNat)
    case atStart => exact ⟨0, by omega, rfl, (fun j hj => by omega), Below.refl _ _⟩
    case round =>
      obtain ⟨k, hk, rfl, HQ, hB⟩ := hrel
      by_cases hkn : k < n
      · obtain ⟨ad, rfl, hab, c0, c1, c2, c3, c4, c5⟩ := (h.below hB).lst.atCo hd hkn
        obtain ⟨ad', rfl, hab', e0, e1, e2, e3, e4, e5⟩ := (h'.below hB).lst.atCo hd' hkn
        generalize hx : gCo d k = x at *
        generalize hy : gCo d' k = y at *
        have HX := Lib.hid hx
        have HY := Lib.hid hy
        clear hx hy
        have hneq := neqCo x y
        go_wp2_with fail
        have q_c0 := fun d os => cell_regrown c0 d os
        have q_c1 := fun d os => cell_regrown c1 d os
        have q_c2 := fun d os => cell_regrown c2 d os
        have q_c3 := fun d os => cell_regrown c3 d os
        have q_c4 := fun d os => cell_regrown c4 d os
        have q_c5 := fun d os => cell_regrown c5 d os
        have q_e0 := fun d os => cell_regrown e0 d os
        have q_e1 := fun d os => cell_regrown e1 d os
        have q_e2 := fun d os => cell_regrown e2 d os
        have q_e3 := fun d os => cell_regrown e3 d os
        have q_e4 := fun d os => cell_regrown e4 d os
        have q_e5 := fun d os => cell_regrown e5 d os
        by_cases hxy : x = y
        · have HE := Lib.hid hxy
          have hrun : ∀ w0, (binOp .neq 33 (.agg #[.int .i64 x.id, .int .i64 x.fr, .int .i64 x.tn, .int .i64 x.st, .int .i64 x.en, .int .i64 x.rt]) (.agg #[.int .i64 y.id, .int .i64 y.fr, .int .i64 y.tn, .int .i64 y.st, .int .i64 y.en, .int .i64 y.rt])).run Tryz.prog w0 = .ok (.bool false) w0 := fun w0 => by rw [hneq]; simp [HE.out]
          clear hneq hxy
          try simp only [List.append]
          first | refine wp_region_text_below ?_ | refine wp_region_quiet_below (by kernel_rfl) (by kernel_rfl) ?_
          repeat (go_big_quiet_step ((fail)))
          refine wpQuiet_nil ?_
          intro _ hqw
          obtain ⟨pq, hqw⟩ := hqw
          subst hqw
          clear q_c0 q_c1 q_c2 q_c3 q_c4 q_c5 q_e0 q_e1 q_e2 q_e3 q_e4 q_e5
          have hbel := below_regrown wr pq.d pq.os
          have hB2 := hB.trans (hbel.mono hB.size)
          clear hbel c0 c1 c2 c3 c4 c5 e0 e1 e2 e3 e4 e5 hB hrun
          generalize grow (redrawn wr pq.d) pq.os = wq at *
          go_wp2
          go_roundw
          case rel => exact ⟨k + 1, by omega, by go_num, (fun j hj => by
            by_cases e : j = k
            · rw [e, HX.out, HY.out]; exact HE.out
            · exact HQ.out j (by omega)), hB2⟩
          case measure => simp [intOf]; omega
        · have hrun : ∀ w0, (binOp .neq 33 (.agg #[.int .i64 x.id, .int .i64 x.fr, .int .i64 x.tn, .int .i64 x.st, .int .i64 x.en, .int .i64 x.rt]) (.agg #[.int .i64 y.id, .int .i64 y.fr, .int .i64 y.tn, .int .i64 y.st, .int .i64 y.en, .int .i64 y.rt])).run Tryz.prog w0 = .ok (.bool true) w0 := fun w0 => by rw [hneq]; simp [hxy]
          have hfin : decide (d = d') = false := by
            rw [decide_eq_false_iff_not]
            intro e
            have e1 := HX.out
            rw [e, HY.out] at e1
            exact hxy e1.symm
          have HF := Lib.hid hfin
          clear hneq hxy hfin
          try simp only [List.append]
          first | refine wp_region_text_below ?_ | refine wp_region_quiet_below (by kernel_rfl) (by kernel_rfl) ?_
          repeat (go_big_quiet_step ((fail)))
          refine wpQuiet_nil ?_
          intro _ hqw
          obtain ⟨pq, hqw⟩ := hqw
          subst hqw
          clear q_c0 q_c1 q_c2 q_c3 q_c4 q_c5 q_e0 q_e1 q_e2 q_e3 q_e4 q_e5
          have hbel := below_regrown wr pq.d pq.os
          have hB2 := hB.trans (hbel.mono hB.size)
          clear hbel c0 c1 c2 c3 c4 c5 e0 e1 e2 e3 e4 e5 hB hrun
          generalize grow (redrawn wr pq.d) pq.os = wq at *
          go_wp2
          go_ret
          exact ⟨by rw [HF.out]; rfl, hB2⟩
      · obtain rfl : k = n := by omega
        have hfin : decide (d = d') = true := by
          rw [decide_eq_true_eq]
          exact extCo (by omega) (fun j hj => HQ.out j (by omega))
        have HF := Lib.hid hfin
        clear hfin
        go_wp2
        go_ret
        exact ⟨by rw [HF.out]; rfl, hB⟩
  · have hz : ((n : Int) != (n' : Int)) = true := by rw [bne_iff_ne]; omega
    go_enter Tryz.func60, Tryz.ntmps60
    go_wp2
    go_ret
    refine ⟨?_, Below.refl _ _⟩
    rw [decide_eq_false (show ¬ d = d' from fun e => by subst e; omega)]
    rfl
set_option maxRecDepth 100000 in
theorem growCo (n : Nat) (w : World) (hn : n ≤ 1000000) :
    Calls Tryz.prog 152 #[.slice none 0 0, .int .i64 n] w fun e w' => ∃ v, e = .returned v ∧ w'.ownsRow w.heap.size 33 6 v 0 [] ∧ Below w.heap.size w w' := by
  obtain ⟨i0, hi0, hz0, hz1, hz2⟩ := info_parts infoCo
  by_cases h0 : n = 0
  · subst h0
    go_enter Tryz.func152, Tryz.ntmps152
    go_wp2
    go_ret
    exact ⟨_, rfl, World.ownsRow_nil _ _ _ _, Below.refl _ _⟩
  · have hp : 0 < n := by omega
    have hpi : (0 : Int) < (n : Int) := by omega
    go_enter Tryz.func152, Tryz.ntmps152
    go_wp2_with (first
      | (at_builtin
         refine wpList_append_made rfl (.tmp 20) (.tmp 21) 22 3 rfl 33 i0 _ 6 Tryz.underlying22 Tryz.underlying3 hi0 hz0 hz1 rfl n rfl rfl hp (by decide) (by omega) (by rw [hz2]; omega) ?_
         intro c1 w1 hown hB hc1))
    go_ret
    exact ⟨_, rfl, hown, hB⟩
theorem noHitCo {d : List Co} {p : Co → Bool} (h : d.any p = false) {j : Nat} (hj : j < d.length) : p (gCo d j) = false := by
  have := List.any_eq_false.1 h _ (gCo_mem hj)
  simpa using this
theorem firstHitCo {d : List Co} {p : Co → Bool} (h : d.any p = true) : ∃ q, q < d.length ∧ (∀ j, j < q → p (gCo d j) = false) ∧ p (gCo d q) = true := by
  have hl : d.findIdx p < d.length := List.findIdx_lt_length.2 (by simpa using h)
  refine ⟨d.findIdx p, hl, fun j hj => ?_, ?_⟩
  · rw [gCo_eq (by omega)]
    have := List.not_of_lt_findIdx hj
    simpa using this
  · rw [gCo_eq hl]
    exact List.findIdx_getElem
/-- A function value that tells p, in whatever world that has grown from W but for this block. -/
structure PredCo (g : FuncId) (lb : Array Value) (row : Option Nat) (W : World) (p : Co → Bool) : Prop where
  run : ∀ vals w, (callFunc g vals).run Tryz.prog w = .ok (.enter g vals) w
  tells : ∀ w', W.grownBy w' row → ∀ x : Co, Calls Tryz.prog g (#[.agg #[.int .i64 x.id, .int .i64 x.fr, .int .i64 x.tn, .int .i64 x.st, .int .i64 x.en, .int .i64 x.rt]] ++ lb) w' fun e w'' => e = .returned (.bool (p x)) ∧ Below w'.heap.size w' w''
theorem PredCo.next {g : FuncId} {lb : Array Value} {row : Option Nat} {W W' : World} {p : Co → Bool} (h : PredCo g lb row W p) (hg : W.grownBy W' row) : PredCo g lb row W' p := ⟨h.run, fun w' h' x => h.tells w' (grown_trans hg h') x⟩
theorem PredCo.below {g : FuncId} {lb : Array Value} {row : Option Nat} {W W' : World} {p : Co → Bool} (h : PredCo g lb row W p) (hb : Below W.heap.size W W') : PredCo g lb row W' p := h.next (grown_of_below hb)
set_option maxHeartbeats 1000000 in
set_option maxRecDepth 100000 in
theorem indexCo (A : Option Addr) (n c : Nat) (d : List Co) (g : FuncId) (lb : Array Value) (row : Option Nat) (p : Co → Bool) (w : World) (hd : d.length = n) (hn : n ≤ 1000000) (h : Sl w w.heap.size 6 A n c (flatCo d)) (hp : PredCo g lb row w p) (q : Nat) (hq : q ≤ n) (hlow : ∀ j, j < q → p (gCo d j) = false) (hhit : q < n → p (gCo d q) = true) :
    Calls Tryz.prog 62 #[.slice A n c, .func (.func g) #[] lb] w fun e w' => e = .returned (.int .i64 (idxOf q n)) ∧ Below w.heap.size w w' := by
  have HL := Lib.hid hlow
  have HH := Lib.hid hhit
  have HP := Lib.hid hp
  have hcf := hp.run
  clear hlow hhit hp
  go_enter Tryz.func62, Tryz.ntmps62
  go_wp2
  go_loopw [8] (fun i wr => ∃ k : Nat, k ≤ q ∧ i = .int .i64 k ∧ Below w.heap.size w wr) (fun i _ => n - (intOf i).toNat)
  case atStart => exact ⟨0, by omega, rfl, Below.refl _ _⟩
  case round =>
    obtain ⟨k, hk, rfl, hB⟩ := hrel
    by_cases hkn : k < n
    · obtain ⟨ad, rfl, hab, c0, c1, c2, c3, c4, c5⟩ := (h.below hB).lst.atCo hd hkn
      have habw : ad.block < wr.heap.size := by have := hB.size; omega
      by_cases hkq : k < q
      · have hf := HL.out k hkq
        generalize hx : gCo d k = x at *
        have HF := Lib.hid hf
        clear hx hf
        go_wp2_with fail
        refine (HF.out ▸ (HP.out.below hB).tells wr (grown_refl _ _) x).mono ?_
        rintro e w1 ⟨rfl, hb1⟩
        have hB2 := hB.trans (hb1.mono hB.size)
        clear hb1 hB c0 c1 c2 c3 c4 c5
        go_wp2
        go_roundw
        case rel => exact ⟨k + 1, by omega, by go_num, hB2⟩
        case measure => simp [intOf]; omega
      · obtain rfl : k = q := by omega
        have hf := HH.out hkn
        generalize hx : gCo d k = x at *
        have HF := Lib.hid hf
        clear hx hf
        go_wp2_with fail
        refine (HF.out ▸ (HP.out.below hB).tells wr (grown_refl _ _) x).mono ?_
        rintro e w1 ⟨rfl, hb1⟩
        have hB2 := hB.trans (hb1.mono hB.size)
        clear hb1 hB c0 c1 c2 c3 c4 c5
        go_wp2
        go_ret
        exact ⟨by rw [idxOf_yes hkn]; rfl, hB2⟩
    · go_wp2
      go_ret
      exact ⟨by rw [idxOf_no (by omega)]; rfl, hB⟩
set_option maxRecDepth 100000 in
theorem containsCo (A : Option Addr) (n c : Nat) (d : List Co) (g : FuncId) (lb : Array Value) (row : Option Nat) (p : Co → Bool) (w : World) (hd : d.length = n) (hn : n ≤ 1000000) (h : Sl w w.heap.size 6 A n c (flatCo d)) (hp : PredCo g lb row w p) :
    Calls Tryz.prog 37 #[.slice A n c, .func (.func g) #[] lb] w fun e w' => e = .returned (.bool (d.any p)) ∧ Below w.heap.size w w' := by
  have HP := Lib.hid hp
  clear hp
  by_cases ha : d.any p = true
  · obtain ⟨q, hq, h1, h2⟩ := firstHitCo ha
    have hqi : (0 : Int) ≤ (q : Int) := by omega
    go_enter Tryz.func37, Tryz.ntmps37
    go_wp2_with fail
    refine (indexCo A n c d g lb row p w hd hn h HP.out q (by omega) h1 (fun _ => h2)).mono ?_
    rintro e w1 ⟨rfl, hB⟩
    rw [idxOf_yes (by omega : q < n)]
    go_wp2
    go_ret
    exact ⟨by rw [ha]; rfl, hB⟩
  · have ha' : d.any p = false := by simpa using ha
    go_enter Tryz.func37, Tryz.ntmps37
    go_wp2_with fail
    refine (indexCo A n c d g lb row p w hd hn h HP.out n (Nat.le_refl _) (fun j hj => noHitCo ha' (by omega)) (fun h => by omega)).mono ?_
    rintro e w1 ⟨rfl, hB⟩
    rw [idxOf_no (by omega : ¬ n < n)]
    go_wp2
    go_ret
    exact ⟨by rw [ha']; rfl, hB⟩
theorem filt_nextCo {d : List Co} {p : Co → Bool} {j : Nat} (hj : j < d.length) : (d.take (j + 1)).filter (fun x => !p x) = (d.take j).filter (fun x => !p x) ++ if p (gCo d j) = true then [] else [gCo d j] := by
  rw [take_nextCo hj, List.filter_append]
  congr 1
  cases h : p (gCo d j) <;> simp [List.filter_cons, h]
theorem filt_allCo {d : List Co} {p : Co → Bool} : ∀ q, q ≤ d.length → (∀ j, j < q → p (gCo d j) = false) → (d.take q).filter (fun x => !p x) = d.take q
  | 0, _, _ => by simp
  | q + 1, h, hl => by
    rw [filt_nextCo (by omega), filt_allCo q (by omega) (fun j hj => hl j (by omega)), if_neg (by rw [hl q (by omega)]; simp), ← take_nextCo (by omega)]
theorem filt_lenCo {d : List Co} {p : Co → Bool} (j : Nat) : ((d.take j).filter (fun x => !p x)).length ≤ j := by
  have h1 := List.length_filter_le (fun x => !p x) (d.take j)
  rw [List.length_take] at h1
  omega
theorem set_stepCo {e d : List Co} {p : Co → Bool} {i j n : Nat} (he : e.length = n) (hd : d.length = n) (hij : i < j) (hj : j < n) (h1 : e.take i = (d.take j).filter (fun x => !p x)) (h2 : e.drop j = d.drop j) (hp : p (gCo d j) = false) :
    (e.set i (gCo d j)).take (i + 1) = (d.take (j + 1)).filter (fun x => !p x) ∧ (e.set i (gCo d j)).drop (j + 1) = d.drop (j + 1) := by
  refine ⟨?_, ?_⟩
  · rw [filt_nextCo (by omega), if_neg (by rw [hp]; simp), ← h1]
    rw [List.take_succ_eq_append_getElem (by simp; omega), List.getElem_set_self, List.take_set_of_le (Nat.le_refl _)]
  · rw [List.drop_set_of_lt (by omega), ← List.drop_drop, ← List.drop_drop, h2]
theorem drop_atCo {e d : List Co} {j : Nat} (he : e.length = d.length) (h : e.drop j = d.drop j) (hj : j < d.length) : gCo e j = gCo d j := by
  rw [gCo_eq (by omega), gCo_eq hj]
  have h1 : (e.drop j)[0]'(by simp; omega) = (d.drop j)[0]'(by simp; omega) := by simp [h]
  simpa using h1
set_option maxHeartbeats 2000000 in
set_option maxRecDepth 100000 in
theorem deleteCo (v : Value) (n : Nat) (d : List Co) (g : FuncId) (lb : Array Value) (p : Co → Bool) (w : World) (base : Nat) (hd : d.length = n) (hn : n ≤ 1000000) (hown : w.ownsRow base 33 6 v n (flatCo d)) (hp : PredCo g lb v.ownBlock w p) :
    Calls Tryz.prog 88 #[v, .func (.func g) #[] lb] w fun e w' => ∃ v', e = .returned v' ∧ w'.ownsRow base 33 6 v' (d.filter (fun x => !p x)).length (flatCo (d.filter (fun x => !p x))) ∧ w.grownBy w' v.ownBlock := by
  by_cases ha : d.any p = true
  · obtain ⟨q, hq, h1, h2⟩ := firstHitCo ha
    obtain ⟨g0, c0, rfl, hnc, hcm, hgb, hgl⟩ := own_at hown (by omega)
    unfold maxLen at hcm
    obtain ⟨i0, hi0, hz0, hz1, hz2⟩ := info_parts infoCo
    have hqn : q < n := by omega
    have hcf := hp.run
    have hS := Sl.of_own hown
    have HP := Lib.hid hp
    have hpos : ((q : Int) == -1) = false := beq_eq_false_iff_ne.2 (by omega)
    have hst : (d.take (q + 1)).filter (fun x => !p x) = d.take q := by
      rw [filt_nextCo hq, filt_allCo q (by omega) h1, if_pos h2, List.append_nil]
    have HST := Lib.hid hst
    have HD := Lib.hid hd
    clear hp ha hst
    go_enter Tryz.func88, Tryz.ntmps88
    go_wp2_with fail
    refine (indexCo (some ⟨g0, 0, none⟩) n c0 d g lb _ p w HD.out hn hS HP.out q (by omega) h1 (fun _ => h2)).mono ?_
    rintro e w1 ⟨rfl, hB⟩
    rw [idxOf_yes hqn]
    have hown1 := hown.kept (grown_of_below (row := none) hB) (.inr (by simp [Value.ownBlock]))
    have hg1 : w.grownBy w1 (some g0) := grown_of_below hB
    clear hB hown hS h1 h2 hd
    go_wp2
    go_loopw [5, 6] (fun iv jv wr => ∃ (i j : Nat) (e : List Co), iv = .int .i64 i ∧ jv = .int .i64 j ∧ i < j ∧ j ≤ n ∧ Hid (e.length = n) ∧ Hid (e.take i = (d.take j).filter (fun x => !p x)) ∧ Hid (e.drop j = d.drop j) ∧ wr.ownsRow base 33 6 (.slice (some ⟨g0, 0, none⟩) n c0) n (flatCo e) ∧ w.grownBy wr (some g0)) (fun _ jv _ => n - (intOf jv).toNat)
    case atStart => exact ⟨q, q + 1, d, rfl, by go_num, by omega, by omega, HD.out, HST.out.symm, rfl, hown1, hg1⟩
    case round =>
      clear hown1 hg1
      obtain ⟨i, j, e, rfl, rfl, hij, hjn, HE, HT, HR, hown, hg⟩ := hrel
      have hic : i < c0 := by omega
      by_cases hj : j < n
      · obtain ⟨c0, c1, c2, c3, c4, c5⟩ := ownCo_at hown HE.out hj
        have hx0 : gCo e j = gCo d j := drop_atCo (by rw [HE.out, HD.out]) HR.out (by have := HD.out; omega)
        obtain ⟨x, hx⟩ : ∃ x, gCo d j = x := ⟨_, rfl⟩
        rw [hx0, hx] at c0 c1 c2 c3 c4 c5
        have HX := Lib.hid hx
        clear hx hx0
        have hgw : g0 < wr.heap.size := by have := hg.size; omega
        go_wp2_with fail
        have hBa : Below wr.heap.size wr (wr.alloc (.cells #[.int .i64 x.id, .int .i64 x.fr, .int .i64 x.tn, .int .i64 x.st, .int .i64 x.en, .int .i64 x.rt] 33)) := (Below.refl _ _).alloc (Nat.le_refl _) _
        have hBlk := Blok.new wr 33 #[.int .i64 x.id, .int .i64 x.fr, .int .i64 x.tn, .int .i64 x.st, .int .i64 x.en, .int .i64 x.rt]
        have ht := (HP.out.next (grown_trans hg (grown_of_below (row := some g0) hBa))).tells _ (grown_refl _ _) x
        cases hpx : p x
        · have hgo := set_stepCo (p := p) HE.out HD.out hij hj HT.out HR.out (by rw [HX.out]; exact hpx)
          rw [HX.out] at hgo
          have HG := Lib.hid hgo
          rw [hpx] at ht
          have HPX := Lib.hid hpx
          clear hgo hpx
          refine ht.mono ?_
          rintro e1 w2 ⟨rfl, hb2⟩
          have hBlk2 := hBlk.below hb2 (by simp)
          have hb3 := hBa.trans (hb2.mono (by simp))
          have hown2 := hown.kept (grown_of_below (row := none) hb3) (.inr (by simp [Value.ownBlock]))
          have hg2 := grown_trans hg (grown_of_below (row := some g0) hb3)
          have b0 : w2.cell? ⟨wr.heap.size, 0, none⟩ = some (.int .i64 x.id) := hBlk2.cell 0
          have b1 : w2.cell? ⟨wr.heap.size, 1, none⟩ = some (.int .i64 x.fr) := hBlk2.cell 1
          have b2 : w2.cell? ⟨wr.heap.size, 2, none⟩ = some (.int .i64 x.tn) := hBlk2.cell 2
          have b3 : w2.cell? ⟨wr.heap.size, 3, none⟩ = some (.int .i64 x.st) := hBlk2.cell 3
          have b4 : w2.cell? ⟨wr.heap.size, 4, none⟩ = some (.int .i64 x.en) := hBlk2.cell 4
          have b5 : w2.cell? ⟨wr.heap.size, 5, none⟩ = some (.int .i64 x.rt) := hBlk2.cell 5
          have z0 := hown2.frozenAt (i * 6)
          have z1 := hown2.frozenAt (i * 6 + 1)
          have z2 := hown2.frozenAt (i * 6 + 2)
          have z3 := hown2.frozenAt (i * 6 + 3)
          have z4 := hown2.frozenAt (i * 6 + 4)
          have z5 := hown2.frozenAt (i * 6 + 5)
          obtain ⟨hS1, hS2⟩ := ownCo_store hown2 i x
          clear ht hBlk hb2 hb3 hBa c0 c1 c2 c3 c4 c5 hBlk2
          obtain ⟨o0, o1, o2, o3, o4, o5⟩ := ownCo_at hown2 HE.out (k := i) (by omega)
          go_wp2
          go_roundw
          case rel => exact ⟨i + 1, j + 1, e.set i x, by go_num, by go_num, by omega, by omega, (Lib.hid (by have := HE.out; simpa using this)), HG.out.1, HG.out.2, hS1, grown_trans hg2 hS2⟩
          case measure => simp [intOf]; omega
        · rw [hpx] at ht
          have hfn : (d.take (j + 1)).filter (fun x => !p x) = (d.take j).filter (fun x => !p x) := by
            rw [filt_nextCo (by have := HD.out; omega), HX.out, if_pos hpx, List.append_nil]
          have HF := Lib.hid hfn
          clear hpx hfn
          refine ht.mono ?_
          rintro e1 w2 ⟨rfl, hb2⟩
          have hb3 := hBa.trans (hb2.mono (by simp))
          have hown2 := hown.kept (grown_of_below (row := none) hb3) (.inr (by simp [Value.ownBlock]))
          have hg2 := grown_trans hg (grown_of_below (row := some g0) hb3)
          have hdr : e.drop (j + 1) = d.drop (j + 1) := by
            rw [← List.drop_drop, ← List.drop_drop, HR.out]
          have HDR := Lib.hid hdr
          clear ht hBlk hb2 hb3 hBa c0 c1 c2 c3 c4 c5 hdr
          go_wp2
          go_roundw
          case rel => exact ⟨i, j + 1, e, rfl, by go_num, by omega, by omega, HE.out, HT.out.trans HF.out.symm, HDR.out, hown2, hg2⟩
          case measure => simp [intOf]; omega
      · obtain rfl : j = n := by omega
        have hci : ¬ c0 = i := by omega
        have hiI : (i : Int) ≤ (j : Int) := by omega
        have hicI : (i : Int) ≤ (c0 : Int) := by omega
        have hfin : e.take i = d.filter (fun x => !p x) := by
          have := HT.out
          rw [List.take_of_length_le (l := d) (by have := HD.out; omega)] at this
          exact this
        have HFIN := Lib.hid hfin
        have hlen : (d.filter (fun x => !p x)).length = i := by
          rw [← hfin, List.length_take, HE.out]; omega
        have HLEN := Lib.hid hlen
        clear hfin hlen
        go_wp2_with (first
          | (with_reducible refine wpList_clear_own rfl (.tmp 38) 22 rfl base 33 i0 _ 6 Tryz.underlying22 hi0 hz0 rfl (by simp [Value.oneCell', Value.cells]) g0 j c0 i (flatCo e) hown (by omega) (some ⟨g0, i * 6, none⟩) (c0 - i) rfl (.inl (by rw [Addr.add_lit, Nat.zero_add])) ?_
             intro w2 ys hown2 htake hg2))
        go_ret
        refine ⟨_, rfl, ?_, grown_trans hg hg2⟩
        have hc := own_cut hown2 (m := i) (by omega)
        rw [htake, flatCo_take, HFIN.out] at hc
        rw [HLEN.out]
        exact hc
  · have ha' : d.any p = false := by simpa using ha
    obtain ⟨A, c, rfl⟩ := slice_of_own hown
    have hS := Sl.of_own hown
    have HP := Lib.hid hp
    have hcf := hp.run
    have hno : ((-1 : Int) == -1) = true := by simp
    have hfil : d.filter (fun x => !p x) = d := by
      have := filt_allCo (p := p) d.length (Nat.le_refl _) (fun j hj => noHitCo ha' hj)
      rw [List.take_length] at this
      exact this
    rw [hfil]
    have HD := Lib.hid hd
    clear hp ha hfil hd
    go_enter Tryz.func88, Tryz.ntmps88
    go_wp2_with fail
    refine (indexCo A n c d g lb _ p w HD.out hn hS HP.out n (Nat.le_refl _) (fun j hj => noHitCo ha' (by have := HD.out; omega)) (fun h => by omega)).mono ?_
    rintro e w1 ⟨rfl, hB⟩
    rw [idxOf_no (by omega : ¬ n < n)]
    go_wp2
    go_ret
    refine ⟨_, rfl, ?_, grown_of_below hB⟩
    rw [HD.out]
    exact hown.kept (grown_of_below (row := some w.heap.size) hB) (.inr (fun e => by have := (hown.lt _ e).2; omega))
/-- Lists, one behind the other. -/
def catCo (d : Nat → List Co) : Nat → List Co
  | 0 => []
  | k + 1 => catCo d k ++ d k
theorem catCo_le (d : Nat → List Co) : ∀ {k m : Nat}, k ≤ m → (catCo d k).length ≤ (catCo d m).length
  | k, 0, h => by
    obtain rfl : k = 0 := by omega
    exact Nat.le_refl _
  | k, m + 1, h => by
    by_cases e : k = m + 1
    · subst e; exact Nat.le_refl _
    · have := catCo_le d (k := k) (m := m) (by omega)
      simp only [catCo, List.length_append]
      omega
set_option maxHeartbeats 1000000 in
set_option maxRecDepth 100000 in
theorem concatCo (gO m cO : Nat) (A : Nat → Option Addr) (n c : Nat → Nat) (d : Nat → List Co) (w : World) (hm : m ≤ 1000) (hd : ∀ k, k < m → (d k).length = n k) (hn : (catCo d m).length ≤ 1000000) (hO : ∀ k, k < m → w.cell? ⟨gO, k, none⟩ = some (.slice (A k) (n k) (c k))) (h : ∀ k, k < m → Sl w w.heap.size 6 (A k) (n k) (c k) (flatCo (d k))) :
    Calls Tryz.prog 135 #[.slice (some ⟨gO, 0, none⟩) m cO] w fun e w' => ∃ v, e = .returned v ∧ w'.ownsRow w.heap.size 33 6 v (catCo d m).length (flatCo (catCo d m)) ∧ Below w.heap.size w w' := by
  obtain ⟨i0, hi0, hz0, hz1, hz2⟩ := info_parts infoCo
  have HO := Lib.hid hO
  have HD := Lib.hid hd
  clear hO hd
  go_enter Tryz.func135, Tryz.ntmps135
  go_wp2
  go_loop [3, 11] (fun s i => ∃ k : Nat, k ≤ m ∧ i = .int .i64 k ∧ s = .int .i64 (catCo d k).length) (fun _ i => m - (intOf i).toNat)
  case atStart => exact ⟨0, by omega, rfl, rfl⟩
  case round =>
    obtain ⟨k, hk, rfl, rfl⟩ := hrel
    have hle := catCo_le d hk
    by_cases hkm : k < m
    · have hle2 := catCo_le d (k := k + 1) (m := m) (by omega)
      have hO := HO.out k hkm
      have hlk : (catCo d (k + 1)).length = (catCo d k).length + n k := by simp only [catCo, List.length_append, HD.out k hkm]
      have HLK := Lib.hid hlk
      have hnk : n k ≤ 1000000 := by omega
      generalize hL : (catCo d k).length = L at *
      have HL := Lib.hid hL
      clear hlk hL
      go_wp2
      go_round
      case rel => exact ⟨k + 1, by omega, by go_num, by rw [HLK.out]; go_num⟩
      case measure => simp [intOf]; omega
    · obtain rfl : k = m := by omega
      generalize hL : (catCo d k).length = L at *
      have HL := Lib.hid hL
      clear hL
      go_wp2_with fail
      refine (growCo L w (by omega)).mono ?_
      rintro e w1 ⟨v, rfl, hown, hB⟩
      obtain ⟨A1, c1, rfl⟩ := slice_of_own hown
      go_wp2
      go_loopw [6, 27] (fun vv i wr => ∃ (q : Nat), q ≤ k ∧ i = .int .i64 q ∧ Below w.heap.size w wr ∧ wr.ownsRow w.heap.size 33 6 vv (catCo d q).length (flatCo (catCo d q))) (fun _ i _ => k - (intOf i).toNat)
      case atStart => exact ⟨0, by omega, rfl, hB, hown⟩
      case round =>
        clear hown hB
        rename Value => v0
        obtain ⟨q, hq, rfl, hB, hown⟩ := hrel
        have hle := catCo_le d hq
        by_cases hqk : q < k
        · have hO : _ := HO.out q hqk
          have hOw : ∀ wx, Below w.heap.size w wx → wx.cell? ⟨gO, q, none⟩ = some (.slice (A q) (n q) (c q)) := fun wx hb => by
            rw [hb.cell (World.block_lt_of_cell? w _ hO)]; exact hO
          have hOr := hOw _ hB
          have hle2 := catCo_le d (k := q + 1) (m := k) (by omega)
          have hlk : (catCo d (q + 1)).length = (catCo d q).length + n q := by simp only [catCo, List.length_append, HD.out q hqk]
          have hnq : (catCo d q).length + n q ≤ 1000000 := by have := HL.out; omega
          have HLK := Lib.hid hlk
          have hs := (h q hqk).below hB
          clear hlk hO hOw
          obtain ⟨A2, c2, rfl⟩ := slice_of_own hown
          have hob : ∀ g, (Value.slice A2 (catCo d q).length c2).ownBlock = some g → w.heap.size ≤ g := fun g hg => (hown.lt g hg).1
          have hsB := hB.size
          generalize hLq : (catCo d q).length = Lq at *
          generalize hNq : n q = Nq at *
          generalize hAq : A q = Aq at *
          generalize hcq : c q = cq at *
          have HAll := Lib.hid (And.intro hLq (And.intro hNq (And.intro hAq hcq)))
          clear hLq hNq hAq hcq
          go_wp2_with (first
            | (at_builtin
               refine wpList_append_lst _ rfl (.tmp 31) (.tmp 32) 22 rfl w.heap.size 33 i0 _ 6 48 Tryz.underlying22 hi0 hz0 hz1 hz2 rfl (by decide) (.slice A2 Lq c2) Lq (flatCo (catCo d q)) rfl hown w.heap.size Aq Nq cq (flatCo (d q)) rfl hs.lst (flatCo_one _) (by unfold maxLen; omega) (by omega) hsB ?_
               intro v4 w4 hown4 hg4 hat4))
          have hB4 : Below w.heap.size w w4 := Below.grown hB hg4 hsB hob
          have hown5 : w4.ownsRow w.heap.size 33 6 v4 (catCo d (q + 1)).length (flatCo (catCo d (q + 1))) := by
            rw [HLK.out]
            simp only [catCo, flatCo_append]
            exact hown4
          clear hown hown4 hg4 hat4 hOr hs hob hB
          go_wp2
          go_roundw
          case rel => exact ⟨q + 1, by omega, by go_num, hB4, hown5⟩
          case measure => simp [intOf]; omega
        · obtain rfl : q = k := by omega
          obtain ⟨A2, c2, rfl⟩ := slice_of_own hown
          go_wp2
          go_ret
          exact ⟨_, rfl, hown, hB⟩
/-- A function value that compares with t, as cf says, in whatever world that has grown from W. -/
structure CmpCo (g : FuncId) (lb : Array Value) (t : Co) (W : World) (cf : Co → Int) : Prop where
  run : ∀ vals w, (callFunc g vals).run Tryz.prog w = .ok (.enter g vals) w
  tells : ∀ w', Below W.heap.size W w' → ∀ x : Co, Calls Tryz.prog g (#[.agg #[.int .i64 x.id, .int .i64 x.fr, .int .i64 x.tn, .int .i64 x.st, .int .i64 x.en, .int .i64 x.rt], .agg #[.int .i64 t.id, .int .i64 t.fr, .int .i64 t.tn, .int .i64 t.st, .int .i64 t.en, .int .i64 t.rt]] ++ lb) w' fun e w'' => e = .returned (.int .i64 (cf x)) ∧ Below w'.heap.size w' w''
set_option maxHeartbeats 1000000 in
set_option maxRecDepth 100000 in
theorem binaryCo (A : Option Addr) (n c : Nat) (d : List Co) (t : Co) (g : FuncId) (lb : Array Value) (cf : Co → Int) (w : World) (hd : d.length = n) (hn : n ≤ 1000000) (h : Sl w w.heap.size 6 A n c (flatCo d)) (hp : CmpCo g lb t w cf) :
    Calls Tryz.prog 134 #[.slice A n c, .agg #[.int .i64 t.id, .int .i64 t.fr, .int .i64 t.tn, .int .i64 t.st, .int .i64 t.en, .int .i64 t.rt], .func (.func g) #[] lb] w fun e w' => ∃ (i : Nat) (b : Bool), e = .returned (.tuple #[.int .i64 i, .bool b]) ∧ i ≤ n ∧ (i = 0 ∨ cf (gCo d (i - 1)) < 0) ∧ (i = n ∨ 0 ≤ cf (gCo d i)) ∧ b = (decide (i < n) && cf (gCo d i) == 0) ∧ Below w.heap.size w w' := by
  have hcf := hp.run
  have HP := Lib.hid hp
  have HD := Lib.hid hd
  have hBa : Below w.heap.size w (w.alloc (.cells #[.int .i64 t.id, .int .i64 t.fr, .int .i64 t.tn, .int .i64 t.st, .int .i64 t.en, .int .i64 t.rt] 33)) := (Below.refl _ _).alloc (Nat.le_refl _) _
  have hX := Blok.new w 33 #[.int .i64 t.id, .int .i64 t.fr, .int .i64 t.tn, .int .i64 t.st, .int .i64 t.en, .int .i64 t.rt]
  clear hp hd
  go_enter Tryz.func134, Tryz.ntmps134
  go_wp2
  go_loopw [9, 10] (fun iv jv wr => ∃ i j : Nat, iv = .int .i64 i ∧ jv = .int .i64 j ∧ i ≤ j ∧ j ≤ n ∧ Hid (i = 0 ∨ cf (gCo d (i - 1)) < 0) ∧ Hid (j = n ∨ 0 ≤ cf (gCo d j)) ∧ Below w.heap.size w wr ∧ Blok wr w.heap.size 33 #[.int .i64 t.id, .int .i64 t.fr, .int .i64 t.tn, .int .i64 t.st, .int .i64 t.en, .int .i64 t.rt]) (fun iv jv _ => (intOf jv - intOf iv).toNat)
  case atStart => exact ⟨0, n, rfl, rfl, by omega, Nat.le_refl _, .inl rfl, .inl rfl, hBa, hX⟩
  case round =>
    clear hBa hX
    obtain ⟨i, j, rfl, rfl, hij, hjn, HI, HJ, hB, hX⟩ := hrel
    have hs := hB.size
    have t0 : wr.cell? ⟨w.heap.size, 0, none⟩ = some (.int .i64 t.id) := hX.cell 0
    have t1 : wr.cell? ⟨w.heap.size, 1, none⟩ = some (.int .i64 t.fr) := hX.cell 1
    have t2 : wr.cell? ⟨w.heap.size, 2, none⟩ = some (.int .i64 t.tn) := hX.cell 2
    have t3 : wr.cell? ⟨w.heap.size, 3, none⟩ = some (.int .i64 t.st) := hX.cell 3
    have t4 : wr.cell? ⟨w.heap.size, 4, none⟩ = some (.int .i64 t.en) := hX.cell 4
    have t5 : wr.cell? ⟨w.heap.size, 5, none⟩ = some (.int .i64 t.rt) := hX.cell 5
    by_cases hlt : i < j
    · obtain ⟨m, hm⟩ : ∃ m : Nat, (i + j) / 2 = m := ⟨_, rfl⟩
      have hmi : ((i : Int) + (j : Int)) / 2 = (m : Int) := by omega
      have hm1 : i ≤ m := by omega
      have hm2 : m < j := by omega
      have HM := Lib.hid hmi
      clear hm hmi
      go_wp2
      rw [HM.out]
      obtain ⟨ad, rfl, hab, c0, c1, c2, c3, c4, c5⟩ := (h.below hB).lst.atCo HD.out (k := m) (by omega)
      obtain ⟨x, hx⟩ : ∃ x, gCo d m = x := ⟨_, rfl⟩
      rw [hx] at c0 c1 c2 c3 c4 c5
      have HX := Lib.hid hx
      clear hx
      have hmn : m < n := by omega
      have ht := fun w' (hb : Below wr.heap.size wr w') => HP.out.tells w' (hB.trans (hb.mono hs)) x
      go_wp2_with fail
      have q_t0 := fun d os => cell_regrown t0 d os
      have q_t1 := fun d os => cell_regrown t1 d os
      have q_t2 := fun d os => cell_regrown t2 d os
      have q_t3 := fun d os => cell_regrown t3 d os
      have q_t4 := fun d os => cell_regrown t4 d os
      have q_t5 := fun d os => cell_regrown t5 d os
      have q_c0 := fun d os => cell_regrown c0 d os
      have q_c1 := fun d os => cell_regrown c1 d os
      have q_c2 := fun d os => cell_regrown c2 d os
      have q_c3 := fun d os => cell_regrown c3 d os
      have q_c4 := fun d os => cell_regrown c4 d os
      have q_c5 := fun d os => cell_regrown c5 d os
      by_cases hneg : cf x < 0
      · generalize hy : cf x = y at *
        have HT := Lib.hid ht
        have HY := Lib.hid hy
        clear ht hy
        try simp only [List.append]
        first | refine wp_region_text_below ?_ | refine wp_region_quiet_below (by kernel_rfl) (by kernel_rfl) ?_
        repeat (go_big_quiet_step ((with_reducible exact Calls.regrown_of (HT.out _ (below_regrown _ _ _)))))
        refine wpQuiet_nil ?_
        intro _ hqw
        obtain ⟨pq, hqw⟩ := hqw
        subst hqw
        clear q_t0 q_t1 q_t2 q_t3 q_t4 q_t5 q_c0 q_c1 q_c2 q_c3 q_c4 q_c5
        have hbel := below_regrown wr pq.d pq.os
        replace hB := hB.trans (hbel.mono hs)
        replace hX := hX.below hbel hX.lt
        clear hbel t0 t1 t2 t3 t4 t5 c0 c1 c2 c3 c4 c5
        generalize grow (redrawn wr pq.d) pq.os = wq at *
        go_wp2
        go_roundw
        case rel => exact ⟨m + 1, j, by go_num, rfl, by omega, by omega, (.inr (by rw [Nat.add_sub_cancel, HX.out, HY.out]; exact hneg)), HJ, hB, hX⟩
        case measure => simp [intOf]; omega
      · generalize hy : cf x = y at *
        have HT := Lib.hid ht
        have HY := Lib.hid hy
        clear ht hy
        try simp only [List.append]
        first | refine wp_region_text_below ?_ | refine wp_region_quiet_below (by kernel_rfl) (by kernel_rfl) ?_
        repeat (go_big_quiet_step ((with_reducible exact Calls.regrown_of (HT.out _ (below_regrown _ _ _)))))
        refine wpQuiet_nil ?_
        intro _ hqw
        obtain ⟨pq, hqw⟩ := hqw
        subst hqw
        clear q_t0 q_t1 q_t2 q_t3 q_t4 q_t5 q_c0 q_c1 q_c2 q_c3 q_c4 q_c5
        have hbel := below_regrown wr pq.d pq.os
        replace hB := hB.trans (hbel.mono hs)
        replace hX := hX.below hbel hX.lt
        clear hbel t0 t1 t2 t3 t4 t5 c0 c1 c2 c3 c4 c5
        generalize grow (redrawn wr pq.d) pq.os = wq at *
        go_wp2
        go_roundw
        case rel => exact ⟨i, m, rfl, rfl, by omega, by omega, HI, (.inr (by rw [HX.out, HY.out]; omega)), hB, hX⟩
        case measure => simp [intOf]; omega
    · obtain rfl : i = j := by omega
      by_cases hin : i < n
      · obtain ⟨ad, rfl, hab, c0, c1, c2, c3, c4, c5⟩ := (h.below hB).lst.atCo HD.out (k := i) (by omega)
        obtain ⟨x, hx⟩ : ∃ x, gCo d i = x := ⟨_, rfl⟩
        rw [hx] at c0 c1 c2 c3 c4 c5
        have HX := Lib.hid hx
        clear hx
        have hini : (i : Int) < (n : Int) := by omega
        have ht := fun w' (hb : Below wr.heap.size wr w') => HP.out.tells w' (hB.trans (hb.mono hs)) x
        go_wp2
        have q_t0 := fun d os => cell_regrown t0 d os
        have q_t1 := fun d os => cell_regrown t1 d os
        have q_t2 := fun d os => cell_regrown t2 d os
        have q_t3 := fun d os => cell_regrown t3 d os
        have q_t4 := fun d os => cell_regrown t4 d os
        have q_t5 := fun d os => cell_regrown t5 d os
        have q_c0 := fun d os => cell_regrown c0 d os
        have q_c1 := fun d os => cell_regrown c1 d os
        have q_c2 := fun d os => cell_regrown c2 d os
        have q_c3 := fun d os => cell_regrown c3 d os
        have q_c4 := fun d os => cell_regrown c4 d os
        have q_c5 := fun d os => cell_regrown c5 d os
        generalize hy : cf x = y at *
        have HT := Lib.hid ht
        have HY := Lib.hid hy
        clear ht hy
        try simp only [List.append]
        first | refine wp_region_text_below ?_ | refine wp_region_quiet_below (by kernel_rfl) (by kernel_rfl) ?_
        repeat (go_big_quiet_step ((with_reducible exact Calls.regrown_of (HT.out _ (below_regrown _ _ _)))))
        refine wpQuiet_nil ?_
        intro _ hqw
        obtain ⟨pq, hqw⟩ := hqw
        subst hqw
        clear q_t0 q_t1 q_t2 q_t3 q_t4 q_t5 q_c0 q_c1 q_c2 q_c3 q_c4 q_c5
        have hbel := below_regrown wr pq.d pq.os
        replace hB := hB.trans (hbel.mono hs)
        replace hX := hX.below hbel hX.lt
        clear hbel t0 t1 t2 t3 t4 t5 c0 c1 c2 c3 c4 c5
        generalize grow (redrawn wr pq.d) pq.os = wq at *
        go_wp2
        go_ret2
        refine ⟨i, (y == 0), rfl, hjn, HI.out, HJ.out, ?_, hB⟩
        rw [HX.out, HY.out, decide_eq_true hin]; simp
      · have hdn : decide ((i : Int) < (n : Int)) = false := by simp; omega
        go_wp2
        try simp only [List.append]
        first | refine wp_region_text_below ?_ | refine wp_region_quiet_below (by kernel_rfl) (by kernel_rfl) ?_
        repeat (go_big_quiet_step ((fail)))
        refine wpQuiet_nil ?_
        intro _ hqw
        obtain ⟨pq, hqw⟩ := hqw
        subst hqw
        have hbel := below_regrown wr pq.d pq.os
        replace hB := hB.trans (hbel.mono hs)
        clear hbel t0 t1 t2 t3 t4 t5
        generalize grow (redrawn wr pq.d) pq.os = wq at *
        go_wp2
        go_ret2
        refine ⟨i, false, rfl, hjn, HI.out, HJ.out, ?_, hB⟩
        rw [decide_eq_false hin]; simp
end Go.Proofs.YtolaabllhibkdaaGreat

/- Contracts of num.In, num.Clamp, num.Ceil and package check: what they return, at all arguments; they make new memory alone. -/
namespace Go.Proofs.YtolaabllhibkdaaGreat
open Go.ChangeShapes Go.WideShapes Go.ChangeAt Go.RowKit Go.Sort
set_option linter.unusedSimpArgs false
set_option linter.unusedVariables false

def inB (n lo hi : Int) : Bool := decide (lo ≤ n ∧ n ≤ hi)
def nodeB (n : Int) : Bool := inB n 1 255
def wayB (a b : Int) : Bool := nodeB a && nodeB b && a != b
def spanB (s e : Int) : Bool := decide (0 ≤ s) && decide (s < e) && decide (e ≤ 2147483647)
def contactB (id fr tn st en ra : Int) : Bool := inB id 1 1048576 && wayB fr tn && spanB st en && inB ra 1 2147483647
def rangeB (fr tn st en ow : Int) : Bool := wayB fr tn && spanB st en && inB ow 0 2147483647
def bundleB (fr tn si cl de : Int) : Bool := nodeB fr && nodeB tn && inB si 0 1099511627775 && inB cl 0 2 && inB de 0 1099511627776
def volumeF (id fr tn st en ra : Int) : Int := if contactB id fr tn st en ra = true then ra * (en - st) else 0

theorem in_any (n lo hi : Int) (w : World) :
    Calls Tryz.prog 36 #[.int .i64 n, .int .i64 lo, .int .i64 hi] w fun e w' => e = .returned (.bool (inB n lo hi)) ∧ w = w' := by
  by_cases h1 : lo ≤ n <;> by_cases h2 : n ≤ hi <;>
  · go_enter Tryz.func36, Tryz.ntmps36
    go_wp2
    go_ret
    exact ⟨by simp [inB, h1, h2], rfl⟩

theorem node_any (n : Int) (w : World) :
    Calls Tryz.prog 110 #[.int .i64 n] w fun e w' => e = .returned (.bool (nodeB n)) ∧ w = w' := by
  go_enter Tryz.func110, Tryz.ntmps110
  go_wp2_with (go_at_call 36; refine (in_any _ _ _ _).mono ?_; rintro e w' ⟨rfl, rfl⟩)
  go_ret
  exact ⟨rfl, rfl⟩
theorem way_any (a b : Int) (w : World) :
    Calls Tryz.prog 94 #[.int .i64 a, .int .i64 b] w fun e w' => e = .returned (.bool (wayB a b)) ∧ w = w' := by
  go_enter Tryz.func94, Tryz.ntmps94
  go_wp2_with (go_at_call 110; refine (node_any _ _).mono ?_; rintro e w' ⟨rfl, rfl⟩)
  all_goals go_ret
  all_goals exact ⟨by simp [wayB, *], rfl⟩
theorem span_any (a b : Int) (w : World) :
    Calls Tryz.prog 95 #[.int .i64 a, .int .i64 b] w fun e w' => e = .returned (.bool (spanB a b)) ∧ w = w' := by
  by_cases h1 : 0 ≤ a <;> by_cases h2 : a < b <;> by_cases h3 : b ≤ 2147483647 <;>
  · go_enter Tryz.func95, Tryz.ntmps95
    go_wp2
    go_ret
    exact ⟨by simp [spanB, h1, h2, h3], rfl⟩
theorem contact_any (id fr tn st en ra : Int) (w : World) :
    Calls Tryz.prog 64 #[.agg #[.int .i64 id, .int .i64 fr, .int .i64 tn, .int .i64 st, .int .i64 en, .int .i64 ra]] w fun e w' => e = .returned (.bool (contactB id fr tn st en ra)) ∧ Below w.heap.size w w' := by
  go_enter Tryz.func64, Tryz.ntmps64
  go_wp2_with (first | (go_at_call 36; refine (in_any _ _ _ _).mono ?_; rintro e w' ⟨rfl, rfl⟩) | (go_at_call 94; refine (way_any _ _ _).mono ?_; rintro e w' ⟨rfl, rfl⟩) | (go_at_call 95; refine (span_any _ _ _).mono ?_; rintro e w' ⟨rfl, rfl⟩))
  all_goals go_ret
  all_goals exact ⟨by simp [contactB, *], (Below.refl _ _).alloc (Nat.le_refl _) _⟩
theorem range_any (fr tn st en ow : Int) (w : World) :
    Calls Tryz.prog 67 #[.agg #[.int .i64 fr, .int .i64 tn, .int .i64 st, .int .i64 en, .int .i64 ow]] w fun e w' => e = .returned (.bool (rangeB fr tn st en ow)) ∧ Below w.heap.size w w' := by
  go_enter Tryz.func67, Tryz.ntmps67
  go_wp2_with (first | (go_at_call 36; refine (in_any _ _ _ _).mono ?_; rintro e w' ⟨rfl, rfl⟩) | (go_at_call 94; refine (way_any _ _ _).mono ?_; rintro e w' ⟨rfl, rfl⟩) | (go_at_call 95; refine (span_any _ _ _).mono ?_; rintro e w' ⟨rfl, rfl⟩))
  all_goals go_ret
  all_goals exact ⟨by simp [rangeB, *], (Below.refl _ _).alloc (Nat.le_refl _) _⟩
theorem nodeB_spec {n : Int} : nodeB n = true ↔ 1 ≤ n ∧ n ≤ 255 := by
  simp [nodeB, inB]
theorem inB_spec {n lo hi : Int} : inB n lo hi = true ↔ lo ≤ n ∧ n ≤ hi := by
  simp [inB]
theorem contactB_spec {id fr tn st en ra : Int} : contactB id fr tn st en ra = true ↔ (1 ≤ id ∧ id ≤ 1048576) ∧ (1 ≤ fr ∧ fr ≤ 255) ∧ (1 ≤ tn ∧ tn ≤ 255) ∧ fr ≠ tn ∧ 0 ≤ st ∧ st < en ∧ en ≤ 2147483647 ∧ 1 ≤ ra ∧ ra ≤ 2147483647 := by
  simp [contactB, wayB, nodeB, spanB, inB, and_assoc]
theorem rangeB_spec {fr tn st en ow : Int} : rangeB fr tn st en ow = true ↔ (1 ≤ fr ∧ fr ≤ 255) ∧ (1 ≤ tn ∧ tn ≤ 255) ∧ fr ≠ tn ∧ 0 ≤ st ∧ st < en ∧ en ≤ 2147483647 ∧ 0 ≤ ow ∧ ow ≤ 2147483647 := by
  simp [rangeB, wayB, nodeB, spanB, inB, and_assoc]
theorem bundleB_spec {fr tn si cl de : Int} : bundleB fr tn si cl de = true ↔ (1 ≤ fr ∧ fr ≤ 255) ∧ (1 ≤ tn ∧ tn ≤ 255) ∧ (0 ≤ si ∧ si ≤ 1099511627775) ∧ (0 ≤ cl ∧ cl ≤ 2) ∧ 0 ≤ de ∧ de ≤ 1099511627776 := by
  simp [bundleB, nodeB, inB, and_assoc]
theorem volume_bounds {id fr tn st en ra : Int} (h : contactB id fr tn st en ra = true) : 1 ≤ ra * (en - st) ∧ ra * (en - st) ≤ 4611686014132420609 := by
  obtain ⟨_, _, _, _, h1, h2, h3, h4, h5⟩ := contactB_spec.1 h
  constructor
  · exact Int.le_trans (by omega : (1 : Int) ≤ 1 * 1) (Int.mul_le_mul h4 (by omega) (by omega) (by omega))
  · exact Int.le_trans (Int.mul_le_mul h5 (by omega : en - st ≤ 2147483647) (by omega) (by omega)) (by omega)
/-! The same with the result named, for a walk that wants it written out. -/
theorem in_is {n lo hi : Int} (b : Bool) (h : inB n lo hi = b) (w : World) :
    Calls Tryz.prog 36 #[.int .i64 n, .int .i64 lo, .int .i64 hi] w fun e w' => e = .returned (.bool b) ∧ w = w' := h ▸ in_any n lo hi w
theorem node_is {n : Int} (b : Bool) (h : nodeB n = b) (w : World) :
    Calls Tryz.prog 110 #[.int .i64 n] w fun e w' => e = .returned (.bool b) ∧ w = w' := h ▸ node_any n w
theorem contact_is {id fr tn st en ra : Int} (b : Bool) (h : contactB id fr tn st en ra = b) (w : World) :
    Calls Tryz.prog 64 #[.agg #[.int .i64 id, .int .i64 fr, .int .i64 tn, .int .i64 st, .int .i64 en, .int .i64 ra]] w fun e w' => e = .returned (.bool b) ∧ Below w.heap.size w w' := h ▸ contact_any id fr tn st en ra w
theorem range_is {fr tn st en ow : Int} (b : Bool) (h : rangeB fr tn st en ow = b) (w : World) :
    Calls Tryz.prog 67 #[.agg #[.int .i64 fr, .int .i64 tn, .int .i64 st, .int .i64 en, .int .i64 ow]] w fun e w' => e = .returned (.bool b) ∧ Below w.heap.size w w' := h ▸ range_any fr tn st en ow w
end Go.Proofs.YtolaabllhibkdaaGreat

/- cmp.Compare and cmp.Or at int. No condition. -/
namespace Go.Proofs.YtolaabllhibkdaaGreat
open Go.ChangeShapes Go.WideShapes Go.ChangeAt Go.RowKit Go.Sort
set_option linter.unusedSimpArgs false
set_option linter.unusedVariables false
def cmpI (a b : Int) : Int := if a < b then -1 else if b < a then 1 else 0
theorem cmpI_lt {a b : Int} (h : a < b) : cmpI a b = -1 := if_pos h
theorem cmpI_gt {a b : Int} (h : b < a) : cmpI a b = 1 := by unfold cmpI; rw [if_neg (by omega), if_pos h]
theorem cmpI_eq (a : Int) : cmpI a a = 0 := by unfold cmpI; rw [if_neg (by omega), if_neg (by omega)]
theorem cmpI_zero {a b : Int} : cmpI a b = 0 ↔ a = b := by
  unfold cmpI; constructor
  · intro h; split at h
    · omega
    · split at h <;> omega
  · rintro rfl; rw [if_neg (by omega), if_neg (by omega)]
def orF : List Int → Int
  | [] => 0
  | x :: l => if x = 0 then orF l else x
theorem nan_any (a : Int) (w : World) : Calls Tryz.prog 111 #[.int .i64 a] w fun e w' => e = .returned (.bool false) ∧ w = w' := by
  have hz : (a != a) = false := by simp
  go_enter Tryz.func111, Tryz.ntmps111
  go_wp2
  go_ret
  exact ⟨rfl, rfl⟩
theorem cmp_any (a b : Int) (w : World) : Calls Tryz.prog 97 #[.int .i64 a, .int .i64 b] w fun e w' => e = .returned (.int .i64 (cmpI a b)) ∧ w = w' := by
  by_cases h1 : a < b
  · rw [cmpI_lt h1]
    go_enter Tryz.func97, Tryz.ntmps97
    go_wp2_with (go_at_call 111; refine (nan_any _ _).mono ?_; rintro e w' ⟨rfl, rfl⟩)
    go_ret
    exact ⟨rfl, rfl⟩
  · by_cases h2 : b < a
    · rw [cmpI_gt h2]
      go_enter Tryz.func97, Tryz.ntmps97
      go_wp2_with (go_at_call 111; refine (nan_any _ _).mono ?_; rintro e w' ⟨rfl, rfl⟩)
      go_ret
      exact ⟨rfl, rfl⟩
    · have h0 : cmpI a b = 0 := cmpI_zero.2 (by omega)
      rw [h0]
      go_enter Tryz.func97, Tryz.ntmps97
      go_wp2_with (go_at_call 111; refine (nan_any _ _).mono ?_; rintro e w' ⟨rfl, rfl⟩)
      go_ret
      exact ⟨rfl, rfl⟩
theorem orF_next : ∀ (l : List Int) (k : Nat), k < l.length → (∀ j, j < k → l.getD j 0 = 0) → l.getD k 0 ≠ 0 → orF l = l.getD k 0
  | x :: l, 0, _, _, h => by simp [orF] at *; intro e; exact absurd e h
  | x :: l, k + 1, hk, hz, h => by
    have h0 : x = 0 := by simpa using hz 0 (by omega)
    rw [orF, if_pos h0]
    simpa using orF_next l k (by simpa using hk) (fun j hj => by simpa using hz (j + 1) (by omega)) (by simpa using h)
theorem orF_zero : ∀ (l : List Int), (∀ j, j < l.length → l.getD j 0 = 0) → orF l = 0
  | [], _ => rfl
  | x :: l, h => by
    have h0 : x = 0 := by simpa using h 0 (by simp)
    rw [orF, if_pos h0]
    exact orF_zero l (fun j hj => by simpa using h (j + 1) (by simpa using hj))
theorem or_any (g m c : Nat) (l : List Int) (w : World) (hm : l.length = m) (hm2 : m ≤ 1000) (hc : ∀ k, k < m → w.cell? ⟨g, k, none⟩ = some (.int .i64 (l.getD k 0))) :
    Calls Tryz.prog 96 #[.slice (some ⟨g, 0, none⟩) m c] w fun e w' => e = .returned (.int .i64 (orF l)) ∧ w = w' := by
  have HC := Lib.hid hc
  have HM := Lib.hid hm
  clear hc hm
  go_enter Tryz.func96, Tryz.ntmps96
  go_wp2
  go_loop [8] (fun i => ∃ k : Nat, k ≤ m ∧ i = .int .i64 k ∧ Hid (∀ j, j < k → l.getD j 0 = 0)) (fun i => m - (intOf i).toNat)
  case atStart => exact ⟨0, by omega, rfl, fun j hj => by omega⟩
  case round =>
    obtain ⟨k, hk, rfl, HZ⟩ := hrel
    by_cases hkm : k < m
    · have hck := HC.out k hkm
      obtain ⟨y, hy⟩ : ∃ y, l.getD k 0 = y := ⟨_, rfl⟩
      rw [hy] at hck
      have HY := Lib.hid hy
      clear hy
      by_cases h0 : y = 0
      · have hb : (y != 0) = false := by simp [h0]
        have H0 := Lib.hid h0
        clear h0
        go_wp2
        go_round
        case rel => exact ⟨k + 1, by omega, by go_num, fun j hj => by
          by_cases e : j = k
          · rw [e, HY.out]; exact H0.out
          · exact HZ.out j (by omega)⟩
        case measure => simp [intOf]; omega
      · have hb : (y != 0) = true := by simpa using h0
        have hfin : orF l = y := by rw [← HY.out]; exact orF_next l k (by have := HM.out; omega) HZ.out (by rw [HY.out]; exact h0)
        have HF := Lib.hid hfin
        clear hfin h0
        go_wp2
        go_ret
        exact ⟨by rw [HF.out]; rfl, rfl⟩
    · have hfin : orF l = 0 := orF_zero l (fun j hj => HZ.out j (by have := HM.out; omega))
      have HF := Lib.hid hfin
      clear hfin
      go_wp2
      go_ret
      exact ⟨by rw [HF.out]; rfl, rfl⟩
end Go.Proofs.YtolaabllhibkdaaGreat

/- A map from int to bool that the call made: what it tells at a key, a store, its laws in a walk. No condition. -/
namespace Go.Proofs.YtolaabllhibkdaaGreat
open Go.ChangeShapes Go.WideShapes Go.ChangeAt Go.RowKit Go.Sort
set_option linter.unusedSimpArgs false
set_option linter.unusedVariables false
open Go.Maps (Keyed)
theorem keyedI : Keyed Tryz.prog 3 := Maps.int_keyed Tryz.underlying3
theorem zeroB (w : World) : (zeroValue 4).run Tryz.prog w = .ok (.bool false) w := by kernel_rfl
/-- Block b is a map that the call made, and tells S of each int. -/
def SetW (w : World) (b n : Nat) (S : Int → Bool) : Prop :=
  ∃ D : DataW Unit, w.ownsMap Tryz.prog 3 (plainElem Tryz.prog 4) b n D ∧ Maps.IsMap D ∧ ∀ k, (Lit.int .i64 k).wf = true → D.atKey (.int .i64 k) (.lit (.bool false)) = .lit (.bool (S k))
theorem wfI {k : Int} (h : -9223372036854775808 ≤ k ∧ k ≤ 9223372036854775807) : (Lit.int .i64 k).wf = true := by
  simp [Lit.wf, IntKind.min, IntKind.max, IntKind.signed, IntKind.bits]; omega
theorem plainElem_bool_inv {P : Program} {e : TypeId} (he : P.underlying e = some .bool) {v : Value} {z : DataW Unit × List MemPlace} (h : plainElem P e v = some z) : ∃ x, v = .bool x ∧ z = (.lit (.bool x), []) := by
  unfold plainElem at h
  rw [he] at h
  cases v <;> simp at h
  rename_i x
  exact ⟨x, rfl, h.symm⟩
theorem SetW.made (w : World) : SetW (w.alloc (.map #[] 0)) w.heap.size 0 (fun _ => false) :=
  ⟨.map [], World.ownsMap_made _ _ _ _, ⟨[], rfl⟩, fun k _ => rfl⟩
theorem SetW.lt {w : World} {b n : Nat} {S : Int → Bool} (h : SetW w b n S) : b < w.heap.size := let ⟨_, h, _⟩ := h; h.lt
theorem SetW.kept {w w' : World} {b n : Nat} {S : Int → Bool} {row : Option Nat} (h : SetW w b n S) (hg : w.grownBy w' row) (hne : some b ≠ row) : SetW w' b n S := let ⟨D, h1, h2⟩ := h; ⟨D, h1.kept hg hne, h2⟩
theorem SetW.below {w w' : World} {b n : Nat} {S : Int → Bool} (h : SetW w b n S) (hb : Below w.heap.size w w') : SetW w' b n S := h.kept (grown_of_below (row := none) hb) (by simp)
theorem SetW.alloc {w : World} {b n : Nat} {S : Int → Bool} (h : SetW w b n S) (o : Obj) : SetW (w.alloc o) b n S := let ⟨D, h1, h2⟩ := h; ⟨D, h1.alloc o, h2⟩
theorem SetW.drew {w : World} {b n : Nat} {S : Int → Bool} (h : SetW w b n S) : SetW w.drew b n S := h
theorem SetW.congr {w : World} {b n : Nat} {S S' : Int → Bool} (h : SetW w b n S) (e : ∀ k, (Lit.int .i64 k).wf = true → S k = S' k) : SetW w b n S' := let ⟨D, h1, h2, h3⟩ := h; ⟨D, h1, h2, fun k hk => by rw [h3 k hk, e k hk]⟩
theorem SetW.look {w : World} {b n : Nat} {S : Int → Bool} (h : SetW w b n S) {k : Int} (hk : (Lit.int .i64 k).wf = true) : (Instr.lookup 85 (.map (some b)) (.int .i64 k) false).run Tryz.prog w = .ok (.bool (S k)) w := by
  obtain ⟨D, h1, h2, h3⟩ := h
  obtain ⟨v, ps, hrun, hv⟩ := h1.lookup keyedI Tryz.underlying85 (zeroB w) (plainElem_bool Tryz.underlying4 false) (Maps.keyOf_int_mk Tryz.underlying3 hk)
  obtain ⟨x, rfl, hx⟩ := plainElem_bool_inv Tryz.underlying4 hv
  rw [h3 k hk] at hx
  simp only [Prod.mk.injEq, DataW.lit.injEq, Lit.bool.injEq] at hx
  rw [hrun, hx.1]
theorem SetW.put {w : World} {b n : Nat} {S : Int → Bool} (h : SetW w b n S) (hn : n < maxLen) {k : Int} (hk : (Lit.int .i64 k).wf = true) (v : Bool) :
    ∃ w', (Instr.mapUpdate 85 (.map (some b)) (.int .i64 k) (.bool v)).run Tryz.prog w = .ok () w' ∧ SetW w' b (n + 1) (fun j => if j = k then v else S j) ∧ w.grownBy w' (some b) := by
  obtain ⟨D, h1, h2, h3⟩ := h
  obtain ⟨w', hrun, hown, hg⟩ := h1.update keyedI Tryz.underlying85 hn (Maps.keyOf_int_mk Tryz.underlying3 hk) (plainElem_bool Tryz.underlying4 v)
  refine ⟨w', hrun, ⟨_, hown, h2.put _ _, fun j hj => ?_⟩, hg⟩
  by_cases e : j = k
  · subst e
    rw [Maps.atKey_put_same h2 (by simp [WideAt.IsKeyLit])]; simp
  · rw [Maps.atKey_put_other (by intro e2; injection e2 with _ e3; exact e e3), h3 j hj]; simp [e]
/-- A look-up, at the operation. -/
theorem wpList_look_set {ops : Array Oper} {rest : List Oper} {o : Oper} {a : Act} {w : World} {Q : Exit → Act → World → Prop} (hg : o.guard = none) (m x : Operand) (hop : o.op = Op.lookup 85 m x false) (b n : Nat) (S : Int → Bool) (k : Int)
    (hm : a.eval m = .map (some b)) (h : SetW w b n S) (hx : a.eval x = .int .i64 k) (hk : (Lit.int .i64 k).wf = true)
    (hK : wpList Tryz.prog ops Q rest (a.put o.dst (.bool (S k))) w) : wpList Tryz.prog ops Q (o :: rest) a w := by
  refine wpList_plain hg fun K' hK' => ?_
  unfold Oper.wp
  simp [execOp, hop, hm, hx, h.look hk, Result.andThen]
  exact hK' _ _ hK
/-- A store, at the operation. -/
theorem wpList_put_set {ops : Array Oper} {rest : List Oper} {o : Oper} {a : Act} {w : World} {Q : Exit → Act → World → Prop} (hg : o.guard = none) (m x v : Operand) (hop : o.op = Op.mapUpdate 85 m x v) (b n : Nat) (S : Int → Bool) (k : Int) (vb : Bool)
    (hm : a.eval m = .map (some b)) (h : SetW w b n S) (hn : n < maxLen) (hx : a.eval x = .int .i64 k) (hk : (Lit.int .i64 k).wf = true) (hv : a.eval v = .bool vb)
    (hK : ∀ w', SetW w' b (n + 1) (fun j => if j = k then vb else S j) → w.grownBy w' (some b) → wpList Tryz.prog ops Q rest (a.put o.dst undef) w') : wpList Tryz.prog ops Q (o :: rest) a w := by
  refine wpList_plain hg fun K' hK' => ?_
  obtain ⟨w', hrun, h1, h2⟩ := h.put hn hk vb
  unfold Oper.wp
  simp [execOp, hop, hm, hx, hv, hrun, Result.andThen]
  exact hK' _ _ (hK w' h1 h2)
end Go.Proofs.YtolaabllhibkdaaGreat

/- A call of a Go function, as one step of a region that draws its order. No condition. -/
namespace Go.Proofs.YtolaabllhibkdaaGreat
open Go.ChangeShapes Go.WideShapes Go.ChangeAt Go.RowKit Go.Sort
set_option linter.unusedSimpArgs false
set_option linter.unusedVariables false
theorem step_call {P : Program} {ops : Array Oper} {o : Oper} {a : Act} {w : World} {K : Act → World → Prop} {Q : Exit → Act → World → Prop} {E : Prop} (hgd : o.guard = none) (f : FuncId) (xs : Array Operand) (ats : Array TypeId)
    (ho : o.op = .call { callee := .value (.func f), args := xs, argTypes := ats }) (vals : Array Value) (hv : #[] ++ xs.map a.eval ++ #[] = vals) {fn : Func} (hf : P.funcs[f]? = some fn) (hb : fn.body.isNone = false) (hnm : (fn.name == "runtime.NumGoroutine") = false)
    (h : Calls P f vals w fun e w' => ∃ v, e = .returned v ∧ K (a.put o.dst v) w') :
    if Region.wanted o (yielded ops a.tmps) = true then Oper.wp P o a w K Q else E := by
  rw [if_pos (by simp [Region.wanted, hgd])]
  obtain ⟨dst, op, ty, pos, after, guard⟩ := o
  simp only at ho
  subst ho
  unfold Oper.wp
  rw [execOp_call_go, hv]
  have e : (callFunc f vals).run P w = .ok (.enter f vals) w := by
    have h1 : fn.name ≠ "runtime.NumGoroutine" := by simpa using hnm
    have h2 : fn.body ≠ none := by intro e; rw [e] at hb; cases hb
    simp [callFunc, run_program, hf]
    rw [if_neg h1, if_neg h2]
  rw [e]
  refine h.mono ?_
  rintro e w' ⟨v, rfl, hK⟩
  exact hK
end Go.Proofs.YtolaabllhibkdaaGreat

/- An argument that is a slice of flat structs, opened as a slice with its nil. No condition. -/
namespace Go.Proofs.YtolaabllhibkdaaGreat
open Go.ChangeShapes Go.WideShapes Go.ChangeAt Go.RowKit Go.Sort
set_option linter.unusedSimpArgs false
set_option linter.unusedVariables false
variable {H : Type} {enc : TypeId × Value → H} {P : Program}
theorem open_rowsS {w : World} {base b0 : Nat} {r : Reach} {spare : Nat → Bool} {held : Bool} {t e : TypeId} {v : Value} {d : DataW H} {p : List MemPlace} (q : Nat) {K : Nat} (ht : P.underlying t = some (.slice e)) (hf : flatB P q e = true) (hK : P.cellsOf e = K) (hpos : 0 < K)
    (hv : Value.okWide P w r b0 t v) (h : DataW.Trod enc P w base spare held t v d p) :
    ∃ (A : Option Addr) (n c : Nat) (ns : List Int), v = .slice A n c ∧ Sl w w.heap.size K A n c (ns.map (Value.int .i64)) ∧ ns.length = n * K ∧ ∀ m ∈ ns, (Lit.int .i64 m).wf = true := by
  obtain ⟨A, n, c, ns, rfl, h1, h2, h3, h4, h5⟩ := open_rows q ht hf hK hpos hv h
  refine ⟨A, n, c, ns, rfl, ⟨h3, h1, h2, fun hA => ?_⟩, h4, h5⟩
  subst hA
  obtain ⟨fuel, hx⟩ := h
  rcases Go.Deep.open_slice ht hx with ⟨h0, _⟩ | ⟨a, len, cap, m, q', D, Pl, hcs, _⟩
  · have h0' : Value.slice none n c = .slice none 0 0 := by simpa [Value.cells] using h0
    injection h0'
  · simp [Value.cells] at hcs
end Go.Proofs.YtolaabllhibkdaaGreat

/- An argument that is a struct of a slice of flat structs and an int, opened. No condition. -/
namespace Go.Proofs.YtolaabllhibkdaaGreat
open Go.ChangeShapes Go.WideShapes Go.ChangeAt Go.RowKit Go.Sort
set_option linter.unusedSimpArgs false
set_option linter.unusedVariables false
variable {H : Type} {enc : TypeId × Value → H} {P : Program}
theorem rows_of_trod {w : World} {base : Nat} {spare : Nat → Bool} {held : Bool} {t e : TypeId} {fuel : Nat} {cs : List Value} {x : DataW H × List MemPlace} (q : Nat) {K : Nat} (ht : P.underlying t = some (.slice e)) (hf : flatB P q e = true) (hK : P.cellsOf e = K) (hpos : 0 < K)
    (hx : DataW.trod enc P w base spare held fuel t cs = some x) :
    ∃ (A : Option Addr) (n c : Nat) (ns : List Int), cs = [.slice A n c] ∧ Sl w w.heap.size K A n c (ns.map (Value.int .i64)) ∧ ns.length = n * K ∧ ∀ m ∈ ns, (Lit.int .i64 m).wf = true := by
  subst hK
  rcases Go.Deep.open_slice ht hx with ⟨rfl, _⟩ | ⟨a, n, c, m, q', D, Pl, rfl, hb, hl, hm, hmm, _, hi⟩
  · exact ⟨none, 0, 0, [], rfl, Sl.nil0 _ _ _, by simp, by simp⟩
  · have hnm : n ≤ m := by rw [hmm]; split <;> omega
    have key : ∀ i, i ≤ n → ∃ ns : List Int, ns.length = i * P.cellsOf e ∧ (∀ j u, (ns.map (Value.int .i64))[j]? = some u → w.cell? (a.add j) = some u) ∧ ∀ m ∈ ns, (Lit.int .i64 m).wf = true := by
      intro i
      induction i with
      | zero => exact fun _ => ⟨[], by simp, by simp, by simp⟩
      | succ i ih =>
        intro hin
        obtain ⟨ns, n1, n2, n3⟩ := ih (by omega)
        obtain ⟨cs', hc, htr⟩ := hi i (by omega)
        obtain ⟨_, hcl, hat⟩ := World.cells?_some hc
        obtain ⟨ms, e1, e2⟩ := ints_of_cells (flat_cell q hf htr)
        refine ⟨ns ++ ms, ?_, fun j u hu => ?_, fun x hx => ?_⟩
        · have hml : ms.length = P.cellsOf e := by rw [← hcl, e1]; simp
          rw [List.length_append, n1, hml, Nat.add_mul, Nat.one_mul]
        · rw [List.map_append] at hu
          by_cases hj : j < ns.length
          · rw [List.getElem?_append_left (by simpa using hj)] at hu
            exact n2 j u hu
          · rw [List.getElem?_append_right (by simpa using hj)] at hu
            have hjl : j - ns.length < P.cellsOf e := by
              have := (List.getElem?_eq_some_iff.1 hu).1
              rw [List.length_map] at this
              rw [← e1, hcl] at this
              simpa using this
            have := hat (j - ns.length) hjl
            rw [add_plus, n1] at this
            rw [show i * P.cellsOf e + (j - i * P.cellsOf e) = j from by omega] at this
            rw [this, e1, ← n1]
            simpa using hu
        · rcases List.mem_append.1 hx with hx | hx
          · exact n3 x hx
          · exact e2 x hx
    obtain ⟨ns, n1, n2, n3⟩ := key n (Nat.le_refl _)
    refine ⟨some a, n, c, ns, rfl, ⟨⟨by simpa using n1, fun hn => ⟨a, rfl, ?_, n2⟩⟩, hl, hm, fun h => by cases h⟩, n1, n3⟩
    have h0 : 0 < ns.length := by rw [n1]; exact Nat.mul_pos hn hpos
    have := n2 0 (.int .i64 ns[0]) (by simp)
    rw [add_zero_] at this
    exact block_lt_of_cell this
theorem open_hdr {w : World} {base b0 : Nat} {r : Reach} {spare : Nat → Bool} {held : Bool} {t e : TypeId} {f0 f1 : Field} {v : Value} {d : DataW H} {p : List MemPlace} (q : Nat) {K : Nat} (hs : P.underlying t = some (.struct #[f0, f1])) (hfo : (f0.offset == 0 && P.cellsOf f0.type == 1 && f1.offset == 1 && P.cellsOf f1.type == 1 && P.cellsOf t == 2) = true)
    (ht : P.underlying f0.type = some (.slice e)) (hi : P.underlying f1.type = some (.int .i64)) (hf : flatB P q e = true) (hK : P.cellsOf e = K) (hpos : 0 < K)
    (hv : Value.okWide P w r b0 t v) (h : DataW.Trod enc P w base spare held t v d p) :
    ∃ (A : Option Addr) (n c : Nat) (ns : List Int) (a : Int), v = .agg #[.slice A n c, .int .i64 a] ∧ Sl w w.heap.size K A n c (ns.map (Value.int .i64)) ∧ ns.length = n * K ∧ (∀ m ∈ ns, (Lit.int .i64 m).wf = true) ∧ (Lit.int .i64 a).wf = true := by
  simp only [Bool.and_eq_true, beq_iff_eq] at hfo
  obtain ⟨⟨⟨⟨o0, k0⟩, o1⟩, k1⟩, kt⟩ := hfo
  obtain ⟨cs, rfl, hsz⟩ := okWide_struct hs hv
  obtain ⟨fuel, hx⟩ := h
  obtain ⟨y0, y1, n, _, hl, t0, t1⟩ := trod_struct2 hs hx
  rw [o0, k0] at t0
  rw [o1, k1] at t1
  obtain ⟨l⟩ := cs
  rw [kt] at hsz
  have hl2 : l.length = 2 := hsz
  match l, hl2 with
  | [c0, c1], _ =>
    have e0 : ((Value.agg #[c0, c1]).cells.toList.drop 0).take 1 = [c0] := rfl
    have e1 : ((Value.agg #[c0, c1]).cells.toList.drop 1).take 1 = [c1] := rfl
    first | rw [e0] at t0 | (change DataW.trod enc P w base spare held n f0.type [c0] = some y0 at t0)
    first | rw [e1] at t1 | (change DataW.trod enc P w base spare held n f1.type [c1] = some y1 at t1)
    obtain ⟨A, n, c, ns, g1, g2, g3, g4⟩ := rows_of_trod q ht hf hK hpos t0
    obtain ⟨a, h1, _, h3⟩ := DataW.trod_int hi t1
    injection g1 with g1
    injection h1 with h1
    subst g1
    subst h1
    exact ⟨A, n, c, ns, a, rfl, g2, g3, g4, h3⟩
end Go.Proofs.YtolaabllhibkdaaGreat

/- An argument that is a struct of two slices of flat structs and of two ints (api.Plan), opened. No condition. -/
namespace Go.Proofs.YtolaabllhibkdaaGreat
open Go.ChangeShapes Go.WideShapes Go.ChangeAt Go.RowKit Go.Sort
set_option linter.unusedSimpArgs false
set_option linter.unusedVariables false
variable {H : Type} {enc : TypeId × Value → H} {P : Program}
theorem open_plan {w : World} {base b0 : Nat} {r : Reach} {spare : Nat → Bool} {held : Bool} {t e0 e1 : TypeId} {f0 f1 f2 f3 : Field} {v : Value} {d : DataW H} {p : List MemPlace} (q : Nat) {K0 K1 : Nat} (hs : P.underlying t = some (.struct #[f0, f1, f2, f3]))
    (hfo : (f0.offset == 0 && P.cellsOf f0.type == 1 && f1.offset == 1 && P.cellsOf f1.type == 1 && f2.offset == 2 && P.cellsOf f2.type == 1 && f3.offset == 3 && P.cellsOf f3.type == 1 && P.cellsOf t == 4) = true)
    (ht0 : P.underlying f0.type = some (.slice e0)) (ht1 : P.underlying f1.type = some (.slice e1)) (hi2 : P.underlying f2.type = some (.int .i64)) (hi3 : P.underlying f3.type = some (.int .i64)) (hf0 : flatB P q e0 = true) (hf1 : flatB P q e1 = true) (hK0 : P.cellsOf e0 = K0) (hpos0 : 0 < K0) (hK1 : P.cellsOf e1 = K1) (hpos1 : 0 < K1)
    (hv : Value.okWide P w r b0 t v) (h : DataW.Trod enc P w base spare held t v d p) :
    ∃ (A : Option Addr) (n c : Nat) (ns : List Int) (B : Option Addr) (m k : Nat) (ms : List Int) (x y : Int), v = .agg #[.slice A n c, .slice B m k, .int .i64 x, .int .i64 y] ∧
      Sl w w.heap.size K0 A n c (ns.map (Value.int .i64)) ∧ ns.length = n * K0 ∧ (∀ u ∈ ns, (Lit.int .i64 u).wf = true) ∧
      Sl w w.heap.size K1 B m k (ms.map (Value.int .i64)) ∧ ms.length = m * K1 ∧ (∀ u ∈ ms, (Lit.int .i64 u).wf = true) ∧ (Lit.int .i64 x).wf = true ∧ (Lit.int .i64 y).wf = true := by
  simp only [Bool.and_eq_true, beq_iff_eq] at hfo
  obtain ⟨⟨⟨⟨⟨⟨⟨⟨o0, k0⟩, o1⟩, k1⟩, o2⟩, k2⟩, o3⟩, k3⟩, kt⟩ := hfo
  obtain ⟨cs, rfl, hsz⟩ := okWide_struct hs hv
  obtain ⟨fuel, hx⟩ := h
  obtain ⟨y0, y1, y2, y3, n, _, hl, t0, t1, t2, t3⟩ := Go.Joins.trod_struct4 hs hx
  rw [o0, k0] at t0
  rw [o1, k1] at t1
  rw [o2, k2] at t2
  rw [o3, k3] at t3
  obtain ⟨l⟩ := cs
  rw [kt] at hsz
  have hl2 : l.length = 4 := hsz
  match l, hl2 with
  | [c0, c1, c2, c3], _ =>
    change DataW.trod enc P w base spare held n f0.type [c0] = some y0 at t0
    change DataW.trod enc P w base spare held n f1.type [c1] = some y1 at t1
    change DataW.trod enc P w base spare held n f2.type [c2] = some y2 at t2
    change DataW.trod enc P w base spare held n f3.type [c3] = some y3 at t3
    obtain ⟨A, n0, c, ns, g1, g2, g3, g4⟩ := rows_of_trod q ht0 hf0 hK0 hpos0 t0
    obtain ⟨B, m, k, ms, j1, j2, j3, j4⟩ := rows_of_trod q ht1 hf1 hK1 hpos1 t1
    obtain ⟨x, h1, _, h3⟩ := DataW.trod_int hi2 t2
    obtain ⟨y, i1, _, i3⟩ := DataW.trod_int hi3 t3
    injection g1 with g1
    injection j1 with j1
    injection h1 with h1
    injection i1 with i1
    subst g1 j1 h1 i1
    exact ⟨A, n0, c, ns, B, m, k, ms, x, y, rfl, g2, g3, g4, j2, j3, j4, h3, i3⟩
end Go.Proofs.YtolaabllhibkdaaGreat

/- A map that the call made, whatever its elements are: what it holds at each key, look-ups, stores. No condition. -/
namespace Go.Proofs.YtolaabllhibkdaaGreat
open Go.ChangeShapes Go.WideShapes Go.ChangeAt Go.RowKit Go.Sort
set_option linter.unusedSimpArgs false
set_option linter.unusedVariables false
open Go.Maps (Keyed)
set_option maxRecDepth 100000
def heldV (v : Value) : Option (DataW Value × List MemPlace) := some (.held v, [])
noncomputable def setS (S : Lit → Option Value) (kl : Lit) (v : Value) : Lit → Option Value := fun j => @ite _ (j = kl) (Classical.propDecidable _) (some v) (S j)
theorem setS_same (S : Lit → Option Value) (kl : Lit) (v : Value) : setS S kl v kl = some v := if_pos rfl
theorem setS_other (S : Lit → Option Value) {kl j : Lit} (v : Value) (h : j ≠ kl) : setS S kl v j = S j := if_neg h
/-- Block b is a map that the call made, of at most n stores, and holds S at each key. -/
def MapV (w : World) (k : TypeId) (b n : Nat) (S : Lit → Option Value) : Prop :=
  ∃ D : DataW Value, w.ownsMap Tryz.prog k heldV b n D ∧ ∀ kl, WideAt.IsKeyLit kl → Maps.has D kl = (S kl).isSome ∧ ∀ v, S kl = some v → ∀ z, D.atKey kl z = .held v
theorem MapV.made (w : World) (k : TypeId) : MapV (w.alloc (.map #[] 0)) k w.heap.size 0 (fun _ => none) :=
  ⟨.map [], World.ownsMap_made _ _ _ _, fun kl _ => ⟨rfl, fun v h => by cases h⟩⟩
theorem MapV.lt {w : World} {k : TypeId} {b n : Nat} {S : Lit → Option Value} (h : MapV w k b n S) : b < w.heap.size := let ⟨_, h, _⟩ := h; h.lt
theorem MapV.kept {w w' : World} {k : TypeId} {b n : Nat} {S : Lit → Option Value} {row : Option Nat} (h : MapV w k b n S) (hg : w.grownBy w' row) (hne : some b ≠ row) : MapV w' k b n S := let ⟨D, h1, h2⟩ := h; ⟨D, h1.kept hg hne, h2⟩
theorem MapV.below {w w' : World} {k : TypeId} {b n : Nat} {S : Lit → Option Value} (h : MapV w k b n S) (hb : Below w.heap.size w w') : MapV w' k b n S := h.kept (grown_of_below (row := none) hb) (by simp)
theorem MapV.alloc {w : World} {k : TypeId} {b n : Nat} {S : Lit → Option Value} (h : MapV w k b n S) (o : Obj) : MapV (w.alloc o) k b n S := let ⟨D, h1, h2⟩ := h; ⟨D, h1.alloc o, h2⟩
theorem MapV.drew {w : World} {k : TypeId} {b n : Nat} {S : Lit → Option Value} (h : MapV w k b n S) : MapV w.drew k b n S := h
theorem MapV.congr {w : World} {k : TypeId} {b n : Nat} {S S' : Lit → Option Value} (h : MapV w k b n S) (e : ∀ kl, S kl = S' kl) : MapV w k b n S' := by
  have : S = S' := funext e
  rw [← this]; exact h
theorem MapV.look {w : World} {k t e : TypeId} {b n : Nat} {S : Lit → Option Value} (h : MapV w k b n S) (K : Keyed Tryz.prog k) (ht : Tryz.prog.underlying t = some (.map k e)) {z : Value} (hz : (zeroValue e).run Tryz.prog w = .ok z w) {key : Value} {kl : Lit} (hkey : keyOf Tryz.prog k key = some kl) (hl : WideAt.IsKeyLit kl) :
    (Instr.lookup t (.map (some b)) key false).run Tryz.prog w = .ok ((S kl).getD z) w := by
  obtain ⟨D, h1, h2⟩ := h
  obtain ⟨v, ps, hrun, hv⟩ := h1.lookup K ht hz (z := z) (zd := .held z) (zp := []) rfl hkey
  obtain ⟨g1, g2⟩ := h2 kl hl
  simp only [heldV, Option.some.injEq, Prod.mk.injEq] at hv
  rw [hrun]
  cases hs : S kl with
  | none =>
    rw [hs] at g1
    rw [Maps.atKey_of_not_has g1] at hv
    injection hv.1 with hv
    rw [hv]; rfl
  | some x =>
    rw [g2 x hs] at hv
    injection hv.1 with hv
    rw [hv]; rfl
theorem MapV.look_ok {w : World} {k t e : TypeId} {b n : Nat} {S : Lit → Option Value} (h : MapV w k b n S) (K : Keyed Tryz.prog k) (ht : Tryz.prog.underlying t = some (.map k e)) {z : Value} (hz : (zeroValue e).run Tryz.prog w = .ok z w) {key : Value} {kl : Lit} (hkey : keyOf Tryz.prog k key = some kl) (hl : WideAt.IsKeyLit kl) :
    (Instr.lookup t (.map (some b)) key true).run Tryz.prog w = .ok (.tuple #[(S kl).getD z, .bool (S kl).isSome]) w := by
  obtain ⟨D, h1, h2⟩ := h
  obtain ⟨v, ps, hrun, hv⟩ := h1.look_ok K ht hz (z := z) (zd := .held z) (zp := []) rfl hkey
  obtain ⟨g1, g2⟩ := h2 kl hl
  simp only [heldV, Option.some.injEq, Prod.mk.injEq] at hv
  rw [hrun, g1]
  cases hs : S kl with
  | none =>
    rw [hs] at g1
    rw [Maps.atKey_of_not_has g1] at hv
    injection hv.1 with hv
    rw [hv]; rfl
  | some x =>
    rw [g2 x hs] at hv
    injection hv.1 with hv
    rw [hv]; rfl
theorem MapV.put {w : World} {k t e : TypeId} {b n : Nat} {S : Lit → Option Value} (h : MapV w k b n S) (K : Keyed Tryz.prog k) (ht : Tryz.prog.underlying t = some (.map k e)) (hn : n < maxLen) {key : Value} {kl : Lit} (hkey : keyOf Tryz.prog k key = some kl) (hl : WideAt.IsKeyLit kl) (v : Value) :
    ∃ w', (Instr.mapUpdate t (.map (some b)) key v).run Tryz.prog w = .ok () w' ∧ MapV w' k b (n + 1) (setS S kl v) ∧ w.grownBy w' (some b) := by
  obtain ⟨D, h1, h2⟩ := h
  have hm := h1.isMap
  obtain ⟨w', hrun, hown, ht2⟩ := h1.store K ht hn hkey (val := v) (d := .held v) (ps := []) rfl
  refine ⟨w', hrun, ⟨_, hown, fun j hj => ?_⟩, ht2.grown⟩
  by_cases e : j = kl
  · subst e
    rw [Maps.has_put_same hm hj]
    rw [setS_same]
    refine ⟨by simp, fun x hx z => ?_⟩
    rw [Maps.atKey_put_same hm hj]
    simp only [Option.some.injEq] at hx
    rw [hx]
  · rw [Maps.has_put_other e]
    rw [setS_other _ _ e]
    refine ⟨(h2 j hj).1, fun x hx z => ?_⟩
    rw [Maps.atKey_put_other e]
    exact (h2 j hj).2 x hx z
theorem MapV.len {w : World} {k t e : TypeId} {b n : Nat} {S : Lit → Option Value} (h : MapV w k b n S) (ht : Tryz.prog.underlying t = some (.map k e)) (ty : TypeId) :
    ∃ q : Nat, (Builtin.len_ #[t] ty #[.map (some b)]).run Tryz.prog w = .ok (.int .i64 q) w ∧ q ≤ n ∧ ∀ kl, WideAt.IsKeyLit kl → (S kl).isSome = true → 0 < q := by
  obtain ⟨D, h1, h2⟩ := h
  refine ⟨_, h1.len ht ty, h1.size_le, fun kl hl hs => ?_⟩
  rw [← (h2 kl hl).1] at hs
  obtain ⟨es, rfl⟩ := h1.isMap
  rw [Maps.has_eq] at hs
  rw [Maps.size_eq]
  cases es with
  | nil => simp at hs
  | cons x r => simp
theorem keyI (k : Int) (hk : (Lit.int .i64 k).wf = true) : keyOf Tryz.prog 3 (.int .i64 k) = some (.int .i64 k) := Maps.keyOf_int_mk Tryz.underlying3 hk
theorem keyedV : Keyed Tryz.prog 3 := Maps.int_keyed Tryz.underlying3
theorem isKeyI (k : Int) : WideAt.IsKeyLit (.int .i64 k) := by simp [WideAt.IsKeyLit]
/-- 'make(map)', with a hint or without: the run. -/
theorem wpList_look_map {ops : Array Oper} {rest : List Oper} {o : Oper} {a : Act} {w : World} {Q : Exit → Act → World → Prop} (hg : o.guard = none) (m x : Operand) (t : TypeId) (hop : o.op = Op.lookup t m x false) (k e : TypeId) (b n : Nat) (S : Lit → Option Value)
    (hm : a.eval m = .map (some b)) (h : MapV w k b n S) (K : Keyed Tryz.prog k) (ht : Tryz.prog.underlying t = some (.map k e)) {z : Value} (hz : (zeroValue e).run Tryz.prog w = .ok z w) (key : Value) (kl : Lit) (hx : a.eval x = key) (hkey : keyOf Tryz.prog k key = some kl) (hl : WideAt.IsKeyLit kl)
    (v : Value) (hv : (S kl).getD z = v) (hK : wpList Tryz.prog ops Q rest (a.put o.dst v) w) : wpList Tryz.prog ops Q (o :: rest) a w := by
  refine wpList_plain hg fun K' hK' => ?_
  subst hv
  unfold Oper.wp
  simp [execOp, hop, hm, hx, h.look K ht hz hkey hl, Result.andThen]
  exact hK' _ _ hK
theorem wpList_lookok_map {ops : Array Oper} {rest : List Oper} {o : Oper} {a : Act} {w : World} {Q : Exit → Act → World → Prop} (hg : o.guard = none) (m x : Operand) (t : TypeId) (hop : o.op = Op.lookup t m x true) (k e : TypeId) (b n : Nat) (S : Lit → Option Value)
    (hm : a.eval m = .map (some b)) (h : MapV w k b n S) (K : Keyed Tryz.prog k) (ht : Tryz.prog.underlying t = some (.map k e)) {z : Value} (hz : (zeroValue e).run Tryz.prog w = .ok z w) (key : Value) (kl : Lit) (hx : a.eval x = key) (hkey : keyOf Tryz.prog k key = some kl) (hl : WideAt.IsKeyLit kl)
    (v : Value) (hv : (S kl).getD z = v) (c : Bool) (hc : (S kl).isSome = c) (hK : wpList Tryz.prog ops Q rest (a.put o.dst (.tuple #[v, .bool c])) w) : wpList Tryz.prog ops Q (o :: rest) a w := by
  refine wpList_plain hg fun K' hK' => ?_
  subst hv
  subst hc
  unfold Oper.wp
  simp [execOp, hop, hm, hx, h.look_ok K ht hz hkey hl, Result.andThen]
  exact hK' _ _ hK
theorem wpList_put_map {ops : Array Oper} {rest : List Oper} {o : Oper} {a : Act} {w : World} {Q : Exit → Act → World → Prop} (hg : o.guard = none) (m x y : Operand) (t : TypeId) (hop : o.op = Op.mapUpdate t m x y) (k e : TypeId) (b n : Nat) (S : Lit → Option Value)
    (hm : a.eval m = .map (some b)) (h : MapV w k b n S) (K : Keyed Tryz.prog k) (ht : Tryz.prog.underlying t = some (.map k e)) (hn : n < maxLen) (key : Value) (kl : Lit) (hx : a.eval x = key) (hkey : keyOf Tryz.prog k key = some kl) (hl : WideAt.IsKeyLit kl)
    (v : Value) (hy : a.eval y = v)
    (hK : ∀ w', MapV w' k b (n + 1) (setS S kl v) → w.grownBy w' (some b) → wpList Tryz.prog ops Q rest (a.put o.dst undef) w') : wpList Tryz.prog ops Q (o :: rest) a w := by
  refine wpList_plain hg fun K' hK' => ?_
  obtain ⟨w', hrun, h1, h2⟩ := h.put K ht hn hkey hl v
  unfold Oper.wp
  simp [execOp, hop, hm, hx, hy, hrun, Result.andThen]
  exact hK' _ _ (hK w' h1 h2)
end Go.Proofs.YtolaabllhibkdaaGreat

/- The document's own sameness of rows of ints. No condition. -/
namespace Go.Proofs.YtolaabllhibkdaaGreat
open Go.ChangeShapes Go.WideShapes Go.ChangeAt Go.RowKit Go.Sort
set_option linter.unusedSimpArgs false
set_option linter.unusedVariables false
theorem intAt {l : List Int} {k : Nat} (h : k < l.length) : (l.map (Value.int .i64))[k]? = some (.int .i64 (l.getD k 0)) := by
  rw [List.getElem?_map, List.getElem?_eq_getElem h, List.getD_eq_getElem?_getD, List.getElem?_eq_getElem h]; rfl
theorem Lst.atI {w : World} {B : Nat} {A : Option Addr} {n : Nat} {l : List Int} (h : Lst w B 1 A n (l.map (Value.int .i64))) (hl : l.length = n) {k : Nat} (hk : k < n) : ∃ ad, A = some ad ∧ ad.block < B ∧ w.cell? (ad.add k) = some (.int .i64 (l.getD k 0)) := by
  obtain ⟨ad, e, hb, hc⟩ := h.at_ (by omega)
  exact ⟨ad, e, hb, hc _ _ (intAt (by omega))⟩
theorem extI {a b : List Int} (hl : a.length = b.length) (h : ∀ i, i < a.length → a.getD i 0 = b.getD i 0) : a = b := by
  refine List.ext_getElem hl fun i h1 h2 => ?_
  have := h i h1
  rw [List.getD_eq_getElem?_getD, List.getElem?_eq_getElem h1, List.getD_eq_getElem?_getD, List.getElem?_eq_getElem h2] at this
  exact this
set_option maxHeartbeats 1000000 in
set_option maxRecDepth 100000 in
theorem ints_any (A A' : Option Addr) (n c n' c' : Nat) (d d' : List Int) (w : World) (hd : d.length = n) (hd' : d'.length = n') (hn : n ≤ 1000000) (hn' : n' ≤ 1000000) (h : Sl w w.heap.size 1 A n c (d.map (Value.int .i64))) (h' : Sl w w.heap.size 1 A' n' c' (d'.map (Value.int .i64))) :
    Calls Tryz.prog 27 #[.slice A n c, .slice A' n' c'] w fun e w' => e = .returned (.bool (decide (d = d'))) ∧ Below w.heap.size w w' := by
  by_cases hne : n = n'
  · subst hne
    have hz : ((n : Int) != (n : Int)) = false := by simp
    go_enter Tryz.func27, Tryz.ntmps27
    go_wp2
    go_loopw [5] (fun i wr => ∃ k : Nat, k ≤ n ∧ i = .int .i64 k ∧ Hid (∀ j, j < k → d.getD j 0 = d'.getD j 0) ∧ Below w.heap.size w wr) (fun i _ => n - (intOf i).toNat)
    case atStart => exact ⟨0, by omega, rfl, (fun j hj => by omega), Below.refl _ _⟩
    case round =>
      obtain ⟨k, hk, rfl, HQ, hB⟩ := hrel
      by_cases hkn : k < n
      · obtain ⟨ad, rfl, hab, c0⟩ := (h.below hB).lst.atI hd hkn
        obtain ⟨ad', rfl, hab', e0⟩ := (h'.below hB).lst.atI hd' hkn
        generalize hx : d.getD k 0 = x at *
        generalize hy : d'.getD k 0 = y at *
        have HX := Lib.hid hx
        have HY := Lib.hid hy
        clear hx hy
        go_wp2_with fail
        have q_c0 := fun d os => cell_regrown c0 d os
        have q_e0 := fun d os => cell_regrown e0 d os
        by_cases hxy : x = y
        · have HE := Lib.hid hxy
          have hb : (x != y) = false := by simp [hxy]
          clear hxy
          try simp only [List.append]
          first | refine wp_region_text_below ?_ | refine wp_region_quiet_below (by kernel_rfl) (by kernel_rfl) ?_
          repeat (go_big_quiet_step ((fail)))
          refine wpQuiet_nil ?_
          intro _ hqw
          obtain ⟨pq, hqw⟩ := hqw
          subst hqw
          clear q_c0 q_e0
          have hbel := below_regrown wr pq.d pq.os
          have hB2 := hB.trans (hbel.mono hB.size)
          clear hbel c0 e0 hB
          generalize grow (redrawn wr pq.d) pq.os = wq at *
          go_wp2
          go_roundw
          case rel => exact ⟨k + 1, by omega, by go_num, (fun j hj => by
            by_cases e : j = k
            · rw [e, HX.out, HY.out]; exact HE.out
            · exact HQ.out j (by omega)), hB2⟩
          case measure => simp [intOf]; omega
        · have hb : (x != y) = true := by simpa using hxy
          have hfin : decide (d = d') = false := by
            rw [decide_eq_false_iff_not]
            intro e
            have e1 := HX.out
            rw [e, HY.out] at e1
            exact hxy e1.symm
          have HF := Lib.hid hfin
          clear hxy hfin
          try simp only [List.append]
          first | refine wp_region_text_below ?_ | refine wp_region_quiet_below (by kernel_rfl) (by kernel_rfl) ?_
          repeat (go_big_quiet_step ((fail)))
          refine wpQuiet_nil ?_
          intro _ hqw
          obtain ⟨pq, hqw⟩ := hqw
          subst hqw
          clear q_c0 q_e0
          have hbel := below_regrown wr pq.d pq.os
          have hB2 := hB.trans (hbel.mono hB.size)
          clear hbel c0 e0 hB
          generalize grow (redrawn wr pq.d) pq.os = wq at *
          go_wp2
          go_ret
          exact ⟨by rw [HF.out]; rfl, hB2⟩
      · obtain rfl : k = n := by omega
        have hfin : decide (d = d') = true := by
          rw [decide_eq_true_eq]
          exact extI (by omega) (fun j hj => HQ.out j (by omega))
        have HF := Lib.hid hfin
        clear hfin
        go_wp2
        go_ret
        exact ⟨by rw [HF.out]; rfl, hB⟩
  · have hz : ((n : Int) != (n' : Int)) = true := by
      rw [bne_iff_ne]; omega
    have hfin : decide (d = d') = false := by
      rw [decide_eq_false_iff_not]
      intro e
      apply hne
      rw [← hd, ← hd', e]
    have HF := Lib.hid hfin
    clear hfin
    go_enter Tryz.func27, Tryz.ntmps27
    go_wp2
    go_ret
    exact ⟨by rw [HF.out]; rfl, Below.refl _ _⟩
end Go.Proofs.YtolaabllhibkdaaGreat
/- Contracts of Go's library, laid over this seat's translation by the kit's command. -/
namespace Go.Proofs
open Go.Shelf
def Tryz.lays189_ren : Go.Shelf.Ren := ⟨fun | 189 => 90 | 125 => 109 | 257 => 108 | 128 => 149 | 129 => 150 | 294 => 140 | 295 => 141 | 296 => 142 | 297 => 143 | 298 => 144 | 299 => 145 | 216 => 146 | 300 => 147 | 301 => 148 | 328 => 156 | 329 => 157 | 330 => 158 | 331 => 159 | 332 => 160 | 215 => 111 | 343 => 161 | n => n, fun | 28 => 47 | 3 => 3 | 46 => 115 | 0 => 0 | 51 => 133 | 53 => 135 | 4 => 4 | 183 => 127 | 182 => 126 | 131 => 118 | 5 => 5 | 9 => 9 | 218 => 139 | 222 => 143 | 228 => 145 | 229 => 146 | n => n, fun | n => n⟩
theorem Tryz.lays189 : Go.Proofs.Lays.n189 Tryz.prog Tryz.lays189_ren := {
  mixed := by kernel_rfl
  f125 := Tryz.func109.trans (congrArg some (by kernel_rfl))
  f128 := Tryz.func149.trans (congrArg some (by kernel_rfl))
  f129 := Tryz.func150.trans (congrArg some (by kernel_rfl))
  f189 := Tryz.func90.trans (congrArg some (by kernel_rfl))
  f215 := Tryz.func111.trans (congrArg some (by kernel_rfl))
  f216 := Tryz.func146.trans (congrArg some (by kernel_rfl))
  f257 := Tryz.func108.trans (congrArg some (by kernel_rfl))
  f294 := Tryz.func140.trans (congrArg some (by kernel_rfl))
  f295 := Tryz.func141.trans (congrArg some (by kernel_rfl))
  f296 := Tryz.func142.trans (congrArg some (by kernel_rfl))
  f297 := Tryz.func143.trans (congrArg some (by kernel_rfl))
  f298 := Tryz.func144.trans (congrArg some (by kernel_rfl))
  f299 := Tryz.func145.trans (congrArg some (by kernel_rfl))
  f300 := Tryz.func147.trans (congrArg some (by kernel_rfl))
  f301 := Tryz.func148.trans (congrArg some (by kernel_rfl))
  f328 := Tryz.func156.trans (congrArg some (by kernel_rfl))
  f329 := Tryz.func157.trans (congrArg some (by kernel_rfl))
  f330 := Tryz.func158.trans (congrArg some (by kernel_rfl))
  f331 := Tryz.func159.trans (congrArg some (by kernel_rfl))
  f332 := Tryz.func160.trans (congrArg some (by kernel_rfl))
  f343 := Tryz.func161.trans (congrArg some (by kernel_rfl))
  t0 := Tryz.underlying0
  a0 := Tryz.isAgg0
  z0 := Tryz.sizeOf0
  v0 := Tryz.zeroValue0
  t3 := Tryz.underlying3
  a3 := Tryz.isAgg3
  z3 := Tryz.sizeOf3
  v3 := Tryz.zeroValue3
  t4 := Tryz.underlying4
  a4 := Tryz.isAgg4
  z4 := Tryz.sizeOf4
  v4 := Tryz.zeroValue4
  t5 := Tryz.underlying5
  a5 := Tryz.isAgg5
  z5 := Tryz.sizeOf5
  v5 := Tryz.zeroValue5
  t9 := Tryz.underlying9
  a9 := Tryz.isAgg9
  z9 := Tryz.sizeOf9
  v9 := Tryz.zeroValue9
  t28 := Tryz.underlying47
  a28 := Tryz.isAgg47
  z28 := Tryz.sizeOf47
  v28 := Tryz.zeroValue47
  t46 := Tryz.underlying115
  a46 := Tryz.isAgg115
  z46 := Tryz.sizeOf115
  v46 := Tryz.zeroValue115
  t51 := Tryz.underlying133
  a51 := Tryz.isAgg133
  z51 := Tryz.sizeOf133
  v51 := Tryz.zeroValue133
  t53 := Tryz.underlying135
  a53 := Tryz.isAgg135
  z53 := Tryz.sizeOf135
  v53 := Tryz.zeroValue135
  t131 := Tryz.underlying118
  a131 := Tryz.isAgg118
  z131 := Tryz.sizeOf118
  v131 := Tryz.zeroValue118
  t182 := Tryz.underlying126
  a182 := Tryz.isAgg126
  z182 := Tryz.sizeOf126
  v182 := Tryz.zeroValue126
  t183 := Tryz.underlying127
  a183 := Tryz.isAgg127
  z183 := Tryz.sizeOf127
  v183 := Tryz.zeroValue127
  t218 := Tryz.underlying139
  a218 := Tryz.isAgg139
  z218 := Tryz.sizeOf139
  v218 := Tryz.zeroValue139
  t222 := Tryz.underlying143
  a222 := Tryz.isAgg143
  z222 := Tryz.sizeOf143
  v222 := Tryz.zeroValue143
  t228 := Tryz.underlying145
  a228 := Tryz.isAgg145
  z228 := Tryz.sizeOf145
  v228 := Tryz.zeroValue145
  t229 := Tryz.underlying146
  a229 := Tryz.isAgg146
  z229 := Tryz.sizeOf146
  v229 := Tryz.zeroValue146 }
open Go.Sort Go.RowKit in
theorem Tryz.slices_Sort_int (blk off cap : Nat) (zs : List Int) (w : World) (hH : Holds (Value.int .i64) w blk off zs.toArray) (hblk : blk < w.heap.size) (hsz : zs.length < 4611686018427387904) :
    Calls Tryz.prog 90 #[.slice (some ⟨blk, off, none⟩) zs.length cap] w fun e w' =>
      e = .returned (.tuple #[]) ∧ ∃ n os, w' = grow (putRow (Value.int .i64) (Sort.ahead w n) blk off (zs.mergeSort fun x y => decide (x ≤ y)).toArray) os := Any.slices_Sort_int Tryz.lays189 blk off cap zs w hH hblk hsz
open Go.RowKit Go.Sort in
theorem Tryz.slices_Sort_int_none (p : Option Addr) (cap : Nat) (w : World) :
    Calls Tryz.prog 90 #[.slice p 0 cap] w fun e w' => e = .returned (.tuple #[]) ∧ w' = w := Any.slices_Sort_int_none Tryz.lays189 p cap w
end Go.Proofs

/- slices.Sort at ints, a row of the call's own. No condition. -/
namespace Go.Proofs.YtolaabllhibkdaaGreat
open Go.ChangeShapes Go.WideShapes Go.ChangeAt Go.RowKit Go.Sort
set_option linter.unusedSimpArgs false
set_option linter.unusedVariables false
def sortI (l : List Int) : List Int := l.mergeSort fun x y => decide (x ≤ y)
theorem sortI_length (l : List Int) : (sortI l).length = l.length := by unfold sortI; exact List.length_mergeSort _
theorem sortI_any (u : Value) (l : List Int) (base : Nat) (w : World) (hl : l.length ≤ 1000000) (hown : w.ownsRow base 3 1 u l.length (l.map (Value.int .i64))) :
    Calls Tryz.prog 90 #[u] w fun e w' => e = .returned (.tuple #[]) ∧ w'.ownsRow base 3 1 u l.length ((sortI l).map (Value.int .i64)) ∧ w.grownBy w' u.ownBlock := by
  rcases hown.2 with ⟨rfl, h0⟩ | ⟨g, cap, cur, rfl, hbase, hb, h1, h2, h3, h4⟩
  · have hl0 : l = [] := by simpa using h0
    subst hl0
    refine (Tryz.slices_Sort_int_none none 0 w).mono ?_
    rintro e w' ⟨rfl, rfl⟩
    exact ⟨rfl, by rw [show sortI [] = [] from by simp [sortI]]; exact hown, grown_refl _ _⟩
  · have hH := holds_of_blockI hb (by simpa using h4)
    have hgl : g < w.heap.size := (Array.getElem?_eq_some_iff.1 hb).1
    refine (Tryz.slices_Sort_int g 0 cap l w hH hgl (by omega)).mono ?_
    rintro e w' ⟨rfl, nn, os, rfl⟩
    exact ⟨rfl, ownsRow_sortedI (sortI_length l) hbase hb h1 h2 h3, grownBy_sortedI _⟩
theorem own_ne {w : World} {b b' : Nat} {e e' : TypeId} {s s' n n' : Nat} {v v' : Value} {xs xs' : List Value} (h : w.ownsRow b e s v n xs) (h' : w.ownsRow b' e' s' v' n' xs') (hne : e ≠ e') : v.ownBlock = none ∨ v.ownBlock ≠ v'.ownBlock := by
  rcases h.2 with ⟨rfl, _⟩ | ⟨g, cap, cur, rfl, _, hg, _⟩
  · exact .inl rfl
  · rcases h'.2 with ⟨rfl, _⟩ | ⟨g', cap', cur', rfl, _, hg', _⟩
    · exact .inr (by simp [Value.ownBlock])
    · refine .inr (fun e2 => hne ?_)
      simp only [Value.ownBlock, Option.some.injEq] at e2
      rw [e2, hg'] at hg
      injection hg with hg
      injection hg with _ hg
      exact hg.symm
end Go.Proofs.YtolaabllhibkdaaGreat

/- IndexFunc and DeleteFunc at 33-rows, the closure with a state of its own. -/
namespace Go.Proofs.YtolaabllhibkdaaGreat.Kc
open Go.ChangeShapes Go.WideShapes Go.ChangeAt Go.RowKit Go.Sort
set_option linter.unusedSimpArgs false
set_option linter.unusedVariables false
theorem own_same {w w' : World} {base : Nat} {e : TypeId} {size g n c : Nat} {xs : List Value} (h : w.ownsRow base e size (.slice (some ⟨g, 0, none⟩) n c) n xs) (hh : w'.heap[g]? = w.heap[g]?) : w'.ownsRow base e size (.slice (some ⟨g, 0, none⟩) n c) n xs := by
  refine ⟨h.1, ?_⟩
  rcases h.2 with hx | ⟨g', cap, cur, h1, h2, h3, rest⟩
  · exact .inl hx
  · simp only [Value.slice.injEq, Option.some.injEq, Addr.mk.injEq, and_true, true_and] at h1
    obtain ⟨rfl, rfl⟩ := h1
    exact .inr ⟨g, c, cur, rfl, h2, hh.trans h3, rest⟩
/-- A closure that tells p of the k-th of d when it is asked in a world of state k, and leaves one of state k + 1; below base nothing turns, nor does block g0; the state holds on while g0 is written, and behind new blocks. -/
structure PredS (g : FuncId) (lb : Array Value) (g0 base : Nat) (d : List Co) (p : Co → Bool) (R : Nat → World → Prop) : Prop where
  run : ∀ vals w, (callFunc g vals).run Tryz.prog w = .ok (.enter g vals) w
  tells : ∀ k, k < d.length → ∀ W w', R k W → Below W.heap.size W w' → g0 < W.heap.size → base ≤ W.heap.size → Calls Tryz.prog g (#[.agg #[.int .i64 (gCo d k).id, .int .i64 (gCo d k).fr, .int .i64 (gCo d k).tn, .int .i64 (gCo d k).st, .int .i64 (gCo d k).en, .int .i64 (gCo d k).rt]] ++ lb) w' fun e w'' => e = .returned (.bool (p (gCo d k))) ∧ R (k + 1) w'' ∧ Below base w' w'' ∧ w''.heap[g0]? = w'.heap[g0]? ∧ (∀ b, W.heap.size ≤ b → b < w'.heap.size → w''.heap[b]? = w'.heap[b]?)
  stay : ∀ k w w', R k w → w.grownBy w' (some g0) → R k w'
def qNext (q n : Nat) : Nat := if q < n then q + 1 else n
set_option maxHeartbeats 1000000 in
set_option maxRecDepth 100000 in
theorem indexS (g0 n c : Nat) (d : List Co) (g : FuncId) (lb : Array Value) (base : Nat) (p : Co → Bool) (R : Nat → World → Prop) (w : World) (hd : d.length = n) (hn : n ≤ 1000000) (hown : w.ownsRow base 33 6 (.slice (some ⟨g0, 0, none⟩) n c) n (flatCo d)) (hgl : g0 < w.heap.size) (hbs : base ≤ w.heap.size) (hp : PredS g lb g0 base d p R) (hR : R 0 w) (q : Nat) (hq : q ≤ n) (hlow : ∀ j, j < q → p (gCo d j) = false) (hhit : q < n → p (gCo d q) = true) :
    Calls Tryz.prog 62 #[.slice (some ⟨g0, 0, none⟩) n c, .func (.func g) #[] lb] w fun e w' => e = .returned (.int .i64 (idxOf q n)) ∧ R (qNext q n) w' ∧ Below base w w' ∧ w'.heap[g0]? = w.heap[g0]? := by
  have HL := Lib.hid hlow
  have HH := Lib.hid hhit
  have HP := Lib.hid hp
  have HR := Lib.hid hR
  have HD := Lib.hid hd
  have hcf := hp.run
  clear hlow hhit hp hR
  go_enter Tryz.func62, Tryz.ntmps62
  go_wp2
  go_loopw [8] (fun i wr => ∃ k : Nat, k ≤ q ∧ i = .int .i64 k ∧ Hid (R k wr) ∧ Below base w wr ∧ Hid (wr.heap[g0]? = w.heap[g0]?)) (fun i _ => n - (intOf i).toNat)
  case atStart => exact ⟨0, by omega, rfl, HR.out, Below.refl _ _, rfl⟩
  case round =>
    obtain ⟨k, hk, rfl, HRk, hB, HG⟩ := hrel
    have hs := hB.size
    have hgw : g0 < wr.heap.size := by omega
    by_cases hkn : k < n
    · have hownk := own_same hown HG.out
      obtain ⟨c0, c1, c2, c3, c4, c5⟩ := ownCo_at hownk HD.out hkn
      have ht0 := HP.out.tells k (by have := HD.out; omega) wr wr HRk.out (Below.refl _ _) hgw (by omega)
      clear hownk
      by_cases hkq : k < q
      · have hf := HL.out k hkq
        rw [hf] at ht0
        have HT := Lib.hid ht0
        generalize gCo d k = x at *
        clear hf ht0
        go_wp2_with fail
        refine HT.out.mono ?_
        rintro e w1 ⟨rfl, hr1, hb1, hg1, _⟩
        have hB2 := hB.trans hb1
        have HR1 := Lib.hid hr1
        have HG1 : Hid (w1.heap[g0]? = w.heap[g0]?) := hg1.trans HG.out
        clear hb1 hB hr1 hg1 c0 c1 c2 c3 c4 c5 hs HT
        go_wp2
        go_roundw
        case rel => exact ⟨k + 1, by omega, by go_num, HR1.out, hB2, HG1⟩
        case measure => simp [intOf]; omega
      · obtain rfl : k = q := by omega
        have hf := HH.out hkn
        rw [hf] at ht0
        have HT := Lib.hid ht0
        generalize gCo d k = x at *
        clear hf ht0
        go_wp2_with fail
        refine HT.out.mono ?_
        rintro e w1 ⟨rfl, hr1, hb1, hg1, _⟩
        have hB2 := hB.trans hb1
        have HR1 := Lib.hid hr1
        have HG1 : Hid (w1.heap[g0]? = w.heap[g0]?) := hg1.trans HG.out
        clear hb1 hB hr1 hg1 c0 c1 c2 c3 c4 c5 hs HT
        go_wp2
        go_ret
        exact ⟨by rw [idxOf_yes hkn]; rfl, by unfold qNext; rw [if_pos hkn]; exact HR1.out, hB2, HG1.out⟩
    · go_wp2
      go_ret
      exact ⟨by rw [idxOf_no (by omega)]; rfl, by unfold qNext; rw [if_neg (by omega)]; (have e : n = k := by omega); rw [e]; exact HRk.out, hB, HG.out⟩
set_option maxHeartbeats 2000000 in
set_option maxRecDepth 100000 in
theorem deleteS (g0 n c0 : Nat) (d : List Co) (g : FuncId) (lb : Array Value) (base : Nat) (p : Co → Bool) (R : Nat → World → Prop) (w : World) (hd : d.length = n) (hn : n ≤ 1000000) (hown : w.ownsRow base 33 6 (.slice (some ⟨g0, 0, none⟩) n c0) n (flatCo d)) (hn0 : 0 < n) (hp : PredS g lb g0 base d p R) (hR : R 0 w) (hbs : base ≤ w.heap.size) :
    Calls Tryz.prog 88 #[.slice (some ⟨g0, 0, none⟩) n c0, .func (.func g) #[] lb] w fun e w' => ∃ v', e = .returned v' ∧ w'.ownsRow base 33 6 v' (d.filter (fun x => !p x)).length (flatCo (d.filter (fun x => !p x))) ∧ R n w' ∧ Below base w w' := by
  obtain ⟨g0', c0', he, hnc, hcm, hgb, hgl⟩ := own_at hown hn0
  simp only [Value.slice.injEq, Option.some.injEq, Addr.mk.injEq, and_true, true_and] at he
  obtain ⟨rfl, rfl⟩ := he
  unfold maxLen at hcm
  obtain ⟨i0, hi0, hz0, hz1, hz2⟩ := info_parts infoCo
  have hcf := hp.run
  by_cases ha : d.any p = true
  · obtain ⟨q, hq, h1, h2⟩ := firstHitCo ha
    have hqn : q < n := by omega
    have HP := Lib.hid hp
    have HR0 := Lib.hid hR
    have hpos : ((q : Int) == -1) = false := beq_eq_false_iff_ne.2 (by omega)
    have hst : (d.take (q + 1)).filter (fun x => !p x) = d.take q := by
      rw [filt_nextCo hq, filt_allCo q (by omega) h1, if_pos h2, List.append_nil]
    have HST := Lib.hid hst
    have HD := Lib.hid hd
    clear hp ha hst hR
    go_enter Tryz.func88, Tryz.ntmps88
    go_wp2_with fail
    refine (indexS g0 n c0 d g lb base p R w HD.out hn hown hgl hbs HP.out HR0.out q (by omega) h1 (fun _ => h2)).mono ?_
    rintro e w1 ⟨rfl, hr1, hB, hG⟩
    rw [idxOf_yes hqn]
    have hown1 := own_same hown hG
    have HR1 : Hid (R (q + 1) w1) := by unfold qNext at hr1; rw [if_pos hqn] at hr1; exact hr1
    have hg1 := hB
    have hgl1 : g0 < w1.heap.size := by have := hB.size; omega
    clear hB hown h1 h2 hd hr1 hG HR0
    go_wp2
    go_loopw [5, 6] (fun iv jv wr => ∃ (i j : Nat) (e : List Co), iv = .int .i64 i ∧ jv = .int .i64 j ∧ i < j ∧ j ≤ n ∧ Hid (e.length = n) ∧ Hid (e.take i = (d.take j).filter (fun x => !p x)) ∧ Hid (e.drop j = d.drop j) ∧ wr.ownsRow base 33 6 (.slice (some ⟨g0, 0, none⟩) n c0) n (flatCo e) ∧ Hid (R j wr) ∧ Below base w wr ∧ g0 < wr.heap.size) (fun _ jv _ => n - (intOf jv).toNat)
    case atStart => exact ⟨q, q + 1, d, rfl, by go_num, by omega, by omega, HD.out, HST.out.symm, rfl, hown1, HR1, hg1, hgl1⟩
    case round =>
      clear hown1 hg1 HR1 hgl1
      obtain ⟨i, j, e, rfl, rfl, hij, hjn, HE, HT, HR, hown, HRj, hg, hgw⟩ := hrel
      have hic : i < c0 := by omega
      have hsw := hg.size
      by_cases hj : j < n
      · obtain ⟨c0, c1, c2, c3, c4, c5⟩ := ownCo_at hown HE.out hj
        have hx0 : gCo e j = gCo d j := drop_atCo (by rw [HE.out, HD.out]) HR.out (by have := HD.out; omega)
        obtain ⟨x, hx⟩ : ∃ x, gCo d j = x := ⟨_, rfl⟩
        have hBa : Below wr.heap.size wr (wr.alloc (.cells #[.int .i64 x.id, .int .i64 x.fr, .int .i64 x.tn, .int .i64 x.st, .int .i64 x.en, .int .i64 x.rt] 33)) := (Below.refl _ _).alloc (Nat.le_refl _) _
        have ht := HP.out.tells j (by have := HD.out; omega) wr _ HRj.out hBa hgw (by omega)
        rw [hx] at ht
        rw [hx0, hx] at c0 c1 c2 c3 c4 c5
        have HX := Lib.hid hx
        clear hx hx0
        have HTT := Lib.hid ht
        clear ht
        go_wp2_with fail
        have hBlk := Blok.new wr 33 #[.int .i64 x.id, .int .i64 x.fr, .int .i64 x.tn, .int .i64 x.st, .int .i64 x.en, .int .i64 x.rt]
        have hhw := hBa.block g0 hgw
        have ht := HTT.out
        clear HTT
        cases hpx : p x
        · have hgo := set_stepCo (p := p) HE.out HD.out hij hj HT.out HR.out (by rw [HX.out]; exact hpx)
          rw [HX.out] at hgo
          have HG := Lib.hid hgo
          rw [hpx] at ht
          have HPX := Lib.hid hpx
          clear hgo hpx
          refine ht.mono ?_
          rintro e1 w2 ⟨rfl, hr2, hb2, hh2, hh3⟩
          have hBlk2 : Blok w2 wr.heap.size 33 #[.int .i64 x.id, .int .i64 x.fr, .int .i64 x.tn, .int .i64 x.st, .int .i64 x.en, .int .i64 x.rt] := (hh3 _ (Nat.le_refl _) (by simp)).trans hBlk
          have hb3 := (hBa.mono (by omega)).trans hb2
          have hown2 := own_same hown (hh2.trans hhw)
          have hg2 := hg.trans hb3
          have hgw2 : g0 < w2.heap.size := by have := hb3.size; omega
          have HR2 := Lib.hid hr2
          have b0 : w2.cell? ⟨wr.heap.size, 0, none⟩ = some (.int .i64 x.id) := hBlk2.cell 0
          have b1 : w2.cell? ⟨wr.heap.size, 1, none⟩ = some (.int .i64 x.fr) := hBlk2.cell 1
          have b2 : w2.cell? ⟨wr.heap.size, 2, none⟩ = some (.int .i64 x.tn) := hBlk2.cell 2
          have b3 : w2.cell? ⟨wr.heap.size, 3, none⟩ = some (.int .i64 x.st) := hBlk2.cell 3
          have b4 : w2.cell? ⟨wr.heap.size, 4, none⟩ = some (.int .i64 x.en) := hBlk2.cell 4
          have b5 : w2.cell? ⟨wr.heap.size, 5, none⟩ = some (.int .i64 x.rt) := hBlk2.cell 5
          have z0 := hown2.frozenAt (i * 6)
          have z1 := hown2.frozenAt (i * 6 + 1)
          have z2 := hown2.frozenAt (i * 6 + 2)
          have z3 := hown2.frozenAt (i * 6 + 3)
          have z4 := hown2.frozenAt (i * 6 + 4)
          have z5 := hown2.frozenAt (i * 6 + 5)
          obtain ⟨hS1, hS2⟩ := ownCo_store hown2 i x
          clear ht hBlk hb2 hb3 hBa c0 c1 c2 c3 c4 c5 hBlk2 hr2 hh2 hh3 hhw hsw
          obtain ⟨o0, o1, o2, o3, o4, o5⟩ := ownCo_at hown2 HE.out (k := i) (by omega)
          go_wp2
          go_roundw
          case rel => exact ⟨i + 1, j + 1, e.set i x, by go_num, by go_num, by omega, by omega, (Lib.hid (by have := HE.out; simpa using this)), HG.out.1, HG.out.2, hS1, HP.out.stay _ _ _ HR2.out hS2, Below.grown hg2 hS2 (by have := hg2.size; omega) (fun k hk => by simp at hk; omega), by have := hS2.size; omega⟩
          case measure => simp [intOf]; omega
        · rw [hpx] at ht
          have hfn : (d.take (j + 1)).filter (fun x => !p x) = (d.take j).filter (fun x => !p x) := by
            rw [filt_nextCo (by have := HD.out; omega), HX.out, if_pos hpx, List.append_nil]
          have HF := Lib.hid hfn
          clear hpx hfn
          refine ht.mono ?_
          rintro e1 w2 ⟨rfl, hr2, hb2, hh2, _⟩
          have hb3 := (hBa.mono (by omega)).trans hb2
          have hown2 := own_same hown (hh2.trans hhw)
          have hg2 := hg.trans hb3
          have hgw2 : g0 < w2.heap.size := by have := hb3.size; omega
          have HR2 := Lib.hid hr2
          have hdr : e.drop (j + 1) = d.drop (j + 1) := by
            rw [← List.drop_drop, ← List.drop_drop, HR.out]
          have HDR := Lib.hid hdr
          clear ht hBlk hb2 hb3 hBa c0 c1 c2 c3 c4 c5 hdr hr2 hh2 hhw hsw
          go_wp2
          go_roundw
          case rel => exact ⟨i, j + 1, e, rfl, by go_num, by omega, by omega, HE.out, HT.out.trans HF.out.symm, HDR.out, hown2, HR2.out, hg2, hgw2⟩
          case measure => simp [intOf]; omega
      · obtain rfl : j = n := by omega
        have hci : ¬ c0 = i := by omega
        have hiI : (i : Int) ≤ (j : Int) := by omega
        have hicI : (i : Int) ≤ (c0 : Int) := by omega
        have hfin : e.take i = d.filter (fun x => !p x) := by
          have := HT.out
          rw [List.take_of_length_le (l := d) (by have := HD.out; omega)] at this
          exact this
        have HFIN := Lib.hid hfin
        have hlen : (d.filter (fun x => !p x)).length = i := by
          rw [← hfin, List.length_take, HE.out]; omega
        have HLEN := Lib.hid hlen
        clear hfin hlen
        go_wp2_with (first
          | (with_reducible refine wpList_clear_own rfl (.tmp 38) 22 rfl base 33 i0 _ 6 Tryz.underlying22 hi0 hz0 rfl (by simp [Value.oneCell', Value.cells]) g0 j c0 i (flatCo e) hown (by omega) (some ⟨g0, i * 6, none⟩) (c0 - i) rfl (.inl (by rw [Addr.add_lit, Nat.zero_add])) ?_
             intro w2 ys hown2 htake hg2))
        go_ret
        refine ⟨_, rfl, ?_, HP.out.stay _ _ _ HRj.out hg2, Below.grown hg hg2 (by omega) (fun k hk => by simp at hk; omega)⟩
        have hc := own_cut hown2 (m := i) (by omega)
        rw [htake, flatCo_take, HFIN.out] at hc
        rw [HLEN.out]
        exact hc
  · have ha' : d.any p = false := by simpa using ha
    have HP := Lib.hid hp
    have HR0 := Lib.hid hR
    have hno : ((-1 : Int) == -1) = true := by simp
    have hfil : d.filter (fun x => !p x) = d := by
      have := filt_allCo (p := p) d.length (Nat.le_refl _) (fun j hj => noHitCo ha' hj)
      rw [List.take_length] at this
      exact this
    rw [hfil]
    have HD := Lib.hid hd
    clear hp ha hfil hd hR
    go_enter Tryz.func88, Tryz.ntmps88
    go_wp2_with fail
    refine (indexS g0 n c0 d g lb base p R w HD.out hn hown hgl hbs HP.out HR0.out n (Nat.le_refl _) (fun j hj => noHitCo ha' (by have := HD.out; omega)) (fun h => by omega)).mono ?_
    rintro e w1 ⟨rfl, hr1, hB, hG⟩
    have HR1 : Hid (R n w1) := by unfold qNext at hr1; rw [if_neg (by omega)] at hr1; exact hr1
    rw [idxOf_no (by omega : ¬ n < n)]
    have hown1 := own_same hown hG
    clear hown hr1 hG HR0
    go_wp2
    go_ret
    refine ⟨_, rfl, ?_, HR1.out, hB⟩
    rw [HD.out]
    exact hown1
set_option maxRecDepth 100000 in
theorem index0 (A : Option Addr) (c : Nat) (g : FuncId) (lb : Array Value) (w : World) (hcf : ∀ vals w, (callFunc g vals).run Tryz.prog w = .ok (.enter g vals) w) :
    Calls Tryz.prog 62 #[.slice A 0 c, .func (.func g) #[] lb] w fun e w' => e = .returned (.int .i64 (-1)) ∧ w = w' := by
  go_enter Tryz.func62, Tryz.ntmps62
  go_wp2
  go_loop [8] (fun i => i = .int .i64 0) (fun _ => 0)
  case atStart => rfl
  case round =>
    subst hrel
    go_wp2
    go_ret
    exact ⟨rfl, rfl⟩
set_option maxRecDepth 100000 in
theorem delete0 (A : Option Addr) (c : Nat) (g : FuncId) (lb : Array Value) (w : World) (hcf : ∀ vals w, (callFunc g vals).run Tryz.prog w = .ok (.enter g vals) w) :
    Calls Tryz.prog 88 #[.slice A 0 c, .func (.func g) #[] lb] w fun e w' => e = .returned (.slice A 0 c) ∧ w = w' := by
  have hno : ((-1 : Int) == -1) = true := by simp
  go_enter Tryz.func88, Tryz.ntmps88
  go_wp2_with fail
  refine (index0 A c g lb w hcf).mono ?_
  rintro e w1 ⟨rfl, rfl⟩
  go_wp2
  go_ret
  exact ⟨rfl, rfl⟩
end Go.Proofs.YtolaabllhibkdaaGreat.Kc

/- Package contacts: Compare, overlap, has, the closures. No condition. -/
namespace Go.Proofs.YtolaabllhibkdaaGreat.Kc
open Go.ChangeShapes Go.WideShapes Go.ChangeAt Go.RowKit Go.Sort
set_option linter.unusedSimpArgs false
set_option linter.unusedVariables false
def cmpC (a b : Co) : Int := orF [cmpI a.fr b.fr, cmpI a.tn b.tn, cmpI a.st b.st, cmpI a.id b.id]
set_option maxHeartbeats 2000000 in
set_option maxRecDepth 100000 in
theorem cmpC_any (a b : Co) (w : World) : Calls Tryz.prog 65 #[.agg #[.int .i64 a.id, .int .i64 a.fr, .int .i64 a.tn, .int .i64 a.st, .int .i64 a.en, .int .i64 a.rt], .agg #[.int .i64 b.id, .int .i64 b.fr, .int .i64 b.tn, .int .i64 b.st, .int .i64 b.en, .int .i64 b.rt]] w fun e w' => e = .returned (.int .i64 (cmpC a b)) ∧ Below w.heap.size w w' := by
  obtain ⟨p, hp⟩ : ∃ p, cmpI a.fr b.fr = p := ⟨_, rfl⟩
  obtain ⟨q, hq⟩ : ∃ q, cmpI a.tn b.tn = q := ⟨_, rfl⟩
  obtain ⟨r, hr⟩ : ∃ r, cmpI a.st b.st = r := ⟨_, rfl⟩
  obtain ⟨s, hs⟩ : ∃ s, cmpI a.id b.id = s := ⟨_, rfl⟩
  have hfin : cmpC a b = orF [p, q, r, s] := by rw [← hp, ← hq, ← hr, ← hs]; rfl
  have HP := Lib.hid hp
  have HQ := Lib.hid hq
  have HR := Lib.hid hr
  have HS := Lib.hid hs
  rw [hfin]
  clear hp hq hr hs hfin
  go_enter Tryz.func65, Tryz.ntmps65
  go_wp2_with fail
  refine wp_region_still_tail 20 (by kernel_rfl) (by kernel_rfl) ?_
  change wpStill _ _ (World.drew _) (fun a' => wpList _ _ _ _ a' (World.drew _)) _ _
  simp only [List.take_succ_cons, List.take_zero, List.drop_succ_cons, List.drop_zero]
  repeat still_step
  still_call ((HP.out ▸ cmp_any a.fr b.fr _).mono fun _ _ h => ⟨h.1, h.2.symm⟩)
  repeat still_step
  still_call ((HQ.out ▸ cmp_any a.tn b.tn _).mono fun _ _ h => ⟨h.1, h.2.symm⟩)
  repeat still_step
  still_call ((HR.out ▸ cmp_any a.st b.st _).mono fun _ _ h => ⟨h.1, h.2.symm⟩)
  repeat still_step
  still_call ((HS.out ▸ cmp_any a.id b.id _).mono fun _ _ h => ⟨h.1, h.2.symm⟩)
  refine wpStill_nil ?_
  have hB : Below w.heap.size w (((w.alloc (.cells #[.int .i64 a.id, .int .i64 a.fr, .int .i64 a.tn, .int .i64 a.st, .int .i64 a.en, .int .i64 a.rt] 33)).alloc (.cells #[.int .i64 b.id, .int .i64 b.fr, .int .i64 b.tn, .int .i64 b.st, .int .i64 b.en, .int .i64 b.rt] 33)).drew) := by (repeat (first | exact Below.refl _ _ | refine Below.alloc ?_ (by first | omega | (simp; done) | (simp; omega)) _ | refine Below.setCell ?_ (by first | omega | (simp; done) | (simp; omega)) _ | refine Below.drew ?_))
  have hs := hB.size
  generalize (((w.alloc (.cells #[.int .i64 a.id, .int .i64 a.fr, .int .i64 a.tn, .int .i64 a.st, .int .i64 a.en, .int .i64 a.rt] 33)).alloc (.cells #[.int .i64 b.id, .int .i64 b.fr, .int .i64 b.tn, .int .i64 b.st, .int .i64 b.en, .int .i64 b.rt] 33)).drew) = w2 at *
  go_wp2_with fail
  have hX := Blok.new w2 3 #[.int .i64 p, .int .i64 q, .int .i64 r, .int .i64 s]
  refine (or_any w2.heap.size 4 4 [p, q, r, s] _ rfl (by omega) (fun k hk => by
    have hc := hX.cell k
    have hk2 : k = 0 ∨ k = 1 ∨ k = 2 ∨ k = 3 := by omega
    rcases hk2 with rfl | rfl | rfl | rfl <;> exact hc)).mono ?_
  rintro e w3 ⟨rfl, rfl⟩
  go_wp2
  go_ret
  exact ⟨rfl, hB.alloc hs _⟩
def ltC (a b : Co) : Prop := a.fr < b.fr ∨ a.fr = b.fr ∧ (a.tn < b.tn ∨ a.tn = b.tn ∧ (a.st < b.st ∨ a.st = b.st ∧ a.id < b.id))
theorem cmpI_spec (a b : Int) : (a < b ∧ cmpI a b = -1) ∨ (a = b ∧ cmpI a b = 0) ∨ (b < a ∧ cmpI a b = 1) := by
  rcases Int.lt_trichotomy a b with h | h | h
  · exact .inl ⟨h, cmpI_lt h⟩
  · exact .inr (.inl ⟨h, cmpI_zero.2 h⟩)
  · exact .inr (.inr ⟨h, cmpI_gt h⟩)
theorem cmpC_spec (a b : Co) : (ltC a b ∧ cmpC a b = -1) ∨ (a.fr = b.fr ∧ a.tn = b.tn ∧ a.st = b.st ∧ a.id = b.id ∧ cmpC a b = 0) ∨ (ltC b a ∧ cmpC a b = 1) := by
  unfold cmpC ltC
  rcases cmpI_spec a.fr b.fr with ⟨h1, e1⟩ | ⟨h1, e1⟩ | ⟨h1, e1⟩ <;> rcases cmpI_spec a.tn b.tn with ⟨h2, e2⟩ | ⟨h2, e2⟩ | ⟨h2, e2⟩ <;> rcases cmpI_spec a.st b.st with ⟨h3, e3⟩ | ⟨h3, e3⟩ | ⟨h3, e3⟩ <;> rcases cmpI_spec a.id b.id with ⟨h4, e4⟩ | ⟨h4, e4⟩ | ⟨h4, e4⟩ <;>
    simp only [e1, e2, e3, e4, orF] <;> simp <;> omega
def overC (a b : Co) : Bool := decide (a.fr = b.fr ∧ a.tn = b.tn ∧ a.st < b.en ∧ b.st < a.en)
set_option maxHeartbeats 2000000 in
set_option maxRecDepth 100000 in
theorem overC_any (a b : Co) (w : World) : Calls Tryz.prog 66 #[.agg #[.int .i64 a.id, .int .i64 a.fr, .int .i64 a.tn, .int .i64 a.st, .int .i64 a.en, .int .i64 a.rt], .agg #[.int .i64 b.id, .int .i64 b.fr, .int .i64 b.tn, .int .i64 b.st, .int .i64 b.en, .int .i64 b.rt]] w fun e w' => e = .returned (.bool (overC a b)) ∧ Below w.heap.size w w' := by
  obtain ⟨b1, e1⟩ : ∃ t, (a.fr == b.fr) = t := ⟨_, rfl⟩
  obtain ⟨b2, e2⟩ : ∃ t, (a.tn == b.tn) = t := ⟨_, rfl⟩
  obtain ⟨b3, e3⟩ : ∃ t, decide (a.st < b.en) = t := ⟨_, rfl⟩
  obtain ⟨b4, e4⟩ : ∃ t, decide (b.st < a.en) = t := ⟨_, rfl⟩
  have hres : overC a b = (b1 && (b2 && (b3 && b4))) := by rw [← e1, ← e2, ← e3, ← e4]; unfold overC; rw [Bool.eq_iff_iff]; simp
  rw [hres]
  clear hres
  cases b1 <;> cases b2 <;> cases b3 <;> cases b4
  all_goals
    go_enter Tryz.func66, Tryz.ntmps66
    go_wp2
    go_ret
    exact ⟨rfl, by (repeat (first | exact Below.refl _ _ | refine Below.alloc ?_ (by first | omega | (simp; done) | (simp; omega)) _ | refine Below.setCell ?_ (by first | omega | (simp; done) | (simp; omega)) _ | refine Below.drew ?_))⟩
set_option maxRecDepth 100000 in
theorem has1_any (x : Co) (id : Int) (g : Nat) (w : World) (hR : Blok w g 3 #[.int .i64 id]) : Calls Tryz.prog 93 #[.agg #[.int .i64 x.id, .int .i64 x.fr, .int .i64 x.tn, .int .i64 x.st, .int .i64 x.en, .int .i64 x.rt], .pointer (some ⟨g, 0, none⟩)] w fun e w' => e = .returned (.bool (x.id == id)) ∧ Below w.heap.size w w' := by
  have r0 : w.cell? ⟨g, 0, none⟩ = some (.int .i64 id) := hR.cell 0
  have hl := hR.lt
  clear hR
  go_enter Tryz.func93, Tryz.ntmps93
  go_wp2
  all_goals go_ret
  all_goals exact ⟨rfl, by (repeat (first | exact Below.refl _ _ | refine Below.alloc ?_ (by first | omega | (simp; done) | (simp; omega)) _ | refine Below.setCell ?_ (by first | omega | (simp; done) | (simp; omega)) _ | refine Below.drew ?_))⟩
set_option maxRecDepth 100000 in
theorem has_any (id : Int) (w : World) : Calls Tryz.prog 63 #[.int .i64 id] w fun e w' => ∃ g, e = .returned (.func (.func 93) #[] #[.pointer (some ⟨g, 0, none⟩)]) ∧ Blok w' g 3 #[.int .i64 id] ∧ w.heap.size ≤ g ∧ Below w.heap.size w w' := by
  go_enter Tryz.func63, Tryz.ntmps63
  go_wp2
  go_ret
  exact ⟨w.heap.size, rfl, Blok.new w _ _, Nat.le_refl _, by (repeat (first | exact Below.refl _ _ | refine Below.alloc ?_ (by first | omega | (simp; done) | (simp; omega)) _ | refine Below.setCell ?_ (by first | omega | (simp; done) | (simp; omega)) _ | refine Below.drew ?_))⟩
set_option maxHeartbeats 1000000 in
set_option maxRecDepth 100000 in
theorem mayC1_any (x r : Co) (g : Nat) (w : World) (hR : Blok w g 33 #[.int .i64 r.id, .int .i64 r.fr, .int .i64 r.tn, .int .i64 r.st, .int .i64 r.en, .int .i64 r.rt]) : Calls Tryz.prog 151 #[.agg #[.int .i64 x.id, .int .i64 x.fr, .int .i64 x.tn, .int .i64 x.st, .int .i64 x.en, .int .i64 x.rt], .pointer (some ⟨g, 0, none⟩)] w fun e w' => e = .returned (.bool (overC x r)) ∧ Below w.heap.size w w' := by
  have hB : Below w.heap.size w (w.alloc (.cells #[.int .i64 x.id, .int .i64 x.fr, .int .i64 x.tn, .int .i64 x.st, .int .i64 x.en, .int .i64 x.rt] 33)) := by (repeat (first | exact Below.refl _ _ | refine Below.alloc ?_ (by first | omega | (simp; done) | (simp; omega)) _ | refine Below.setCell ?_ (by first | omega | (simp; done) | (simp; omega)) _ | refine Below.drew ?_))
  replace hR := hR.alloc (.cells #[.int .i64 x.id, .int .i64 x.fr, .int .i64 x.tn, .int .i64 x.st, .int .i64 x.en, .int .i64 x.rt] 33)
  have hX := Blok.new w 33 #[.int .i64 x.id, .int .i64 x.fr, .int .i64 x.tn, .int .i64 x.st, .int .i64 x.en, .int .i64 x.rt]
  have hl := hR.lt
  have r0 : (w.alloc (.cells #[.int .i64 x.id, .int .i64 x.fr, .int .i64 x.tn, .int .i64 x.st, .int .i64 x.en, .int .i64 x.rt] 33)).cell? ⟨g, 0, none⟩ = some (.int .i64 r.id) := hR.cell 0
  have r1 : (w.alloc (.cells #[.int .i64 x.id, .int .i64 x.fr, .int .i64 x.tn, .int .i64 x.st, .int .i64 x.en, .int .i64 x.rt] 33)).cell? ⟨g, 1, none⟩ = some (.int .i64 r.fr) := hR.cell 1
  have r2 : (w.alloc (.cells #[.int .i64 x.id, .int .i64 x.fr, .int .i64 x.tn, .int .i64 x.st, .int .i64 x.en, .int .i64 x.rt] 33)).cell? ⟨g, 2, none⟩ = some (.int .i64 r.tn) := hR.cell 2
  have r3 : (w.alloc (.cells #[.int .i64 x.id, .int .i64 x.fr, .int .i64 x.tn, .int .i64 x.st, .int .i64 x.en, .int .i64 x.rt] 33)).cell? ⟨g, 3, none⟩ = some (.int .i64 r.st) := hR.cell 3
  have r4 : (w.alloc (.cells #[.int .i64 x.id, .int .i64 x.fr, .int .i64 x.tn, .int .i64 x.st, .int .i64 x.en, .int .i64 x.rt] 33)).cell? ⟨g, 4, none⟩ = some (.int .i64 r.en) := hR.cell 4
  have r5 : (w.alloc (.cells #[.int .i64 x.id, .int .i64 x.fr, .int .i64 x.tn, .int .i64 x.st, .int .i64 x.en, .int .i64 x.rt] 33)).cell? ⟨g, 5, none⟩ = some (.int .i64 r.rt) := hR.cell 5
  clear hR
  generalize hy : overC x r = y at *
  have HY := Lib.hid hy
  clear hy
  go_enter Tryz.func151, Tryz.ntmps151
  go_wp2_with fail
  generalize w.alloc (.cells #[.int .i64 x.id, .int .i64 x.fr, .int .i64 x.tn, .int .i64 x.st, .int .i64 x.en, .int .i64 x.rt] 33) = w2 at *
  have hs := hB.size
  refine (HY.out ▸ overC_any x r w2).mono ?_
  rintro e w3 ⟨rfl, hb3⟩
  replace hB := hB.trans (hb3.mono hs)
  clear hb3 r0 r1 r2 r3 r4 r5 hX
  go_wp2
  go_ret
  exact ⟨rfl, hB⟩
theorem pred_has (id : Int) (g : Nat) (row : Option Nat) (w : World) (hR : Blok w g 3 #[.int .i64 id]) (hr : row ≠ some g) : PredCo 93 #[.pointer (some ⟨g, 0, none⟩)] row w (fun x => x.id == id) :=
  ⟨enter_run Tryz.func93 rfl rfl, fun w' hg x => has1_any x id g w' (hR.grown hg (fun e => hr e.symm))⟩
theorem pred_mayC (r : Co) (g : Nat) (row : Option Nat) (w : World) (hR : Blok w g 33 #[.int .i64 r.id, .int .i64 r.fr, .int .i64 r.tn, .int .i64 r.st, .int .i64 r.en, .int .i64 r.rt]) (hr : row ≠ some g) : PredCo 151 #[.pointer (some ⟨g, 0, none⟩)] row w (fun x => overC x r) :=
  ⟨enter_run Tryz.func151 rfl rfl, fun w' hg x => mayC1_any x r g w' (hR.grown hg (fun e => hr e.symm))⟩
theorem cmp_contacts (t : Co) (w : World) : CmpCo 65 #[] t w (fun x => cmpC x t) :=
  ⟨enter_run Tryz.func65 rfl rfl, fun w' _ x => cmpC_any x t w'⟩
end Go.Proofs.YtolaabllhibkdaaGreat.Kc

/- Package contacts: Same, Find, Delete, mayAdd. No condition. -/
namespace Go.Proofs.YtolaabllhibkdaaGreat.Kc
open Go.ChangeShapes Go.WideShapes Go.ChangeAt Go.RowKit Go.Sort
set_option linter.unusedSimpArgs false
set_option linter.unusedVariables false
def delCode (q n : Nat) : Int := if q = n then 6 else 0
set_option maxRecDepth 100000 in
theorem same_any (A A' : Option Addr) (n c n' c' : Nat) (d d' : List Co) (w : World) (hd : d.length = n) (hd' : d'.length = n') (hn : n ≤ 1000000) (hn' : n' ≤ 1000000) (h : Sl w w.heap.size 6 A n c (flatCo d)) (h' : Sl w w.heap.size 6 A' n' c' (flatCo d')) :
    Calls Tryz.prog 29 #[.slice A n c, .slice A' n' c'] w fun e w' => e = .returned (.bool (decide (d = d'))) ∧ Below w.heap.size w w' := by
  have HD := Lib.hid hd
  have HD' := Lib.hid hd'
  obtain ⟨b, hb⟩ : ∃ b, decide (d = d') = b := ⟨_, rfl⟩
  rw [hb]
  have HB := Lib.hid hb
  clear hd hd' hb
  go_enter Tryz.func29, Tryz.ntmps29
  go_wp2_with fail
  refine (HB.out ▸ equalCo A A' n c n' c' d d' w HD.out HD'.out hn hn' h h').mono ?_
  rintro e w1 ⟨rfl, hB⟩
  go_wp2
  go_ret
  exact ⟨rfl, hB⟩
set_option maxHeartbeats 1000000 in
set_option maxRecDepth 100000 in
theorem find_yes (A : Option Addr) (n c : Nat) (d : List Co) (id : Int) (w : World) (q : Nat) (hd : d.length = n) (hn : n ≤ 1000000) (h : Sl w w.heap.size 6 A n c (flatCo d)) (hqn : q < n) (hq : ∀ j, j < q → ((gCo d j).id == id) = false) (hh : ((gCo d q).id == id) = true) :
    Calls Tryz.prog 31 #[.slice A n c, .int .i64 id] w fun e w' => e = .returned (.tuple #[.agg #[.int .i64 (gCo d q).id, .int .i64 (gCo d q).fr, .int .i64 (gCo d q).tn, .int .i64 (gCo d q).st, .int .i64 (gCo d q).en, .int .i64 (gCo d q).rt], .bool true]) ∧ Below w.heap.size w w' := by
  obtain ⟨ad, rfl, -⟩ := h.lst.atCo hd hqn
  obtain ⟨x, hx⟩ : ∃ x, gCo d q = x := ⟨_, rfl⟩
  rw [hx]
  have hBa : Below w.heap.size w (w.alloc (.cells #[.int .i64 0, .int .i64 0, .int .i64 0, .int .i64 0, .int .i64 0, .int .i64 0] 33)) := by (repeat (first | exact Below.refl _ _ | refine Below.alloc ?_ (by first | omega | (simp; done) | (simp; omega)) _ | refine Below.setCell ?_ (by first | omega | (simp; done) | (simp; omega)) _ | refine Below.drew ?_))
  have hX := Blok.new w 33 #[.int .i64 0, .int .i64 0, .int .i64 0, .int .i64 0, .int .i64 0, .int .i64 0]
  have hs := h.up hBa
  have hcap := h.cap
  have HD := Lib.hid hd
  have HQ := Lib.hid hq
  have HH := Lib.hid hh
  have HX := Lib.hid hx
  clear h hd hq hh hx
  go_enter Tryz.func31, Tryz.ntmps31
  go_wp2_with fail
  generalize w.alloc (.cells #[.int .i64 0, .int .i64 0, .int .i64 0, .int .i64 0, .int .i64 0, .int .i64 0] 33) = w2 at *
  refine (has_any id w2).mono ?_
  rintro e w3 ⟨g, rfl, hG, hg0, hbb⟩
  replace hs := hs.up hbb
  replace hX := hX.below hbb hX.lt
  replace hBa := hBa.trans (hbb.mono hBa.size)
  clear hbb hg0
  go_wp2_with fail
  refine (indexCo (some ad) n c d _ _ none _ w3 HD.out hn hs (pred_has id g none w3 hG (by simp)) q (by omega) HQ.out (fun _ => HH.out)).mono ?_
  rintro e w5 ⟨rfl, hb5⟩
  rw [idxOf_yes hqn]
  replace hs := hs.up hb5
  replace hX := hX.below hb5 hX.lt
  replace hBa := hBa.trans (hb5.mono hBa.size)
  clear hb5 hG
  obtain ⟨ad', he, hab, c0, c1, c2, c3, c4, c5⟩ := hs.lst.atCo HD.out hqn
  injection he with he
  subst he
  rw [HX.out] at c0 c1 c2 c3 c4 c5
  have r0 : w5.cell? ⟨w.heap.size, 0, none⟩ = some (.int .i64 0) := hX.cell 0
  have r1 : w5.cell? ⟨w.heap.size, 1, none⟩ = some (.int .i64 0) := hX.cell 1
  have r2 : w5.cell? ⟨w.heap.size, 2, none⟩ = some (.int .i64 0) := hX.cell 2
  have r3 : w5.cell? ⟨w.heap.size, 3, none⟩ = some (.int .i64 0) := hX.cell 3
  have r4 : w5.cell? ⟨w.heap.size, 4, none⟩ = some (.int .i64 0) := hX.cell 4
  have r5 : w5.cell? ⟨w.heap.size, 5, none⟩ = some (.int .i64 0) := hX.cell 5
  have f0 := hX.free 0
  have f1 := hX.free 1
  have f2 := hX.free 2
  have f3 := hX.free 3
  have f4 := hX.free 4
  have f5 := hX.free 5
  have hlt := hX.lt
  have hq0 : (0 : Int) ≤ (q : Int) := by omega
  have hqI : (q : Int) < (n : Int) := by omega
  have HXX := Lib.hid hX
  clear hs hX
  go_wp2
  have hX := HXX.out
  clear r0 r1 r2 r3 r4 r5
  have hF : Blok ((((((w5.setCell ⟨w.heap.size, 0, none⟩ (.int .i64 x.id)).setCell ⟨w.heap.size, 1, none⟩ (.int .i64 x.fr)).setCell ⟨w.heap.size, 2, none⟩ (.int .i64 x.tn)).setCell ⟨w.heap.size, 3, none⟩ (.int .i64 x.st)).setCell ⟨w.heap.size, 4, none⟩ (.int .i64 x.en)).setCell ⟨w.heap.size, 5, none⟩ (.int .i64 x.rt)) w.heap.size 33 #[.int .i64 x.id, .int .i64 x.fr, .int .i64 x.tn, .int .i64 x.st, .int .i64 x.en, .int .i64 x.rt] := by have h := ((((((hX.set_ 0 (.int .i64 x.id)).set_ 1 (.int .i64 x.fr)).set_ 2 (.int .i64 x.tn)).set_ 3 (.int .i64 x.st)).set_ 4 (.int .i64 x.en)).set_ 5 (.int .i64 x.rt)); simpa using h
  have hle0 : w.heap.size ≤ w.heap.size := by first | exact Nat.le_refl _ | omega
  have hWf : Below w.heap.size w ((((((w5.setCell ⟨w.heap.size, 0, none⟩ (.int .i64 x.id)).setCell ⟨w.heap.size, 1, none⟩ (.int .i64 x.fr)).setCell ⟨w.heap.size, 2, none⟩ (.int .i64 x.tn)).setCell ⟨w.heap.size, 3, none⟩ (.int .i64 x.st)).setCell ⟨w.heap.size, 4, none⟩ (.int .i64 x.en)).setCell ⟨w.heap.size, 5, none⟩ (.int .i64 x.rt)) := ((((((hBa.setCell (p := ⟨w.heap.size, 0, none⟩) hle0 (.int .i64 x.id)).setCell (p := ⟨w.heap.size, 1, none⟩) hle0 (.int .i64 x.fr)).setCell (p := ⟨w.heap.size, 2, none⟩) hle0 (.int .i64 x.tn)).setCell (p := ⟨w.heap.size, 3, none⟩) hle0 (.int .i64 x.st)).setCell (p := ⟨w.heap.size, 4, none⟩) hle0 (.int .i64 x.en)).setCell (p := ⟨w.heap.size, 5, none⟩) hle0 (.int .i64 x.rt))
  have hlF := hF.lt
  generalize ((((((w5.setCell ⟨w.heap.size, 0, none⟩ (.int .i64 x.id)).setCell ⟨w.heap.size, 1, none⟩ (.int .i64 x.fr)).setCell ⟨w.heap.size, 2, none⟩ (.int .i64 x.tn)).setCell ⟨w.heap.size, 3, none⟩ (.int .i64 x.st)).setCell ⟨w.heap.size, 4, none⟩ (.int .i64 x.en)).setCell ⟨w.heap.size, 5, none⟩ (.int .i64 x.rt)) = wf at *
  have r0 : wf.cell? ⟨w.heap.size, 0, none⟩ = some (.int .i64 x.id) := hF.cell 0
  have r1 : wf.cell? ⟨w.heap.size, 1, none⟩ = some (.int .i64 x.fr) := hF.cell 1
  have r2 : wf.cell? ⟨w.heap.size, 2, none⟩ = some (.int .i64 x.tn) := hF.cell 2
  have r3 : wf.cell? ⟨w.heap.size, 3, none⟩ = some (.int .i64 x.st) := hF.cell 3
  have r4 : wf.cell? ⟨w.heap.size, 4, none⟩ = some (.int .i64 x.en) := hF.cell 4
  have r5 : wf.cell? ⟨w.heap.size, 5, none⟩ = some (.int .i64 x.rt) := hF.cell 5
  refine bodyPost_ret (v := .tuple #[.agg #[.int .i64 x.id, .int .i64 x.fr, .int .i64 x.tn, .int .i64 x.st, .int .i64 x.en, .int .i64 x.rt], .bool true]) (by simp [results, Tryz.results31, go_sem, r0, r1, r2, r3, r4, r5, hlF]) rfl ?_
  exact ⟨rfl, hWf⟩
set_option maxHeartbeats 1000000 in
set_option maxRecDepth 100000 in
theorem find_no (A : Option Addr) (n c : Nat) (d : List Co) (id : Int) (w : World) (hd : d.length = n) (hn : n ≤ 1000000) (h : Sl w w.heap.size 6 A n c (flatCo d)) (hq : ∀ j, j < n → ((gCo d j).id == id) = false) :
    Calls Tryz.prog 31 #[.slice A n c, .int .i64 id] w fun e w' => e = .returned (.tuple #[.agg #[.int .i64 0, .int .i64 0, .int .i64 0, .int .i64 0, .int .i64 0, .int .i64 0], .bool false]) ∧ Below w.heap.size w w' := by
  have hBa : Below w.heap.size w (w.alloc (.cells #[.int .i64 0, .int .i64 0, .int .i64 0, .int .i64 0, .int .i64 0, .int .i64 0] 33)) := by (repeat (first | exact Below.refl _ _ | refine Below.alloc ?_ (by first | omega | (simp; done) | (simp; omega)) _ | refine Below.setCell ?_ (by first | omega | (simp; done) | (simp; omega)) _ | refine Below.drew ?_))
  have hX := Blok.new w 33 #[.int .i64 0, .int .i64 0, .int .i64 0, .int .i64 0, .int .i64 0, .int .i64 0]
  have hs := h.up hBa
  have HD := Lib.hid hd
  have HQ := Lib.hid hq
  clear h hd hq
  go_enter Tryz.func31, Tryz.ntmps31
  go_wp2_with fail
  generalize w.alloc (.cells #[.int .i64 0, .int .i64 0, .int .i64 0, .int .i64 0, .int .i64 0, .int .i64 0] 33) = w2 at *
  refine (has_any id w2).mono ?_
  rintro e w3 ⟨g, rfl, hG, hg0, hbb⟩
  replace hs := hs.up hbb
  replace hX := hX.below hbb hX.lt
  replace hBa := hBa.trans (hbb.mono hBa.size)
  clear hbb hg0
  go_wp2_with fail
  refine (indexCo A n c d _ _ none _ w3 HD.out hn hs (pred_has id g none w3 hG (by simp)) n (Nat.le_refl _) HQ.out (fun h => by omega)).mono ?_
  rintro e w5 ⟨rfl, hb5⟩
  rw [idxOf_no (by omega : ¬ n < n)]
  replace hX := hX.below hb5 hX.lt
  replace hBa := hBa.trans (hb5.mono hBa.size)
  clear hb5 hG hs
  have r0 : w5.cell? ⟨w.heap.size, 0, none⟩ = some (.int .i64 0) := hX.cell 0
  have r1 : w5.cell? ⟨w.heap.size, 1, none⟩ = some (.int .i64 0) := hX.cell 1
  have r2 : w5.cell? ⟨w.heap.size, 2, none⟩ = some (.int .i64 0) := hX.cell 2
  have r3 : w5.cell? ⟨w.heap.size, 3, none⟩ = some (.int .i64 0) := hX.cell 3
  have r4 : w5.cell? ⟨w.heap.size, 4, none⟩ = some (.int .i64 0) := hX.cell 4
  have r5 : w5.cell? ⟨w.heap.size, 5, none⟩ = some (.int .i64 0) := hX.cell 5
  have f0 := hX.free 0
  have f1 := hX.free 1
  have f2 := hX.free 2
  have f3 := hX.free 3
  have f4 := hX.free 4
  have f5 := hX.free 5
  have hlt := hX.lt
  have HXX := Lib.hid hX
  clear hX
  go_wp2
  have hX := HXX.out
  clear r0 r1 r2 r3 r4 r5
  have hF : Blok ((((((w5.setCell ⟨w.heap.size, 0, none⟩ (.int .i64 0)).setCell ⟨w.heap.size, 1, none⟩ (.int .i64 0)).setCell ⟨w.heap.size, 2, none⟩ (.int .i64 0)).setCell ⟨w.heap.size, 3, none⟩ (.int .i64 0)).setCell ⟨w.heap.size, 4, none⟩ (.int .i64 0)).setCell ⟨w.heap.size, 5, none⟩ (.int .i64 0)) w.heap.size 33 #[.int .i64 0, .int .i64 0, .int .i64 0, .int .i64 0, .int .i64 0, .int .i64 0] := by have h := ((((((hX.set_ 0 (.int .i64 0)).set_ 1 (.int .i64 0)).set_ 2 (.int .i64 0)).set_ 3 (.int .i64 0)).set_ 4 (.int .i64 0)).set_ 5 (.int .i64 0)); simpa using h
  have hle0 : w.heap.size ≤ w.heap.size := by first | exact Nat.le_refl _ | omega
  have hWf : Below w.heap.size w ((((((w5.setCell ⟨w.heap.size, 0, none⟩ (.int .i64 0)).setCell ⟨w.heap.size, 1, none⟩ (.int .i64 0)).setCell ⟨w.heap.size, 2, none⟩ (.int .i64 0)).setCell ⟨w.heap.size, 3, none⟩ (.int .i64 0)).setCell ⟨w.heap.size, 4, none⟩ (.int .i64 0)).setCell ⟨w.heap.size, 5, none⟩ (.int .i64 0)) := ((((((hBa.setCell (p := ⟨w.heap.size, 0, none⟩) hle0 (.int .i64 0)).setCell (p := ⟨w.heap.size, 1, none⟩) hle0 (.int .i64 0)).setCell (p := ⟨w.heap.size, 2, none⟩) hle0 (.int .i64 0)).setCell (p := ⟨w.heap.size, 3, none⟩) hle0 (.int .i64 0)).setCell (p := ⟨w.heap.size, 4, none⟩) hle0 (.int .i64 0)).setCell (p := ⟨w.heap.size, 5, none⟩) hle0 (.int .i64 0))
  have hlF := hF.lt
  generalize ((((((w5.setCell ⟨w.heap.size, 0, none⟩ (.int .i64 0)).setCell ⟨w.heap.size, 1, none⟩ (.int .i64 0)).setCell ⟨w.heap.size, 2, none⟩ (.int .i64 0)).setCell ⟨w.heap.size, 3, none⟩ (.int .i64 0)).setCell ⟨w.heap.size, 4, none⟩ (.int .i64 0)).setCell ⟨w.heap.size, 5, none⟩ (.int .i64 0)) = wf at *
  have r0 : wf.cell? ⟨w.heap.size, 0, none⟩ = some (.int .i64 0) := hF.cell 0
  have r1 : wf.cell? ⟨w.heap.size, 1, none⟩ = some (.int .i64 0) := hF.cell 1
  have r2 : wf.cell? ⟨w.heap.size, 2, none⟩ = some (.int .i64 0) := hF.cell 2
  have r3 : wf.cell? ⟨w.heap.size, 3, none⟩ = some (.int .i64 0) := hF.cell 3
  have r4 : wf.cell? ⟨w.heap.size, 4, none⟩ = some (.int .i64 0) := hF.cell 4
  have r5 : wf.cell? ⟨w.heap.size, 5, none⟩ = some (.int .i64 0) := hF.cell 5
  refine bodyPost_ret (v := .tuple #[.agg #[.int .i64 0, .int .i64 0, .int .i64 0, .int .i64 0, .int .i64 0, .int .i64 0], .bool false]) (by simp [results, Tryz.results31, go_sem, r0, r1, r2, r3, r4, r5, hlF]) rfl ?_
  exact ⟨rfl, hWf⟩
set_option maxHeartbeats 1000000 in
set_option maxRecDepth 100000 in
theorem del_any (A : Option Addr) (n c : Nat) (d : List Co) (id : Int) (w : World) (hd : d.length = n) (hn : n ≤ 1000000) (h : Sl w w.heap.size 6 A n c (flatCo d)) :
    Calls Tryz.prog 103 #[.slice A n c, .int .i64 id] w fun e w' => ∃ v, e = .returned (.tuple #[v, .int .i64 (delCode (d.filter (fun x => !(x.id == id))).length n)]) ∧ w'.ownsRow w.heap.size 33 6 v (d.filter (fun x => !(x.id == id))).length (flatCo (d.filter (fun x => !(x.id == id)))) ∧ Below w.heap.size w w' := by
  have HD := Lib.hid hd
  clear hd
  go_enter Tryz.func103, Tryz.ntmps103
  go_wp2_with fail
  refine (cloneCo A n c d w HD.out hn h).mono ?_
  rintro e w3 ⟨v, rfl, hown, hb3⟩
  clear h
  have hl3 := hb3.size
  go_wp2_with fail
  refine (has_any id w3).mono ?_
  rintro e w4 ⟨g, rfl, hG, hg0, hbb⟩
  have hown2 := hown.kept (grown_of_below (row := some w3.heap.size) hbb) (.inr (fun e => by have := (hown.lt _ e).2; omega))
  have hB4 := hb3.trans (hbb.mono hl3)
  have hgne : v.ownBlock ≠ some g := fun e => by have := (hown.lt _ e).2; omega
  clear hown
  go_wp2_with fail
  refine (deleteCo v n d _ _ _ w4 _ HD.out hn hown2 (pred_has id g v.ownBlock w4 hG hgne)).mono ?_
  rintro e w5 ⟨v', rfl, hown', hg4⟩
  have hfin : Below w.heap.size w w5 := Below.grown hB4 hg4 hB4.size (fun k hk => (hown2.lt k hk).1)
  have hown5 := hown'
  clear hown' hg4 hG hown2 hb3 hbb hB4
  obtain ⟨q, hq⟩ : ∃ q, (d.filter (fun x => !(x.id == id))).length = q := ⟨_, rfl⟩
  rw [hq] at hown5
  have HQ := Lib.hid hq
  clear hq
  obtain ⟨A5, c5, rfl⟩ := slice_of_own hown5
  by_cases hqn : q = n
  · have hqb : ((q : Int) == (n : Int)) = true := by simp [hqn]
    have HQN := Lib.hid hqn
    clear hqn
    go_wp2
    go_ret2
    refine ⟨_, ?_, by rw [HQ.out]; exact hown5, hfin⟩
    rw [HQ.out, delCode, if_pos HQN.out]; rfl
  · have hqb : ((q : Int) == (n : Int)) = false := beq_eq_false_iff_ne.2 (by omega)
    go_wp2
    go_ret2
    refine ⟨_, ?_, by rw [HQ.out]; exact hown5, hfin⟩
    rw [HQ.out, delCode, if_neg hqn]; rfl
def okC (r : Co) : Bool := contactB r.id r.fr r.tn r.st r.en r.rt
def mayC (d : List Co) (r : Co) : Int := if okC r = false then 1 else if 4096 ≤ d.length then 3 else if d.any (fun o => o.id == r.id) = true then 4 else if d.any (fun o => overC o r) = true then 5 else 0
theorem okC_call (r : Co) (w : World) (b : Bool) (h : okC r = b) : Calls Tryz.prog 64 #[.agg #[.int .i64 r.id, .int .i64 r.fr, .int .i64 r.tn, .int .i64 r.st, .int .i64 r.en, .int .i64 r.rt]] w fun e w' => e = .returned (.bool b) ∧ Below w.heap.size w w' := contact_is b h w
set_option maxHeartbeats 1000000 in
set_option maxRecDepth 100000 in
theorem mayAdd_any (A : Option Addr) (n c : Nat) (d : List Co) (r : Co) (w : World) (hd : d.length = n) (hn : n ≤ 1000000) (h : Sl w w.heap.size 6 A n c (flatCo d)) :
    Calls Tryz.prog 133 #[.slice A n c, .agg #[.int .i64 r.id, .int .i64 r.fr, .int .i64 r.tn, .int .i64 r.st, .int .i64 r.en, .int .i64 r.rt]] w fun e w' => e = .returned (.int .i64 (mayC d r)) ∧ Below w.heap.size w w' := by
  have hBa : Below w.heap.size w (w.alloc (.cells #[.int .i64 r.id, .int .i64 r.fr, .int .i64 r.tn, .int .i64 r.st, .int .i64 r.en, .int .i64 r.rt] 33)) := by (repeat (first | exact Below.refl _ _ | refine Below.alloc ?_ (by first | omega | (simp; done) | (simp; omega)) _ | refine Below.setCell ?_ (by first | omega | (simp; done) | (simp; omega)) _ | refine Below.drew ?_))
  have hX := Blok.new w 33 #[.int .i64 r.id, .int .i64 r.fr, .int .i64 r.tn, .int .i64 r.st, .int .i64 r.en, .int .i64 r.rt]
  have hs := h.up hBa
  have HD := Lib.hid hd
  have hsz : w.heap.size < (w.alloc (.cells #[.int .i64 r.id, .int .i64 r.fr, .int .i64 r.tn, .int .i64 r.st, .int .i64 r.en, .int .i64 r.rt] 33)).heap.size := by simp
  clear h
  cases h1 : okC r with
  | false =>
    have hf : mayC d r = 1 := by unfold mayC; rw [if_pos h1]
    rw [hf]
    have H1 := Lib.hid h1
    clear h1 hf hd
    go_enter Tryz.func133, Tryz.ntmps133
    go_wp2_with fail
    generalize w.alloc (.cells #[.int .i64 r.id, .int .i64 r.fr, .int .i64 r.tn, .int .i64 r.st, .int .i64 r.en, .int .i64 r.rt] 33) = w2 at *
    refine (okC_call r w2 false H1.out).mono ?_
    rintro e w3 ⟨rfl, hb3⟩
    replace hBa := hBa.trans (hb3.mono hBa.size)
    clear hb3 hs hX
    go_wp2
    go_ret
    exact ⟨rfl, hBa⟩
  | true =>
    by_cases h2 : 4096 ≤ n
    · have hf : mayC d r = 3 := by unfold mayC; rw [if_neg (by rw [h1]; simp), if_pos (by omega)]
      rw [hf]
      have H1 := Lib.hid h1
      clear h1 hf hd
      go_enter Tryz.func133, Tryz.ntmps133
      go_wp2_with fail
      generalize w.alloc (.cells #[.int .i64 r.id, .int .i64 r.fr, .int .i64 r.tn, .int .i64 r.st, .int .i64 r.en, .int .i64 r.rt] 33) = w2 at *
      refine (okC_call r w2 true H1.out).mono ?_
      rintro e w3 ⟨rfl, hb3⟩
      replace hBa := hBa.trans (hb3.mono hBa.size)
      clear hb3 hs hX
      go_wp2
      go_ret
      exact ⟨rfl, hBa⟩
    · obtain ⟨b, hb⟩ : ∃ b, d.any (fun o => o.id == r.id) = b := ⟨_, rfl⟩
      cases b with
      | true =>
        have hf : mayC d r = 4 := by unfold mayC; rw [if_neg (by rw [h1]; simp), if_neg (by omega), if_pos hb]
        rw [hf]
        have H1 := Lib.hid h1
        have HB := Lib.hid hb
        clear h1 hf hd hb
        go_enter Tryz.func133, Tryz.ntmps133
        go_wp2_with fail
        generalize w.alloc (.cells #[.int .i64 r.id, .int .i64 r.fr, .int .i64 r.tn, .int .i64 r.st, .int .i64 r.en, .int .i64 r.rt] 33) = w2 at *
        refine (okC_call r w2 true H1.out).mono ?_
        rintro e w3 ⟨rfl, hb3⟩
        replace hs := hs.up hb3
        replace hX := hX.below hb3 hX.lt
        replace hBa := hBa.trans (hb3.mono hBa.size)
        have hx0 : w3.cell? ⟨w.heap.size, 0, none⟩ = some (.int .i64 r.id) := hX.cell 0
        have hlt := hX.lt
        clear hb3
        go_wp2_with fail
        refine (has_any r.id w3).mono ?_
        rintro e w4 ⟨g, rfl, hG, hg0, hbb⟩
        replace hs := hs.up hbb
        replace hBa := hBa.trans (hbb.mono hBa.size)
        clear hbb hg0 hX hx0
        go_wp2_with fail
        refine (HB.out ▸ containsCo A n c d _ _ none _ w4 HD.out hn hs (pred_has r.id g none w4 hG (by simp))).mono ?_
        rintro e w5 ⟨rfl, hb5⟩
        replace hBa := hBa.trans (hb5.mono hBa.size)
        clear hb5 hs hG
        go_wp2
        go_ret
        exact ⟨rfl, hBa⟩
      | false =>
        obtain ⟨b2, hb2⟩ : ∃ b, d.any (fun o => overC o r) = b := ⟨_, rfl⟩
        have hf : mayC d r = if b2 = true then 5 else 0 := by unfold mayC; rw [if_neg (by rw [h1]; simp), if_neg (by omega), if_neg (by rw [hb]; simp), hb2]
        rw [hf]
        have H1 := Lib.hid h1
        have HB := Lib.hid hb
        have HB2 := Lib.hid hb2
        clear h1 hf hd hb hb2
        cases b2
        all_goals
          go_enter Tryz.func133, Tryz.ntmps133
          go_wp2_with fail
          generalize w.alloc (.cells #[.int .i64 r.id, .int .i64 r.fr, .int .i64 r.tn, .int .i64 r.st, .int .i64 r.en, .int .i64 r.rt] 33) = w2 at *
          refine (okC_call r w2 true H1.out).mono ?_
          rintro e w3 ⟨rfl, hb3⟩
          replace hs := hs.up hb3
          replace hX := hX.below hb3 hX.lt
          replace hBa := hBa.trans (hb3.mono hBa.size)
          have hx0 : w3.cell? ⟨w.heap.size, 0, none⟩ = some (.int .i64 r.id) := hX.cell 0
          have hlt := hX.lt
          clear hb3
          go_wp2_with fail
          refine (has_any r.id w3).mono ?_
          rintro e w4 ⟨g, rfl, hG, hg0, hbb⟩
          replace hs := hs.up hbb
          replace hX := hX.below hbb hX.lt
          replace hBa := hBa.trans (hbb.mono hBa.size)
          clear hbb hg0 hx0
          go_wp2_with fail
          refine (HB.out ▸ containsCo A n c d _ _ none _ w4 HD.out hn hs (pred_has r.id g none w4 hG (by simp))).mono ?_
          rintro e w5 ⟨rfl, hb5⟩
          replace hs := hs.up hb5
          replace hX := hX.below hb5 hX.lt
          replace hBa := hBa.trans (hb5.mono hBa.size)
          clear hb5 hG
          go_wp2_with fail
          refine (HB2.out ▸ containsCo A n c d _ _ none _ w5 HD.out hn hs (pred_mayC r w.heap.size none w5 hX (by simp))).mono ?_
          rintro e w6 ⟨rfl, hb6⟩
          replace hBa := hBa.trans (hb6.mono hBa.size)
          clear hb6 hs hX
          go_wp2
          go_ret
          exact ⟨rfl, hBa⟩
end Go.Proofs.YtolaabllhibkdaaGreat.Kc
