/- The document's own ledger: backlog and room. -/
import Derived.Test.YtejcjpfljcfibaaRef09
import Derived.Test.YtejcjpfljcfibaaRef03
namespace Go.Proofs.Ytejcjpfljcfibaa
open Go.ChangeShapes Go.WideShapes Go.ChangeAt Go.RowKit Go.Sort
set_option linter.unusedSimpArgs false
set_option linter.unusedVariables false
def bkA (x : Bk) (c0 : Nat) : Nat → Int
  | 0 => 0
  | k + 1 => if k < c0 then 0 else min (bkA x c0 k) (4611686018427387904 - getU x (k : Int)) + getU x (k : Int)
theorem bkA_next {x : Bk} {c0 k : Nat} (h : c0 ≤ k) : bkA x c0 (k + 1) = min (bkA x c0 k) (4611686018427387904 - getU x (k : Int)) + getU x (k : Int) := by
  rw [bkA, if_neg (by omega)]
theorem bkA_start (x : Bk) (c0 : Nat) : bkA x c0 c0 = 0 := by
  cases c0 with
  | zero => rfl
  | succ c => rw [bkA, if_pos (by omega)]
theorem bkA_ok {x : Bk} (h : okU x) (c0 : Nat) : ∀ k, 0 ≤ bkA x c0 k ∧ bkA x c0 k ≤ 4611686018427387904
  | 0 => by simp [bkA]
  | k + 1 => by
    have ih := bkA_ok h c0 k
    have hu := getU_ok h (k : Int)
    rw [bkA]
    split
    · simp
    · omega
theorem back_bkA {x : Bk} (h : okU x) {c0 : Nat} (hc : c0 ≤ 2) : backF x (c0 : Int) = bkA x c0 3 := by
  obtain ⟨a0, a1, b0, b1, e0, e1⟩ := h
  rcases (by omega : c0 = 0 ∨ c0 = 1 ∨ c0 = 2) with rfl | rfl | rfl
  · simp [backF, bkA, capAdd, getU]; omega
  · simp [backF, bkA, capAdd, getU]; omega
  · simp [backF, bkA, capAdd, getU]; omega
set_option maxHeartbeats 2000000 in
set_option maxRecDepth 100000 in
theorem rbacklog_any (A : Option Addr) (n c : Nat) (d : List Bk) (id cl : Int) (w : World) (hd : d.length = n) (hn : n ≤ 1000000) (h : Sl w w.heap.size 4 A n c (flatBk d)) (hs : SortB d) (x : Bk) (hx : rowB d id = x) (hok : okU x) (v : Int) (hv : backF x cl = v) :
    Calls Try.prog 24 #[.slice A n c, .int .i64 id, .int .i64 cl] w fun e w' => e = .returned (.int .i64 v) ∧ Below w.heap.size w w' := by
  cases hc : inB cl 0 2 with
  | false =>
    have hv0 : v = 0 := by
      rw [← hv]
      unfold inB at hc
      simp at hc
      unfold backF
      rw [if_neg (by omega), if_neg (by omega), if_neg (by omega)]
    subst hv0
    have HC := Lib.hid hc
    clear hc
    go_enter Try.func24, Try.ntmps24
    go_wp2_with fail
    refine (rclass_any cl w false HC.out).mono ?_
    rintro e w1 ⟨rfl, rfl⟩
    go_wp2
    go_ret
    exact ⟨rfl, Below.refl _ _⟩
  | true =>
    obtain ⟨c0, rfl, hc0⟩ : ∃ c0 : Nat, cl = c0 ∧ c0 ≤ 2 := by
      unfold inB at hc
      simp at hc
      exact ⟨cl.toNat, by omega, by omega⟩
    have hvs : v = bkA x c0 3 := by rw [← hv]; exact back_bkA hok hc0
    have hb := bkA_ok hok c0
    have HU := Lib.hid (rused_any A n c d id w hd hn h hs x hx)
    have HC := Lib.hid hc
    have HV := Lib.hid hvs
    have HBK := Lib.hid hb
    have HST := Lib.hid (bkA_start x c0)
    obtain ⟨a0, a1, b0, b1, e0, e1⟩ := hok
    clear hc hv hvs hx hs h hd hb
    go_enter Try.func24, Try.ntmps24
    go_wp2_with fail
    refine (rclass_any (c0 : Int) w true HC.out).mono ?_
    rintro e w1 ⟨rfl, rfl⟩
    go_wp2_with fail
    refine HU.out.mono ?_
    rintro e w2 ⟨rfl, hB⟩
    have hX := Blok.new w2 38 #[.int .i64 x.ua, .int .i64 x.ub, .int .i64 x.uc]
    have hB3 : Below w.heap.size w (w2.alloc (.cells #[.int .i64 x.ua, .int .i64 x.ub, .int .i64 x.uc] 38)) := hB.alloc hB.size _
    go_wp2_with fail
    generalize w2.alloc (.cells #[.int .i64 x.ua, .int .i64 x.ub, .int .i64 x.uc] 38) = w3 at *
    generalize w2.heap.size = bb at *
    have HX := Lib.hid hX
    have HB3 := Lib.hid hB3
    clear hX hB HU hB3
    go_loopw [8, 9] (fun tv iv wr => ∃ k : Nat, iv = .int .i64 k ∧ c0 ≤ k ∧ k ≤ 3 ∧ tv = .int .i64 (bkA x c0 k) ∧ Below w3.heap.size w3 wr) (fun _ iv _ => 3 - (intOf iv).toNat)
    case atStart => exact ⟨c0, rfl, by omega, by omega, by rw [HST.out], Below.refl _ _⟩
    case round =>
      obtain ⟨k, rfl, hck, hk3, rfl, hb⟩ := hrel
      have hXr := HX.out.below hb HX.out.lt
      have x0 : wr.cell? ⟨bb, 0, none⟩ = some (.int .i64 x.ua) := hXr.cell 0
      have x1 : wr.cell? ⟨bb, 1, none⟩ = some (.int .i64 x.ub) := hXr.cell 1
      have x2 : wr.cell? ⟨bb, 2, none⟩ = some (.int .i64 x.uc) := hXr.cell 2
      have hlt := hXr.lt
      clear hXr
      by_cases hk : k < 3
      · obtain ⟨t0, t1⟩ := HBK.out k
        have hnx := bkA_next (x := x) hck
        obtain ⟨t, ht⟩ : ∃ t, bkA x c0 k = t := ⟨_, rfl⟩
        rw [ht] at t0 t1 hnx ⊢
        have HNX := Lib.hid hnx
        clear ht hnx
        rcases (by omega : k = 0 ∨ k = 1 ∨ k = 2) with rfl | rfl | rfl
        · have hw1 : IntKind.i64.wrap (4611686018427387904 - x.ua) = 4611686018427387904 - x.ua := IntWalk.i64_in _ (by omega)
          have hw2 : IntKind.i64.wrap (min t (4611686018427387904 - x.ua) + x.ua) = min t (4611686018427387904 - x.ua) + x.ua := IntWalk.i64_in _ (by omega)
          have hmm : (if t ≤ 4611686018427387904 - x.ua then t else 4611686018427387904 - x.ua) = min t (4611686018427387904 - x.ua) := by split <;> omega
          try simp only [Int.natCast_zero, Int.natCast_one]
          go_wp2_with fail
          have q_x0 := fun d os => cell_regrown x0 d os
          have q_x1 := fun d os => cell_regrown x1 d os
          have q_x2 := fun d os => cell_regrown x2 d os
          try simp only [List.append]
          first | refine wp_region_text_below ?_ | refine wp_region_quiet_below (by kernel_rfl) (by kernel_rfl) ?_
          repeat (go_big_quiet_step ((fail)))
          refine wpQuiet_nil ?_
          intro _ hqw
          obtain ⟨pq, hqw⟩ := hqw
          subst hqw
          clear q_x0 q_x1 q_x2
          have hbq := hb.trans ((below_regrown wr pq.d pq.os).mono hb.size)
          clear x0 x1 x2 hlt hw1 hw2 hmm
          generalize grow (redrawn wr pq.d) pq.os = wq at *
          go_wp2_with fail
          go_roundw
          case rel => exact ⟨1, by go_num, by omega, by omega, by first | (rw [HNX.out]; simp [getU]; done) | (rw [HNX.out]; simp [getU]; omega) | (rw [HNX.out]; congr 1; simp [getU]; split <;> omega), hbq⟩
          case measure => simp [intOf]
        · have hw1 : IntKind.i64.wrap (4611686018427387904 - x.ub) = 4611686018427387904 - x.ub := IntWalk.i64_in _ (by omega)
          have hw2 : IntKind.i64.wrap (min t (4611686018427387904 - x.ub) + x.ub) = min t (4611686018427387904 - x.ub) + x.ub := IntWalk.i64_in _ (by omega)
          have hmm : (if t ≤ 4611686018427387904 - x.ub then t else 4611686018427387904 - x.ub) = min t (4611686018427387904 - x.ub) := by split <;> omega
          try simp only [Int.natCast_zero, Int.natCast_one]
          go_wp2_with fail
          have q_x0 := fun d os => cell_regrown x0 d os
          have q_x1 := fun d os => cell_regrown x1 d os
          have q_x2 := fun d os => cell_regrown x2 d os
          try simp only [List.append]
          first | refine wp_region_text_below ?_ | refine wp_region_quiet_below (by kernel_rfl) (by kernel_rfl) ?_
          repeat (go_big_quiet_step ((fail)))
          refine wpQuiet_nil ?_
          intro _ hqw
          obtain ⟨pq, hqw⟩ := hqw
          subst hqw
          clear q_x0 q_x1 q_x2
          have hbq := hb.trans ((below_regrown wr pq.d pq.os).mono hb.size)
          clear x0 x1 x2 hlt hw1 hw2 hmm
          generalize grow (redrawn wr pq.d) pq.os = wq at *
          go_wp2_with fail
          go_roundw
          case rel => exact ⟨2, by go_num, by omega, by omega, by first | (rw [HNX.out]; simp [getU]; done) | (rw [HNX.out]; simp [getU]; omega) | (rw [HNX.out]; congr 1; simp [getU]; split <;> omega), hbq⟩
          case measure => simp [intOf]
        · have hw1 : IntKind.i64.wrap (4611686018427387904 - x.uc) = 4611686018427387904 - x.uc := IntWalk.i64_in _ (by omega)
          have hw2 : IntKind.i64.wrap (min t (4611686018427387904 - x.uc) + x.uc) = min t (4611686018427387904 - x.uc) + x.uc := IntWalk.i64_in _ (by omega)
          have hmm : (if t ≤ 4611686018427387904 - x.uc then t else 4611686018427387904 - x.uc) = min t (4611686018427387904 - x.uc) := by split <;> omega
          try simp only [Int.natCast_zero, Int.natCast_one]
          go_wp2_with fail
          have q_x0 := fun d os => cell_regrown x0 d os
          have q_x1 := fun d os => cell_regrown x1 d os
          have q_x2 := fun d os => cell_regrown x2 d os
          try simp only [List.append]
          first | refine wp_region_text_below ?_ | refine wp_region_quiet_below (by kernel_rfl) (by kernel_rfl) ?_
          repeat (go_big_quiet_step ((fail)))
          refine wpQuiet_nil ?_
          intro _ hqw
          obtain ⟨pq, hqw⟩ := hqw
          subst hqw
          clear q_x0 q_x1 q_x2
          have hbq := hb.trans ((below_regrown wr pq.d pq.os).mono hb.size)
          clear x0 x1 x2 hlt hw1 hw2 hmm
          generalize grow (redrawn wr pq.d) pq.os = wq at *
          go_wp2_with fail
          go_roundw
          case rel => exact ⟨3, by go_num, by omega, by omega, by first | (rw [HNX.out]; simp [getU]; done) | (rw [HNX.out]; simp [getU]; omega) | (rw [HNX.out]; congr 1; simp [getU]; split <;> omega), hbq⟩
          case measure => simp [intOf]
      · obtain rfl : k = 3 := by omega
        go_wp2_with fail
        go_ret
        exact ⟨by rw [HV.out]; rfl, HB3.out.trans (hb.mono HB3.out.size)⟩
theorem rvolume_is {id fr tn st en ra : Int} (v : Int) (h : volumeF id fr tn st en ra = v) (w : World) :
    Calls Try.prog 40 #[.agg #[.int .i64 id, .int .i64 fr, .int .i64 tn, .int .i64 st, .int .i64 en, .int .i64 ra]] w fun e w' => e = .returned (.int .i64 v) ∧ Below w.heap.size w w' := h ▸ rvolume_any id fr tn st en ra w
set_option maxHeartbeats 2000000 in
set_option maxRecDepth 100000 in
theorem rroom_any (A : Option Addr) (n k : Nat) (d : List Bk) (c : Ct) (cl : Int) (w : World) (hd : d.length = n) (hn : n ≤ 1000000) (h : Sl w w.heap.size 4 A n k (flatBk d)) (hs : SortB d) (x : Bk) (hx : rowB d c.id = x) (hok : okU x) (v : Int) (hv : roomF c x cl = v) :
    Calls Try.prog 26 #[.slice A n k, .agg #[.int .i64 c.id, .int .i64 c.fr, .int .i64 c.tn, .int .i64 c.st, .int .i64 c.en, .int .i64 c.rt], .int .i64 cl] w fun e w' => e = .returned (.int .i64 v) ∧ Below w.heap.size w w' := by
  have hBa : Below w.heap.size w (w.alloc (.cells #[.int .i64 c.id, .int .i64 c.fr, .int .i64 c.tn, .int .i64 c.st, .int .i64 c.en, .int .i64 c.rt] 29)) := by (repeat (first | exact Below.refl _ _ | refine Below.alloc ?_ (by first | omega | (simp; done) | (simp; omega)) _ | refine Below.setCell ?_ (by first | omega | (simp; done) | (simp; omega)) _ | refine Below.drew ?_))
  have hX := Blok.new w 29 #[.int .i64 c.id, .int .i64 c.fr, .int .i64 c.tn, .int .i64 c.st, .int .i64 c.en, .int .i64 c.rt]
  have hl := h.up hBa
  cases hc : inB cl 0 2 with
  | false =>
    have hv0 : v = 0 := by rw [← hv]; unfold roomF; rw [if_neg (by rw [hc]; simp)]
    subst hv0
    have HC := Lib.hid hc
    clear hc
    go_enter Try.func26, Try.ntmps26
    go_wp2_with fail
    refine (rclass_any cl _ false HC.out).mono ?_
    rintro e w1 ⟨rfl, rfl⟩
    go_wp2
    go_ret
    exact ⟨rfl, hBa⟩
  | true =>
    have HC := Lib.hid hc
    obtain ⟨vo, hvo⟩ : ∃ r, volumeF c.id c.fr c.tn c.st c.en c.rt = r := ⟨_, rfl⟩
    obtain ⟨bk, hbk⟩ : ∃ r, backF x cl = r := ⟨_, rfl⟩
    have hvb := volC_ok c
    unfold volC at hvb
    rw [hvo] at hvb
    have hbb := backF_ok hok cl
    rw [hbk] at hbb
    obtain ⟨v0, v1⟩ := hvb
    obtain ⟨b0, b1⟩ := hbb
    have hvm : v = max 0 (vo - bk) := by
      rw [← hv]; unfold roomF volC; rw [if_pos hc, hvo, hbk]
    have HVM := Lib.hid hvm
    have HVO := Lib.hid hvo
    have hwr : IntKind.i64.wrap (vo - bk) = vo - bk := IntWalk.i64_in _ (by omega)
    go_enter Try.func26, Try.ntmps26
    go_wp2_with fail
    generalize w.alloc (.cells #[.int .i64 c.id, .int .i64 c.fr, .int .i64 c.tn, .int .i64 c.st, .int .i64 c.en, .int .i64 c.rt] 29) = w1 at *
    refine (rclass_any cl w1 true HC.out).mono ?_
    rintro e w2 ⟨rfl, rfl⟩
    have c0 : w1.cell? ⟨w.heap.size, 0, none⟩ = some (.int .i64 c.id) := hX.cell 0
    have c1 : w1.cell? ⟨w.heap.size, 1, none⟩ = some (.int .i64 c.fr) := hX.cell 1
    have c2 : w1.cell? ⟨w.heap.size, 2, none⟩ = some (.int .i64 c.tn) := hX.cell 2
    have c3 : w1.cell? ⟨w.heap.size, 3, none⟩ = some (.int .i64 c.st) := hX.cell 3
    have c4 : w1.cell? ⟨w.heap.size, 4, none⟩ = some (.int .i64 c.en) := hX.cell 4
    have c5 : w1.cell? ⟨w.heap.size, 5, none⟩ = some (.int .i64 c.rt) := hX.cell 5
    have lt_c := hX.lt
    have HQL : Hid (∀ dd os, Sl (grow (redrawn w1 dd) os) (grow (redrawn w1 dd) os).heap.size 4 A n k (flatBk d)) := fun dd os => hl.up (below_regrown w1 dd os)
    have HSS := Lib.hid hs
    have HXX := Lib.hid hx
    have HOK := Lib.hid hok
    have HBK := Lib.hid hbk
    have HDD := Lib.hid hd
    clear hX hl h hs hx hok hbk hd hv hvm hvo hc
    go_wp2_with fail
    have q_c0 := fun d os => cell_regrown c0 d os
    have q_c1 := fun d os => cell_regrown c1 d os
    have q_c2 := fun d os => cell_regrown c2 d os
    have q_c3 := fun d os => cell_regrown c3 d os
    have q_c4 := fun d os => cell_regrown c4 d os
    have q_c5 := fun d os => cell_regrown c5 d os
    try simp only [List.append]
    first | refine wp_region_text_below ?_ | refine wp_region_quiet_below (by kernel_rfl) (by kernel_rfl) ?_
    repeat (go_big_quiet_step (((first | (go_at_call 40; with_reducible exact Calls.regrown_of (rvolume_is vo HVO.out _)) | (go_at_call 24; with_reducible exact Calls.regrown_of (rbacklog_any A n k d c.id cl _ HDD.out hn (HQL.out _ _) HSS.out x HXX.out HOK.out bk HBK.out))))))
    refine wpQuiet_nil ?_
    intro _ hqw
    obtain ⟨pq, hqw⟩ := hqw
    subst hqw
    clear q_c0 q_c1 q_c2 q_c3 q_c4 q_c5
    have hbq := hBa.trans ((below_regrown w1 pq.d pq.os).mono hBa.size)
    clear c0 c1 c2 c3 c4 c5 lt_c HQL
    generalize grow (redrawn w1 pq.d) pq.os = wq at *
    go_wp2_with fail
    all_goals
      go_ret
      refine ⟨?_, hbq⟩
      rw [HVM.out]
      first
        | (show Ending.returned (Value.int .i64 (vo - bk)) = _; rw [show max 0 (vo - bk) = vo - bk by omega])
        | (show Ending.returned (Value.int .i64 0) = _; rw [show max 0 (vo - bk) = 0 by omega])
end Go.Proofs.Ytejcjpfljcfibaa
