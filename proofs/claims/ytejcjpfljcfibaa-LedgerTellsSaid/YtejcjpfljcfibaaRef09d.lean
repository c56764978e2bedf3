/- The document's own ledger: Drop. -/
import Derived.Test.YtejcjpfljcfibaaRef09c
import Derived.Test.YtejcjpfljcfibaaSmall09
namespace Go.Proofs.Ytejcjpfljcfibaa
open Go.ChangeShapes Go.WideShapes Go.ChangeAt Go.RowKit Go.Sort
set_option linter.unusedSimpArgs false
set_option linter.unusedVariables false
theorem dropL_next {d : List Bk} {ids : List Int} {i : Nat} (h : i < d.length) : dropL (d.take (i + 1)) ids = dropL (d.take i) ids ++ (if inL ids (gBk d i).id = true then [] else [gBk d i]) := by
  unfold dropL
  rw [take_nextBk h, List.filter_append]
  congr 1
  by_cases hq : inL ids (gBk d i).id = true
  · simp [hq]
  · simp [hq]
set_option maxHeartbeats 4000000 in
set_option maxRecDepth 100000 in
theorem rdrop_any (A : Option Addr) (n c : Nat) (d : List Bk) (A' : Option Addr) (m c' : Nat) (ids : List Int) (w : World) (hd : d.length = n) (hn : n ≤ 100000) (hm : ids.length = m) (hm1 : m ≤ 100000) (h : Sl w w.heap.size 4 A n c (flatBk d)) (h' : Sl w w.heap.size 1 A' m c' (ids.map (Value.int .i64))) (l : List Bk) (hl : dropL d ids = l) :
    Calls Try.prog 20 #[.slice A n c, .slice A' m c'] w fun e w' => ∃ v, e = .returned v ∧ w'.ownsRow w.heap.size 43 4 v l.length (flatBk l) ∧ Below w.heap.size w w' := by
  obtain ⟨i0, hi0, hz0, hz1, hz2⟩ := info_parts infoBk
  have HD := Lib.hid hd
  have HM := Lib.hid hm
  have HL := Lib.hid h
  have HL' := Lib.hid h'
  have HLL := Lib.hid hl
  clear hd hm h h' hl
  go_enter Try.func20, Try.ntmps20
  go_wp2
  go_loopw [5, 6] (fun ov iv wr => ∃ (o : List Bk) (k i : Nat), iv = .int .i64 i ∧ i ≤ n ∧ k ≤ i ∧ Hid (o.length = k) ∧ wr.ownsRow w.heap.size 43 4 ov k (flatBk o) ∧ Below w.heap.size w wr ∧ Hid (dropL (d.take i) ids = o)) (fun _ iv _ => n - (intOf iv).toNat)
  case atStart => exact ⟨[], 0, 0, rfl, by omega, by omega, rfl, World.ownsRow_nil _ _ _ _, Below.refl _ _, rfl⟩
  case round =>
    obtain ⟨o, k, i, rfl, hi, hk, HO, hown, hB, HF⟩ := hrel
    have hs := hB.size
    by_cases hin : i < n
    · obtain ⟨ad, rfl, hab, -⟩ := HL.out.lst.atBk HD.out hin
      obtain ⟨r, hr⟩ : ∃ r, gBk d i = r := ⟨_, rfl⟩
      have HR := Lib.hid hr
      have hnx := dropL_next (ids := ids) (d := d) (i := i) (by rw [HD.out]; exact hin)
      rw [HF.out, hr] at hnx
      have HNX := Lib.hid hnx
      have HOW := Lib.hid hown
      clear hr hnx HF hown
      go_wp2
      go_loopw [7, 8] (fun gv kv wx => ∃ (q : Nat) (g : Bool), gv = .bool g ∧ kv = .int .i64 q ∧ q ≤ m ∧ Hid (inL (ids.take q) r.id = g) ∧ Below wr.heap.size wr wx) (fun _ kv _ => m - (intOf kv).toNat)
      case atStart => exact ⟨0, false, rfl, rfl, by omega, rfl, Below.refl _ _⟩
      case round =>
        obtain ⟨q, g, rfl, rfl, hq, HG, hb⟩ := hrel
        have hbw := hB.trans (hb.mono hs)
        obtain ⟨ae, he, _, c0, c1, c2, c3⟩ := (HL.out.below hbw).lst.atBk HD.out hin
        injection he with he
        subst he
        rw [HR.out] at c0 c1 c2 c3
        by_cases hqm : q < m
        · obtain ⟨ai, rfl, _, e0⟩ := (HL'.out.below hbw).lst.atI HM.out hqm
          obtain ⟨j, hj⟩ : ∃ j, ids.getD q 0 = j := ⟨_, rfl⟩
          rw [hj] at e0
          have hin2 := inL_next (l := ids) (k := q) (by rw [HM.out]; exact hqm) r.id
          rw [HG.out, hj] at hin2
          clear c1 c2 c3 hj
          cases g
          · by_cases he : j = r.id
            · have g1 : (j == r.id) = true := by simp [he]
              rw [if_pos he.symm] at hin2
              have HI := Lib.hid hin2
              clear hin2 he
              go_wp2_with fail
              have q_c0 := fun d os => cell_regrown c0 d os
              have q_e0 := fun d os => cell_regrown e0 d os
              try simp only [List.append]
              first | refine wp_region_text_below ?_ | refine wp_region_quiet_below (by kernel_rfl) (by kernel_rfl) ?_
              repeat (go_big_quiet_step ((fail)))
              refine wpQuiet_nil ?_
              intro _ hqw
              obtain ⟨pq, hqw⟩ := hqw
              subst hqw
              clear q_c0 q_e0
              have hbq := hb.trans ((below_regrown wr pq.d pq.os).mono hb.size)
              clear c0 e0 g1
              generalize grow (redrawn wr pq.d) pq.os = wq at *
              go_wp2_with fail
              go_roundw
              case rel => exact ⟨q + 1, true, rfl, by go_num, by omega, HI, hbq⟩
              case measure => simp [intOf]; omega
            · have g1 : (j == r.id) = false := beq_eq_false_iff_ne.2 he
              rw [if_neg (fun e => he e.symm)] at hin2
              have HI := Lib.hid hin2
              clear hin2 he
              go_wp2_with fail
              have q_c0 := fun d os => cell_regrown c0 d os
              have q_e0 := fun d os => cell_regrown e0 d os
              try simp only [List.append]
              first | refine wp_region_text_below ?_ | refine wp_region_quiet_below (by kernel_rfl) (by kernel_rfl) ?_
              repeat (go_big_quiet_step ((fail)))
              refine wpQuiet_nil ?_
              intro _ hqw
              obtain ⟨pq, hqw⟩ := hqw
              subst hqw
              clear q_c0 q_e0
              have hbq := hb.trans ((below_regrown wr pq.d pq.os).mono hb.size)
              clear c0 e0 g1
              generalize grow (redrawn wr pq.d) pq.os = wq at *
              go_wp2_with fail
              go_roundw
              case rel => exact ⟨q + 1, false, rfl, by go_num, by omega, HI, hbq⟩
              case measure => simp [intOf]; omega
          · have HI : Hid (inL (ids.take (q + 1)) r.id = true) := by
              show inL (ids.take (q + 1)) r.id = true
              rw [hin2]; split <;> rfl
            clear hin2
            go_wp2_with fail
            have q_c0 := fun d os => cell_regrown c0 d os
            have q_e0 := fun d os => cell_regrown e0 d os
            try simp only [List.append]
            first | refine wp_region_text_below ?_ | refine wp_region_quiet_below (by kernel_rfl) (by kernel_rfl) ?_
            repeat (go_big_quiet_step ((fail)))
            refine wpQuiet_nil ?_
            intro _ hqw
            obtain ⟨pq, hqw⟩ := hqw
            subst hqw
            clear q_c0 q_e0
            have hbq := hb.trans ((below_regrown wr pq.d pq.os).mono hb.size)
            clear c0 e0
            generalize grow (redrawn wr pq.d) pq.os = wq at *
            go_wp2_with fail
            go_roundw
            case rel => exact ⟨q + 1, true, rfl, by go_num, by omega, HI, hbq⟩
            case measure => simp [intOf]; omega
        · have hqe : q = m := by omega
          have hg := HG.out
          rw [List.take_of_length_le (by rw [HM.out]; omega)] at hg
          have hn2 := HNX.out
          rw [hg] at hn2
          have hownx := own_below HOW.out hb
          have hsx := hbw.size
          cases g
          · simp only [Bool.false_eq_true, if_false] at hn2
            have HN2 := Lib.hid hn2
            clear hn2 hg HG
            go_wp2_with (first | (at_builtin; refine wpList_append_own _ rfl _ _ 22 rfl w.heap.size 43 i0 _ 4 32 Try.underlying22 hi0 hz0 hz1 hz2 rfl (by decide) _ _ _ rfl (hownx.alloc _) ⟨wr.heap.size, 0, none⟩ 1 1 [.int .i64 r.id, .int .i64 r.ua, .int .i64 r.ub, .int .i64 r.uc] rfl rfl (by exact lit_cells wr #[.int .i64 r.id, .int .i64 r.ua, .int .i64 r.ub, .int .i64 r.uc] _ _ rfl) (by simp [Value.oneCell']) (by unfold maxLen; omega) (by omega) (by simp; omega) ?_; intro v' w3 hown' hgrow3 hnil3))
            have hbN := (hbw.alloc hsx _).grown hgrow3 (by simp; omega) (fun q hq => (hownx.lt q hq).1)
            clear hgrow3 hnil3
            go_wp2_with fail
            go_roundw
            case rel => exact ⟨o ++ [r], k + 1, i + 1, by go_num, by omega, by omega, by simp [Hid, HO.out], by rw [flatBk_append, flatBk_one_]; exact hown', hbN, HN2⟩
            case measure => simp [intOf]; omega
          · simp only [if_true, List.append_nil] at hn2
            have HN2 := Lib.hid hn2
            clear hn2 hg HG
            go_wp2_with fail
            go_roundw
            case rel => exact ⟨o, k, i + 1, by go_num, by omega, by omega, HO, hownx, hbw, HN2⟩
            case measure => simp [intOf]; omega
    · have hie : i = n := by omega
      have hf := HF.out
      rw [List.take_of_length_le (by rw [HD.out]; omega), HLL.out] at hf
      have HF2 := Lib.hid hf
      clear hf HF
      go_wp2_with fail
      go_ret
      exact ⟨_, rfl, by rw [HF2.out, HO.out]; exact hown, hB⟩
end Go.Proofs.Ytejcjpfljcfibaa
