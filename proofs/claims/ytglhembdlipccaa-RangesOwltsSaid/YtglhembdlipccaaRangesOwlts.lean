/- Of a contact that may be, one range tells at most; one that is longer is covered by fewer. No condition. -/
import Derived.Test.YtglhembdlipccaaRows
import Derived.Test.YtglhembdlipccaaRangesOw
namespace Go.Proofs.Ytglhembdlipccaa
open Go.ChangeShapes Go.WideShapes Go.ChangeAt Go.RowKit Go.Sort
set_option linter.unusedSimpArgs false
set_option linter.unusedVariables false
/-- What the count has come to, and what it wants, behind i ranges. -/
def Told (d : List Rg) (cf ct cs ce : Int) (i : Nat) (k x : Int) : Prop :=
  (k = 0 ∧ x = 0 ∧ ∀ j, j < i → covR cf ct cs ce (gRg d j) = false) ∨ (k = 1 ∧ ∃ j, j < i ∧ covR cf ct cs ce (gRg d j) = true ∧ x = (gRg d j).ow)
theorem told_no {d : List Rg} {cf ct cs ce : Int} {i : Nat} {k x : Int} (h : Told d cf ct cs ce i k x) (hc : covR cf ct cs ce (gRg d i) = false) : Told d cf ct cs ce (i + 1) k x := by
  rcases h with ⟨h1, h2, h3⟩ | ⟨h1, j, hj, hcj, hx⟩
  · refine .inl ⟨h1, h2, fun j hj => ?_⟩
    by_cases e : j = i
    · rw [e]; exact hc
    · exact h3 j (by omega)
  · exact .inr ⟨h1, j, by omega, hcj, hx⟩
theorem told_yes {d : List Rg} (hs : SortR d) {cf ct cs ce : Int} (hcc : cs < ce) {i : Nat} (hi : i < d.length) {k x : Int} (h : Told d cf ct cs ce i k x) (hc : covR cf ct cs ce (gRg d i) = true) : Told d cf ct cs ce (i + 1) (k + 1) (gRg d i).ow := by
  rcases h with ⟨h1, h2, h3⟩ | ⟨h1, j, hj, hcj, hx⟩
  · exact .inr ⟨by omega, i, by omega, hc, rfl⟩
  · have := cov_one hs hcc (by omega) hi hcj hc
    omega
theorem told_end {d : List Rg} (hs : SortR d) {cf ct cs ce : Int} (hcc : cs < ce) {k x o : Int} {b : Bool} (h : Told d cf ct cs ce d.length k x) (ht : Tells d cf ct cs ce o b) : (k = 0 ∧ x = 0 ∧ o = 0 ∧ b = false) ∨ (k = 1 ∧ b = true ∧ o = x) := by
  rcases h with ⟨h1, h2, h3⟩ | ⟨h1, j, hj, hcj, hx⟩ <;> rcases ht with ⟨hb, y, hy, hcy, ho⟩ | ⟨hb, ho, hn⟩
  · obtain ⟨i, hi, rfl⟩ := mem_gRg hy
    rw [h3 i hi] at hcy
    cases hcy
  · exact .inl ⟨h1, h2, ho, hb⟩
  · obtain ⟨i, hi, rfl⟩ := mem_gRg hy
    obtain rfl := cov_one hs hcc hi hj hcy hcj
    exact .inr ⟨h1, hb, by rw [ho, hx]⟩
  · rw [hn _ (gRg_mem hj)] at hcj
    cases hcj
/-- Who covers the longer one covers the shorter one. -/
theorem tells_less {d : List Rg} (hs : SortR d) {cf ct cs ce o p : Int} {b q : Bool} (hcc : cs < ce) (h : Tells d cf ct cs ce o b) (h' : Tells d cf ct cs (ce + 1) p q) : q = false ∨ (q = true ∧ b = true ∧ p = o) := by
  rcases h' with ⟨hq, y, hy, hcy, hp⟩ | ⟨hq, _, _⟩
  · have hcy' : covR cf ct cs ce y = true := by
      unfold covR at hcy ⊢
      rw [decide_eq_true_eq] at hcy ⊢
      omega
    rcases h with ⟨hb, x, hx, hcx, ho⟩ | ⟨hb, ho, hn⟩
    · obtain ⟨i, hi, rfl⟩ := mem_gRg hy
      obtain ⟨j, hj, rfl⟩ := mem_gRg hx
      obtain rfl := cov_one hs hcc hi hj hcy' hcx
      exact .inr ⟨hq, hb, by rw [hp, ho]⟩
    · rw [hn y hy] at hcy'
      cases hcy'
  · exact .inl hq
set_option maxHeartbeats 4000000 in
set_option maxRecDepth 100000 in
theorem rangesOwlts_walk (A : Option Addr) (n c : Nat) (ns : List Int) (a0 a1 a2 a3 a4 a5 : Int) (hnl : ns.length = n * 5) (hw : ∀ m ∈ ns, (Lit.int .i64 m).wf = true) (hw1 : ∀ m ∈ [a0, a1, a2, a3, a4, a5], (Lit.int .i64 m).wf = true) (w : World) (hl : Sl w w.heap.size 5 A n c (ns.map (Value.int .i64))) :
    Calls Try.prog 4 #[.slice A n c, .agg #[.int .i64 a0, .int .i64 a1, .int .i64 a2, .int .i64 a3, .int .i64 a4, .int .i64 a5]] w fun e w' => e = .returned (.bool true) ∧ Below w.heap.size w w' := by
  clear hw hw1
  obtain ⟨d, hd, hlf⟩ := rowsRg_of n ns hnl
  rw [hlf] at hl
  clear hlf hnl
  have hB0 : Below w.heap.size w (w.alloc (.cells #[.int .i64 a0, .int .i64 a1, .int .i64 a2, .int .i64 a3, .int .i64 a4, .int .i64 a5] 38)) := by (repeat (first | exact Below.refl _ _ | refine Below.alloc ?_ (by first | omega | (simp; done) | (simp; omega)) _ | refine Below.setCell ?_ (by first | omega | (simp; done) | (simp; omega)) _ | refine Below.drew ?_))
  have hX0 := Blok.new w 38 #[.int .i64 a0, .int .i64 a1, .int .i64 a2, .int .i64 a3, .int .i64 a4, .int .i64 a5]
  have hl0 := hl.below hB0
  by_cases hn : 50 < n
  · go_enter Try.func4, Try.ntmps4
    go_wp2_with fail
    refine (small07 _).mono ?_
    rintro e w1 ⟨rfl, hB⟩
    go_wp2
    go_ret
    exact ⟨rfl, by (repeat (first | exact Below.refl _ _ | exact hB | refine Below.alloc ?_ (by first | omega | (simp; done) | (simp; omega)) _ | refine Below.setCell ?_ (by first | omega | (simp; done) | (simp; omega)) _ | refine Below.drew ?_ | refine Below.trans ?_ (hB.mono (by first | omega | (simp; done) | (simp; omega)))))⟩
  · have hn1 : n ≤ 50 := by omega
    clear hn
    have g1 : decide ((n : Int) > 50) = false := by simp; omega
    go_enter Try.func4, Try.ntmps4
    go_wp2_with fail
    have hs0 := hB0.size
    generalize w.alloc (.cells #[.int .i64 a0, .int .i64 a1, .int .i64 a2, .int .i64 a3, .int .i64 a4, .int .i64 a5] 38) = w0 at *
    refine (small07 _).mono ?_
    rintro e w1 ⟨rfl, hb⟩
    have hl1 := hl0.below (hb.mono hs0)
    have hX1 := hX0.below hb hX0.lt
    have hB1 := hB0.trans (hb.mono hs0)
    have hs1 := hB1.size
    clear hb hl0 hX0 hB0 hs0
    go_wp2_with fail
    refine (right_any A n c d w1 hd (by omega) (hl1.more hs1)).mono ?_
    rintro e w2 ⟨rfl, hb⟩
    have hl2 := hl1.below (hb.mono hs1)
    have hX2 := hX1.below hb hX1.lt
    have hB2 := hB1.trans (hb.mono hs1)
    have hs2 := hB2.size
    clear hb hl1 hX1 hB1 hs1
    cases hrt : rightB d
    · go_wp2_with fail
      go_ret
      exact ⟨rfl, hB2⟩
    · have hso := sort_of_right hrt
      clear hrt
      have k0 : w2.cell? ⟨w.heap.size, 0, none⟩ = some (.int .i64 a0) := hX2.cell 0
      have k1 : w2.cell? ⟨w.heap.size, 1, none⟩ = some (.int .i64 a1) := hX2.cell 1
      have k2 : w2.cell? ⟨w.heap.size, 2, none⟩ = some (.int .i64 a2) := hX2.cell 2
      have k3 : w2.cell? ⟨w.heap.size, 3, none⟩ = some (.int .i64 a3) := hX2.cell 3
      have k4 : w2.cell? ⟨w.heap.size, 4, none⟩ = some (.int .i64 a4) := hX2.cell 4
      have k5 : w2.cell? ⟨w.heap.size, 5, none⟩ = some (.int .i64 a5) := hX2.cell 5
      go_wp2_with fail
      clear k0 k1 k2 k3 k4 k5
      refine (contact_is _ rfl w2).mono ?_
      rintro e w3 ⟨rfl, hb⟩
      have hl3 := hl2.below (hb.mono hs2)
      have hX3 := hX2.below hb hX2.lt
      have hB3 := hB2.trans (hb.mono hs2)
      have hs3 := hB3.size
      clear hb hl2 hX2 hB2 hs2
      cases hcb : contactB a0 a1 a2 a3 a4 a5
      · go_wp2_with fail
        go_ret
        exact ⟨rfl, hB3⟩
      · have hcs := contactB_spec.1 hcb
        have hcc : a3 < a4 := by omega
        have h40 : 0 ≤ a4 := by omega
        have h41 : a4 ≤ 2147483647 := by omega
        clear hcs hcb
        have HD := Lib.hid hd
        have HSO := Lib.hid hso
        have hT0 : Told d a1 a2 a3 a4 0 0 0 := .inl ⟨rfl, rfl, fun j hj => by omega⟩
        have HT0 := Lib.hid hT0
        have HCC := Lib.hid hcc
        clear hd hso hT0 hcc
        go_wp2
        go_loopw [6, 7, 8] (fun kv xv iv wr => ∃ (i : Nat) (k x : Int), i ≤ n ∧ 0 ≤ k ∧ k ≤ 1 ∧ kv = .int .i64 k ∧ xv = .int .i64 x ∧ iv = .int .i64 i ∧ Hid (Told d a1 a2 a3 a4 i k x) ∧ Below w.heap.size w wr ∧ Sl wr w.heap.size 5 A n c (flatRg d) ∧ Blok wr w.heap.size 38 #[.int .i64 a0, .int .i64 a1, .int .i64 a2, .int .i64 a3, .int .i64 a4, .int .i64 a5]) (fun _ _ iv _ => n - (intOf iv).toNat)
        case atStart => exact ⟨0, 0, 0, by omega, by omega, by omega, rfl, rfl, rfl, HT0.out, hB3, hl3, hX3⟩
        case round =>
          obtain ⟨i, k, x, hin, hk0, hk1, rfl, rfl, rfl, HT, hB, hlr, hX⟩ := hrel
          clear hl3 hX3 hB3 HT0 hs3
          have hs := hB.size
          have k0 : wr.cell? ⟨w.heap.size, 0, none⟩ = some (.int .i64 a0) := hX.cell 0
          have k1 : wr.cell? ⟨w.heap.size, 1, none⟩ = some (.int .i64 a1) := hX.cell 1
          have k2 : wr.cell? ⟨w.heap.size, 2, none⟩ = some (.int .i64 a2) := hX.cell 2
          have k3 : wr.cell? ⟨w.heap.size, 3, none⟩ = some (.int .i64 a3) := hX.cell 3
          have k4 : wr.cell? ⟨w.heap.size, 4, none⟩ = some (.int .i64 a4) := hX.cell 4
          have k5 : wr.cell? ⟨w.heap.size, 5, none⟩ = some (.int .i64 a5) := hX.cell 5
          by_cases hi : i < n
          · obtain ⟨ad, rfl, hab, c0, c1, c2, c3, c4⟩ := hlr.lst.atRg HD.out hi
            obtain ⟨y, hy⟩ : ∃ y, gRg d i = y := ⟨_, rfl⟩
            rw [hy] at c0 c1 c2 c3 c4
            have HY := Lib.hid hy
            clear hy
            have HL := Lib.hid hlr
            have HXX := Lib.hid hX
            clear hlr hX
            have hcase (hq : ¬ (y.fr = a1 ∧ y.tn = a2 ∧ y.st ≤ a3 ∧ a4 ≤ y.en)) : (¬ y.fr = a1) ∨ (y.fr = a1 ∧ ¬ y.tn = a2) ∨ (y.fr = a1 ∧ y.tn = a2 ∧ ¬ y.st ≤ a3) ∨ (y.fr = a1 ∧ y.tn = a2 ∧ y.st ≤ a3 ∧ ¬ a4 ≤ y.en) := by omega
            by_cases hall : y.fr = a1 ∧ y.tn = a2 ∧ y.st ≤ a3 ∧ a4 ≤ y.en
            · obtain ⟨e1, e2, e3, e4⟩ := hall
              have hcov : covR a1 a2 a3 a4 (gRg d i) = true := by rw [HY.out]; unfold covR; rw [decide_eq_true_eq]; omega
              have hN := told_yes HSO.out HCC.out (by have := HD.out; omega) HT.out hcov
              have hk00 : k = 0 := by
                rcases hN with ⟨h, _⟩ | ⟨h, _⟩ <;> omega
              rw [HY.out] at hN
              have HN := Lib.hid hN
              clear hN hcov hcase
              have q1 : (y.fr == a1) = true := by simpa using e1
              have q2 : (y.tn == a2) = true := by simpa using e2
              have q3 : decide (y.st ≤ a3) = true := by simpa using e3
              have q4 : decide (y.en ≥ a4) = true := by simpa using e4
              clear e1 e2 e3 e4
              go_wp2_with fail
              have q_c0 := fun d os => cell_regrown c0 d os
              have q_c1 := fun d os => cell_regrown c1 d os
              have q_c2 := fun d os => cell_regrown c2 d os
              have q_c3 := fun d os => cell_regrown c3 d os
              have q_c4 := fun d os => cell_regrown c4 d os
              have q_k0 := fun d os => cell_regrown k0 d os
              have q_k1 := fun d os => cell_regrown k1 d os
              have q_k2 := fun d os => cell_regrown k2 d os
              have q_k3 := fun d os => cell_regrown k3 d os
              have q_k4 := fun d os => cell_regrown k4 d os
              have q_k5 := fun d os => cell_regrown k5 d os
              try simp only [List.append]
              first | refine wp_region_text_below ?_ | refine wp_region_quiet_below (by kernel_rfl) (by kernel_rfl) ?_
              repeat (go_big_quiet_step ((fail)))
              refine wpQuiet_nil ?_
              intro _ hqw
              obtain ⟨pq, hqw⟩ := hqw
              subst hqw
              clear q_c0 q_c1 q_c2 q_c3 q_c4 q_k0 q_k1 q_k2 q_k3 q_k4 q_k5
              have hbq := below_regrown wr pq.d pq.os
              have hB2 := hB.trans (hbq.mono hs)
              have hl2 := HL.out.below (hbq.mono hs)
              have hX2 := HXX.out.below hbq HXX.out.lt
              clear hbq
              have c4q := (cell_regrown c4 pq.d pq.os)
              clear c0 c1 c2 c3 c4 k0 k1 k2 k3 k4 k5 HL HXX hB
              generalize grow (redrawn wr pq.d) pq.os = wq at *
              subst hk00
              go_wp2
              go_roundw
              case rel => exact ⟨i + 1, 0 + 1, y.ow, by omega, by omega, by omega, by first | rfl | go_num, rfl, by go_num, HN.out, hB2, hl2, hX2⟩
              case measure => simp [intOf]; omega
            · have hcov : covR a1 a2 a3 a4 (gRg d i) = false := by rw [HY.out]; unfold covR; rw [decide_eq_false_iff_not]; omega
              have HN := Lib.hid (told_no HT.out hcov)
              have hcase2 := hcase hall
              clear hcov hall hcase
              rcases hcase2 with e1 | ⟨e1, e2⟩ | ⟨e1, e2, e3⟩ | ⟨e1, e2, e3, e4⟩
              · have q1 : (y.fr == a1) = false := by simpa using e1
                clear e1
                go_wp2_with fail
                have q_c0 := fun d os => cell_regrown c0 d os
                have q_c1 := fun d os => cell_regrown c1 d os
                have q_c2 := fun d os => cell_regrown c2 d os
                have q_c3 := fun d os => cell_regrown c3 d os
                have q_c4 := fun d os => cell_regrown c4 d os
                have q_k0 := fun d os => cell_regrown k0 d os
                have q_k1 := fun d os => cell_regrown k1 d os
                have q_k2 := fun d os => cell_regrown k2 d os
                have q_k3 := fun d os => cell_regrown k3 d os
                have q_k4 := fun d os => cell_regrown k4 d os
                have q_k5 := fun d os => cell_regrown k5 d os
                try simp only [List.append]
                first | refine wp_region_text_below ?_ | refine wp_region_quiet_below (by kernel_rfl) (by kernel_rfl) ?_
                repeat (go_big_quiet_step ((fail)))
                refine wpQuiet_nil ?_
                intro _ hqw
                obtain ⟨pq, hqw⟩ := hqw
                subst hqw
                clear q_c0 q_c1 q_c2 q_c3 q_c4 q_k0 q_k1 q_k2 q_k3 q_k4 q_k5
                have hbq := below_regrown wr pq.d pq.os
                have hB2 := hB.trans (hbq.mono hs)
                have hl2 := HL.out.below (hbq.mono hs)
                have hX2 := HXX.out.below hbq HXX.out.lt
                clear hbq
                clear c0 c1 c2 c3 c4 k0 k1 k2 k3 k4 k5 HL HXX hB
                generalize grow (redrawn wr pq.d) pq.os = wq at *
                go_wp2
                go_roundw
                case rel => exact ⟨i + 1, k, x, by omega, hk0, hk1, rfl, rfl, by go_num, HN.out, hB2, hl2, hX2⟩
                case measure => simp [intOf]; omega
              · have q1 : (y.fr == a1) = true := by simpa using e1
                have q2 : (y.tn == a2) = false := by simpa using e2
                clear e1 e2
                go_wp2_with fail
                have q_c0 := fun d os => cell_regrown c0 d os
                have q_c1 := fun d os => cell_regrown c1 d os
                have q_c2 := fun d os => cell_regrown c2 d os
                have q_c3 := fun d os => cell_regrown c3 d os
                have q_c4 := fun d os => cell_regrown c4 d os
                have q_k0 := fun d os => cell_regrown k0 d os
                have q_k1 := fun d os => cell_regrown k1 d os
                have q_k2 := fun d os => cell_regrown k2 d os
                have q_k3 := fun d os => cell_regrown k3 d os
                have q_k4 := fun d os => cell_regrown k4 d os
                have q_k5 := fun d os => cell_regrown k5 d os
                try simp only [List.append]
                first | refine wp_region_text_below ?_ | refine wp_region_quiet_below (by kernel_rfl) (by kernel_rfl) ?_
                repeat (go_big_quiet_step ((fail)))
                refine wpQuiet_nil ?_
                intro _ hqw
                obtain ⟨pq, hqw⟩ := hqw
                subst hqw
                clear q_c0 q_c1 q_c2 q_c3 q_c4 q_k0 q_k1 q_k2 q_k3 q_k4 q_k5
                have hbq := below_regrown wr pq.d pq.os
                have hB2 := hB.trans (hbq.mono hs)
                have hl2 := HL.out.below (hbq.mono hs)
                have hX2 := HXX.out.below hbq HXX.out.lt
                clear hbq
                clear c0 c1 c2 c3 c4 k0 k1 k2 k3 k4 k5 HL HXX hB
                generalize grow (redrawn wr pq.d) pq.os = wq at *
                go_wp2
                go_roundw
                case rel => exact ⟨i + 1, k, x, by omega, hk0, hk1, rfl, rfl, by go_num, HN.out, hB2, hl2, hX2⟩
                case measure => simp [intOf]; omega
              · have q1 : (y.fr == a1) = true := by simpa using e1
                have q2 : (y.tn == a2) = true := by simpa using e2
                have q3 : decide (y.st ≤ a3) = false := by simpa using e3
                clear e1 e2 e3
                go_wp2_with fail
                have q_c0 := fun d os => cell_regrown c0 d os
                have q_c1 := fun d os => cell_regrown c1 d os
                have q_c2 := fun d os => cell_regrown c2 d os
                have q_c3 := fun d os => cell_regrown c3 d os
                have q_c4 := fun d os => cell_regrown c4 d os
                have q_k0 := fun d os => cell_regrown k0 d os
                have q_k1 := fun d os => cell_regrown k1 d os
                have q_k2 := fun d os => cell_regrown k2 d os
                have q_k3 := fun d os => cell_regrown k3 d os
                have q_k4 := fun d os => cell_regrown k4 d os
                have q_k5 := fun d os => cell_regrown k5 d os
                try simp only [List.append]
                first | refine wp_region_text_below ?_ | refine wp_region_quiet_below (by kernel_rfl) (by kernel_rfl) ?_
                repeat (go_big_quiet_step ((fail)))
                refine wpQuiet_nil ?_
                intro _ hqw
                obtain ⟨pq, hqw⟩ := hqw
                subst hqw
                clear q_c0 q_c1 q_c2 q_c3 q_c4 q_k0 q_k1 q_k2 q_k3 q_k4 q_k5
                have hbq := below_regrown wr pq.d pq.os
                have hB2 := hB.trans (hbq.mono hs)
                have hl2 := HL.out.below (hbq.mono hs)
                have hX2 := HXX.out.below hbq HXX.out.lt
                clear hbq
                clear c0 c1 c2 c3 c4 k0 k1 k2 k3 k4 k5 HL HXX hB
                generalize grow (redrawn wr pq.d) pq.os = wq at *
                go_wp2
                go_roundw
                case rel => exact ⟨i + 1, k, x, by omega, hk0, hk1, rfl, rfl, by go_num, HN.out, hB2, hl2, hX2⟩
                case measure => simp [intOf]; omega
              · have q1 : (y.fr == a1) = true := by simpa using e1
                have q2 : (y.tn == a2) = true := by simpa using e2
                have q3 : decide (y.st ≤ a3) = true := by simpa using e3
                have q4 : decide (y.en ≥ a4) = false := by simpa using e4
                clear e1 e2 e3 e4
                go_wp2_with fail
                have q_c0 := fun d os => cell_regrown c0 d os
                have q_c1 := fun d os => cell_regrown c1 d os
                have q_c2 := fun d os => cell_regrown c2 d os
                have q_c3 := fun d os => cell_regrown c3 d os
                have q_c4 := fun d os => cell_regrown c4 d os
                have q_k0 := fun d os => cell_regrown k0 d os
                have q_k1 := fun d os => cell_regrown k1 d os
                have q_k2 := fun d os => cell_regrown k2 d os
                have q_k3 := fun d os => cell_regrown k3 d os
                have q_k4 := fun d os => cell_regrown k4 d os
                have q_k5 := fun d os => cell_regrown k5 d os
                try simp only [List.append]
                first | refine wp_region_text_below ?_ | refine wp_region_quiet_below (by kernel_rfl) (by kernel_rfl) ?_
                repeat (go_big_quiet_step ((fail)))
                refine wpQuiet_nil ?_
                intro _ hqw
                obtain ⟨pq, hqw⟩ := hqw
                subst hqw
                clear q_c0 q_c1 q_c2 q_c3 q_c4 q_k0 q_k1 q_k2 q_k3 q_k4 q_k5
                have hbq := below_regrown wr pq.d pq.os
                have hB2 := hB.trans (hbq.mono hs)
                have hl2 := HL.out.below (hbq.mono hs)
                have hX2 := HXX.out.below hbq HXX.out.lt
                clear hbq
                clear c0 c1 c2 c3 c4 k0 k1 k2 k3 k4 k5 HL HXX hB
                generalize grow (redrawn wr pq.d) pq.os = wq at *
                go_wp2
                go_roundw
                case rel => exact ⟨i + 1, k, x, by omega, hk0, hk1, rfl, rfl, by go_num, HN.out, hB2, hl2, hX2⟩
                case measure => simp [intOf]; omega
          · obtain rfl : i = n := by omega
            clear hin hi
            go_wp2_with fail
            clear k0 k1 k2 k3 k4 k5
            refine (owlt_any A i c d a0 a1 a2 a3 a4 a5 wr HD.out (by omega) (hlr.more hs)).mono ?_
            rintro e w5 ⟨j5, o5, b5, rfl, hask5, how5, hb⟩
            have hl5 := hlr.below (hb.mono hs)
            have hX5 := hX.below hb hX.lt
            have hB5 := hB.trans (hb.mono hs)
            have hs5 := hB5.size
            have HT5 : Hid (Tells d a1 a2 a3 a4 o5 b5) := Lib.hid (tells_of HSO.out HD.out HCC.out hask5 how5)
            clear hb hlr hX hB hs hask5 how5
            have k0 : w5.cell? ⟨w.heap.size, 0, none⟩ = some (.int .i64 a0) := hX5.cell 0
            have k1 : w5.cell? ⟨w.heap.size, 1, none⟩ = some (.int .i64 a1) := hX5.cell 1
            have k2 : w5.cell? ⟨w.heap.size, 2, none⟩ = some (.int .i64 a2) := hX5.cell 2
            have k3 : w5.cell? ⟨w.heap.size, 3, none⟩ = some (.int .i64 a3) := hX5.cell 3
            have k4 : w5.cell? ⟨w.heap.size, 4, none⟩ = some (.int .i64 a4) := hX5.cell 4
            have k5 : w5.cell? ⟨w.heap.size, 5, none⟩ = some (.int .i64 a5) := hX5.cell 5
            have hne : w.heap.size ≠ w5.heap.size := by have := hX5.lt; omega
            have hlt5 := hX5.lt
            go_wp2_with fail
            clear k0 k1 k2 k3 k4 k5 hne hlt5
            have hb : Below w5.heap.size w5 (w5.alloc (.cells #[.int .i64 a0, .int .i64 a1, .int .i64 a2, .int .i64 a3, .int .i64 (a4 + 1), .int .i64 a5] 38)) := by (repeat (first | exact Below.refl _ _ | refine Below.alloc ?_ (by first | omega | (simp; done) | (simp; omega)) _ | refine Below.setCell ?_ (by first | omega | (simp; done) | (simp; omega)) _ | refine Below.drew ?_))
            generalize w5.alloc (.cells #[.int .i64 a0, .int .i64 a1, .int .i64 a2, .int .i64 a3, .int .i64 (a4 + 1), .int .i64 a5] 38) = w6 at *
            have hl6 := hl5.below (hb.mono hs5)
            have hB6 := hB5.trans (hb.mono hs5)
            have hs6 := hB6.size
            clear hb hl5 hX5 hB5 hs5
            refine (owlt_any A i c d a0 a1 a2 a3 (a4 + 1) a5 w6 HD.out (by omega) (hl6.more hs6)).mono ?_
            rintro e w7 ⟨j7, o7, b7, rfl, hask7, how7, hb⟩
            have hB7 := hB6.trans (hb.mono hs6)
            have hT7 := tells_of HSO.out HD.out (by have := HCC.out; omega) hask7 how7
            have hle := tells_less HSO.out HCC.out HT5.out hT7
            have hte := told_end HSO.out HCC.out (by rw [HD.out]; exact HT.out) HT5.out
            clear hb hl6 hB6 hs6 hask7 how7 hT7 HT5 HT
            rcases hte with ⟨rfl, rfl, rfl, rfl⟩ | ⟨rfl, rfl, rfl⟩ <;> rcases hle with rfl | ⟨rfl, hbt, rfl⟩
            · go_wp2_with fail
              go_ret
              exact ⟨rfl, hB7⟩
            · cases hbt
            · first
                | (have hoo : (o5 == o5) = true := by simp
                   go_wp2_with fail
                   go_ret
                   exact ⟨rfl, hB7⟩)
                | (go_wp2_with fail
                   go_ret
                   exact ⟨rfl, hB7⟩)
            · first
                | (have hoo : (o5 == o5) = true := by simp
                   go_wp2_with fail
                   go_ret
                   exact ⟨rfl, hB7⟩)
                | (go_wp2_with fail
                   go_ret
                   exact ⟨rfl, hB7⟩)
theorem rangesOwlts_own : ownKnob Try.prog.godebug = none := by kernel_rfl
theorem rangesOwlts_laidOut : laidOutB Try.prog = true := by kernel_rfl

set_option maxHeartbeats 1000000 in
set_option maxRecDepth 100000 in
theorem rangesOwlts_lifted (os : Os) (started : os.Started) (H : Type) (enc : TypeId × Value → H) :
    ReturnsInHanded {} Try.checked os 4 .any (Rows.rangesOwltsSpec.pre6 enc Try.prog Try.f4 Rows.rangesOwltsRow.domain false) (Rows.rangesOwltsSpec.post enc Try.prog Try.f4 false true false false) := by
  refine returnsInHanded_of_change (C := Try.checked) rangesOwlts_own started (by kernel_rfl) Try.func4
    (ChangeSpec.witness6 (enc := enc) (C := Try.checked) false ⟨#[], #[.slice none 0 0, .agg #[.int .i64 0, .int .i64 0, .int .i64 0, .int .i64 0, .int .i64 0, .int .i64 0]], []⟩ 8 (by kernel_rfl) (by kernel_rfl) (by kernel_rfl) (by kernel_rfl)) ?_
  intro W base args ds gs before hval0 hW hcnd _
  have hval : ∀ (j : Nat) t v, Try.f4.params[j]? = some t → args[j]? = some v → Value.okWide Try.prog W .any base t v := hval0
  have hW' := hW
  obtain ⟨p, q, hA0, hV, rfl, hfz, hnd⟩ := hW
  have hA : DataW.TrodAll enc Try.prog W 0 (fun _ => true) true Try.f4.params.toList args.toList ds p := hA0
  rw [Try.params4] at hA hval
  obtain ⟨v0, vs0, d0, ds0, p0, q0, hargs, rfl, rfl, h0, r0⟩ := trodAll_cons hA
  obtain ⟨v1, vs1, d1, ds1, p1, q1, rfl, rfl, rfl, h1, r1⟩ := trodAll_cons r0
  obtain ⟨rfl, rfl, rfl⟩ := trodAll_nil r1
  obtain rfl : args = #[v0, v1] := by cases args; simp_all
  obtain ⟨rfl, rfl⟩ := trodVars_none hV
  obtain ⟨A0, n0, c0, ns0, rfl, hl0, nl0, w0⟩ := open_rowsS 4 (K := 5) Try.underlying22 (by kernel_rfl) (by kernel_rfl) (by omega) (hval 0 22 v0 rfl rfl) h0
  obtain ⟨n1, e1, l1, w1⟩ := open_flat 4 Try.underlying38 (by kernel_rfl) (hval 1 38 v1 rfl rfl) h1
  obtain ⟨a1_0, a1_1, a1_2, a1_3, a1_4, a1_5, rfl⟩ : ∃ a1_0 a1_1 a1_2 a1_3 a1_4 a1_5 : Int, n1 = [a1_0, a1_1, a1_2, a1_3, a1_4, a1_5] := by
    rw [show Try.prog.cellsOf 38 = 6 by kernel_rfl] at l1
    match n1, l1 with
    | [a1_0, a1_1, a1_2, a1_3, a1_4, a1_5], _ => exact ⟨_, _, _, _, _, _, rfl⟩
  obtain rfl : v1 = .agg #[.int .i64 a1_0, .int .i64 a1_1, .int .i64 a1_2, .int .i64 a1_3, .int .i64 a1_4, .int .i64 a1_5] := e1
  clear hA0 hval0
  refine (rangesOwlts_walk A0 n0 c0 ns0 a1_0 a1_1 a1_2 a1_3 a1_4 a1_5 nl0 w0 w1 W hl0).mono fun e W' ⟨he, bel⟩ => ?_
  subst he
  exact ⟨_, rfl, law_post rangesOwlts_laidOut (by kernel_rfl) rfl Try.underlying4 rfl rfl hW' bel⟩

theorem rangesOwlts_proved : Rows.RangesOwltsSaid :=
  OpenClaim.holds_of_wide 4 Try.f4 rfl rfl rfl rfl rfl rfl rfl ⟨rfl, rfl, rfl, rfl, rfl⟩ rfl rfl rfl rfl rfl (by kernel_rfl) Try.func4 (by kernel_rfl)
    (of_decide_eq_true (by kernel_rfl)) (by unfold Func.isWrapper; first | (rw [if_pos (by decide +kernel)]; kernel_rfl) | (rw [if_neg (by decide +kernel)]; exact ⟨rfl, rfl⟩))
    (fun os started H enc _ => rangesOwlts_lifted os started H enc)
#print axioms rangesOwlts_proved
end Go.Proofs.Ytglhembdlipccaa
