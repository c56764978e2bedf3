/- The document's own ranges: Same, Copy, Expire, place. -/
import Derived.Test.YtolaabllhibkdaaGreatRef07
namespace Go.Proofs.YtolaabllhibkdaaGreat.Kr
open Go.ChangeShapes Go.WideShapes Go.ChangeAt Go.RowKit Go.Sort
set_option linter.unusedSimpArgs false
set_option linter.unusedVariables false
set_option maxHeartbeats 1000000 in
set_option maxRecDepth 100000 in
theorem rsame7_any (A A' : Option Addr) (n c n' c' : Nat) (d d' : List Rg) (w : World) (hd : d.length = n) (hd' : d'.length = n') (hn : n ≤ 1000000) (h : Sl w w.heap.size 5 A n c (flatRg d)) (h' : Sl w w.heap.size 5 A' n' c' (flatRg d')) :
    Calls Tryz.prog 44 #[.slice A n c, .slice A' n' c'] w fun e w' => e = .returned (.bool (decide (d = d'))) ∧ Below w.heap.size w w' := by
  have HD := Lib.hid hd
  have HD' := Lib.hid hd'
  clear hd hd'
  by_cases hl : n = n'
  · subst hl
    have HL := Lib.hid h
    have HL' := Lib.hid h'
    clear h h'
    go_enter Tryz.func44, Tryz.ntmps44
    go_wp2
    go_loopw [5] (fun iv wr => ∃ (i : Nat), iv = .int .i64 i ∧ i ≤ n ∧ Hid (d.take i = d'.take i) ∧ Below w.heap.size w wr) (fun iv _ => n - (intOf iv).toNat)
    case atStart => exact ⟨0, rfl, by omega, by simp [Hid], Below.refl _ _⟩
    case round =>
      obtain ⟨i, rfl, hi, HE, hB⟩ := hrel
      by_cases hin : i < n
      · obtain ⟨ad, rfl, hab, c0, c1, c2, c3, c4⟩ := (HL.out.below hB).lst.atRg HD.out hin
        obtain ⟨ad', rfl, hab', c0', c1', c2', c3', c4'⟩ := (HL'.out.below hB).lst.atRg HD'.out hin
        have hrun : ∀ w0, (binOp .neq 35 (.agg #[.int .i64 (gRg d i).fr, .int .i64 (gRg d i).tn, .int .i64 (gRg d i).st, .int .i64 (gRg d i).en, .int .i64 (gRg d i).ow]) (.agg #[.int .i64 (gRg d' i).fr, .int .i64 (gRg d' i).tn, .int .i64 (gRg d' i).st, .int .i64 (gRg d' i).en, .int .i64 (gRg d' i).ow])).run Tryz.prog w0 = .ok (.bool (!decide (gRg d i = gRg d' i))) w0 := fun w0 => neqRg (gRg d i) (gRg d' i) w0
        by_cases he : gRg d i = gRg d' i
        · have HE2 : Hid (d.take (i + 1) = d'.take (i + 1)) := by
            show d.take (i + 1) = d'.take (i + 1)
            rw [take_nextRg (by rw [HD.out]; exact hin), take_nextRg (by rw [HD'.out]; exact hin), HE.out, he]
          rw [decide_eq_true he] at hrun
          simp only [Bool.not_true] at hrun
          clear HE he
          go_wp2_with fail
          have q_c0 := fun d os => cell_regrown c0 d os
          have q_c1 := fun d os => cell_regrown c1 d os
          have q_c2 := fun d os => cell_regrown c2 d os
          have q_c3 := fun d os => cell_regrown c3 d os
          have q_c4 := fun d os => cell_regrown c4 d os
          have q_c0' := fun d os => cell_regrown c0' d os
          have q_c1' := fun d os => cell_regrown c1' d os
          have q_c2' := fun d os => cell_regrown c2' d os
          have q_c3' := fun d os => cell_regrown c3' d os
          have q_c4' := fun d os => cell_regrown c4' d os
          try simp only [List.append]
          first | refine wp_region_text_below ?_ | refine wp_region_quiet_below (by kernel_rfl) (by kernel_rfl) ?_
          repeat (go_big_quiet_step ((fail)))
          refine wpQuiet_nil ?_
          intro _ hqw
          obtain ⟨pq, hqw⟩ := hqw
          subst hqw
          clear q_c0 q_c1 q_c2 q_c3 q_c4 q_c0' q_c1' q_c2' q_c3' q_c4'
          have hbq := hB.trans ((below_regrown wr pq.d pq.os).mono hB.size)
          clear c0 c1 c2 c3 c4 c0' c1' c2' c3' c4' hrun
          generalize grow (redrawn wr pq.d) pq.os = wq at *
          go_wp2_with fail
          go_roundw
          case rel => exact ⟨i + 1, by go_num, by omega, HE2, hbq⟩
          case measure => simp [intOf]; omega
        · have hne : d ≠ d' := fun e => he (by rw [e])
          have HNE := Lib.hid hne
          rw [decide_eq_false he] at hrun
          simp only [Bool.not_false] at hrun
          clear hne he
          go_wp2_with fail
          have q_c0 := fun d os => cell_regrown c0 d os
          have q_c1 := fun d os => cell_regrown c1 d os
          have q_c2 := fun d os => cell_regrown c2 d os
          have q_c3 := fun d os => cell_regrown c3 d os
          have q_c4 := fun d os => cell_regrown c4 d os
          have q_c0' := fun d os => cell_regrown c0' d os
          have q_c1' := fun d os => cell_regrown c1' d os
          have q_c2' := fun d os => cell_regrown c2' d os
          have q_c3' := fun d os => cell_regrown c3' d os
          have q_c4' := fun d os => cell_regrown c4' d os
          try simp only [List.append]
          first | refine wp_region_text_below ?_ | refine wp_region_quiet_below (by kernel_rfl) (by kernel_rfl) ?_
          repeat (go_big_quiet_step ((fail)))
          refine wpQuiet_nil ?_
          intro _ hqw
          obtain ⟨pq, hqw⟩ := hqw
          subst hqw
          clear q_c0 q_c1 q_c2 q_c3 q_c4 q_c0' q_c1' q_c2' q_c3' q_c4'
          have hbq := hB.trans ((below_regrown wr pq.d pq.os).mono hB.size)
          clear c0 c1 c2 c3 c4 c0' c1' c2' c3' c4' hrun
          generalize grow (redrawn wr pq.d) pq.os = wq at *
          go_wp2_with fail
          go_ret
          exact ⟨by rw [decide_eq_false HNE.out]; rfl, hbq⟩
      · have hie : i = n := by omega
        subst hie
        have hdd : d = d' := by
          have := HE.out
          rw [List.take_of_length_le (by rw [HD.out]; omega), List.take_of_length_le (by rw [HD'.out]; omega)] at this
          exact this
        have HDD := Lib.hid hdd
        clear hdd
        go_wp2_with fail
        go_ret
        exact ⟨by rw [decide_eq_true HDD.out]; rfl, hB⟩
  · have hne : d ≠ d' := fun e => hl (by rw [← HD.out, ← HD'.out, e])
    have hb : ((n : Int) != (n' : Int)) = true := by simp; omega
    have HNE := Lib.hid hne
    clear hl hne
    go_enter Tryz.func44, Tryz.ntmps44
    go_wp2
    go_ret
    exact ⟨by rw [decide_eq_false HNE.out]; rfl, Below.refl _ _⟩
set_option maxHeartbeats 1000000 in
set_option maxRecDepth 100000 in
theorem rcopy7_any (A : Option Addr) (n c : Nat) (d : List Rg) (w : World) (hd : d.length = n) (hn : n ≤ 1000000) (h : Sl w w.heap.size 5 A n c (flatRg d)) :
    Calls Tryz.prog 86 #[.slice A n c] w fun e w' => ∃ v, e = .returned v ∧ w'.ownsRow w.heap.size 35 5 v n (flatRg d) ∧ Below w.heap.size w w' := by
  obtain ⟨i0, hi0, hz0, hz1, hz2⟩ := info_parts infoRg
  go_enter Tryz.func86, Tryz.ntmps86
  go_wp2_with (first
    | (at_builtin
       refine wpList_append_lst _ rfl (.tmp 3) (.tmp 4) 23 rfl w.heap.size 35 i0 _ 5 40 Tryz.underlying23 hi0 hz0 hz1 hz2 rfl (by decide) (.slice (some ⟨w.heap.size, 0, none⟩) 0 0) 0 [] rfl (World.ownsRow_made w #[] 0 (Nat.le_refl _) (by simp) (by simp)) w.heap.size A n c (flatRg d) rfl (h.lst.below ((Below.refl _ _).alloc (Nat.le_refl _) _)) (flatRg_one _) (by unfold maxLen; omega) (by omega) (by simp) ?_
       intro v1 w1 hown hg hat))
  go_ret
  refine ⟨_, rfl, by simpa using hown, Below.grown ((Below.refl _ _).alloc (Nat.le_refl _) _) hg (by simp) (fun k hk => ?_)⟩
  simp [Value.ownBlock] at hk
  omega
def keepR (d : List Rg) (now : Int) : List Rg := d.filter (fun x => !decide (x.en ≤ now))
theorem keepR_next {d : List Rg} {i : Nat} (now : Int) (h : i < d.length) : keepR (d.take (i + 1)) now = keepR (d.take i) now ++ (if (gRg d i).en ≤ now then [] else [gRg d i]) := by
  unfold keepR
  rw [List.take_succ_eq_append_getElem h, List.filter_append, ← gRg_elem h]
  by_cases he : (gRg d i).en ≤ now <;> simp [he]
theorem flatRg_one_ (y : Rg) : flatRg [y] = [.int .i64 y.fr, .int .i64 y.tn, .int .i64 y.st, .int .i64 y.en, .int .i64 y.ow] := rfl
set_option maxHeartbeats 4000000 in
set_option maxRecDepth 100000 in
theorem rexp7_any (A : Option Addr) (n c : Nat) (d : List Rg) (now : Int) (w : World) (hd : d.length = n) (hn : n ≤ 1000000) (h : Sl w w.heap.size 5 A n c (flatRg d)) :
    Calls Tryz.prog 59 #[.slice A n c, .int .i64 now] w fun e w' => ∃ v, e = .returned v ∧ w'.ownsRow w.heap.size 35 5 v (keepR d now).length (flatRg (keepR d now)) ∧ Below w.heap.size w w' := by
  obtain ⟨i0, hi0, hz0, hz1, hz2⟩ := info_parts infoRg
  have HD := Lib.hid hd
  have HL := Lib.hid h
  clear hd h
  go_enter Tryz.func59, Tryz.ntmps59
  go_wp2
  go_loopw [5, 6] (fun ov iv wr => ∃ (o : List Rg) (k i : Nat), iv = .int .i64 i ∧ i ≤ n ∧ k ≤ i ∧ Hid (o.length = k) ∧ wr.ownsRow w.heap.size 35 5 ov k (flatRg o) ∧ Below w.heap.size w wr ∧ Hid (keepR (d.take i) now = o)) (fun _ iv _ => n - (intOf iv).toNat)
  case atStart => exact ⟨[], 0, 0, rfl, by omega, by omega, rfl, World.ownsRow_nil _ _ _ _, Below.refl _ _, rfl⟩
  case round =>
    obtain ⟨o, k, i, rfl, hi, hk, HO, hown, hB, HF⟩ := hrel
    have hs := hB.size
    by_cases hin : i < n
    · obtain ⟨ad, rfl, hab, c0, c1, c2, c3, c4⟩ := (HL.out.below hB).lst.atRg HD.out hin
      have hnx := keepR_next now (d := d) (i := i) (by rw [HD.out]; exact hin)
      obtain ⟨r, hr⟩ : ∃ r, gRg d i = r := ⟨_, rfl⟩
      rw [HF.out, hr] at hnx
      rw [hr] at c0 c1 c2 c3 c4
      clear hr HF
      by_cases he : r.en ≤ now
      · have g1 : decide (r.en > now) = false := decide_eq_false (by omega)
        rw [if_pos he, List.append_nil] at hnx
        have HNX := Lib.hid hnx
        clear hnx he
        go_wp2_with fail
        go_roundw
        case rel => exact ⟨o, k, i + 1, by go_num, by omega, by omega, HO, hown, hB, HNX⟩
        case measure => simp [intOf]; omega
      · have g1 : decide (r.en > now) = true := decide_eq_true (by omega)
        rw [if_neg he] at hnx
        have HNX := Lib.hid hnx
        clear hnx he
        go_wp2_with (first | (at_builtin; refine wpList_append_own _ rfl _ _ 23 rfl w.heap.size 35 i0 _ 5 40 Tryz.underlying23 hi0 hz0 hz1 hz2 rfl (by decide) _ _ _ rfl (hown.alloc _) ⟨wr.heap.size, 0, none⟩ 1 1 [.int .i64 r.fr, .int .i64 r.tn, .int .i64 r.st, .int .i64 r.en, .int .i64 r.ow] rfl rfl (by exact lit_cells wr #[.int .i64 r.fr, .int .i64 r.tn, .int .i64 r.st, .int .i64 r.en, .int .i64 r.ow] _ _ rfl) (by simp [Value.oneCell']) (by unfold maxLen; omega) (by omega) (by simp; omega) ?_; intro v' w3 hown' hgrow3 hnil3))
        have hbN := (hB.alloc hs _).grown hgrow3 (by simp; omega) (fun q hq => (hown.lt q hq).1)
        clear hgrow3 hnil3
        go_wp2_with fail
        go_roundw
        case rel => exact ⟨o ++ [r], k + 1, i + 1, by go_num, by omega, by omega, by simp [Hid, HO.out], (by rw [flatRg_append, flatRg_one_]; exact hown'), hbN, HNX⟩
        case measure => simp [intOf]; omega
    · have hie : i = n := by omega
      have hf := HF.out
      rw [List.take_of_length_le (by rw [HD.out]; omega)] at hf
      have HF2 := Lib.hid hf
      clear hf HF
      go_wp2_with fail
      go_ret
      exact ⟨_, rfl, by rw [HF2.out, HO.out]; exact hown, hB⟩
/-- Where the one of these ends begins. -/
def plR (d : List Rg) (r : Rg) : Option Nat := d.findIdx? (fun x => sameR x r)
theorem plR_at {d : List Rg} {r : Rg} {i : Nat} (hi : i < d.length) (hs : sameR (gRg d i) r = true) (hn : ∀ j, j < i → sameR (gRg d j) r = false) : plR d r = some i := by
  unfold plR
  rw [List.findIdx?_eq_some_iff_getElem]
  refine ⟨hi, by rw [← gRg_elem hi]; exact hs, fun j hj => ?_⟩
  have h := hn j hj
  rw [gRg_elem (by omega)] at h
  simp [h]
theorem plR_no {d : List Rg} {r : Rg} (hn : ∀ j, j < d.length → sameR (gRg d j) r = false) : plR d r = none := by
  unfold plR
  rw [List.findIdx?_eq_none_iff]
  intro x hx
  obtain ⟨j, hj, rfl⟩ := List.getElem_of_mem hx
  have h := hn j hj
  rw [gRg_elem hj] at h
  simp [h]
def plV (o : Option Nat) : Int := match o with | some i => (i : Int) | none => -1
set_option maxHeartbeats 4000000 in
set_option maxRecDepth 100000 in
theorem rplace_any (A : Option Addr) (n c : Nat) (d : List Rg) (r : Rg) (w : World) (hd : d.length = n) (hn : n ≤ 1000000) (h : Sl w w.heap.size 5 A n c (flatRg d)) (o : Option Nat) (ho : plR d r = o) :
    Calls Tryz.prog 87 #[.slice A n c, .agg #[.int .i64 r.fr, .int .i64 r.tn, .int .i64 r.st, .int .i64 r.en, .int .i64 r.ow]] w fun e w' => e = .returned (.int .i64 (plV o)) ∧ Below w.heap.size w w' := by
  have hB0 : Below w.heap.size w (w.alloc (.cells #[.int .i64 r.fr, .int .i64 r.tn, .int .i64 r.st, .int .i64 r.en, .int .i64 r.ow] 35)) := by (repeat (first | exact Below.refl _ _ | refine Below.alloc ?_ (by first | omega | (simp; done) | (simp; omega)) _ | refine Below.setCell ?_ (by first | omega | (simp; done) | (simp; omega)) _ | refine Below.drew ?_))
  have hC0 := Blok.new w 35 #[.int .i64 r.fr, .int .i64 r.tn, .int .i64 r.st, .int .i64 r.en, .int .i64 r.ow]
  have HD := Lib.hid hd
  have HL := Lib.hid (h.up hB0)
  have HO := Lib.hid ho
  have HB0 := Lib.hid hB0
  have HC := Lib.hid hC0
  clear hd h ho hB0 hC0
  go_enter Tryz.func87, Tryz.ntmps87
  go_upto_region 1 with fail
  generalize w.alloc (.cells #[.int .i64 r.fr, .int .i64 r.tn, .int .i64 r.st, .int .i64 r.en, .int .i64 r.ow] 35) = w1 at *
  go_wp2_with fail
  go_loopw [5] (fun iv wr => ∃ i : Nat, iv = .int .i64 i ∧ i ≤ n ∧ Hid (∀ j, j < i → sameR (gRg d j) r = false) ∧ Below w1.heap.size w1 wr) (fun iv _ => n - (intOf iv).toNat)
  case atStart => exact ⟨0, rfl, by omega, (fun j hj => by omega), Below.refl _ _⟩
  case round =>
    obtain ⟨i, rfl, hi, HQ, hC⟩ := hrel
    by_cases hin : i < n
    · obtain ⟨ad, rfl, hab, c0, c1, c2, c3, c4⟩ := (HL.out.below hC).lst.atRg HD.out hin
      obtain ⟨x, hx⟩ : ∃ x, gRg d i = x := ⟨_, rfl⟩
      rw [hx] at c0 c1 c2 c3 c4
      have HX := Lib.hid hx
      have hg := HC.out.below hC HC.out.lt
      have y0 : wr.cell? ⟨w.heap.size, 0, none⟩ = some (.int .i64 r.fr) := hg.cell 0
      have y1 : wr.cell? ⟨w.heap.size, 1, none⟩ = some (.int .i64 r.tn) := hg.cell 1
      have y2 : wr.cell? ⟨w.heap.size, 2, none⟩ = some (.int .i64 r.st) := hg.cell 2
      have lt_y := hg.lt
      clear hx hg hab
      have hw2 : IntKind.i64.wrap ((i : Int) + 1) = (i : Int) + 1 := IntWalk.i64_in _ (by omega)
      by_cases hcov : sameR x r = true
      · have hcc := hcov
        unfold sameR at hcc
        rw [decide_eq_true_eq] at hcc
        obtain ⟨k1, k2, k3⟩ := hcc
        have d1 : (x.fr == r.fr) = true := by simp [k1]
        have d2 : (x.tn == r.tn) = true := by simp [k2]
        have d3 : (x.st == r.st) = true := by simp [k3]
        have HF : Hid (o = some i) := by show o = some i; rw [← HO.out]; exact plR_at (by rw [HD.out]; exact hin) (by rw [HX.out]; exact hcov) HQ.out
        clear k1 k2 k3 hcov
        go_wp2_with fail
        have q_c0 := fun d os => cell_regrown c0 d os
        have q_c1 := fun d os => cell_regrown c1 d os
        have q_c2 := fun d os => cell_regrown c2 d os
        have q_c3 := fun d os => cell_regrown c3 d os
        have q_c4 := fun d os => cell_regrown c4 d os
        have q_y0 := fun d os => cell_regrown y0 d os
        have q_y1 := fun d os => cell_regrown y1 d os
        have q_y2 := fun d os => cell_regrown y2 d os
        try simp only [List.append]
        first | refine wp_region_text_below ?_ | refine wp_region_quiet_below (by kernel_rfl) (by kernel_rfl) ?_
        repeat (go_big_quiet_step ((fail)))
        refine wpQuiet_nil ?_
        intro _ hqw
        obtain ⟨pq, hqw⟩ := hqw
        subst hqw
        clear q_c0 q_c1 q_c2 q_c3 q_c4 q_y0 q_y1 q_y2
        have hC2 := hC.trans ((below_regrown wr pq.d pq.os).mono hC.size)
        clear c0 c1 c2 c3 c4 y0 y1 y2 lt_y hC
        generalize grow (redrawn wr pq.d) pq.os = wq at *
        go_wp2_with fail
        go_ret
        exact ⟨by rw [HF.out]; rfl, HB0.out.trans (hC2.mono HB0.out.size)⟩
      · have hno : sameR x r = false := Bool.eq_false_iff.2 hcov
        have hcc := hcov
        unfold sameR at hcc
        rw [decide_eq_true_eq] at hcc
        have HQ2 : Hid (∀ j, j < i + 1 → sameR (gRg d j) r = false) := fun j hj => by
          by_cases e : j = i
          · subst e; rw [HX.out]; exact hno
          · exact HQ.out j (by omega)
        clear hcov hno
        by_cases k1 : x.fr = r.fr
        · have d1 : (x.fr == r.fr) = true := by simp [k1]
          by_cases k2 : x.tn = r.tn
          · have d2 : (x.tn == r.tn) = true := by simp [k2]
            have d3 : (x.st == r.st) = false := by simp; exact fun k3 => hcc ⟨k1, k2, k3⟩
            clear k1 k2 hcc
            go_wp2_with fail
            have q_c0 := fun d os => cell_regrown c0 d os
            have q_c1 := fun d os => cell_regrown c1 d os
            have q_c2 := fun d os => cell_regrown c2 d os
            have q_c3 := fun d os => cell_regrown c3 d os
            have q_c4 := fun d os => cell_regrown c4 d os
            have q_y0 := fun d os => cell_regrown y0 d os
            have q_y1 := fun d os => cell_regrown y1 d os
            have q_y2 := fun d os => cell_regrown y2 d os
            try simp only [List.append]
            first | refine wp_region_text_below ?_ | refine wp_region_quiet_below (by kernel_rfl) (by kernel_rfl) ?_
            repeat (go_big_quiet_step ((fail)))
            refine wpQuiet_nil ?_
            intro _ hqw
            obtain ⟨pq, hqw⟩ := hqw
            subst hqw
            clear q_c0 q_c1 q_c2 q_c3 q_c4 q_y0 q_y1 q_y2
            have hC2 := hC.trans ((below_regrown wr pq.d pq.os).mono hC.size)
            clear c0 c1 c2 c3 c4 y0 y1 y2 lt_y hC
            generalize grow (redrawn wr pq.d) pq.os = wq at *
            go_wp2_with fail
            go_roundw
            case rel => exact ⟨i + 1, by go_num, by omega, HQ2, hC2⟩
            case measure => simp [intOf]; omega
          · have d2 : (x.tn == r.tn) = false := by simp [k2]
            clear k1 k2 hcc
            go_wp2_with fail
            have q_c0 := fun d os => cell_regrown c0 d os
            have q_c1 := fun d os => cell_regrown c1 d os
            have q_c2 := fun d os => cell_regrown c2 d os
            have q_c3 := fun d os => cell_regrown c3 d os
            have q_c4 := fun d os => cell_regrown c4 d os
            have q_y0 := fun d os => cell_regrown y0 d os
            have q_y1 := fun d os => cell_regrown y1 d os
            have q_y2 := fun d os => cell_regrown y2 d os
            try simp only [List.append]
            first | refine wp_region_text_below ?_ | refine wp_region_quiet_below (by kernel_rfl) (by kernel_rfl) ?_
            repeat (go_big_quiet_step ((fail)))
            refine wpQuiet_nil ?_
            intro _ hqw
            obtain ⟨pq, hqw⟩ := hqw
            subst hqw
            clear q_c0 q_c1 q_c2 q_c3 q_c4 q_y0 q_y1 q_y2
            have hC2 := hC.trans ((below_regrown wr pq.d pq.os).mono hC.size)
            clear c0 c1 c2 c3 c4 y0 y1 y2 lt_y hC
            generalize grow (redrawn wr pq.d) pq.os = wq at *
            go_wp2_with fail
            go_roundw
            case rel => exact ⟨i + 1, by go_num, by omega, HQ2, hC2⟩
            case measure => simp [intOf]; omega
        · have d1 : (x.fr == r.fr) = false := by simp [k1]
          clear k1 hcc
          go_wp2_with fail
          have q_c0 := fun d os => cell_regrown c0 d os
          have q_c1 := fun d os => cell_regrown c1 d os
          have q_c2 := fun d os => cell_regrown c2 d os
          have q_c3 := fun d os => cell_regrown c3 d os
          have q_c4 := fun d os => cell_regrown c4 d os
          have q_y0 := fun d os => cell_regrown y0 d os
          have q_y1 := fun d os => cell_regrown y1 d os
          have q_y2 := fun d os => cell_regrown y2 d os
          try simp only [List.append]
          first | refine wp_region_text_below ?_ | refine wp_region_quiet_below (by kernel_rfl) (by kernel_rfl) ?_
          repeat (go_big_quiet_step ((fail)))
          refine wpQuiet_nil ?_
          intro _ hqw
          obtain ⟨pq, hqw⟩ := hqw
          subst hqw
          clear q_c0 q_c1 q_c2 q_c3 q_c4 q_y0 q_y1 q_y2
          have hC2 := hC.trans ((below_regrown wr pq.d pq.os).mono hC.size)
          clear c0 c1 c2 c3 c4 y0 y1 y2 lt_y hC
          generalize grow (redrawn wr pq.d) pq.os = wq at *
          go_wp2_with fail
          go_roundw
          case rel => exact ⟨i + 1, by go_num, by omega, HQ2, hC2⟩
          case measure => simp [intOf]; omega
    · obtain rfl : i = n := by omega
      have HF : Hid (o = none) := by show o = none; rw [← HO.out]; exact plR_no (fun j hj => HQ.out j (by rw [← HD.out]; exact hj))
      go_wp2_with fail
      go_ret
      exact ⟨by rw [HF.out]; rfl, HB0.out.trans (hC.mono HB0.out.size)⟩
end Go.Proofs.YtolaabllhibkdaaGreat.Kr
