/- The document's own path: Same, Hops, IDs. They make new memory alone. -/
import Derived.Test.YtmijkdfinhkloaaPath5
namespace Go.Proofs.Ytmijkdfinhkloaa
open Go.ChangeShapes Go.WideShapes Go.ChangeAt Go.RowKit Go.Sort
set_option linter.unusedSimpArgs false
set_option linter.unusedVariables false
set_option maxHeartbeats 4000000 in
set_option maxRecDepth 100000 in
theorem rsame12_any (A A' : Option Addr) (n c n' c' : Nat) (d d' : List Hp) (t t' : Int) (w : World) (hd : d.length = n) (hd' : d'.length = n') (hn : n ≤ 1000000) (hn' : n' ≤ 1000000) (h : Sl w w.heap.size 3 A n c (flatHp d)) (h' : Sl w w.heap.size 3 A' n' c' (flatHp d')) (b : Bool) (hb : (decide (t = t') && decide (d = d')) = b) :
    Calls Try.prog 20 #[.agg #[.slice A n c, .int .i64 t], .agg #[.slice A' n' c', .int .i64 t']] w fun e w' => e = .returned (.bool b) ∧ Below w.heap.size w w' := by
  have hB1 : Below w.heap.size w (w.alloc (.cells #[.slice A n c, .int .i64 t] 26)) := by (repeat (first | exact Below.refl _ _ | refine Below.alloc ?_ (by first | omega | (simp; done) | (simp; omega)) _ | refine Below.setCell ?_ (by first | omega | (simp; done) | (simp; omega)) _ | refine Below.drew ?_))
  have hB : Below w.heap.size w ((w.alloc (.cells #[.slice A n c, .int .i64 t] 26)).alloc (.cells #[.slice A' n' c', .int .i64 t'] 26)) := by (repeat (first | exact Below.refl _ _ | refine Below.alloc ?_ (by first | omega | (simp; done) | (simp; omega)) _ | refine Below.setCell ?_ (by first | omega | (simp; done) | (simp; omega)) _ | refine Below.drew ?_))
  have hX := (Blok.new w 26 #[.slice A n c, .int .i64 t]).alloc (.cells #[.slice A' n' c', .int .i64 t'] 26)
  have hY := Blok.new (w.alloc (.cells #[.slice A n c, .int .i64 t] 26)) 26 #[.slice A' n' c', .int .i64 t']
  rw [World.size_alloc] at hY
  have HL := Lib.hid (h.below hB)
  have HL' := Lib.hid (h'.below hB)
  have HD := Lib.hid hd
  have HD' := Lib.hid hd'
  have HBB := Lib.hid hb
  clear hd hd' h h' hb hB1
  by_cases hne : n ≠ n' ∨ t ≠ t'
  · have hf : b = false := by
      rw [← HBB.out]
      rcases hne with h1 | h1
      · have : d ≠ d' := fun e => by rw [e] at HD; exact h1 (HD.out.symm.trans HD'.out)
        simp [this]
      · simp [h1]
    subst hf
    by_cases hnn : n = n'
    · subst hnn
      have ht : t ≠ t' := by rcases hne with h1 | h1; · exact absurd rfl h1
                             · exact h1
      have g1 : (t != t') = true := by simp [ht]
      have g2 : ((n : Int) != (n : Int)) = false := by simp
      clear hne ht
      go_enter Try.func20, Try.ntmps20
      go_wp2
      go_ret
      exact ⟨rfl, hB⟩
    · have g2 : ((n : Int) != (n' : Int)) = true := by simp; omega
      clear hne
      go_enter Try.func20, Try.ntmps20
      go_wp2
      go_ret
      exact ⟨rfl, hB⟩
  · obtain rfl : n = n' := by omega
    obtain rfl : t = t' := by omega
    have g1 : (t != t) = false := by simp
    have g2 : ((n : Int) != (n : Int)) = false := by simp
    clear hne
    go_enter Try.func20, Try.ntmps20
    go_wp2
    clear g1 g2
    generalize (w.alloc (.cells #[.slice A n c, .int .i64 t] 26)).alloc (.cells #[.slice A' n c', .int .i64 t] 26) = w2 at *
    have HX := Lib.hid hX
    have HY := Lib.hid hY
    have HB := Lib.hid hB
    clear hX hY hB
    go_loopw [5] (fun iv wr => ∃ (i : Nat), iv = .int .i64 i ∧ i ≤ n ∧ Hid (d.take i = d'.take i) ∧ Below w2.heap.size w2 wr) (fun iv _ => n - (intOf iv).toNat)
    case atStart => exact ⟨0, rfl, by omega, by simp [Hid], Below.refl _ _⟩
    case round =>
      obtain ⟨i, rfl, hi, HE, hBr⟩ := hrel
      have hX := HX.out.below hBr HX.out.lt
      have hY := HY.out.below hBr HY.out.lt
      have x0 : wr.cell? ⟨w.heap.size, 0, none⟩ = some (.slice A n c) := hX.cell 0
      have x1 : wr.cell? ⟨w.heap.size, 1, none⟩ = some (.int .i64 t) := hX.cell 1
      have y0 : wr.cell? ⟨w.heap.size + 1, 0, none⟩ = some (.slice A' n c') := hY.cell 0
      have y1 : wr.cell? ⟨w.heap.size + 1, 1, none⟩ = some (.int .i64 t) := hY.cell 1
      have lt_x := hX.lt
      have lt_y := hY.lt
      clear hX hY
      have hbw := hBr.mono HB.out.size
      by_cases hin : i < n
      · obtain ⟨ad, rfl, hab, c0, c1, c2⟩ := (HL.out.below hbw).lst.atHp HD.out hin
        obtain ⟨ad', rfl, hab', c0', c1', c2'⟩ := (HL'.out.below hbw).lst.atHp HD'.out hin
        have hrun : ∀ w0, (binOp .neq 47 (.agg #[.int .i64 (gHp d i).id, .int .i64 (gHp d i).se, .int .i64 (gHp d i).ar]) (.agg #[.int .i64 (gHp d' i).id, .int .i64 (gHp d' i).se, .int .i64 (gHp d' i).ar])).run Try.prog w0 = .ok (.bool (!decide (gHp d i = gHp d' i))) w0 := fun w0 => neqHp (gHp d i) (gHp d' i) w0
        by_cases he : gHp d i = gHp d' i
        · have HE2 : Hid (d.take (i + 1) = d'.take (i + 1)) := by
            show d.take (i + 1) = d'.take (i + 1)
            rw [take_nextHp (by rw [HD.out]; exact hin), take_nextHp (by rw [HD'.out]; exact hin), HE.out, he]
          rw [decide_eq_true he] at hrun
          simp only [Bool.not_true] at hrun
          clear HE he hbw
          go_wp2_with fail
          have q_c0 := fun d os => cell_regrown c0 d os
          have q_c1 := fun d os => cell_regrown c1 d os
          have q_c2 := fun d os => cell_regrown c2 d os
          have q_c0' := fun d os => cell_regrown c0' d os
          have q_c1' := fun d os => cell_regrown c1' d os
          have q_c2' := fun d os => cell_regrown c2' d os
          have q_x0 := fun d os => cell_regrown x0 d os
          have q_x1 := fun d os => cell_regrown x1 d os
          have q_y0 := fun d os => cell_regrown y0 d os
          have q_y1 := fun d os => cell_regrown y1 d os
          try simp only [List.append]
          first | refine wp_region_text_below ?_ | refine wp_region_quiet_below (by kernel_rfl) (by kernel_rfl) ?_
          repeat (go_big_quiet_step ((fail)))
          refine wpQuiet_nil ?_
          intro _ hqw
          obtain ⟨pq, hqw⟩ := hqw
          subst hqw
          clear q_c0 q_c1 q_c2 q_c0' q_c1' q_c2' q_x0 q_x1 q_y0 q_y1
          have hbq := hBr.trans ((below_regrown wr pq.d pq.os).mono hBr.size)
          clear c0 c1 c2 c0' c1' c2' x0 x1 y0 y1 hrun lt_x lt_y hBr
          generalize grow (redrawn wr pq.d) pq.os = wq at *
          go_wp2_with fail
          go_roundw
          case rel => exact ⟨i + 1, by go_num, by omega, HE2, hbq⟩
          case measure => simp [intOf]; omega
        · have hf : b = false := by
            have : d ≠ d' := fun e => he (by rw [e])
            rw [← HBB.out]; simp [this]
          subst hf
          rw [decide_eq_false he] at hrun
          simp only [Bool.not_false] at hrun
          clear he hbw
          go_wp2_with fail
          have q_c0 := fun d os => cell_regrown c0 d os
          have q_c1 := fun d os => cell_regrown c1 d os
          have q_c2 := fun d os => cell_regrown c2 d os
          have q_c0' := fun d os => cell_regrown c0' d os
          have q_c1' := fun d os => cell_regrown c1' d os
          have q_c2' := fun d os => cell_regrown c2' d os
          have q_x0 := fun d os => cell_regrown x0 d os
          have q_x1 := fun d os => cell_regrown x1 d os
          have q_y0 := fun d os => cell_regrown y0 d os
          have q_y1 := fun d os => cell_regrown y1 d os
          try simp only [List.append]
          first | refine wp_region_text_below ?_ | refine wp_region_quiet_below (by kernel_rfl) (by kernel_rfl) ?_
          repeat (go_big_quiet_step ((fail)))
          refine wpQuiet_nil ?_
          intro _ hqw
          obtain ⟨pq, hqw⟩ := hqw
          subst hqw
          clear q_c0 q_c1 q_c2 q_c0' q_c1' q_c2' q_x0 q_x1 q_y0 q_y1
          have hbq := hBr.trans ((below_regrown wr pq.d pq.os).mono hBr.size)
          clear c0 c1 c2 c0' c1' c2' x0 x1 y0 y1 hrun lt_x lt_y hBr
          generalize grow (redrawn wr pq.d) pq.os = wq at *
          go_wp2_with fail
          go_ret
          exact ⟨rfl, HB.out.trans (hbq.mono HB.out.size)⟩
      · have hie : i = n := by omega
        have hf : b = true := by
          have he := HE.out
          rw [List.take_of_length_le (by rw [HD.out]; omega), List.take_of_length_le (by rw [HD'.out]; omega)] at he
          rw [← HBB.out, he]; simp
        subst hf
        subst hie
        go_wp2_with fail
        go_ret
        exact ⟨rfl, HB.out.trans hbw⟩
theorem rhops12_any (A A' : Option Addr) (n c n' c' : Nat) (d d' : List Hp) (w : World) (hd : d.length = n) (hd' : d'.length = n') (hn : n ≤ 1000000) (hn' : n' ≤ 1000000) (h : Sl w w.heap.size 3 A n c (flatHp d)) (h' : Sl w w.heap.size 3 A' n' c' (flatHp d')) (b : Bool) (hb : decide (d = d') = b) :
    Calls Try.prog 18 #[.slice A n c, .slice A' n' c'] w fun e w' => e = .returned (.bool b) ∧ Below w.heap.size w w' := by
  go_enter Try.func18, Try.ntmps18
  go_wp2_with fail
  refine (rsame12_any A A' n c n' c' d d' 0 0 w hd hd' hn hn' h h' b (by simpa using hb)).mono ?_
  rintro e w1 ⟨rfl, hB⟩
  go_wp2
  go_ret
  exact ⟨rfl, hB⟩
set_option maxHeartbeats 4000000 in
set_option maxRecDepth 100000 in
theorem rids12_any (A : Option Addr) (n c : Nat) (d : List Hp) (t : Int) (w : World) (hd : d.length = n) (hn : n ≤ 1000000) (h : Sl w w.heap.size 3 A n c (flatHp d)) :
    Calls Try.prog 22 #[.agg #[.slice A n c, .int .i64 t]] w fun e w' => ∃ v, e = .returned v ∧ w'.ownsRow w.heap.size 3 1 v n ((d.map Hp.id).map (Value.int .i64)) ∧ Below w.heap.size w w' := by
  obtain ⟨i0, hi0, hz0, hz1, hz2⟩ := info_parts infoI12
  have hB0 : Below w.heap.size w (w.alloc (.cells #[.slice A n c, .int .i64 t] 26)) := by (repeat (first | exact Below.refl _ _ | refine Below.alloc ?_ (by first | omega | (simp; done) | (simp; omega)) _ | refine Below.setCell ?_ (by first | omega | (simp; done) | (simp; omega)) _ | refine Below.drew ?_))
  have hX0 := Blok.new w 26 #[.slice A n c, .int .i64 t]
  have hl := h.below hB0
  obtain ⟨b1, hb1⟩ : ∃ q, (w.alloc (.cells #[.slice A n c, .int .i64 t] 26)).heap.size = q := ⟨_, rfl⟩
  have hwb : w.heap.size < b1 := by rw [← hb1, World.size_alloc]; omega
  have HD := Lib.hid hd
  clear hd h
  go_enter Try.func22, Try.ntmps22
  go_wp2
  generalize w.alloc (.cells #[.slice A n c, .int .i64 t] 26) = w0 at *
  have HL := Lib.hid hl
  have HB0 := Lib.hid hB0
  have HX := Lib.hid hX0
  have HB1 := Lib.hid hb1
  clear hl hB0 hX0 hb1
  go_loopw [3, 4] (fun ev iv wr => ∃ (i : Nat), iv = .int .i64 i ∧ i ≤ n ∧ wr.ownsRow b1 3 1 ev i (((d.take i).map Hp.id).map (Value.int .i64)) ∧ Below w.heap.size w wr ∧ b1 ≤ wr.heap.size ∧ Hid (Sl wr w.heap.size 3 A n c (flatHp d)) ∧ Hid (Blok wr w.heap.size 26 #[.slice A n c, .int .i64 t])) (fun _ iv _ => n - (intOf iv).toNat)
  case atStart => exact ⟨0, rfl, by omega, World.ownsRow_nil _ _ _ _, HB0.out, by rw [HB1.out]; omega, HL.out, HX.out⟩
  case round =>
    clear HB0 HL HX HB1
    obtain ⟨i, rfl, hi, hown, hB, hs1, HL, HX⟩ := hrel
    have hsz := hB.size
    obtain ⟨Ae, ce, rfl⟩ := slice_of_own hown
    have x0 : wr.cell? ⟨w.heap.size, 0, none⟩ = some (.slice A n c) := HX.out.cell 0
    have x1 : wr.cell? ⟨w.heap.size, 1, none⟩ = some (.int .i64 t) := HX.out.cell 1
    have lt_x := HX.out.lt
    by_cases hin : i < n
    · obtain ⟨ad, rfl, hab, c0, c1, c2⟩ := HL.out.lst.atHp HD.out hin
      have hnx : ((d.take (i + 1)).map Hp.id).map (Value.int .i64) = ((d.take i).map Hp.id).map (Value.int .i64) ++ [.int .i64 (gHp d i).id] := by
        rw [take_nextHp (by rw [HD.out]; exact hin)]; simp
      obtain ⟨x, hx⟩ : ∃ x, gHp d i = x := ⟨_, rfl⟩
      rw [hx] at c0 c1 c2 hnx
      have HNX := Lib.hid hnx
      clear hx hnx
      go_wp2_with (first | (at_builtin; refine wpList_append_own _ rfl _ _ 23 rfl b1 3 i0 _ 1 8 Try.underlying23 hi0 hz0 hz1 hz2 rfl (by decide) _ _ _ rfl (hown.alloc _) ⟨wr.heap.size, 0, none⟩ 1 1 [.int .i64 x.id] rfl rfl (by exact lit_cells wr #[.int .i64 x.id] _ _ rfl) (by simp [Value.oneCell']) (by unfold maxLen; omega) (by omega) (by simp; omega) ?_; intro v' w3 hown' hgrow3 hnil3))
      have hbN : Below w.heap.size w w3 := (hB.alloc hsz _).grown hgrow3 (by simp; omega) (fun q hq => by have := (hown.lt q hq).1; omega)
      have hLN := Lib.hid (HL.out.below (((Below.refl _ _).alloc hsz (.cells #[.int .i64 x.id] 3)).grown hgrow3 (by simp; omega) (fun q hq => by have := (hown.lt q hq).1; omega)))
      have hXN := Lib.hid ((HX.out.alloc (.cells #[.int .i64 x.id] 3)).grown hgrow3 (fun e => by have := (hown.lt _ e.symm).1; omega))
      have hs3 : b1 ≤ w3.heap.size := by have h1 := hgrow3.size; rw [World.size_alloc] at h1; omega
      clear hgrow3 hnil3 x0 x1 lt_x HL HX
      go_wp2_with fail
      go_roundw
      case rel => exact ⟨i + 1, by go_num, by omega, (by rw [HNX.out]; exact hown'), hbN, hs3, hLN, hXN⟩
      case measure => simp [intOf]; omega
    · obtain rfl : i = n := by omega
      rw [List.take_of_length_le (by rw [HD.out]; omega)] at hown
      have HOWN := Lib.hid (own_down (base' := w.heap.size) hown (by omega))
      clear hown
      go_wp2_with fail
      go_ret
      exact ⟨_, rfl, HOWN.out, hB⟩
end Go.Proofs.Ytmijkdfinhkloaa
