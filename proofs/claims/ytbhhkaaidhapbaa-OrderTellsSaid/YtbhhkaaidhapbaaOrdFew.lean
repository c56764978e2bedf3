/- feluccalaw13's Few and places. No condition. -/
import Derived.Test.YtbhhkaaidhapbaaOrdD
import Derived.Test.YtbhhkaaidhapbaaGQ6
import Derived.BigQuiet
import Derived.Deep.QuietTactic
namespace Go.Proofs.Ytbhhkaaidhapbaa
open Go.ChangeShapes Go.WideShapes Go.ChangeAt Go.RowKit Go.Sort
set_option linter.unusedSimpArgs false
set_option linter.unusedVariables false
/-- What Few answers: yes only where there are few. -/
def FewE (L : List Rx) (w : World) (e : Ending) (w' : World) : Prop := ∃ b : Bool, e = .returned (.bool b) ∧ (b = true → L.length ≤ 50 ∧ ∀ j, j < L.length → (gRx L j).h.n ≤ 50) ∧ w' = w
def FewP (L : List Rx) : Prop := L.length ≤ 50 ∧ ∀ j, j < L.length → (gRx L j).h.n ≤ 50
set_option maxHeartbeats 2000000 in
set_option maxRecDepth 100000 in
theorem few13_any (A : Option Addr) (n c : Nat) (L : List Rx) (w : World) (hl : L.length = n) (h : Sl w w.heap.size 2 A n c (flatRh (hdRx L))) :
    Calls Try.prog 9 #[.slice A n c] w fun e w' => FewE L w e w' := by
  have hlh : (hdRx L).length = n := by unfold hdRx; simp [hl]
  have HL := Lib.hid hl
  have HS := Lib.hid h
  clear hl h
  go_enter Try.func9, Try.ntmps9
  go_wp2
  go_loopw [3] (fun iv wr => ∃ i : Nat, iv = .int .i64 i ∧ i ≤ n ∧ i ≤ 50 ∧ w = wr ∧ Hid (∀ j, j < i → (gRx L j).h.n ≤ 50)) (fun iv _ => n - (intOf iv).toNat)
  case atStart => exact ⟨0, rfl, by omega, by omega, rfl, fun j hj => by omega⟩
  case round =>
    obtain ⟨i, rfl, hin, hi5, rfl, HF⟩ := hrel
    by_cases h1 : i < n
    · have h1z : (i : Int) < (n : Int) := by omega
      by_cases h2 : i < 50
      · have h2z : (i : Int) < 50 := by omega
        obtain ⟨ad, rfl, hb, x0, x1⟩ := HS.out.lst.atRh hlh h1
        rw [gRx_hd (by have := HL.out; omega)] at x0 x1
        obtain ⟨m, hm⟩ : ∃ m, (gRx L i).h.n = m := ⟨_, rfl⟩
        rw [hm] at x0
        have HM := Lib.hid hm
        clear hm x1
        by_cases h3 : m ≤ 50
        · have h3z : ¬ (m : Int) > 50 := by omega
          have h3b : decide ((m : Int) > 50) = false := decide_eq_false h3z
          go_wp2
          go_roundw
          case rel => exact ⟨i + 1, by go_num, by omega, by omega, by trivial, fun j hj => by
            by_cases e : j = i
            · rw [e, HM.out]; exact h3
            · exact HF.out j (by omega)⟩
          case measure => simp [intOf]; omega
        · have h3z : (m : Int) > 50 := by omega
          have h3b : decide ((m : Int) > 50) = true := decide_eq_true h3z
          go_wp2
          go_ret
          exact ⟨false, rfl, fun e => (by cases e), rfl⟩
      · have h2z : ¬ (i : Int) < 50 := by omega
        have h5 : decide ((n : Int) ≤ 50) = false := decide_eq_false (by omega)
        have h6 : ¬ n ≤ 50 := by omega
        go_wp2
        go_ret
        exact ⟨false, rfl, fun e => (by cases e), rfl⟩
    · have h1z : ¬ (i : Int) < (n : Int) := by omega
      obtain rfl : i = n := by omega
      have h5 : decide ((i : Int) ≤ 50) = true := decide_eq_true (by omega)
      go_wp2
      go_ret
      exact ⟨true, rfl, fun _ => ⟨by rw [HL.out]; exact hi5, fun j hj => HF.out j (by rw [HL.out] at hj; exact hj)⟩, rfl⟩
/-- Two rows of the same routes are, one by one, at one place. -/
theorem places_any {w : World} {u v : Value} {l : List Rt} (hu : RL w u l) (hv : RL w v l) (hn : l.length ≤ 1000) :
    Calls Try.prog 22 #[u, v] w fun e w' => e = .returned (.bool true) ∧ Below w.heap.size w w' := by
  obtain ⟨A, n, c, L, rfl, h2, h3, h4, h5⟩ := hu
  obtain ⟨A', n', c', L', rfl, k2, k3, k4, k5⟩ := hv
  have hnl : l.length = n := by rw [← h2, ← h3, List.length_map]
  obtain rfl : n' = n := by rw [← hnl, ← k2, ← k3, List.length_map]
  have hn1 : n' ≤ 1000 := by omega
  have HL := Lib.hid h2
  have HL' := Lib.hid k2
  have HS := Lib.hid (fun w' (hb : Below w.heap.size w w') => h4.up hb)
  have HS' := Lib.hid (fun w' (hb : Below w.heap.size w w') => k4.up hb)
  have HO := Lib.hid (fun x hx w' (hb : Below w.heap.size w w') => (h5 x hx).below hb)
  have HO' := Lib.hid (fun x hx w' (hb : Below w.heap.size w w') => (k5 x hx).below hb)
  have HE : Hid (∀ i, i < n' → cmpR (gRx L i).h.t (gRx L i).d (gRx L' i).h.t (gRx L' i).d = 0) := fun i hi => by
    have e : (gRx L i).rt = (gRx L' i).rt := by rw [← gT_rt, ← gT_rt, h3, k3]
    injection e with e1 e2
    rw [e1, e2, cmpR_key, cmpL_self]
  clear h2 h3 h4 h5 k2 k3 k4 k5 hnl hn
  go_enter Try.func22, Try.ntmps22
  go_wp2
  go_loopw [5] (fun iv wr => ∃ i : Nat, iv = .int .i64 i ∧ i ≤ n' ∧ Below w.heap.size w wr) (fun iv _ => n' - (intOf iv).toNat)
  case atStart => exact ⟨0, rfl, by omega, Below.refl _ _⟩
  case round =>
    obtain ⟨i, rfl, hin, hB⟩ := hrel
    by_cases h1 : i < n'
    · have h1z : (i : Int) < (n' : Int) := by omega
      obtain ⟨ad, had, hb, x0, x1⟩ := (HS.out wr hB).lst.atRx HL.out h1
      obtain ⟨ae, hae, hbe, y0, y1⟩ := (HS'.out wr hB).lst.atRx HL'.out h1
      have hx := HO.out _ (gRx_mem (d := L) (i := i) (by have := HL.out; omega)) wr hB
      have hy := HO'.out _ (gRx_mem (d := L') (i := i) (by have := HL'.out; omega)) wr hB
      have he := HE.out i h1
      obtain ⟨x, hxx⟩ : ∃ x, gRx L i = x := ⟨_, rfl⟩
      obtain ⟨y, hyy⟩ : ∃ y, gRx L' i = y := ⟨_, rfl⟩
      rw [hxx] at x0 x1 hx he
      rw [hyy] at y0 y1 hy he
      clear hxx hyy
      subst had
      subst hae
      obtain ⟨p1, p2, p3⟩ := hx
      obtain ⟨q1, q2, q3⟩ := hy
      have HP1 := Lib.hid p1
      have HQ1 := Lib.hid q1
      have HX := Lib.hid (fun (dd : Nat) (os : Array Obj) => p3.up (below_regrown wr dd os))
      have HY := Lib.hid (fun (dd : Nat) (os : Array Obj) => q3.up (below_regrown wr dd os))
      have HZ := Lib.hid he
      clear p1 q1 p3 q3 he
      go_wp2_with fail
      have q_x0 := fun d os => cell_regrown x0 d os
      have q_x1 := fun d os => cell_regrown x1 d os
      have q_y0 := fun d os => cell_regrown y0 d os
      have q_y1 := fun d os => cell_regrown y1 d os
      try simp only [List.append]
      first | refine wp_region_text_below ?_ | refine wp_region_quiet_below (by kernel_rfl) (by kernel_rfl) ?_
      repeat (go_big_quiet_step ((with_reducible exact Calls.regrown_of (ocmp_any x.h.A y.h.A x.h.n x.h.c y.h.n y.h.c x.d y.d x.h.t y.h.t _ HP1.out HQ1.out p2 q2 (HX.out _ _) (HY.out _ _) 0 HZ.out))))
      refine wpQuiet_nil ?_
      intro _ hqw
      obtain ⟨pq, hqw⟩ := hqw
      subst hqw
      clear q_x0 q_x1 q_y0 q_y1
      have hB2 := hB.trans ((below_regrown wr pq.d pq.os).mono hB.size)
      clear x0 x1 y0 y1 hB hb hbe
      generalize grow (redrawn wr pq.d) pq.os = wq at *
      go_wp2
      go_roundw
      case rel => exact ⟨i + 1, by go_num, by omega, hB2⟩
      case measure => simp [intOf]; omega
    · have h1z : ¬ (i : Int) < (n' : Int) := by omega
      go_wp2
      go_ret
      exact ⟨by simp, hB⟩
end Go.Proofs.Ytbhhkaaidhapbaa
