/- direct.Parse. It makes new memory alone. -/
import Derived.Test.YtjldgcebadojiaaGreatDoorGQ19
namespace Go.Proofs.YtjldgcebadojiaaGreatDoor
open Go.ChangeShapes Go.WideShapes Go.ChangeAt Go.RowKit Go.Sort
set_option linter.unusedSimpArgs false
set_option linter.unusedVariables false
theorem opF_wf (x : Bytes) : (Lit.int .i64 (opF x)).wf = true := by unfold opF; repeat' split
                                                                    all_goals decide
theorem kdF_wf (x : Bytes) : (Lit.int .i64 (kdF x)).wf = true := by unfold kdF; repeat' split
                                                                    all_goals decide
set_option maxHeartbeats 16000000 in
set_option maxRecDepth 100000 in
theorem dparse_any (A : Option Addr) (n c : Nat) (l : List Bytes) (w : World) (hd : l.length = n) (hn : n ≤ 100000) (hsz : ∀ x ∈ l, x.length ≤ maxLen) (h : Sl w w.heap.size 1 A n c (vs l)) (z : Dr) (q : Int) (hz : parseD l = (z, q)) :
    Calls Tryz.prog 64 #[.slice A n c] w fun e w' => e = .returned (.tuple #[.agg #[.int .i64 z.op, .int .i64 z.kd, .int .i64 z.id, .int .i64 z.fr, .int .i64 z.tn, .int .i64 z.st, .int .i64 z.en, .int .i64 z.rt, .int .i64 z.rf, .int .i64 z.rn, .int .i64 z.rs, .int .i64 z.re, .int .i64 z.ro], .int .i64 q]) ∧ Below w.heap.size w w' := by
  have hB : Below w.heap.size w (w.alloc (.cells #[.int .i64 0, .int .i64 0, .int .i64 0, .int .i64 0, .int .i64 0, .int .i64 0, .int .i64 0, .int .i64 0, .int .i64 0, .int .i64 0, .int .i64 0, .int .i64 0, .int .i64 0] 38)) := by (repeat (first | exact Below.refl _ _ | refine Below.alloc ?_ (by first | omega | (simp; done) | (simp; omega)) _ | refine Below.setCell ?_ (by first | omega | (simp; done) | (simp; omega)) _ | refine Below.drew ?_))
  have hX := Blok.new w 38 #[.int .i64 0, .int .i64 0, .int .i64 0, .int .i64 0, .int .i64 0, .int .i64 0, .int .i64 0, .int .i64 0, .int .i64 0, .int .i64 0, .int .i64 0, .int .i64 0, .int .i64 0]
  have hs := hB.size
  replace h := h.up hB
  have HD := Lib.hid hd
  have HSZ := Lib.hid hsz
  clear hd hsz
  go_enter Tryz.func64, Tryz.ntmps64
  go_upto_region 1 with fail
  generalize w.alloc (.cells #[.int .i64 0, .int .i64 0, .int .i64 0, .int .i64 0, .int .i64 0, .int .i64 0, .int .i64 0, .int .i64 0, .int .i64 0, .int .i64 0, .int .i64 0, .int .i64 0, .int .i64 0] 38) = w0 at *
  by_cases hn2 : n < 2
  · have hzq : z = zeroDr ∧ q = 2 := by
      unfold parseD at hz
      rw [if_pos (by rw [HD.out]; exact hn2)] at hz
      injection hz with e1 e2
      exact ⟨e1.symm, e2.symm⟩
    obtain ⟨rfl, rfl⟩ := hzq
    have g : decide ((n : Int) < 2) = true := decide_eq_true (by omega)
    have z_0 : w0.cell? ⟨w.heap.size, 0, none⟩ = some (.int .i64 0) := hX.cell 0
    have zf_0 := hX.free 0
    have z_1 : w0.cell? ⟨w.heap.size, 1, none⟩ = some (.int .i64 0) := hX.cell 1
    have zf_1 := hX.free 1
    have z_2 : w0.cell? ⟨w.heap.size, 2, none⟩ = some (.int .i64 0) := hX.cell 2
    have zf_2 := hX.free 2
    have z_3 : w0.cell? ⟨w.heap.size, 3, none⟩ = some (.int .i64 0) := hX.cell 3
    have zf_3 := hX.free 3
    have z_4 : w0.cell? ⟨w.heap.size, 4, none⟩ = some (.int .i64 0) := hX.cell 4
    have zf_4 := hX.free 4
    have z_5 : w0.cell? ⟨w.heap.size, 5, none⟩ = some (.int .i64 0) := hX.cell 5
    have zf_5 := hX.free 5
    have z_6 : w0.cell? ⟨w.heap.size, 6, none⟩ = some (.int .i64 0) := hX.cell 6
    have zf_6 := hX.free 6
    have z_7 : w0.cell? ⟨w.heap.size, 7, none⟩ = some (.int .i64 0) := hX.cell 7
    have zf_7 := hX.free 7
    have z_8 : w0.cell? ⟨w.heap.size, 8, none⟩ = some (.int .i64 0) := hX.cell 8
    have zf_8 := hX.free 8
    have z_9 : w0.cell? ⟨w.heap.size, 9, none⟩ = some (.int .i64 0) := hX.cell 9
    have zf_9 := hX.free 9
    have z_10 : w0.cell? ⟨w.heap.size, 10, none⟩ = some (.int .i64 0) := hX.cell 10
    have zf_10 := hX.free 10
    have z_11 : w0.cell? ⟨w.heap.size, 11, none⟩ = some (.int .i64 0) := hX.cell 11
    have zf_11 := hX.free 11
    have z_12 : w0.cell? ⟨w.heap.size, 12, none⟩ = some (.int .i64 0) := hX.cell 12
    have zf_12 := hX.free 12
    have lt_z := hX.lt
    go_wp2_with fail
    have hF : Blok (((((((((((((w0.setCell ⟨w.heap.size, 0, none⟩ (.int .i64 0)).setCell ⟨w.heap.size, 1, none⟩ (.int .i64 0)).setCell ⟨w.heap.size, 2, none⟩ (.int .i64 0)).setCell ⟨w.heap.size, 3, none⟩ (.int .i64 0)).setCell ⟨w.heap.size, 4, none⟩ (.int .i64 0)).setCell ⟨w.heap.size, 5, none⟩ (.int .i64 0)).setCell ⟨w.heap.size, 6, none⟩ (.int .i64 0)).setCell ⟨w.heap.size, 7, none⟩ (.int .i64 0)).setCell ⟨w.heap.size, 8, none⟩ (.int .i64 0)).setCell ⟨w.heap.size, 9, none⟩ (.int .i64 0)).setCell ⟨w.heap.size, 10, none⟩ (.int .i64 0)).setCell ⟨w.heap.size, 11, none⟩ (.int .i64 0)).setCell ⟨w.heap.size, 12, none⟩ (.int .i64 0)) w.heap.size 38 #[.int .i64 0, .int .i64 0, .int .i64 0, .int .i64 0, .int .i64 0, .int .i64 0, .int .i64 0, .int .i64 0, .int .i64 0, .int .i64 0, .int .i64 0, .int .i64 0, .int .i64 0] := by have h := (((((((((((((hX.set_ 0 (.int .i64 0)).set_ 1 (.int .i64 0)).set_ 2 (.int .i64 0)).set_ 3 (.int .i64 0)).set_ 4 (.int .i64 0)).set_ 5 (.int .i64 0)).set_ 6 (.int .i64 0)).set_ 7 (.int .i64 0)).set_ 8 (.int .i64 0)).set_ 9 (.int .i64 0)).set_ 10 (.int .i64 0)).set_ 11 (.int .i64 0)).set_ 12 (.int .i64 0)); simpa using h
    have hle0 : w.heap.size ≤ w.heap.size := by first | exact Nat.le_refl _ | omega
    have hWf : Below w.heap.size w (((((((((((((w0.setCell ⟨w.heap.size, 0, none⟩ (.int .i64 0)).setCell ⟨w.heap.size, 1, none⟩ (.int .i64 0)).setCell ⟨w.heap.size, 2, none⟩ (.int .i64 0)).setCell ⟨w.heap.size, 3, none⟩ (.int .i64 0)).setCell ⟨w.heap.size, 4, none⟩ (.int .i64 0)).setCell ⟨w.heap.size, 5, none⟩ (.int .i64 0)).setCell ⟨w.heap.size, 6, none⟩ (.int .i64 0)).setCell ⟨w.heap.size, 7, none⟩ (.int .i64 0)).setCell ⟨w.heap.size, 8, none⟩ (.int .i64 0)).setCell ⟨w.heap.size, 9, none⟩ (.int .i64 0)).setCell ⟨w.heap.size, 10, none⟩ (.int .i64 0)).setCell ⟨w.heap.size, 11, none⟩ (.int .i64 0)).setCell ⟨w.heap.size, 12, none⟩ (.int .i64 0)) := (((((((((((((hB.setCell (p := ⟨w.heap.size, 0, none⟩) hle0 (.int .i64 0)).setCell (p := ⟨w.heap.size, 1, none⟩) hle0 (.int .i64 0)).setCell (p := ⟨w.heap.size, 2, none⟩) hle0 (.int .i64 0)).setCell (p := ⟨w.heap.size, 3, none⟩) hle0 (.int .i64 0)).setCell (p := ⟨w.heap.size, 4, none⟩) hle0 (.int .i64 0)).setCell (p := ⟨w.heap.size, 5, none⟩) hle0 (.int .i64 0)).setCell (p := ⟨w.heap.size, 6, none⟩) hle0 (.int .i64 0)).setCell (p := ⟨w.heap.size, 7, none⟩) hle0 (.int .i64 0)).setCell (p := ⟨w.heap.size, 8, none⟩) hle0 (.int .i64 0)).setCell (p := ⟨w.heap.size, 9, none⟩) hle0 (.int .i64 0)).setCell (p := ⟨w.heap.size, 10, none⟩) hle0 (.int .i64 0)).setCell (p := ⟨w.heap.size, 11, none⟩) hle0 (.int .i64 0)).setCell (p := ⟨w.heap.size, 12, none⟩) hle0 (.int .i64 0))
    have hlF := hF.lt
    generalize (((((((((((((w0.setCell ⟨w.heap.size, 0, none⟩ (.int .i64 0)).setCell ⟨w.heap.size, 1, none⟩ (.int .i64 0)).setCell ⟨w.heap.size, 2, none⟩ (.int .i64 0)).setCell ⟨w.heap.size, 3, none⟩ (.int .i64 0)).setCell ⟨w.heap.size, 4, none⟩ (.int .i64 0)).setCell ⟨w.heap.size, 5, none⟩ (.int .i64 0)).setCell ⟨w.heap.size, 6, none⟩ (.int .i64 0)).setCell ⟨w.heap.size, 7, none⟩ (.int .i64 0)).setCell ⟨w.heap.size, 8, none⟩ (.int .i64 0)).setCell ⟨w.heap.size, 9, none⟩ (.int .i64 0)).setCell ⟨w.heap.size, 10, none⟩ (.int .i64 0)).setCell ⟨w.heap.size, 11, none⟩ (.int .i64 0)).setCell ⟨w.heap.size, 12, none⟩ (.int .i64 0)) = wf at *
    have r0 : wf.cell? ⟨w.heap.size, 0, none⟩ = some (.int .i64 0) := hF.cell 0
    have r1 : wf.cell? ⟨w.heap.size, 1, none⟩ = some (.int .i64 0) := hF.cell 1
    have r2 : wf.cell? ⟨w.heap.size, 2, none⟩ = some (.int .i64 0) := hF.cell 2
    have r3 : wf.cell? ⟨w.heap.size, 3, none⟩ = some (.int .i64 0) := hF.cell 3
    have r4 : wf.cell? ⟨w.heap.size, 4, none⟩ = some (.int .i64 0) := hF.cell 4
    have r5 : wf.cell? ⟨w.heap.size, 5, none⟩ = some (.int .i64 0) := hF.cell 5
    have r6 : wf.cell? ⟨w.heap.size, 6, none⟩ = some (.int .i64 0) := hF.cell 6
    have r7 : wf.cell? ⟨w.heap.size, 7, none⟩ = some (.int .i64 0) := hF.cell 7
    have r8 : wf.cell? ⟨w.heap.size, 8, none⟩ = some (.int .i64 0) := hF.cell 8
    have r9 : wf.cell? ⟨w.heap.size, 9, none⟩ = some (.int .i64 0) := hF.cell 9
    have r10 : wf.cell? ⟨w.heap.size, 10, none⟩ = some (.int .i64 0) := hF.cell 10
    have r11 : wf.cell? ⟨w.heap.size, 11, none⟩ = some (.int .i64 0) := hF.cell 11
    have r12 : wf.cell? ⟨w.heap.size, 12, none⟩ = some (.int .i64 0) := hF.cell 12
    refine bodyPost_ret (v := .tuple #[.agg #[.int .i64 0, .int .i64 0, .int .i64 0, .int .i64 0, .int .i64 0, .int .i64 0, .int .i64 0, .int .i64 0, .int .i64 0, .int .i64 0, .int .i64 0, .int .i64 0, .int .i64 0], .int .i64 2]) (by simp [results, Tryz.results64, go_sem, r0, r1, r2, r3, r4, r5, r6, r7, r8, r9, r10, r11, r12, hlF]) rfl ?_
    exact ⟨rfl, hWf⟩
  · have g : decide ((n : Int) < 2) = false := decide_eq_false (by omega)
    obtain ⟨s0, hs0⟩ : ∃ s0, gS l 0 = s0 := ⟨_, rfl⟩
    obtain ⟨s1, hs1⟩ : ∃ s1, gS l 1 = s1 := ⟨_, rfl⟩
    obtain ⟨op, hop⟩ : ∃ op, opF s0 = op := ⟨_, rfl⟩
    obtain ⟨kd, hkd⟩ : ∃ kd, kdF s1 = kd := ⟨_, rfl⟩
    unfold parseD at hz
    rw [if_neg (by rw [HD.out]; exact hn2), hs0, hs1, hop, hkd] at hz
    have hw0 : (Lit.int .i64 op).wf = true := by rw [← hop]; exact opF_wf _
    have hw1 : (Lit.int .i64 kd).wf = true := by rw [← hkd]; exact kdF_wf _
    have HOP := Lib.hid (show placeF opW s0 = op by rw [place_op]; exact hop)
    have HKD := Lib.hid (show placeF kdW s1 = kd by rw [place_kd]; exact hkd)
    obtain ⟨al, hA, hab, c0⟩ := h.lst.atS HD.out (show 0 < n by omega)
    subst hA
    obtain ⟨al', hA', _, c1⟩ := h.lst.atS HD.out (show 1 < n by omega)
    injection hA' with hA'
    subst hA'
    rw [hs0, Addr.add_zero'] at c0
    rw [hs1] at c1
    have HZ := Lib.hid hz
    clear hs0 hs1 hop hkd hz
    go_upto_region 3 with fail
    clear g
    go_cut [4, 5] (fun a b wx => a = .int .i64 op ∧ b = .int .i64 kd ∧ Below w0.heap.size w0 wx)
    case first =>
      have b0 : (0 : Int) < (n : Int) := by omega
      have b00 : ¬ n = 0 := by omega
      have b1 : (1 : Int) < (n : Int) := by omega
      clear hX hB hs h HZ HSZ hw0 hw1
      refine gen_frame ?_
      intro a0 ha0
      try simp only [List.append]
      refine wp_region_frames rfl (by kernel_rfl) (by kernel_rfl) (fun V x w' => Below w0.heap.size w0 w' ∧ (V.getD 0 true = true → ∃ b, x 0 = .slice (some ⟨b, 0, none⟩) 4 4 ∧ Sl w' w'.heap.size 1 (some ⟨b, 0, none⟩) 4 4 (vs opW)) ∧ (V.getD 1 true = true → x 1 = .slice (some al) n c) ∧ (V.getD 2 true = true → ∃ ad, x 2 = .pointer (some ad) ∧ w'.cell? ad = some (.string (bs s0))) ∧ (V.getD 3 true = true → x 3 = .string (bs s0)) ∧ (V.getD 4 true = true → x 4 = .int .i64 op) ∧ (V.getD 5 true = true → ∃ b, x 5 = .slice (some ⟨b, 0, none⟩) 3 3 ∧ Sl w' w'.heap.size 1 (some ⟨b, 0, none⟩) 3 3 (vs kdW)) ∧ (V.getD 6 true = true → x 6 = .slice (some al) n c) ∧ (V.getD 7 true = true → ∃ ad, x 7 = .pointer (some ad) ∧ w'.cell? ad = some (.string (bs s1))) ∧ (V.getD 8 true = true → x 8 = .string (bs s1)) ∧ (V.getD 9 true = true → x 9 = .int .i64 kd) ∧ (V.getD 10 true = true → x 10 = .int .i64 op) ∧ (V.getD 11 true = true → x 11 = .int .i64 kd)) ?_ ?_ ?_
      · intro x
        refine ⟨(Below.refl _ _).drew, ?_, ?_, ?_, ?_, ?_, ?_, ?_, ?_, ?_, ?_, ?_, ?_⟩ <;> exact fun h => by simp at h
      · intro V x b w' hbq hsz hF i hi hun haf hcl
        obtain ⟨hBw, f0, f1, f2, f3, f4, f5, f6, f7, f8, f9, f10, f11⟩ := hF
        have hbe : b = putAll a0 [some 14, some 15, some 16, some 17, some 18, some 19, some 20, some 21, some 22, some 23, some 4, some 5] x 0 := hbq
        have hz0 : a0.tmps.size = 66 := by rw [ha0]; rfl
        have e0 : b.eval (.tmp 0) = .slice (some al) n c := by rw [hbe, eval_out _ _ _ (by decide), ha0]; rfl
        have t0 : b.tmps[0]?.getD undef = .slice (some al) n c := by simpa [Act.eval] using e0
        clear hbq
        have hi' : i < 12 := hi
        clear hi
        obtain rfl | rfl | rfl | rfl | rfl | rfl | rfl | rfl | rfl | rfl | rfl | rfl : i = 0 ∨ i = 1 ∨ i = 2 ∨ i = 3 ∨ i = 4 ∨ i = 5 ∨ i = 6 ∨ i = 7 ∨ i = 8 ∨ i = 9 ∨ i = 10 ∨ i = 11 := by omega
        · refine wpOp_of rfl ?_
          refine step_call rfl 107 #[] _ rfl #[] (by simp) Tryz.func107 rfl rfl ?_
          refine (opw_ex _).mono ?_
          rintro e w'' ⟨b0, rfl, hs0, hb⟩
          exact ⟨_, rfl, _, _, rfl, rfl, ⟨hBw.trans (hb.mono hBw.size), fun _ => ⟨b0, upd_same _ _ _, hs0⟩, fun h => by rw [upd_ne x _ (by decide)]; exact f1 (by rw [← getD_set_ne true (show 0 ≠ 1 by decide)]; exact h), fun h => by obtain ⟨ad, hx, hc0⟩ := f2 (by rw [← getD_set_ne true (show 0 ≠ 2 by decide)]; exact h); exact ⟨ad, by rw [upd_ne x _ (by decide)]; exact hx, (hb.cell (block_lt_of_cell hc0)).trans hc0⟩, fun h => by rw [upd_ne x _ (by decide)]; exact f3 (by rw [← getD_set_ne true (show 0 ≠ 3 by decide)]; exact h), fun h => by rw [upd_ne x _ (by decide)]; exact f4 (by rw [← getD_set_ne true (show 0 ≠ 4 by decide)]; exact h), fun h => by obtain ⟨b0, hx, hs0⟩ := f5 (by rw [← getD_set_ne true (show 0 ≠ 5 by decide)]; exact h); exact ⟨b0, by rw [upd_ne x _ (by decide)]; exact hx, hs0.up hb⟩, fun h => by rw [upd_ne x _ (by decide)]; exact f6 (by rw [← getD_set_ne true (show 0 ≠ 6 by decide)]; exact h), fun h => by obtain ⟨ad, hx, hc0⟩ := f7 (by rw [← getD_set_ne true (show 0 ≠ 7 by decide)]; exact h); exact ⟨ad, by rw [upd_ne x _ (by decide)]; exact hx, (hb.cell (block_lt_of_cell hc0)).trans hc0⟩, fun h => by rw [upd_ne x _ (by decide)]; exact f8 (by rw [← getD_set_ne true (show 0 ≠ 8 by decide)]; exact h), fun h => by rw [upd_ne x _ (by decide)]; exact f9 (by rw [← getD_set_ne true (show 0 ≠ 9 by decide)]; exact h), fun h => by rw [upd_ne x _ (by decide)]; exact f10 (by rw [← getD_set_ne true (show 0 ≠ 10 by decide)]; exact h), fun h => by rw [upd_ne x _ (by decide)]; exact f11 (by rw [← getD_set_ne true (show 0 ≠ 11 by decide)]; exact h)⟩⟩
        · refine wpOp_runs (v := .slice (some al) n c) rfl rfl (by simp [execOp, go_sem, t0]) ⟨_, _, rfl, rfl, ⟨hBw, fun h => by obtain ⟨b0, hx, hs0⟩ := f0 (by rw [← getD_set_ne true (show 1 ≠ 0 by decide)]; exact h); exact ⟨b0, by rw [upd_ne x _ (by decide)]; exact hx, hs0⟩, fun _ => upd_same _ _ _, fun h => by obtain ⟨ad, hx, hc0⟩ := f2 (by rw [← getD_set_ne true (show 1 ≠ 2 by decide)]; exact h); exact ⟨ad, by rw [upd_ne x _ (by decide)]; exact hx, hc0⟩, fun h => by rw [upd_ne x _ (by decide)]; exact f3 (by rw [← getD_set_ne true (show 1 ≠ 3 by decide)]; exact h), fun h => by rw [upd_ne x _ (by decide)]; exact f4 (by rw [← getD_set_ne true (show 1 ≠ 4 by decide)]; exact h), fun h => by obtain ⟨b0, hx, hs0⟩ := f5 (by rw [← getD_set_ne true (show 1 ≠ 5 by decide)]; exact h); exact ⟨b0, by rw [upd_ne x _ (by decide)]; exact hx, hs0⟩, fun h => by rw [upd_ne x _ (by decide)]; exact f6 (by rw [← getD_set_ne true (show 1 ≠ 6 by decide)]; exact h), fun h => by obtain ⟨ad, hx, hc0⟩ := f7 (by rw [← getD_set_ne true (show 1 ≠ 7 by decide)]; exact h); exact ⟨ad, by rw [upd_ne x _ (by decide)]; exact hx, hc0⟩, fun h => by rw [upd_ne x _ (by decide)]; exact f8 (by rw [← getD_set_ne true (show 1 ≠ 8 by decide)]; exact h), fun h => by rw [upd_ne x _ (by decide)]; exact f9 (by rw [← getD_set_ne true (show 1 ≠ 9 by decide)]; exact h), fun h => by rw [upd_ne x _ (by decide)]; exact f10 (by rw [← getD_set_ne true (show 1 ≠ 10 by decide)]; exact h), fun h => by rw [upd_ne x _ (by decide)]; exact f11 (by rw [← getD_set_ne true (show 1 ≠ 11 by decide)]; exact h)⟩⟩
        · have d1 := getD_ft (haf _ rfl ⟨1, .data⟩ (by simp) rfl)
          have e15 : b.eval (.tmp 15) = .slice (some al) n c := by rw [hbe, eval_in _ _ _ 1 (by decide) rfl (by rw [hz0]; decide)]; exact f1 d1
          have t15 : b.tmps[15]?.getD undef = .slice (some al) n c := by have tv := e15; simpa only [Act.eval, Array.getD_eq_getD_getElem?] using tv
          have cc := (hBw.cell (block_lt_of_cell c0)).trans c0
          refine wpOp_runs (v := .pointer (some al)) rfl rfl (by simp [execOp, go_sem, t15, b0, b00]) ⟨_, _, rfl, rfl, ⟨hBw, fun h => by obtain ⟨b0, hx, hs0⟩ := f0 (by rw [← getD_set_ne true (show 2 ≠ 0 by decide)]; exact h); exact ⟨b0, by rw [upd_ne x _ (by decide)]; exact hx, hs0⟩, fun h => by rw [upd_ne x _ (by decide)]; exact f1 (by rw [← getD_set_ne true (show 2 ≠ 1 by decide)]; exact h), fun _ => ⟨_, upd_same _ _ _, cc⟩, fun h => by rw [upd_ne x _ (by decide)]; exact f3 (by rw [← getD_set_ne true (show 2 ≠ 3 by decide)]; exact h), fun h => by rw [upd_ne x _ (by decide)]; exact f4 (by rw [← getD_set_ne true (show 2 ≠ 4 by decide)]; exact h), fun h => by obtain ⟨b0, hx, hs0⟩ := f5 (by rw [← getD_set_ne true (show 2 ≠ 5 by decide)]; exact h); exact ⟨b0, by rw [upd_ne x _ (by decide)]; exact hx, hs0⟩, fun h => by rw [upd_ne x _ (by decide)]; exact f6 (by rw [← getD_set_ne true (show 2 ≠ 6 by decide)]; exact h), fun h => by obtain ⟨ad, hx, hc0⟩ := f7 (by rw [← getD_set_ne true (show 2 ≠ 7 by decide)]; exact h); exact ⟨ad, by rw [upd_ne x _ (by decide)]; exact hx, hc0⟩, fun h => by rw [upd_ne x _ (by decide)]; exact f8 (by rw [← getD_set_ne true (show 2 ≠ 8 by decide)]; exact h), fun h => by rw [upd_ne x _ (by decide)]; exact f9 (by rw [← getD_set_ne true (show 2 ≠ 9 by decide)]; exact h), fun h => by rw [upd_ne x _ (by decide)]; exact f10 (by rw [← getD_set_ne true (show 2 ≠ 10 by decide)]; exact h), fun h => by rw [upd_ne x _ (by decide)]; exact f11 (by rw [← getD_set_ne true (show 2 ≠ 11 by decide)]; exact h)⟩⟩
        · have d2 := getD_ft (haf _ rfl ⟨2, .data⟩ (by simp) rfl)
          obtain ⟨ad, hx0, hc0⟩ := f2 d2
          have e16 : b.eval (.tmp 16) = .pointer (some ad) := by rw [hbe, eval_in _ _ _ 2 (by decide) rfl (by rw [hz0]; decide)]; exact hx0
          have t16 : b.tmps[16]?.getD undef = .pointer (some ad) := by have tv := e16; simpa only [Act.eval, Array.getD_eq_getD_getElem?] using tv
          refine wpOp_runs (v := .string (bs s0)) rfl rfl (by simp [execOp, go_sem, t16, hc0]) ⟨_, _, rfl, rfl, ⟨hBw, fun h => by obtain ⟨b0, hx, hs0⟩ := f0 (by rw [← getD_set_ne true (show 3 ≠ 0 by decide)]; exact h); exact ⟨b0, by rw [upd_ne x _ (by decide)]; exact hx, hs0⟩, fun h => by rw [upd_ne x _ (by decide)]; exact f1 (by rw [← getD_set_ne true (show 3 ≠ 1 by decide)]; exact h), fun h => by obtain ⟨ad, hx, hc0⟩ := f2 (by rw [← getD_set_ne true (show 3 ≠ 2 by decide)]; exact h); exact ⟨ad, by rw [upd_ne x _ (by decide)]; exact hx, hc0⟩, fun _ => upd_same _ _ _, fun h => by rw [upd_ne x _ (by decide)]; exact f4 (by rw [← getD_set_ne true (show 3 ≠ 4 by decide)]; exact h), fun h => by obtain ⟨b0, hx, hs0⟩ := f5 (by rw [← getD_set_ne true (show 3 ≠ 5 by decide)]; exact h); exact ⟨b0, by rw [upd_ne x _ (by decide)]; exact hx, hs0⟩, fun h => by rw [upd_ne x _ (by decide)]; exact f6 (by rw [← getD_set_ne true (show 3 ≠ 6 by decide)]; exact h), fun h => by obtain ⟨ad, hx, hc0⟩ := f7 (by rw [← getD_set_ne true (show 3 ≠ 7 by decide)]; exact h); exact ⟨ad, by rw [upd_ne x _ (by decide)]; exact hx, hc0⟩, fun h => by rw [upd_ne x _ (by decide)]; exact f8 (by rw [← getD_set_ne true (show 3 ≠ 8 by decide)]; exact h), fun h => by rw [upd_ne x _ (by decide)]; exact f9 (by rw [← getD_set_ne true (show 3 ≠ 9 by decide)]; exact h), fun h => by rw [upd_ne x _ (by decide)]; exact f10 (by rw [← getD_set_ne true (show 3 ≠ 10 by decide)]; exact h), fun h => by rw [upd_ne x _ (by decide)]; exact f11 (by rw [← getD_set_ne true (show 3 ≠ 11 by decide)]; exact h)⟩⟩
        · have d0 := getD_ft (haf _ rfl ⟨0, .data⟩ (by simp) rfl)
          have d3 := getD_ft (haf _ rfl ⟨3, .data⟩ (by simp) rfl)
          obtain ⟨b0, hx0, hs0⟩ := f0 d0
          have e14 : b.eval (.tmp 14) = .slice (some ⟨b0, 0, none⟩) 4 4 := by rw [hbe, eval_in _ _ _ 0 (by decide) rfl (by rw [hz0]; decide)]; exact hx0
          have t14 : b.tmps[14]?.getD undef = .slice (some ⟨b0, 0, none⟩) 4 4 := by have tv := e14; simpa only [Act.eval, Array.getD_eq_getD_getElem?] using tv
          have e17 : b.eval (.tmp 17) = .string (bs s0) := by rw [hbe, eval_in _ _ _ 3 (by decide) rfl (by rw [hz0]; decide)]; exact f3 d3
          have t17 : b.tmps[17]?.getD undef = .string (bs s0) := by have tv := e17; simpa only [Act.eval, Array.getD_eq_getD_getElem?] using tv
          refine wpOp_of rfl ?_
          refine step_call rfl 106 #[.tmp 14, .tmp 17] _ rfl #[.slice (some ⟨b0, 0, none⟩) 4 4, .string (bs s0)] (by simp [e14, e17]) Tryz.func106 rfl rfl ?_
          refine (place_any (some ⟨b0, 0, none⟩) 4 4 opW s0 w' rfl (by omega) hs0 op HOP.out).mono ?_
          rintro e w'' ⟨rfl, hb⟩
          exact ⟨_, rfl, _, _, rfl, rfl, ⟨hBw.trans (hb.mono hBw.size), fun h => by obtain ⟨b0, hx, hs0⟩ := f0 (by rw [← getD_set_ne true (show 4 ≠ 0 by decide)]; exact h); exact ⟨b0, by rw [upd_ne x _ (by decide)]; exact hx, hs0.up hb⟩, fun h => by rw [upd_ne x _ (by decide)]; exact f1 (by rw [← getD_set_ne true (show 4 ≠ 1 by decide)]; exact h), fun h => by obtain ⟨ad, hx, hc0⟩ := f2 (by rw [← getD_set_ne true (show 4 ≠ 2 by decide)]; exact h); exact ⟨ad, by rw [upd_ne x _ (by decide)]; exact hx, (hb.cell (block_lt_of_cell hc0)).trans hc0⟩, fun h => by rw [upd_ne x _ (by decide)]; exact f3 (by rw [← getD_set_ne true (show 4 ≠ 3 by decide)]; exact h), fun _ => upd_same _ _ _, fun h => by obtain ⟨b0, hx, hs0⟩ := f5 (by rw [← getD_set_ne true (show 4 ≠ 5 by decide)]; exact h); exact ⟨b0, by rw [upd_ne x _ (by decide)]; exact hx, hs0.up hb⟩, fun h => by rw [upd_ne x _ (by decide)]; exact f6 (by rw [← getD_set_ne true (show 4 ≠ 6 by decide)]; exact h), fun h => by obtain ⟨ad, hx, hc0⟩ := f7 (by rw [← getD_set_ne true (show 4 ≠ 7 by decide)]; exact h); exact ⟨ad, by rw [upd_ne x _ (by decide)]; exact hx, (hb.cell (block_lt_of_cell hc0)).trans hc0⟩, fun h => by rw [upd_ne x _ (by decide)]; exact f8 (by rw [← getD_set_ne true (show 4 ≠ 8 by decide)]; exact h), fun h => by rw [upd_ne x _ (by decide)]; exact f9 (by rw [← getD_set_ne true (show 4 ≠ 9 by decide)]; exact h), fun h => by rw [upd_ne x _ (by decide)]; exact f10 (by rw [← getD_set_ne true (show 4 ≠ 10 by decide)]; exact h), fun h => by rw [upd_ne x _ (by decide)]; exact f11 (by rw [← getD_set_ne true (show 4 ≠ 11 by decide)]; exact h)⟩⟩
        · refine wpOp_of rfl ?_
          refine step_call rfl 108 #[] _ rfl #[] (by simp) Tryz.func108 rfl rfl ?_
          refine (kdw_ex _).mono ?_
          rintro e w'' ⟨b0, rfl, hs0, hb⟩
          exact ⟨_, rfl, _, _, rfl, rfl, ⟨hBw.trans (hb.mono hBw.size), fun h => by obtain ⟨b0, hx, hs0⟩ := f0 (by rw [← getD_set_ne true (show 5 ≠ 0 by decide)]; exact h); exact ⟨b0, by rw [upd_ne x _ (by decide)]; exact hx, hs0.up hb⟩, fun h => by rw [upd_ne x _ (by decide)]; exact f1 (by rw [← getD_set_ne true (show 5 ≠ 1 by decide)]; exact h), fun h => by obtain ⟨ad, hx, hc0⟩ := f2 (by rw [← getD_set_ne true (show 5 ≠ 2 by decide)]; exact h); exact ⟨ad, by rw [upd_ne x _ (by decide)]; exact hx, (hb.cell (block_lt_of_cell hc0)).trans hc0⟩, fun h => by rw [upd_ne x _ (by decide)]; exact f3 (by rw [← getD_set_ne true (show 5 ≠ 3 by decide)]; exact h), fun h => by rw [upd_ne x _ (by decide)]; exact f4 (by rw [← getD_set_ne true (show 5 ≠ 4 by decide)]; exact h), fun _ => ⟨b0, upd_same _ _ _, hs0⟩, fun h => by rw [upd_ne x _ (by decide)]; exact f6 (by rw [← getD_set_ne true (show 5 ≠ 6 by decide)]; exact h), fun h => by obtain ⟨ad, hx, hc0⟩ := f7 (by rw [← getD_set_ne true (show 5 ≠ 7 by decide)]; exact h); exact ⟨ad, by rw [upd_ne x _ (by decide)]; exact hx, (hb.cell (block_lt_of_cell hc0)).trans hc0⟩, fun h => by rw [upd_ne x _ (by decide)]; exact f8 (by rw [← getD_set_ne true (show 5 ≠ 8 by decide)]; exact h), fun h => by rw [upd_ne x _ (by decide)]; exact f9 (by rw [← getD_set_ne true (show 5 ≠ 9 by decide)]; exact h), fun h => by rw [upd_ne x _ (by decide)]; exact f10 (by rw [← getD_set_ne true (show 5 ≠ 10 by decide)]; exact h), fun h => by rw [upd_ne x _ (by decide)]; exact f11 (by rw [← getD_set_ne true (show 5 ≠ 11 by decide)]; exact h)⟩⟩
        · refine wpOp_runs (v := .slice (some al) n c) rfl rfl (by simp [execOp, go_sem, t0]) ⟨_, _, rfl, rfl, ⟨hBw, fun h => by obtain ⟨b0, hx, hs0⟩ := f0 (by rw [← getD_set_ne true (show 6 ≠ 0 by decide)]; exact h); exact ⟨b0, by rw [upd_ne x _ (by decide)]; exact hx, hs0⟩, fun h => by rw [upd_ne x _ (by decide)]; exact f1 (by rw [← getD_set_ne true (show 6 ≠ 1 by decide)]; exact h), fun h => by obtain ⟨ad, hx, hc0⟩ := f2 (by rw [← getD_set_ne true (show 6 ≠ 2 by decide)]; exact h); exact ⟨ad, by rw [upd_ne x _ (by decide)]; exact hx, hc0⟩, fun h => by rw [upd_ne x _ (by decide)]; exact f3 (by rw [← getD_set_ne true (show 6 ≠ 3 by decide)]; exact h), fun h => by rw [upd_ne x _ (by decide)]; exact f4 (by rw [← getD_set_ne true (show 6 ≠ 4 by decide)]; exact h), fun h => by obtain ⟨b0, hx, hs0⟩ := f5 (by rw [← getD_set_ne true (show 6 ≠ 5 by decide)]; exact h); exact ⟨b0, by rw [upd_ne x _ (by decide)]; exact hx, hs0⟩, fun _ => upd_same _ _ _, fun h => by obtain ⟨ad, hx, hc0⟩ := f7 (by rw [← getD_set_ne true (show 6 ≠ 7 by decide)]; exact h); exact ⟨ad, by rw [upd_ne x _ (by decide)]; exact hx, hc0⟩, fun h => by rw [upd_ne x _ (by decide)]; exact f8 (by rw [← getD_set_ne true (show 6 ≠ 8 by decide)]; exact h), fun h => by rw [upd_ne x _ (by decide)]; exact f9 (by rw [← getD_set_ne true (show 6 ≠ 9 by decide)]; exact h), fun h => by rw [upd_ne x _ (by decide)]; exact f10 (by rw [← getD_set_ne true (show 6 ≠ 10 by decide)]; exact h), fun h => by rw [upd_ne x _ (by decide)]; exact f11 (by rw [← getD_set_ne true (show 6 ≠ 11 by decide)]; exact h)⟩⟩
        · have d6 := getD_ft (haf _ rfl ⟨6, .data⟩ (by simp) rfl)
          have e20 : b.eval (.tmp 20) = .slice (some al) n c := by rw [hbe, eval_in _ _ _ 6 (by decide) rfl (by rw [hz0]; decide)]; exact f6 d6
          have t20 : b.tmps[20]?.getD undef = .slice (some al) n c := by have tv := e20; simpa only [Act.eval, Array.getD_eq_getD_getElem?] using tv
          have cc := (hBw.cell (block_lt_of_cell c1)).trans c1
          refine wpOp_runs (v := .pointer (some (al.add 1))) rfl rfl (by simp [execOp, go_sem, t20, b1]) ⟨_, _, rfl, rfl, ⟨hBw, fun h => by obtain ⟨b0, hx, hs0⟩ := f0 (by rw [← getD_set_ne true (show 7 ≠ 0 by decide)]; exact h); exact ⟨b0, by rw [upd_ne x _ (by decide)]; exact hx, hs0⟩, fun h => by rw [upd_ne x _ (by decide)]; exact f1 (by rw [← getD_set_ne true (show 7 ≠ 1 by decide)]; exact h), fun h => by obtain ⟨ad, hx, hc0⟩ := f2 (by rw [← getD_set_ne true (show 7 ≠ 2 by decide)]; exact h); exact ⟨ad, by rw [upd_ne x _ (by decide)]; exact hx, hc0⟩, fun h => by rw [upd_ne x _ (by decide)]; exact f3 (by rw [← getD_set_ne true (show 7 ≠ 3 by decide)]; exact h), fun h => by rw [upd_ne x _ (by decide)]; exact f4 (by rw [← getD_set_ne true (show 7 ≠ 4 by decide)]; exact h), fun h => by obtain ⟨b0, hx, hs0⟩ := f5 (by rw [← getD_set_ne true (show 7 ≠ 5 by decide)]; exact h); exact ⟨b0, by rw [upd_ne x _ (by decide)]; exact hx, hs0⟩, fun h => by rw [upd_ne x _ (by decide)]; exact f6 (by rw [← getD_set_ne true (show 7 ≠ 6 by decide)]; exact h), fun _ => ⟨_, upd_same _ _ _, cc⟩, fun h => by rw [upd_ne x _ (by decide)]; exact f8 (by rw [← getD_set_ne true (show 7 ≠ 8 by decide)]; exact h), fun h => by rw [upd_ne x _ (by decide)]; exact f9 (by rw [← getD_set_ne true (show 7 ≠ 9 by decide)]; exact h), fun h => by rw [upd_ne x _ (by decide)]; exact f10 (by rw [← getD_set_ne true (show 7 ≠ 10 by decide)]; exact h), fun h => by rw [upd_ne x _ (by decide)]; exact f11 (by rw [← getD_set_ne true (show 7 ≠ 11 by decide)]; exact h)⟩⟩
        · have d7 := getD_ft (haf _ rfl ⟨7, .data⟩ (by simp) rfl)
          obtain ⟨ad, hx0, hc0⟩ := f7 d7
          have e21 : b.eval (.tmp 21) = .pointer (some ad) := by rw [hbe, eval_in _ _ _ 7 (by decide) rfl (by rw [hz0]; decide)]; exact hx0
          have t21 : b.tmps[21]?.getD undef = .pointer (some ad) := by have tv := e21; simpa only [Act.eval, Array.getD_eq_getD_getElem?] using tv
          refine wpOp_runs (v := .string (bs s1)) rfl rfl (by simp [execOp, go_sem, t21, hc0]) ⟨_, _, rfl, rfl, ⟨hBw, fun h => by obtain ⟨b0, hx, hs0⟩ := f0 (by rw [← getD_set_ne true (show 8 ≠ 0 by decide)]; exact h); exact ⟨b0, by rw [upd_ne x _ (by decide)]; exact hx, hs0⟩, fun h => by rw [upd_ne x _ (by decide)]; exact f1 (by rw [← getD_set_ne true (show 8 ≠ 1 by decide)]; exact h), fun h => by obtain ⟨ad, hx, hc0⟩ := f2 (by rw [← getD_set_ne true (show 8 ≠ 2 by decide)]; exact h); exact ⟨ad, by rw [upd_ne x _ (by decide)]; exact hx, hc0⟩, fun h => by rw [upd_ne x _ (by decide)]; exact f3 (by rw [← getD_set_ne true (show 8 ≠ 3 by decide)]; exact h), fun h => by rw [upd_ne x _ (by decide)]; exact f4 (by rw [← getD_set_ne true (show 8 ≠ 4 by decide)]; exact h), fun h => by obtain ⟨b0, hx, hs0⟩ := f5 (by rw [← getD_set_ne true (show 8 ≠ 5 by decide)]; exact h); exact ⟨b0, by rw [upd_ne x _ (by decide)]; exact hx, hs0⟩, fun h => by rw [upd_ne x _ (by decide)]; exact f6 (by rw [← getD_set_ne true (show 8 ≠ 6 by decide)]; exact h), fun h => by obtain ⟨ad, hx, hc0⟩ := f7 (by rw [← getD_set_ne true (show 8 ≠ 7 by decide)]; exact h); exact ⟨ad, by rw [upd_ne x _ (by decide)]; exact hx, hc0⟩, fun _ => upd_same _ _ _, fun h => by rw [upd_ne x _ (by decide)]; exact f9 (by rw [← getD_set_ne true (show 8 ≠ 9 by decide)]; exact h), fun h => by rw [upd_ne x _ (by decide)]; exact f10 (by rw [← getD_set_ne true (show 8 ≠ 10 by decide)]; exact h), fun h => by rw [upd_ne x _ (by decide)]; exact f11 (by rw [← getD_set_ne true (show 8 ≠ 11 by decide)]; exact h)⟩⟩
        · have d5 := getD_ft (haf _ rfl ⟨5, .data⟩ (by simp) rfl)
          have d8 := getD_ft (haf _ rfl ⟨8, .data⟩ (by simp) rfl)
          obtain ⟨b0, hx0, hs0⟩ := f5 d5
          have e19 : b.eval (.tmp 19) = .slice (some ⟨b0, 0, none⟩) 3 3 := by rw [hbe, eval_in _ _ _ 5 (by decide) rfl (by rw [hz0]; decide)]; exact hx0
          have t19 : b.tmps[19]?.getD undef = .slice (some ⟨b0, 0, none⟩) 3 3 := by have tv := e19; simpa only [Act.eval, Array.getD_eq_getD_getElem?] using tv
          have e22 : b.eval (.tmp 22) = .string (bs s1) := by rw [hbe, eval_in _ _ _ 8 (by decide) rfl (by rw [hz0]; decide)]; exact f8 d8
          have t22 : b.tmps[22]?.getD undef = .string (bs s1) := by have tv := e22; simpa only [Act.eval, Array.getD_eq_getD_getElem?] using tv
          refine wpOp_of rfl ?_
          refine step_call rfl 106 #[.tmp 19, .tmp 22] _ rfl #[.slice (some ⟨b0, 0, none⟩) 3 3, .string (bs s1)] (by simp [e19, e22]) Tryz.func106 rfl rfl ?_
          refine (place_any (some ⟨b0, 0, none⟩) 3 3 kdW s1 w' rfl (by omega) hs0 kd HKD.out).mono ?_
          rintro e w'' ⟨rfl, hb⟩
          exact ⟨_, rfl, _, _, rfl, rfl, ⟨hBw.trans (hb.mono hBw.size), fun h => by obtain ⟨b0, hx, hs0⟩ := f0 (by rw [← getD_set_ne true (show 9 ≠ 0 by decide)]; exact h); exact ⟨b0, by rw [upd_ne x _ (by decide)]; exact hx, hs0.up hb⟩, fun h => by rw [upd_ne x _ (by decide)]; exact f1 (by rw [← getD_set_ne true (show 9 ≠ 1 by decide)]; exact h), fun h => by obtain ⟨ad, hx, hc0⟩ := f2 (by rw [← getD_set_ne true (show 9 ≠ 2 by decide)]; exact h); exact ⟨ad, by rw [upd_ne x _ (by decide)]; exact hx, (hb.cell (block_lt_of_cell hc0)).trans hc0⟩, fun h => by rw [upd_ne x _ (by decide)]; exact f3 (by rw [← getD_set_ne true (show 9 ≠ 3 by decide)]; exact h), fun h => by rw [upd_ne x _ (by decide)]; exact f4 (by rw [← getD_set_ne true (show 9 ≠ 4 by decide)]; exact h), fun h => by obtain ⟨b0, hx, hs0⟩ := f5 (by rw [← getD_set_ne true (show 9 ≠ 5 by decide)]; exact h); exact ⟨b0, by rw [upd_ne x _ (by decide)]; exact hx, hs0.up hb⟩, fun h => by rw [upd_ne x _ (by decide)]; exact f6 (by rw [← getD_set_ne true (show 9 ≠ 6 by decide)]; exact h), fun h => by obtain ⟨ad, hx, hc0⟩ := f7 (by rw [← getD_set_ne true (show 9 ≠ 7 by decide)]; exact h); exact ⟨ad, by rw [upd_ne x _ (by decide)]; exact hx, (hb.cell (block_lt_of_cell hc0)).trans hc0⟩, fun h => by rw [upd_ne x _ (by decide)]; exact f8 (by rw [← getD_set_ne true (show 9 ≠ 8 by decide)]; exact h), fun _ => upd_same _ _ _, fun h => by rw [upd_ne x _ (by decide)]; exact f10 (by rw [← getD_set_ne true (show 9 ≠ 10 by decide)]; exact h), fun h => by rw [upd_ne x _ (by decide)]; exact f11 (by rw [← getD_set_ne true (show 9 ≠ 11 by decide)]; exact h)⟩⟩
        · have d4 := getD_ft (haf _ rfl ⟨4, .data⟩ (by simp) rfl)
          have e18 : b.eval (.tmp 18) = .int .i64 op := by rw [hbe, eval_in _ _ _ 4 (by decide) rfl (by rw [hz0]; decide)]; exact f4 d4
          have t18 : b.tmps[18]?.getD undef = .int .i64 op := by have tv := e18; simpa only [Act.eval, Array.getD_eq_getD_getElem?] using tv
          refine wpOp_runs (v := .int .i64 op) rfl rfl (by simp [execOp, go_sem, t18]) ⟨_, _, rfl, rfl, ⟨hBw, fun h => by obtain ⟨b0, hx, hs0⟩ := f0 (by rw [← getD_set_ne true (show 10 ≠ 0 by decide)]; exact h); exact ⟨b0, by rw [upd_ne x _ (by decide)]; exact hx, hs0⟩, fun h => by rw [upd_ne x _ (by decide)]; exact f1 (by rw [← getD_set_ne true (show 10 ≠ 1 by decide)]; exact h), fun h => by obtain ⟨ad, hx, hc0⟩ := f2 (by rw [← getD_set_ne true (show 10 ≠ 2 by decide)]; exact h); exact ⟨ad, by rw [upd_ne x _ (by decide)]; exact hx, hc0⟩, fun h => by rw [upd_ne x _ (by decide)]; exact f3 (by rw [← getD_set_ne true (show 10 ≠ 3 by decide)]; exact h), fun h => by rw [upd_ne x _ (by decide)]; exact f4 (by rw [← getD_set_ne true (show 10 ≠ 4 by decide)]; exact h), fun h => by obtain ⟨b0, hx, hs0⟩ := f5 (by rw [← getD_set_ne true (show 10 ≠ 5 by decide)]; exact h); exact ⟨b0, by rw [upd_ne x _ (by decide)]; exact hx, hs0⟩, fun h => by rw [upd_ne x _ (by decide)]; exact f6 (by rw [← getD_set_ne true (show 10 ≠ 6 by decide)]; exact h), fun h => by obtain ⟨ad, hx, hc0⟩ := f7 (by rw [← getD_set_ne true (show 10 ≠ 7 by decide)]; exact h); exact ⟨ad, by rw [upd_ne x _ (by decide)]; exact hx, hc0⟩, fun h => by rw [upd_ne x _ (by decide)]; exact f8 (by rw [← getD_set_ne true (show 10 ≠ 8 by decide)]; exact h), fun h => by rw [upd_ne x _ (by decide)]; exact f9 (by rw [← getD_set_ne true (show 10 ≠ 9 by decide)]; exact h), fun _ => upd_same _ _ _, fun h => by rw [upd_ne x _ (by decide)]; exact f11 (by rw [← getD_set_ne true (show 10 ≠ 11 by decide)]; exact h)⟩⟩
        · have d9 := getD_ft (haf _ rfl ⟨9, .data⟩ (by simp) rfl)
          have e23 : b.eval (.tmp 23) = .int .i64 kd := by rw [hbe, eval_in _ _ _ 9 (by decide) rfl (by rw [hz0]; decide)]; exact f9 d9
          have t23 : b.tmps[23]?.getD undef = .int .i64 kd := by have tv := e23; simpa only [Act.eval, Array.getD_eq_getD_getElem?] using tv
          refine wpOp_runs (v := .int .i64 kd) rfl rfl (by simp [execOp, go_sem, t23]) ⟨_, _, rfl, rfl, ⟨hBw, fun h => by obtain ⟨b0, hx, hs0⟩ := f0 (by rw [← getD_set_ne true (show 11 ≠ 0 by decide)]; exact h); exact ⟨b0, by rw [upd_ne x _ (by decide)]; exact hx, hs0⟩, fun h => by rw [upd_ne x _ (by decide)]; exact f1 (by rw [← getD_set_ne true (show 11 ≠ 1 by decide)]; exact h), fun h => by obtain ⟨ad, hx, hc0⟩ := f2 (by rw [← getD_set_ne true (show 11 ≠ 2 by decide)]; exact h); exact ⟨ad, by rw [upd_ne x _ (by decide)]; exact hx, hc0⟩, fun h => by rw [upd_ne x _ (by decide)]; exact f3 (by rw [← getD_set_ne true (show 11 ≠ 3 by decide)]; exact h), fun h => by rw [upd_ne x _ (by decide)]; exact f4 (by rw [← getD_set_ne true (show 11 ≠ 4 by decide)]; exact h), fun h => by obtain ⟨b0, hx, hs0⟩ := f5 (by rw [← getD_set_ne true (show 11 ≠ 5 by decide)]; exact h); exact ⟨b0, by rw [upd_ne x _ (by decide)]; exact hx, hs0⟩, fun h => by rw [upd_ne x _ (by decide)]; exact f6 (by rw [← getD_set_ne true (show 11 ≠ 6 by decide)]; exact h), fun h => by obtain ⟨ad, hx, hc0⟩ := f7 (by rw [← getD_set_ne true (show 11 ≠ 7 by decide)]; exact h); exact ⟨ad, by rw [upd_ne x _ (by decide)]; exact hx, hc0⟩, fun h => by rw [upd_ne x _ (by decide)]; exact f8 (by rw [← getD_set_ne true (show 11 ≠ 8 by decide)]; exact h), fun h => by rw [upd_ne x _ (by decide)]; exact f9 (by rw [← getD_set_ne true (show 11 ≠ 9 by decide)]; exact h), fun h => by rw [upd_ne x _ (by decide)]; exact f10 (by rw [← getD_set_ne true (show 11 ≠ 10 by decide)]; exact h), fun _ => upd_same _ _ _⟩⟩
      intro V x w' hall hF
      have h10 := hF.2.2.2.2.2.2.2.2.2.2.2.1 (hall 10 (by decide))
      have h11 := hF.2.2.2.2.2.2.2.2.2.2.2.2 (hall 11 (by decide))
      have hb := hF.1
      clear hF hall
      subst ha0
      simp only [List.map_cons, List.map_nil, putAll, h10, h11]
      clear h10 h11
      go_simp
      go_wp2
      go_meet
      exact ⟨rfl, rfl, hb⟩
    case rest =>
      revert wc
      intro w1 hcut
      obtain ⟨rfl, rfl, hb⟩ := hcut
      replace h := h.up hb
      replace hX := hX.below hb hX.lt
      replace hB := hB.trans (hb.mono hs)
      replace hs := hB.size
      clear hb
      clear c0 c1 HOP HKD
      by_cases hk : (formV op kd).isSome = true
      · obtain ⟨f1, f2, f3, hF, _, _⟩ := form_of hk
        have HF := Lib.hid hF
        rw [if_neg (show ¬ (formV op kd).isSome = false by rw [hk]; simp)] at HZ
        have hfv : (formV op kd).getD (.agg #[.nilFunc, .nilFunc, .nilFunc]) = .agg #[.func (.func f1) #[] #[], .func (.func f2) #[] #[], .func (.func f3) #[] #[]] := by rw [hF.fv]; rfl
        go_wp2_with fail
        refine (forms_any w1).mono ?_
        rintro e w2 ⟨bm, nm, S, rfl, hge, hM, hS, hb⟩
        have hl1 := look_form hM hS hw0 hw1 _ hfv _ hk
        replace h := h.up hb
        replace hX := hX.below hb hX.lt
        replace hB := hB.trans (hb.mono hs)
        replace hs := hB.size
        clear hb
        clear hM hS hge hF hfv hk hw0 hw1
        go_upto_region 5 with fail
        clear hl1
        have hG := Blok.new w2 126 #[.func (.func f1) #[] #[], .func (.func f2) #[] #[], .func (.func f3) #[] #[]]
        have hb : Below w2.heap.size w2 (w2.alloc (.cells #[.func (.func f1) #[] #[], .func (.func f2) #[] #[], .func (.func f3) #[] #[]] 126)) := by (repeat (first | exact Below.refl _ _ | refine Below.alloc ?_ (by first | omega | (simp; done) | (simp; omega)) _ | refine Below.setCell ?_ (by first | omega | (simp; done) | (simp; omega)) _ | refine Below.drew ?_))
        replace h := h.up hb
        replace hX := hX.below hb hX.lt
        replace hB := hB.trans (hb.mono hs)
        replace hs := hB.size
        clear hb
        generalize w2.alloc (.cells #[.func (.func f1) #[] #[], .func (.func f2) #[] #[], .func (.func f3) #[] #[]] 126) = w3 at *
        generalize hbg : w2.heap.size = bg at *
        clear hbg
        have hcap := h.cap
        have i1 : (2 : Int) ≤ (n : Int) := by omega
        have i2 : (n : Int) ≤ (c : Int) := by omega
        have i3 : (2 : Int) ≤ (c : Int) := by omega
        have hdr := h.from_ (show 2 ≤ n by omega)
        have hmx := h.max
        by_cases hc2 : c = 2
        · subst hc2
          obtain rfl : n = 2 := by omega
          have hl2 : Sl w3 w3.heap.size 1 (some al) 0 0 (vs (l.drop 2)) := by
            have h2 := hdr
            rw [if_pos rfl] at h2
            rw [show vs (l.drop 2) = (vs l).drop (2 * 1) by unfold vs; rw [List.map_drop]]
            exact h2
          clear hdr
          go_wp2_with fail
          have hlen : (l.drop 2).length = 0 := by rw [List.length_drop, HD.out]
          have hszz : ∀ x ∈ l.drop 2, x.length ≤ maxLen := fun x hx => HSZ.out x (List.mem_of_mem_drop hx)
          refine (nums_any (some al) 0 0 (l.drop 2) w3 hlen (by omega) hszz hl2).mono ?_
          rintro e w4 hret
          unfold NumsRet at hret
          obtain ⟨o, ho⟩ : ∃ o, numsF (l.drop 2) = o := ⟨_, rfl⟩
          rw [ho] at hret HZ
          clear hszz hl2 h
          have hcf1 := HF.out.e1
          have hcf3 := HF.out.e3
          unfold EnterF at hcf1 hcf3
          cases o with
          | none =>
            obtain ⟨rfl, hb⟩ := hret
            have hz := HZ.out
            injection hz with e1 e2
            subst e1 e2
            replace hX := hX.below hb hX.lt
            replace hB := hB.trans (hb.mono hs)
            replace hs := hB.size
            clear hb
            clear HZ ho hlen hcf1 hcf3 hG
            have z_0 : w4.cell? ⟨w.heap.size, 0, none⟩ = some (.int .i64 0) := hX.cell 0
            have zf_0 := hX.free 0
            have z_1 : w4.cell? ⟨w.heap.size, 1, none⟩ = some (.int .i64 0) := hX.cell 1
            have zf_1 := hX.free 1
            have z_2 : w4.cell? ⟨w.heap.size, 2, none⟩ = some (.int .i64 0) := hX.cell 2
            have zf_2 := hX.free 2
            have z_3 : w4.cell? ⟨w.heap.size, 3, none⟩ = some (.int .i64 0) := hX.cell 3
            have zf_3 := hX.free 3
            have z_4 : w4.cell? ⟨w.heap.size, 4, none⟩ = some (.int .i64 0) := hX.cell 4
            have zf_4 := hX.free 4
            have z_5 : w4.cell? ⟨w.heap.size, 5, none⟩ = some (.int .i64 0) := hX.cell 5
            have zf_5 := hX.free 5
            have z_6 : w4.cell? ⟨w.heap.size, 6, none⟩ = some (.int .i64 0) := hX.cell 6
            have zf_6 := hX.free 6
            have z_7 : w4.cell? ⟨w.heap.size, 7, none⟩ = some (.int .i64 0) := hX.cell 7
            have zf_7 := hX.free 7
            have z_8 : w4.cell? ⟨w.heap.size, 8, none⟩ = some (.int .i64 0) := hX.cell 8
            have zf_8 := hX.free 8
            have z_9 : w4.cell? ⟨w.heap.size, 9, none⟩ = some (.int .i64 0) := hX.cell 9
            have zf_9 := hX.free 9
            have z_10 : w4.cell? ⟨w.heap.size, 10, none⟩ = some (.int .i64 0) := hX.cell 10
            have zf_10 := hX.free 10
            have z_11 : w4.cell? ⟨w.heap.size, 11, none⟩ = some (.int .i64 0) := hX.cell 11
            have zf_11 := hX.free 11
            have z_12 : w4.cell? ⟨w.heap.size, 12, none⟩ = some (.int .i64 0) := hX.cell 12
            have zf_12 := hX.free 12
            have lt_z := hX.lt
            go_wp2_with fail
            have hF : Blok (((((((((((((w4.setCell ⟨w.heap.size, 0, none⟩ (.int .i64 0)).setCell ⟨w.heap.size, 1, none⟩ (.int .i64 0)).setCell ⟨w.heap.size, 2, none⟩ (.int .i64 0)).setCell ⟨w.heap.size, 3, none⟩ (.int .i64 0)).setCell ⟨w.heap.size, 4, none⟩ (.int .i64 0)).setCell ⟨w.heap.size, 5, none⟩ (.int .i64 0)).setCell ⟨w.heap.size, 6, none⟩ (.int .i64 0)).setCell ⟨w.heap.size, 7, none⟩ (.int .i64 0)).setCell ⟨w.heap.size, 8, none⟩ (.int .i64 0)).setCell ⟨w.heap.size, 9, none⟩ (.int .i64 0)).setCell ⟨w.heap.size, 10, none⟩ (.int .i64 0)).setCell ⟨w.heap.size, 11, none⟩ (.int .i64 0)).setCell ⟨w.heap.size, 12, none⟩ (.int .i64 0)) w.heap.size 38 #[.int .i64 0, .int .i64 0, .int .i64 0, .int .i64 0, .int .i64 0, .int .i64 0, .int .i64 0, .int .i64 0, .int .i64 0, .int .i64 0, .int .i64 0, .int .i64 0, .int .i64 0] := by have h := (((((((((((((hX.set_ 0 (.int .i64 0)).set_ 1 (.int .i64 0)).set_ 2 (.int .i64 0)).set_ 3 (.int .i64 0)).set_ 4 (.int .i64 0)).set_ 5 (.int .i64 0)).set_ 6 (.int .i64 0)).set_ 7 (.int .i64 0)).set_ 8 (.int .i64 0)).set_ 9 (.int .i64 0)).set_ 10 (.int .i64 0)).set_ 11 (.int .i64 0)).set_ 12 (.int .i64 0)); simpa using h
            have hle0 : w.heap.size ≤ w.heap.size := by first | exact Nat.le_refl _ | omega
            have hWf : Below w.heap.size w (((((((((((((w4.setCell ⟨w.heap.size, 0, none⟩ (.int .i64 0)).setCell ⟨w.heap.size, 1, none⟩ (.int .i64 0)).setCell ⟨w.heap.size, 2, none⟩ (.int .i64 0)).setCell ⟨w.heap.size, 3, none⟩ (.int .i64 0)).setCell ⟨w.heap.size, 4, none⟩ (.int .i64 0)).setCell ⟨w.heap.size, 5, none⟩ (.int .i64 0)).setCell ⟨w.heap.size, 6, none⟩ (.int .i64 0)).setCell ⟨w.heap.size, 7, none⟩ (.int .i64 0)).setCell ⟨w.heap.size, 8, none⟩ (.int .i64 0)).setCell ⟨w.heap.size, 9, none⟩ (.int .i64 0)).setCell ⟨w.heap.size, 10, none⟩ (.int .i64 0)).setCell ⟨w.heap.size, 11, none⟩ (.int .i64 0)).setCell ⟨w.heap.size, 12, none⟩ (.int .i64 0)) := (((((((((((((hB.setCell (p := ⟨w.heap.size, 0, none⟩) hle0 (.int .i64 0)).setCell (p := ⟨w.heap.size, 1, none⟩) hle0 (.int .i64 0)).setCell (p := ⟨w.heap.size, 2, none⟩) hle0 (.int .i64 0)).setCell (p := ⟨w.heap.size, 3, none⟩) hle0 (.int .i64 0)).setCell (p := ⟨w.heap.size, 4, none⟩) hle0 (.int .i64 0)).setCell (p := ⟨w.heap.size, 5, none⟩) hle0 (.int .i64 0)).setCell (p := ⟨w.heap.size, 6, none⟩) hle0 (.int .i64 0)).setCell (p := ⟨w.heap.size, 7, none⟩) hle0 (.int .i64 0)).setCell (p := ⟨w.heap.size, 8, none⟩) hle0 (.int .i64 0)).setCell (p := ⟨w.heap.size, 9, none⟩) hle0 (.int .i64 0)).setCell (p := ⟨w.heap.size, 10, none⟩) hle0 (.int .i64 0)).setCell (p := ⟨w.heap.size, 11, none⟩) hle0 (.int .i64 0)).setCell (p := ⟨w.heap.size, 12, none⟩) hle0 (.int .i64 0))
            have hlF := hF.lt
            generalize (((((((((((((w4.setCell ⟨w.heap.size, 0, none⟩ (.int .i64 0)).setCell ⟨w.heap.size, 1, none⟩ (.int .i64 0)).setCell ⟨w.heap.size, 2, none⟩ (.int .i64 0)).setCell ⟨w.heap.size, 3, none⟩ (.int .i64 0)).setCell ⟨w.heap.size, 4, none⟩ (.int .i64 0)).setCell ⟨w.heap.size, 5, none⟩ (.int .i64 0)).setCell ⟨w.heap.size, 6, none⟩ (.int .i64 0)).setCell ⟨w.heap.size, 7, none⟩ (.int .i64 0)).setCell ⟨w.heap.size, 8, none⟩ (.int .i64 0)).setCell ⟨w.heap.size, 9, none⟩ (.int .i64 0)).setCell ⟨w.heap.size, 10, none⟩ (.int .i64 0)).setCell ⟨w.heap.size, 11, none⟩ (.int .i64 0)).setCell ⟨w.heap.size, 12, none⟩ (.int .i64 0)) = wf at *
            have r0 : wf.cell? ⟨w.heap.size, 0, none⟩ = some (.int .i64 0) := hF.cell 0
            have r1 : wf.cell? ⟨w.heap.size, 1, none⟩ = some (.int .i64 0) := hF.cell 1
            have r2 : wf.cell? ⟨w.heap.size, 2, none⟩ = some (.int .i64 0) := hF.cell 2
            have r3 : wf.cell? ⟨w.heap.size, 3, none⟩ = some (.int .i64 0) := hF.cell 3
            have r4 : wf.cell? ⟨w.heap.size, 4, none⟩ = some (.int .i64 0) := hF.cell 4
            have r5 : wf.cell? ⟨w.heap.size, 5, none⟩ = some (.int .i64 0) := hF.cell 5
            have r6 : wf.cell? ⟨w.heap.size, 6, none⟩ = some (.int .i64 0) := hF.cell 6
            have r7 : wf.cell? ⟨w.heap.size, 7, none⟩ = some (.int .i64 0) := hF.cell 7
            have r8 : wf.cell? ⟨w.heap.size, 8, none⟩ = some (.int .i64 0) := hF.cell 8
            have r9 : wf.cell? ⟨w.heap.size, 9, none⟩ = some (.int .i64 0) := hF.cell 9
            have r10 : wf.cell? ⟨w.heap.size, 10, none⟩ = some (.int .i64 0) := hF.cell 10
            have r11 : wf.cell? ⟨w.heap.size, 11, none⟩ = some (.int .i64 0) := hF.cell 11
            have r12 : wf.cell? ⟨w.heap.size, 12, none⟩ = some (.int .i64 0) := hF.cell 12
            refine bodyPost_ret (v := .tuple #[.agg #[.int .i64 0, .int .i64 0, .int .i64 0, .int .i64 0, .int .i64 0, .int .i64 0, .int .i64 0, .int .i64 0, .int .i64 0, .int .i64 0, .int .i64 0, .int .i64 0, .int .i64 0], .int .i64 2]) (by simp [results, Tryz.results64, go_sem, r0, r1, r2, r3, r4, r5, r6, r7, r8, r9, r10, r11, r12, hlF]) rfl ?_
            exact ⟨rfl, hWf⟩
          | some ns =>
            obtain ⟨v, rfl, hv, hb⟩ := hret
            have hnl := numsF_len ho
            rw [hlen] at hnl hv
            obtain ⟨Av, cv, rfl⟩ := slice_of_own hv
            have hsl := Sl.of_own hv
            replace hX := hX.below hb hX.lt
            replace hG := hG.below hb hG.lt
            replace hB := hB.trans (hb.mono hs)
            replace hs := hB.size
            clear hb
            clear hv ho hlen
            have HNL := Lib.hid hnl
            clear hnl
            have g_0 : w4.cell? ⟨bg, 0, none⟩ = some (.func (.func f1) #[] #[]) := hG.cell 0
            have lt_g := hG.lt
            go_wp2_with fail
            clear g_0 lt_g
            refine (HF.out.nums w4).mono ?_
            rintro e w5 ⟨Az, cz, rfl, hb⟩
            replace hsl := hsl.up hb
            replace hX := hX.below hb hX.lt
            replace hG := hG.below hb hG.lt
            replace hB := hB.trans (hb.mono hs)
            replace hs := hB.size
            clear hb
            obtain ⟨fl, hfl⟩ : ∃ fl, formLen op kd = fl := ⟨_, rfl⟩
            have HFL := Lib.hid hfl
            rw [hfl]
            rw [hfl] at HZ
            clear hfl
            by_cases hkl : 0 = fl
            · subst hkl
              have hsl' := hsl
              have hz := HZ.out
              try dsimp only at hz
              rw [if_pos HNL.out] at hz
              have HZ2 := Lib.hid hz
              have hkf : ns.length = formLen op kd := by rw [HNL.out, HFL.out]
              have HKF := Lib.hid hkf
              clear hz HZ hkf
              have g_0 : w5.cell? ⟨bg, 0, none⟩ = some (.func (.func f1) #[] #[]) := hG.cell 0
              have g_1 : w5.cell? ⟨bg, 1, none⟩ = some (.func (.func f2) #[] #[]) := hG.cell 1
              have g_2 : w5.cell? ⟨bg, 2, none⟩ = some (.func (.func f3) #[] #[]) := hG.cell 2
              have lt_g := hG.lt
              go_wp2_with fail
              clear g_0 g_1 g_2 lt_g
              have hmade := HF.out.fill ns HKF.out Av cv w5 (by rw [HFL.out]; exact hsl')
              rw [HFL.out] at hmade
              refine hmade.mono ?_
              have hmay := HF.out.may ns HKF.out
              obtain ⟨d1, hd1⟩ : ∃ d1, madeD op kd ns = d1 := ⟨_, rfl⟩
              rw [hd1] at hmay HZ2
              rw [hd1]
              have HMAY := Lib.hid hmay
              clear hmade hmay hd1
              rintro e w6 ⟨rfl, hb⟩
              clear hsl hsl'
              replace hX := hX.below hb hX.lt
              replace hG := hG.below hb hG.lt
              replace hB := hB.trans (hb.mono hs)
              replace hs := hB.size
              clear hb
              go_upto_region 11 with fail
              have hY := Blok.new w6 38 #[.int .i64 d1.op, .int .i64 d1.kd, .int .i64 d1.id, .int .i64 d1.fr, .int .i64 d1.tn, .int .i64 d1.st, .int .i64 d1.en, .int .i64 d1.rt, .int .i64 d1.rf, .int .i64 d1.rn, .int .i64 d1.rs, .int .i64 d1.re, .int .i64 d1.ro]
              have hb : Below w6.heap.size w6 (w6.alloc (.cells #[.int .i64 d1.op, .int .i64 d1.kd, .int .i64 d1.id, .int .i64 d1.fr, .int .i64 d1.tn, .int .i64 d1.st, .int .i64 d1.en, .int .i64 d1.rt, .int .i64 d1.rf, .int .i64 d1.rn, .int .i64 d1.rs, .int .i64 d1.re, .int .i64 d1.ro] 38)) := by (repeat (first | exact Below.refl _ _ | refine Below.alloc ?_ (by first | omega | (simp; done) | (simp; omega)) _ | refine Below.setCell ?_ (by first | omega | (simp; done) | (simp; omega)) _ | refine Below.drew ?_))
              replace hX := hX.below hb hX.lt
              replace hG := hG.below hb hG.lt
              replace hB := hB.trans (hb.mono hs)
              replace hs := hB.size
              clear hb
              generalize w6.alloc (.cells #[.int .i64 d1.op, .int .i64 d1.kd, .int .i64 d1.id, .int .i64 d1.fr, .int .i64 d1.tn, .int .i64 d1.st, .int .i64 d1.en, .int .i64 d1.rt, .int .i64 d1.rf, .int .i64 d1.rn, .int .i64 d1.rs, .int .i64 d1.re, .int .i64 d1.ro] 38) = w7 at *
              generalize hbd : w6.heap.size = bd at *
              clear hbd
              have g_2 : w7.cell? ⟨bg, 2, none⟩ = some (.func (.func f3) #[] #[]) := hG.cell 2
              have lt_g := hG.lt
              obtain ⟨y0, y1, y2, y3, y4, y5, y6, y7, y8, y9, y10, y11, y12, lt_y⟩ := blok13 hY
              go_wp2_with fail
              clear g_2 lt_g
              clear y0 y1 y2 y3 y4 y5 y6 y7 y8 y9 y10 y11 y12 lt_y
              refine (HMAY.out w7).mono ?_
              rintro e w8 ⟨rfl, hb⟩
              replace hX := hX.below hb hX.lt
              replace hY := hY.below hb hY.lt
              replace hB := hB.trans (hb.mono hs)
              replace hs := hB.size
              clear hb
              clear hG
              cases hmm : mayD d1
              · have hz := HZ2.out
                rw [hmm, if_neg (by simp)] at hz
                injection hz with e1 e2
                subst e1 e2
                clear HZ2 hmm hcf1 hcf3 hY
                have z_0 : w8.cell? ⟨w.heap.size, 0, none⟩ = some (.int .i64 0) := hX.cell 0
                have zf_0 := hX.free 0
                have z_1 : w8.cell? ⟨w.heap.size, 1, none⟩ = some (.int .i64 0) := hX.cell 1
                have zf_1 := hX.free 1
                have z_2 : w8.cell? ⟨w.heap.size, 2, none⟩ = some (.int .i64 0) := hX.cell 2
                have zf_2 := hX.free 2
                have z_3 : w8.cell? ⟨w.heap.size, 3, none⟩ = some (.int .i64 0) := hX.cell 3
                have zf_3 := hX.free 3
                have z_4 : w8.cell? ⟨w.heap.size, 4, none⟩ = some (.int .i64 0) := hX.cell 4
                have zf_4 := hX.free 4
                have z_5 : w8.cell? ⟨w.heap.size, 5, none⟩ = some (.int .i64 0) := hX.cell 5
                have zf_5 := hX.free 5
                have z_6 : w8.cell? ⟨w.heap.size, 6, none⟩ = some (.int .i64 0) := hX.cell 6
                have zf_6 := hX.free 6
                have z_7 : w8.cell? ⟨w.heap.size, 7, none⟩ = some (.int .i64 0) := hX.cell 7
                have zf_7 := hX.free 7
                have z_8 : w8.cell? ⟨w.heap.size, 8, none⟩ = some (.int .i64 0) := hX.cell 8
                have zf_8 := hX.free 8
                have z_9 : w8.cell? ⟨w.heap.size, 9, none⟩ = some (.int .i64 0) := hX.cell 9
                have zf_9 := hX.free 9
                have z_10 : w8.cell? ⟨w.heap.size, 10, none⟩ = some (.int .i64 0) := hX.cell 10
                have zf_10 := hX.free 10
                have z_11 : w8.cell? ⟨w.heap.size, 11, none⟩ = some (.int .i64 0) := hX.cell 11
                have zf_11 := hX.free 11
                have z_12 : w8.cell? ⟨w.heap.size, 12, none⟩ = some (.int .i64 0) := hX.cell 12
                have zf_12 := hX.free 12
                have lt_z := hX.lt
                go_wp2_with fail
                have hF : Blok (((((((((((((w8.setCell ⟨w.heap.size, 0, none⟩ (.int .i64 0)).setCell ⟨w.heap.size, 1, none⟩ (.int .i64 0)).setCell ⟨w.heap.size, 2, none⟩ (.int .i64 0)).setCell ⟨w.heap.size, 3, none⟩ (.int .i64 0)).setCell ⟨w.heap.size, 4, none⟩ (.int .i64 0)).setCell ⟨w.heap.size, 5, none⟩ (.int .i64 0)).setCell ⟨w.heap.size, 6, none⟩ (.int .i64 0)).setCell ⟨w.heap.size, 7, none⟩ (.int .i64 0)).setCell ⟨w.heap.size, 8, none⟩ (.int .i64 0)).setCell ⟨w.heap.size, 9, none⟩ (.int .i64 0)).setCell ⟨w.heap.size, 10, none⟩ (.int .i64 0)).setCell ⟨w.heap.size, 11, none⟩ (.int .i64 0)).setCell ⟨w.heap.size, 12, none⟩ (.int .i64 0)) w.heap.size 38 #[.int .i64 0, .int .i64 0, .int .i64 0, .int .i64 0, .int .i64 0, .int .i64 0, .int .i64 0, .int .i64 0, .int .i64 0, .int .i64 0, .int .i64 0, .int .i64 0, .int .i64 0] := by have h := (((((((((((((hX.set_ 0 (.int .i64 0)).set_ 1 (.int .i64 0)).set_ 2 (.int .i64 0)).set_ 3 (.int .i64 0)).set_ 4 (.int .i64 0)).set_ 5 (.int .i64 0)).set_ 6 (.int .i64 0)).set_ 7 (.int .i64 0)).set_ 8 (.int .i64 0)).set_ 9 (.int .i64 0)).set_ 10 (.int .i64 0)).set_ 11 (.int .i64 0)).set_ 12 (.int .i64 0)); simpa using h
                have hle0 : w.heap.size ≤ w.heap.size := by first | exact Nat.le_refl _ | omega
                have hWf : Below w.heap.size w (((((((((((((w8.setCell ⟨w.heap.size, 0, none⟩ (.int .i64 0)).setCell ⟨w.heap.size, 1, none⟩ (.int .i64 0)).setCell ⟨w.heap.size, 2, none⟩ (.int .i64 0)).setCell ⟨w.heap.size, 3, none⟩ (.int .i64 0)).setCell ⟨w.heap.size, 4, none⟩ (.int .i64 0)).setCell ⟨w.heap.size, 5, none⟩ (.int .i64 0)).setCell ⟨w.heap.size, 6, none⟩ (.int .i64 0)).setCell ⟨w.heap.size, 7, none⟩ (.int .i64 0)).setCell ⟨w.heap.size, 8, none⟩ (.int .i64 0)).setCell ⟨w.heap.size, 9, none⟩ (.int .i64 0)).setCell ⟨w.heap.size, 10, none⟩ (.int .i64 0)).setCell ⟨w.heap.size, 11, none⟩ (.int .i64 0)).setCell ⟨w.heap.size, 12, none⟩ (.int .i64 0)) := (((((((((((((hB.setCell (p := ⟨w.heap.size, 0, none⟩) hle0 (.int .i64 0)).setCell (p := ⟨w.heap.size, 1, none⟩) hle0 (.int .i64 0)).setCell (p := ⟨w.heap.size, 2, none⟩) hle0 (.int .i64 0)).setCell (p := ⟨w.heap.size, 3, none⟩) hle0 (.int .i64 0)).setCell (p := ⟨w.heap.size, 4, none⟩) hle0 (.int .i64 0)).setCell (p := ⟨w.heap.size, 5, none⟩) hle0 (.int .i64 0)).setCell (p := ⟨w.heap.size, 6, none⟩) hle0 (.int .i64 0)).setCell (p := ⟨w.heap.size, 7, none⟩) hle0 (.int .i64 0)).setCell (p := ⟨w.heap.size, 8, none⟩) hle0 (.int .i64 0)).setCell (p := ⟨w.heap.size, 9, none⟩) hle0 (.int .i64 0)).setCell (p := ⟨w.heap.size, 10, none⟩) hle0 (.int .i64 0)).setCell (p := ⟨w.heap.size, 11, none⟩) hle0 (.int .i64 0)).setCell (p := ⟨w.heap.size, 12, none⟩) hle0 (.int .i64 0))
                have hlF := hF.lt
                generalize (((((((((((((w8.setCell ⟨w.heap.size, 0, none⟩ (.int .i64 0)).setCell ⟨w.heap.size, 1, none⟩ (.int .i64 0)).setCell ⟨w.heap.size, 2, none⟩ (.int .i64 0)).setCell ⟨w.heap.size, 3, none⟩ (.int .i64 0)).setCell ⟨w.heap.size, 4, none⟩ (.int .i64 0)).setCell ⟨w.heap.size, 5, none⟩ (.int .i64 0)).setCell ⟨w.heap.size, 6, none⟩ (.int .i64 0)).setCell ⟨w.heap.size, 7, none⟩ (.int .i64 0)).setCell ⟨w.heap.size, 8, none⟩ (.int .i64 0)).setCell ⟨w.heap.size, 9, none⟩ (.int .i64 0)).setCell ⟨w.heap.size, 10, none⟩ (.int .i64 0)).setCell ⟨w.heap.size, 11, none⟩ (.int .i64 0)).setCell ⟨w.heap.size, 12, none⟩ (.int .i64 0)) = wf at *
                have r0 : wf.cell? ⟨w.heap.size, 0, none⟩ = some (.int .i64 0) := hF.cell 0
                have r1 : wf.cell? ⟨w.heap.size, 1, none⟩ = some (.int .i64 0) := hF.cell 1
                have r2 : wf.cell? ⟨w.heap.size, 2, none⟩ = some (.int .i64 0) := hF.cell 2
                have r3 : wf.cell? ⟨w.heap.size, 3, none⟩ = some (.int .i64 0) := hF.cell 3
                have r4 : wf.cell? ⟨w.heap.size, 4, none⟩ = some (.int .i64 0) := hF.cell 4
                have r5 : wf.cell? ⟨w.heap.size, 5, none⟩ = some (.int .i64 0) := hF.cell 5
                have r6 : wf.cell? ⟨w.heap.size, 6, none⟩ = some (.int .i64 0) := hF.cell 6
                have r7 : wf.cell? ⟨w.heap.size, 7, none⟩ = some (.int .i64 0) := hF.cell 7
                have r8 : wf.cell? ⟨w.heap.size, 8, none⟩ = some (.int .i64 0) := hF.cell 8
                have r9 : wf.cell? ⟨w.heap.size, 9, none⟩ = some (.int .i64 0) := hF.cell 9
                have r10 : wf.cell? ⟨w.heap.size, 10, none⟩ = some (.int .i64 0) := hF.cell 10
                have r11 : wf.cell? ⟨w.heap.size, 11, none⟩ = some (.int .i64 0) := hF.cell 11
                have r12 : wf.cell? ⟨w.heap.size, 12, none⟩ = some (.int .i64 0) := hF.cell 12
                refine bodyPost_ret (v := .tuple #[.agg #[.int .i64 0, .int .i64 0, .int .i64 0, .int .i64 0, .int .i64 0, .int .i64 0, .int .i64 0, .int .i64 0, .int .i64 0, .int .i64 0, .int .i64 0, .int .i64 0, .int .i64 0], .int .i64 1]) (by simp [results, Tryz.results64, go_sem, r0, r1, r2, r3, r4, r5, r6, r7, r8, r9, r10, r11, r12, hlF]) rfl ?_
                exact ⟨rfl, hWf⟩
              · have hz := HZ2.out
                rw [hmm, if_pos rfl] at hz
                injection hz with e1 e2
                subst e1 e2
                clear HZ2 hmm hcf1 hcf3 HMAY
                obtain ⟨y0, y1, y2, y3, y4, y5, y6, y7, y8, y9, y10, y11, y12, lt_y⟩ := blok13 hY
                have z_0 : w8.cell? ⟨w.heap.size, 0, none⟩ = some (.int .i64 0) := hX.cell 0
                have zf_0 := hX.free 0
                have z_1 : w8.cell? ⟨w.heap.size, 1, none⟩ = some (.int .i64 0) := hX.cell 1
                have zf_1 := hX.free 1
                have z_2 : w8.cell? ⟨w.heap.size, 2, none⟩ = some (.int .i64 0) := hX.cell 2
                have zf_2 := hX.free 2
                have z_3 : w8.cell? ⟨w.heap.size, 3, none⟩ = some (.int .i64 0) := hX.cell 3
                have zf_3 := hX.free 3
                have z_4 : w8.cell? ⟨w.heap.size, 4, none⟩ = some (.int .i64 0) := hX.cell 4
                have zf_4 := hX.free 4
                have z_5 : w8.cell? ⟨w.heap.size, 5, none⟩ = some (.int .i64 0) := hX.cell 5
                have zf_5 := hX.free 5
                have z_6 : w8.cell? ⟨w.heap.size, 6, none⟩ = some (.int .i64 0) := hX.cell 6
                have zf_6 := hX.free 6
                have z_7 : w8.cell? ⟨w.heap.size, 7, none⟩ = some (.int .i64 0) := hX.cell 7
                have zf_7 := hX.free 7
                have z_8 : w8.cell? ⟨w.heap.size, 8, none⟩ = some (.int .i64 0) := hX.cell 8
                have zf_8 := hX.free 8
                have z_9 : w8.cell? ⟨w.heap.size, 9, none⟩ = some (.int .i64 0) := hX.cell 9
                have zf_9 := hX.free 9
                have z_10 : w8.cell? ⟨w.heap.size, 10, none⟩ = some (.int .i64 0) := hX.cell 10
                have zf_10 := hX.free 10
                have z_11 : w8.cell? ⟨w.heap.size, 11, none⟩ = some (.int .i64 0) := hX.cell 11
                have zf_11 := hX.free 11
                have z_12 : w8.cell? ⟨w.heap.size, 12, none⟩ = some (.int .i64 0) := hX.cell 12
                have zf_12 := hX.free 12
                have lt_z := hX.lt
                go_wp2_with fail
                clear y0 y1 y2 y3 y4 y5 y6 y7 y8 y9 y10 y11 y12 lt_y
                have hF : Blok (((((((((((((w8.setCell ⟨w.heap.size, 0, none⟩ (.int .i64 d1.op)).setCell ⟨w.heap.size, 1, none⟩ (.int .i64 d1.kd)).setCell ⟨w.heap.size, 2, none⟩ (.int .i64 d1.id)).setCell ⟨w.heap.size, 3, none⟩ (.int .i64 d1.fr)).setCell ⟨w.heap.size, 4, none⟩ (.int .i64 d1.tn)).setCell ⟨w.heap.size, 5, none⟩ (.int .i64 d1.st)).setCell ⟨w.heap.size, 6, none⟩ (.int .i64 d1.en)).setCell ⟨w.heap.size, 7, none⟩ (.int .i64 d1.rt)).setCell ⟨w.heap.size, 8, none⟩ (.int .i64 d1.rf)).setCell ⟨w.heap.size, 9, none⟩ (.int .i64 d1.rn)).setCell ⟨w.heap.size, 10, none⟩ (.int .i64 d1.rs)).setCell ⟨w.heap.size, 11, none⟩ (.int .i64 d1.re)).setCell ⟨w.heap.size, 12, none⟩ (.int .i64 d1.ro)) w.heap.size 38 #[.int .i64 d1.op, .int .i64 d1.kd, .int .i64 d1.id, .int .i64 d1.fr, .int .i64 d1.tn, .int .i64 d1.st, .int .i64 d1.en, .int .i64 d1.rt, .int .i64 d1.rf, .int .i64 d1.rn, .int .i64 d1.rs, .int .i64 d1.re, .int .i64 d1.ro] := by have h := (((((((((((((hX.set_ 0 (.int .i64 d1.op)).set_ 1 (.int .i64 d1.kd)).set_ 2 (.int .i64 d1.id)).set_ 3 (.int .i64 d1.fr)).set_ 4 (.int .i64 d1.tn)).set_ 5 (.int .i64 d1.st)).set_ 6 (.int .i64 d1.en)).set_ 7 (.int .i64 d1.rt)).set_ 8 (.int .i64 d1.rf)).set_ 9 (.int .i64 d1.rn)).set_ 10 (.int .i64 d1.rs)).set_ 11 (.int .i64 d1.re)).set_ 12 (.int .i64 d1.ro)); simpa using h
                have hle0 : w.heap.size ≤ w.heap.size := by first | exact Nat.le_refl _ | omega
                have hWf : Below w.heap.size w (((((((((((((w8.setCell ⟨w.heap.size, 0, none⟩ (.int .i64 d1.op)).setCell ⟨w.heap.size, 1, none⟩ (.int .i64 d1.kd)).setCell ⟨w.heap.size, 2, none⟩ (.int .i64 d1.id)).setCell ⟨w.heap.size, 3, none⟩ (.int .i64 d1.fr)).setCell ⟨w.heap.size, 4, none⟩ (.int .i64 d1.tn)).setCell ⟨w.heap.size, 5, none⟩ (.int .i64 d1.st)).setCell ⟨w.heap.size, 6, none⟩ (.int .i64 d1.en)).setCell ⟨w.heap.size, 7, none⟩ (.int .i64 d1.rt)).setCell ⟨w.heap.size, 8, none⟩ (.int .i64 d1.rf)).setCell ⟨w.heap.size, 9, none⟩ (.int .i64 d1.rn)).setCell ⟨w.heap.size, 10, none⟩ (.int .i64 d1.rs)).setCell ⟨w.heap.size, 11, none⟩ (.int .i64 d1.re)).setCell ⟨w.heap.size, 12, none⟩ (.int .i64 d1.ro)) := (((((((((((((hB.setCell (p := ⟨w.heap.size, 0, none⟩) hle0 (.int .i64 d1.op)).setCell (p := ⟨w.heap.size, 1, none⟩) hle0 (.int .i64 d1.kd)).setCell (p := ⟨w.heap.size, 2, none⟩) hle0 (.int .i64 d1.id)).setCell (p := ⟨w.heap.size, 3, none⟩) hle0 (.int .i64 d1.fr)).setCell (p := ⟨w.heap.size, 4, none⟩) hle0 (.int .i64 d1.tn)).setCell (p := ⟨w.heap.size, 5, none⟩) hle0 (.int .i64 d1.st)).setCell (p := ⟨w.heap.size, 6, none⟩) hle0 (.int .i64 d1.en)).setCell (p := ⟨w.heap.size, 7, none⟩) hle0 (.int .i64 d1.rt)).setCell (p := ⟨w.heap.size, 8, none⟩) hle0 (.int .i64 d1.rf)).setCell (p := ⟨w.heap.size, 9, none⟩) hle0 (.int .i64 d1.rn)).setCell (p := ⟨w.heap.size, 10, none⟩) hle0 (.int .i64 d1.rs)).setCell (p := ⟨w.heap.size, 11, none⟩) hle0 (.int .i64 d1.re)).setCell (p := ⟨w.heap.size, 12, none⟩) hle0 (.int .i64 d1.ro))
                have hlF := hF.lt
                generalize (((((((((((((w8.setCell ⟨w.heap.size, 0, none⟩ (.int .i64 d1.op)).setCell ⟨w.heap.size, 1, none⟩ (.int .i64 d1.kd)).setCell ⟨w.heap.size, 2, none⟩ (.int .i64 d1.id)).setCell ⟨w.heap.size, 3, none⟩ (.int .i64 d1.fr)).setCell ⟨w.heap.size, 4, none⟩ (.int .i64 d1.tn)).setCell ⟨w.heap.size, 5, none⟩ (.int .i64 d1.st)).setCell ⟨w.heap.size, 6, none⟩ (.int .i64 d1.en)).setCell ⟨w.heap.size, 7, none⟩ (.int .i64 d1.rt)).setCell ⟨w.heap.size, 8, none⟩ (.int .i64 d1.rf)).setCell ⟨w.heap.size, 9, none⟩ (.int .i64 d1.rn)).setCell ⟨w.heap.size, 10, none⟩ (.int .i64 d1.rs)).setCell ⟨w.heap.size, 11, none⟩ (.int .i64 d1.re)).setCell ⟨w.heap.size, 12, none⟩ (.int .i64 d1.ro)) = wf at *
                have r0 : wf.cell? ⟨w.heap.size, 0, none⟩ = some (.int .i64 d1.op) := hF.cell 0
                have r1 : wf.cell? ⟨w.heap.size, 1, none⟩ = some (.int .i64 d1.kd) := hF.cell 1
                have r2 : wf.cell? ⟨w.heap.size, 2, none⟩ = some (.int .i64 d1.id) := hF.cell 2
                have r3 : wf.cell? ⟨w.heap.size, 3, none⟩ = some (.int .i64 d1.fr) := hF.cell 3
                have r4 : wf.cell? ⟨w.heap.size, 4, none⟩ = some (.int .i64 d1.tn) := hF.cell 4
                have r5 : wf.cell? ⟨w.heap.size, 5, none⟩ = some (.int .i64 d1.st) := hF.cell 5
                have r6 : wf.cell? ⟨w.heap.size, 6, none⟩ = some (.int .i64 d1.en) := hF.cell 6
                have r7 : wf.cell? ⟨w.heap.size, 7, none⟩ = some (.int .i64 d1.rt) := hF.cell 7
                have r8 : wf.cell? ⟨w.heap.size, 8, none⟩ = some (.int .i64 d1.rf) := hF.cell 8
                have r9 : wf.cell? ⟨w.heap.size, 9, none⟩ = some (.int .i64 d1.rn) := hF.cell 9
                have r10 : wf.cell? ⟨w.heap.size, 10, none⟩ = some (.int .i64 d1.rs) := hF.cell 10
                have r11 : wf.cell? ⟨w.heap.size, 11, none⟩ = some (.int .i64 d1.re) := hF.cell 11
                have r12 : wf.cell? ⟨w.heap.size, 12, none⟩ = some (.int .i64 d1.ro) := hF.cell 12
                refine bodyPost_ret (v := .tuple #[.agg #[.int .i64 d1.op, .int .i64 d1.kd, .int .i64 d1.id, .int .i64 d1.fr, .int .i64 d1.tn, .int .i64 d1.st, .int .i64 d1.en, .int .i64 d1.rt, .int .i64 d1.rf, .int .i64 d1.rn, .int .i64 d1.rs, .int .i64 d1.re, .int .i64 d1.ro], .int .i64 0]) (by simp [results, Tryz.results64, go_sem, r0, r1, r2, r3, r4, r5, r6, r7, r8, r9, r10, r11, r12, hlF]) rfl ?_
                exact ⟨rfl, hWf⟩
            · have hz := HZ.out
              try dsimp only at hz
              rw [if_neg (by rw [HNL.out]; exact hkl)] at hz
              injection hz with e1 e2
              subst e1 e2
              have hgq : (((0 : Nat) : Int) != (fl : Int)) = true := by simp; omega
              clear HZ hcf1 hcf3 hG hsl
              have z_0 : w5.cell? ⟨w.heap.size, 0, none⟩ = some (.int .i64 0) := hX.cell 0
              have zf_0 := hX.free 0
              have z_1 : w5.cell? ⟨w.heap.size, 1, none⟩ = some (.int .i64 0) := hX.cell 1
              have zf_1 := hX.free 1
              have z_2 : w5.cell? ⟨w.heap.size, 2, none⟩ = some (.int .i64 0) := hX.cell 2
              have zf_2 := hX.free 2
              have z_3 : w5.cell? ⟨w.heap.size, 3, none⟩ = some (.int .i64 0) := hX.cell 3
              have zf_3 := hX.free 3
              have z_4 : w5.cell? ⟨w.heap.size, 4, none⟩ = some (.int .i64 0) := hX.cell 4
              have zf_4 := hX.free 4
              have z_5 : w5.cell? ⟨w.heap.size, 5, none⟩ = some (.int .i64 0) := hX.cell 5
              have zf_5 := hX.free 5
              have z_6 : w5.cell? ⟨w.heap.size, 6, none⟩ = some (.int .i64 0) := hX.cell 6
              have zf_6 := hX.free 6
              have z_7 : w5.cell? ⟨w.heap.size, 7, none⟩ = some (.int .i64 0) := hX.cell 7
              have zf_7 := hX.free 7
              have z_8 : w5.cell? ⟨w.heap.size, 8, none⟩ = some (.int .i64 0) := hX.cell 8
              have zf_8 := hX.free 8
              have z_9 : w5.cell? ⟨w.heap.size, 9, none⟩ = some (.int .i64 0) := hX.cell 9
              have zf_9 := hX.free 9
              have z_10 : w5.cell? ⟨w.heap.size, 10, none⟩ = some (.int .i64 0) := hX.cell 10
              have zf_10 := hX.free 10
              have z_11 : w5.cell? ⟨w.heap.size, 11, none⟩ = some (.int .i64 0) := hX.cell 11
              have zf_11 := hX.free 11
              have z_12 : w5.cell? ⟨w.heap.size, 12, none⟩ = some (.int .i64 0) := hX.cell 12
              have zf_12 := hX.free 12
              have lt_z := hX.lt
              go_wp2_with fail
              have hF : Blok (((((((((((((w5.setCell ⟨w.heap.size, 0, none⟩ (.int .i64 0)).setCell ⟨w.heap.size, 1, none⟩ (.int .i64 0)).setCell ⟨w.heap.size, 2, none⟩ (.int .i64 0)).setCell ⟨w.heap.size, 3, none⟩ (.int .i64 0)).setCell ⟨w.heap.size, 4, none⟩ (.int .i64 0)).setCell ⟨w.heap.size, 5, none⟩ (.int .i64 0)).setCell ⟨w.heap.size, 6, none⟩ (.int .i64 0)).setCell ⟨w.heap.size, 7, none⟩ (.int .i64 0)).setCell ⟨w.heap.size, 8, none⟩ (.int .i64 0)).setCell ⟨w.heap.size, 9, none⟩ (.int .i64 0)).setCell ⟨w.heap.size, 10, none⟩ (.int .i64 0)).setCell ⟨w.heap.size, 11, none⟩ (.int .i64 0)).setCell ⟨w.heap.size, 12, none⟩ (.int .i64 0)) w.heap.size 38 #[.int .i64 0, .int .i64 0, .int .i64 0, .int .i64 0, .int .i64 0, .int .i64 0, .int .i64 0, .int .i64 0, .int .i64 0, .int .i64 0, .int .i64 0, .int .i64 0, .int .i64 0] := by have h := (((((((((((((hX.set_ 0 (.int .i64 0)).set_ 1 (.int .i64 0)).set_ 2 (.int .i64 0)).set_ 3 (.int .i64 0)).set_ 4 (.int .i64 0)).set_ 5 (.int .i64 0)).set_ 6 (.int .i64 0)).set_ 7 (.int .i64 0)).set_ 8 (.int .i64 0)).set_ 9 (.int .i64 0)).set_ 10 (.int .i64 0)).set_ 11 (.int .i64 0)).set_ 12 (.int .i64 0)); simpa using h
              have hle0 : w.heap.size ≤ w.heap.size := by first | exact Nat.le_refl _ | omega
              have hWf : Below w.heap.size w (((((((((((((w5.setCell ⟨w.heap.size, 0, none⟩ (.int .i64 0)).setCell ⟨w.heap.size, 1, none⟩ (.int .i64 0)).setCell ⟨w.heap.size, 2, none⟩ (.int .i64 0)).setCell ⟨w.heap.size, 3, none⟩ (.int .i64 0)).setCell ⟨w.heap.size, 4, none⟩ (.int .i64 0)).setCell ⟨w.heap.size, 5, none⟩ (.int .i64 0)).setCell ⟨w.heap.size, 6, none⟩ (.int .i64 0)).setCell ⟨w.heap.size, 7, none⟩ (.int .i64 0)).setCell ⟨w.heap.size, 8, none⟩ (.int .i64 0)).setCell ⟨w.heap.size, 9, none⟩ (.int .i64 0)).setCell ⟨w.heap.size, 10, none⟩ (.int .i64 0)).setCell ⟨w.heap.size, 11, none⟩ (.int .i64 0)).setCell ⟨w.heap.size, 12, none⟩ (.int .i64 0)) := (((((((((((((hB.setCell (p := ⟨w.heap.size, 0, none⟩) hle0 (.int .i64 0)).setCell (p := ⟨w.heap.size, 1, none⟩) hle0 (.int .i64 0)).setCell (p := ⟨w.heap.size, 2, none⟩) hle0 (.int .i64 0)).setCell (p := ⟨w.heap.size, 3, none⟩) hle0 (.int .i64 0)).setCell (p := ⟨w.heap.size, 4, none⟩) hle0 (.int .i64 0)).setCell (p := ⟨w.heap.size, 5, none⟩) hle0 (.int .i64 0)).setCell (p := ⟨w.heap.size, 6, none⟩) hle0 (.int .i64 0)).setCell (p := ⟨w.heap.size, 7, none⟩) hle0 (.int .i64 0)).setCell (p := ⟨w.heap.size, 8, none⟩) hle0 (.int .i64 0)).setCell (p := ⟨w.heap.size, 9, none⟩) hle0 (.int .i64 0)).setCell (p := ⟨w.heap.size, 10, none⟩) hle0 (.int .i64 0)).setCell (p := ⟨w.heap.size, 11, none⟩) hle0 (.int .i64 0)).setCell (p := ⟨w.heap.size, 12, none⟩) hle0 (.int .i64 0))
              have hlF := hF.lt
              generalize (((((((((((((w5.setCell ⟨w.heap.size, 0, none⟩ (.int .i64 0)).setCell ⟨w.heap.size, 1, none⟩ (.int .i64 0)).setCell ⟨w.heap.size, 2, none⟩ (.int .i64 0)).setCell ⟨w.heap.size, 3, none⟩ (.int .i64 0)).setCell ⟨w.heap.size, 4, none⟩ (.int .i64 0)).setCell ⟨w.heap.size, 5, none⟩ (.int .i64 0)).setCell ⟨w.heap.size, 6, none⟩ (.int .i64 0)).setCell ⟨w.heap.size, 7, none⟩ (.int .i64 0)).setCell ⟨w.heap.size, 8, none⟩ (.int .i64 0)).setCell ⟨w.heap.size, 9, none⟩ (.int .i64 0)).setCell ⟨w.heap.size, 10, none⟩ (.int .i64 0)).setCell ⟨w.heap.size, 11, none⟩ (.int .i64 0)).setCell ⟨w.heap.size, 12, none⟩ (.int .i64 0)) = wf at *
              have r0 : wf.cell? ⟨w.heap.size, 0, none⟩ = some (.int .i64 0) := hF.cell 0
              have r1 : wf.cell? ⟨w.heap.size, 1, none⟩ = some (.int .i64 0) := hF.cell 1
              have r2 : wf.cell? ⟨w.heap.size, 2, none⟩ = some (.int .i64 0) := hF.cell 2
              have r3 : wf.cell? ⟨w.heap.size, 3, none⟩ = some (.int .i64 0) := hF.cell 3
              have r4 : wf.cell? ⟨w.heap.size, 4, none⟩ = some (.int .i64 0) := hF.cell 4
              have r5 : wf.cell? ⟨w.heap.size, 5, none⟩ = some (.int .i64 0) := hF.cell 5
              have r6 : wf.cell? ⟨w.heap.size, 6, none⟩ = some (.int .i64 0) := hF.cell 6
              have r7 : wf.cell? ⟨w.heap.size, 7, none⟩ = some (.int .i64 0) := hF.cell 7
              have r8 : wf.cell? ⟨w.heap.size, 8, none⟩ = some (.int .i64 0) := hF.cell 8
              have r9 : wf.cell? ⟨w.heap.size, 9, none⟩ = some (.int .i64 0) := hF.cell 9
              have r10 : wf.cell? ⟨w.heap.size, 10, none⟩ = some (.int .i64 0) := hF.cell 10
              have r11 : wf.cell? ⟨w.heap.size, 11, none⟩ = some (.int .i64 0) := hF.cell 11
              have r12 : wf.cell? ⟨w.heap.size, 12, none⟩ = some (.int .i64 0) := hF.cell 12
              refine bodyPost_ret (v := .tuple #[.agg #[.int .i64 0, .int .i64 0, .int .i64 0, .int .i64 0, .int .i64 0, .int .i64 0, .int .i64 0, .int .i64 0, .int .i64 0, .int .i64 0, .int .i64 0, .int .i64 0, .int .i64 0], .int .i64 2]) (by simp [results, Tryz.results64, go_sem, r0, r1, r2, r3, r4, r5, r6, r7, r8, r9, r10, r11, r12, hlF]) rfl ?_
              exact ⟨rfl, hWf⟩
        · have hl2 : Sl w3 w3.heap.size 1 (some ⟨al.block, al.off + 2, none⟩) (n - 2) (c - 2) (vs (l.drop 2)) := by
            have h2 := hdr
            rw [if_neg hc2] at h2
            rw [show vs (l.drop 2) = (vs l).drop (2 * 1) by unfold vs; rw [List.map_drop]]
            have e : (some al).map (·.add (2 * 1)) = some ⟨al.block, al.off + 2, none⟩ := by simp [Addr.add]
            rw [e] at h2
            exact h2
          clear hdr
          go_wp2_with fail
          have hlen : (l.drop 2).length = (n - 2) := by rw [List.length_drop, HD.out]
          have hszz : ∀ x ∈ l.drop 2, x.length ≤ maxLen := fun x hx => HSZ.out x (List.mem_of_mem_drop hx)
          refine (nums_any (some ⟨al.block, al.off + 2, none⟩) (n - 2) (c - 2) (l.drop 2) w3 hlen (by omega) hszz hl2).mono ?_
          rintro e w4 hret
          unfold NumsRet at hret
          obtain ⟨o, ho⟩ : ∃ o, numsF (l.drop 2) = o := ⟨_, rfl⟩
          rw [ho] at hret HZ
          clear hszz hl2 h
          have hcf1 := HF.out.e1
          have hcf3 := HF.out.e3
          unfold EnterF at hcf1 hcf3
          cases o with
          | none =>
            obtain ⟨rfl, hb⟩ := hret
            have hz := HZ.out
            injection hz with e1 e2
            subst e1 e2
            replace hX := hX.below hb hX.lt
            replace hB := hB.trans (hb.mono hs)
            replace hs := hB.size
            clear hb
            clear HZ ho hlen hcf1 hcf3 hG
            have z_0 : w4.cell? ⟨w.heap.size, 0, none⟩ = some (.int .i64 0) := hX.cell 0
            have zf_0 := hX.free 0
            have z_1 : w4.cell? ⟨w.heap.size, 1, none⟩ = some (.int .i64 0) := hX.cell 1
            have zf_1 := hX.free 1
            have z_2 : w4.cell? ⟨w.heap.size, 2, none⟩ = some (.int .i64 0) := hX.cell 2
            have zf_2 := hX.free 2
            have z_3 : w4.cell? ⟨w.heap.size, 3, none⟩ = some (.int .i64 0) := hX.cell 3
            have zf_3 := hX.free 3
            have z_4 : w4.cell? ⟨w.heap.size, 4, none⟩ = some (.int .i64 0) := hX.cell 4
            have zf_4 := hX.free 4
            have z_5 : w4.cell? ⟨w.heap.size, 5, none⟩ = some (.int .i64 0) := hX.cell 5
            have zf_5 := hX.free 5
            have z_6 : w4.cell? ⟨w.heap.size, 6, none⟩ = some (.int .i64 0) := hX.cell 6
            have zf_6 := hX.free 6
            have z_7 : w4.cell? ⟨w.heap.size, 7, none⟩ = some (.int .i64 0) := hX.cell 7
            have zf_7 := hX.free 7
            have z_8 : w4.cell? ⟨w.heap.size, 8, none⟩ = some (.int .i64 0) := hX.cell 8
            have zf_8 := hX.free 8
            have z_9 : w4.cell? ⟨w.heap.size, 9, none⟩ = some (.int .i64 0) := hX.cell 9
            have zf_9 := hX.free 9
            have z_10 : w4.cell? ⟨w.heap.size, 10, none⟩ = some (.int .i64 0) := hX.cell 10
            have zf_10 := hX.free 10
            have z_11 : w4.cell? ⟨w.heap.size, 11, none⟩ = some (.int .i64 0) := hX.cell 11
            have zf_11 := hX.free 11
            have z_12 : w4.cell? ⟨w.heap.size, 12, none⟩ = some (.int .i64 0) := hX.cell 12
            have zf_12 := hX.free 12
            have lt_z := hX.lt
            go_wp2_with fail
            have hF : Blok (((((((((((((w4.setCell ⟨w.heap.size, 0, none⟩ (.int .i64 0)).setCell ⟨w.heap.size, 1, none⟩ (.int .i64 0)).setCell ⟨w.heap.size, 2, none⟩ (.int .i64 0)).setCell ⟨w.heap.size, 3, none⟩ (.int .i64 0)).setCell ⟨w.heap.size, 4, none⟩ (.int .i64 0)).setCell ⟨w.heap.size, 5, none⟩ (.int .i64 0)).setCell ⟨w.heap.size, 6, none⟩ (.int .i64 0)).setCell ⟨w.heap.size, 7, none⟩ (.int .i64 0)).setCell ⟨w.heap.size, 8, none⟩ (.int .i64 0)).setCell ⟨w.heap.size, 9, none⟩ (.int .i64 0)).setCell ⟨w.heap.size, 10, none⟩ (.int .i64 0)).setCell ⟨w.heap.size, 11, none⟩ (.int .i64 0)).setCell ⟨w.heap.size, 12, none⟩ (.int .i64 0)) w.heap.size 38 #[.int .i64 0, .int .i64 0, .int .i64 0, .int .i64 0, .int .i64 0, .int .i64 0, .int .i64 0, .int .i64 0, .int .i64 0, .int .i64 0, .int .i64 0, .int .i64 0, .int .i64 0] := by have h := (((((((((((((hX.set_ 0 (.int .i64 0)).set_ 1 (.int .i64 0)).set_ 2 (.int .i64 0)).set_ 3 (.int .i64 0)).set_ 4 (.int .i64 0)).set_ 5 (.int .i64 0)).set_ 6 (.int .i64 0)).set_ 7 (.int .i64 0)).set_ 8 (.int .i64 0)).set_ 9 (.int .i64 0)).set_ 10 (.int .i64 0)).set_ 11 (.int .i64 0)).set_ 12 (.int .i64 0)); simpa using h
            have hle0 : w.heap.size ≤ w.heap.size := by first | exact Nat.le_refl _ | omega
            have hWf : Below w.heap.size w (((((((((((((w4.setCell ⟨w.heap.size, 0, none⟩ (.int .i64 0)).setCell ⟨w.heap.size, 1, none⟩ (.int .i64 0)).setCell ⟨w.heap.size, 2, none⟩ (.int .i64 0)).setCell ⟨w.heap.size, 3, none⟩ (.int .i64 0)).setCell ⟨w.heap.size, 4, none⟩ (.int .i64 0)).setCell ⟨w.heap.size, 5, none⟩ (.int .i64 0)).setCell ⟨w.heap.size, 6, none⟩ (.int .i64 0)).setCell ⟨w.heap.size, 7, none⟩ (.int .i64 0)).setCell ⟨w.heap.size, 8, none⟩ (.int .i64 0)).setCell ⟨w.heap.size, 9, none⟩ (.int .i64 0)).setCell ⟨w.heap.size, 10, none⟩ (.int .i64 0)).setCell ⟨w.heap.size, 11, none⟩ (.int .i64 0)).setCell ⟨w.heap.size, 12, none⟩ (.int .i64 0)) := (((((((((((((hB.setCell (p := ⟨w.heap.size, 0, none⟩) hle0 (.int .i64 0)).setCell (p := ⟨w.heap.size, 1, none⟩) hle0 (.int .i64 0)).setCell (p := ⟨w.heap.size, 2, none⟩) hle0 (.int .i64 0)).setCell (p := ⟨w.heap.size, 3, none⟩) hle0 (.int .i64 0)).setCell (p := ⟨w.heap.size, 4, none⟩) hle0 (.int .i64 0)).setCell (p := ⟨w.heap.size, 5, none⟩) hle0 (.int .i64 0)).setCell (p := ⟨w.heap.size, 6, none⟩) hle0 (.int .i64 0)).setCell (p := ⟨w.heap.size, 7, none⟩) hle0 (.int .i64 0)).setCell (p := ⟨w.heap.size, 8, none⟩) hle0 (.int .i64 0)).setCell (p := ⟨w.heap.size, 9, none⟩) hle0 (.int .i64 0)).setCell (p := ⟨w.heap.size, 10, none⟩) hle0 (.int .i64 0)).setCell (p := ⟨w.heap.size, 11, none⟩) hle0 (.int .i64 0)).setCell (p := ⟨w.heap.size, 12, none⟩) hle0 (.int .i64 0))
            have hlF := hF.lt
            generalize (((((((((((((w4.setCell ⟨w.heap.size, 0, none⟩ (.int .i64 0)).setCell ⟨w.heap.size, 1, none⟩ (.int .i64 0)).setCell ⟨w.heap.size, 2, none⟩ (.int .i64 0)).setCell ⟨w.heap.size, 3, none⟩ (.int .i64 0)).setCell ⟨w.heap.size, 4, none⟩ (.int .i64 0)).setCell ⟨w.heap.size, 5, none⟩ (.int .i64 0)).setCell ⟨w.heap.size, 6, none⟩ (.int .i64 0)).setCell ⟨w.heap.size, 7, none⟩ (.int .i64 0)).setCell ⟨w.heap.size, 8, none⟩ (.int .i64 0)).setCell ⟨w.heap.size, 9, none⟩ (.int .i64 0)).setCell ⟨w.heap.size, 10, none⟩ (.int .i64 0)).setCell ⟨w.heap.size, 11, none⟩ (.int .i64 0)).setCell ⟨w.heap.size, 12, none⟩ (.int .i64 0)) = wf at *
            have r0 : wf.cell? ⟨w.heap.size, 0, none⟩ = some (.int .i64 0) := hF.cell 0
            have r1 : wf.cell? ⟨w.heap.size, 1, none⟩ = some (.int .i64 0) := hF.cell 1
            have r2 : wf.cell? ⟨w.heap.size, 2, none⟩ = some (.int .i64 0) := hF.cell 2
            have r3 : wf.cell? ⟨w.heap.size, 3, none⟩ = some (.int .i64 0) := hF.cell 3
            have r4 : wf.cell? ⟨w.heap.size, 4, none⟩ = some (.int .i64 0) := hF.cell 4
            have r5 : wf.cell? ⟨w.heap.size, 5, none⟩ = some (.int .i64 0) := hF.cell 5
            have r6 : wf.cell? ⟨w.heap.size, 6, none⟩ = some (.int .i64 0) := hF.cell 6
            have r7 : wf.cell? ⟨w.heap.size, 7, none⟩ = some (.int .i64 0) := hF.cell 7
            have r8 : wf.cell? ⟨w.heap.size, 8, none⟩ = some (.int .i64 0) := hF.cell 8
            have r9 : wf.cell? ⟨w.heap.size, 9, none⟩ = some (.int .i64 0) := hF.cell 9
            have r10 : wf.cell? ⟨w.heap.size, 10, none⟩ = some (.int .i64 0) := hF.cell 10
            have r11 : wf.cell? ⟨w.heap.size, 11, none⟩ = some (.int .i64 0) := hF.cell 11
            have r12 : wf.cell? ⟨w.heap.size, 12, none⟩ = some (.int .i64 0) := hF.cell 12
            refine bodyPost_ret (v := .tuple #[.agg #[.int .i64 0, .int .i64 0, .int .i64 0, .int .i64 0, .int .i64 0, .int .i64 0, .int .i64 0, .int .i64 0, .int .i64 0, .int .i64 0, .int .i64 0, .int .i64 0, .int .i64 0], .int .i64 2]) (by simp [results, Tryz.results64, go_sem, r0, r1, r2, r3, r4, r5, r6, r7, r8, r9, r10, r11, r12, hlF]) rfl ?_
            exact ⟨rfl, hWf⟩
          | some ns =>
            obtain ⟨v, rfl, hv, hb⟩ := hret
            have hnl := numsF_len ho
            rw [hlen] at hnl hv
            obtain ⟨Av, cv, rfl⟩ := slice_of_own hv
            have hsl := Sl.of_own hv
            replace hX := hX.below hb hX.lt
            replace hG := hG.below hb hG.lt
            replace hB := hB.trans (hb.mono hs)
            replace hs := hB.size
            clear hb
            clear hv ho hlen
            have HNL := Lib.hid hnl
            clear hnl
            have g_0 : w4.cell? ⟨bg, 0, none⟩ = some (.func (.func f1) #[] #[]) := hG.cell 0
            have lt_g := hG.lt
            go_wp2_with fail
            clear g_0 lt_g
            refine (HF.out.nums w4).mono ?_
            rintro e w5 ⟨Az, cz, rfl, hb⟩
            replace hsl := hsl.up hb
            replace hX := hX.below hb hX.lt
            replace hG := hG.below hb hG.lt
            replace hB := hB.trans (hb.mono hs)
            replace hs := hB.size
            clear hb
            obtain ⟨fl, hfl⟩ : ∃ fl, formLen op kd = fl := ⟨_, rfl⟩
            have HFL := Lib.hid hfl
            rw [hfl]
            rw [hfl] at HZ
            clear hfl
            by_cases hkl : (n - 2) = fl
            · subst hkl
              have hsl' := hsl
              have hz := HZ.out
              try dsimp only at hz
              rw [if_pos HNL.out] at hz
              have HZ2 := Lib.hid hz
              have hkf : ns.length = formLen op kd := by rw [HNL.out, HFL.out]
              have HKF := Lib.hid hkf
              clear hz HZ hkf
              have g_0 : w5.cell? ⟨bg, 0, none⟩ = some (.func (.func f1) #[] #[]) := hG.cell 0
              have g_1 : w5.cell? ⟨bg, 1, none⟩ = some (.func (.func f2) #[] #[]) := hG.cell 1
              have g_2 : w5.cell? ⟨bg, 2, none⟩ = some (.func (.func f3) #[] #[]) := hG.cell 2
              have lt_g := hG.lt
              go_wp2_with fail
              clear g_0 g_1 g_2 lt_g
              have hmade := HF.out.fill ns HKF.out Av cv w5 (by rw [HFL.out]; exact hsl')
              rw [HFL.out] at hmade
              refine hmade.mono ?_
              have hmay := HF.out.may ns HKF.out
              obtain ⟨d1, hd1⟩ : ∃ d1, madeD op kd ns = d1 := ⟨_, rfl⟩
              rw [hd1] at hmay HZ2
              rw [hd1]
              have HMAY := Lib.hid hmay
              clear hmade hmay hd1
              rintro e w6 ⟨rfl, hb⟩
              clear hsl hsl'
              replace hX := hX.below hb hX.lt
              replace hG := hG.below hb hG.lt
              replace hB := hB.trans (hb.mono hs)
              replace hs := hB.size
              clear hb
              go_upto_region 11 with fail
              have hY := Blok.new w6 38 #[.int .i64 d1.op, .int .i64 d1.kd, .int .i64 d1.id, .int .i64 d1.fr, .int .i64 d1.tn, .int .i64 d1.st, .int .i64 d1.en, .int .i64 d1.rt, .int .i64 d1.rf, .int .i64 d1.rn, .int .i64 d1.rs, .int .i64 d1.re, .int .i64 d1.ro]
              have hb : Below w6.heap.size w6 (w6.alloc (.cells #[.int .i64 d1.op, .int .i64 d1.kd, .int .i64 d1.id, .int .i64 d1.fr, .int .i64 d1.tn, .int .i64 d1.st, .int .i64 d1.en, .int .i64 d1.rt, .int .i64 d1.rf, .int .i64 d1.rn, .int .i64 d1.rs, .int .i64 d1.re, .int .i64 d1.ro] 38)) := by (repeat (first | exact Below.refl _ _ | refine Below.alloc ?_ (by first | omega | (simp; done) | (simp; omega)) _ | refine Below.setCell ?_ (by first | omega | (simp; done) | (simp; omega)) _ | refine Below.drew ?_))
              replace hX := hX.below hb hX.lt
              replace hG := hG.below hb hG.lt
              replace hB := hB.trans (hb.mono hs)
              replace hs := hB.size
              clear hb
              generalize w6.alloc (.cells #[.int .i64 d1.op, .int .i64 d1.kd, .int .i64 d1.id, .int .i64 d1.fr, .int .i64 d1.tn, .int .i64 d1.st, .int .i64 d1.en, .int .i64 d1.rt, .int .i64 d1.rf, .int .i64 d1.rn, .int .i64 d1.rs, .int .i64 d1.re, .int .i64 d1.ro] 38) = w7 at *
              generalize hbd : w6.heap.size = bd at *
              clear hbd
              have g_2 : w7.cell? ⟨bg, 2, none⟩ = some (.func (.func f3) #[] #[]) := hG.cell 2
              have lt_g := hG.lt
              obtain ⟨y0, y1, y2, y3, y4, y5, y6, y7, y8, y9, y10, y11, y12, lt_y⟩ := blok13 hY
              go_wp2_with fail
              clear g_2 lt_g
              clear y0 y1 y2 y3 y4 y5 y6 y7 y8 y9 y10 y11 y12 lt_y
              refine (HMAY.out w7).mono ?_
              rintro e w8 ⟨rfl, hb⟩
              replace hX := hX.below hb hX.lt
              replace hY := hY.below hb hY.lt
              replace hB := hB.trans (hb.mono hs)
              replace hs := hB.size
              clear hb
              clear hG
              cases hmm : mayD d1
              · have hz := HZ2.out
                rw [hmm, if_neg (by simp)] at hz
                injection hz with e1 e2
                subst e1 e2
                clear HZ2 hmm hcf1 hcf3 hY
                have z_0 : w8.cell? ⟨w.heap.size, 0, none⟩ = some (.int .i64 0) := hX.cell 0
                have zf_0 := hX.free 0
                have z_1 : w8.cell? ⟨w.heap.size, 1, none⟩ = some (.int .i64 0) := hX.cell 1
                have zf_1 := hX.free 1
                have z_2 : w8.cell? ⟨w.heap.size, 2, none⟩ = some (.int .i64 0) := hX.cell 2
                have zf_2 := hX.free 2
                have z_3 : w8.cell? ⟨w.heap.size, 3, none⟩ = some (.int .i64 0) := hX.cell 3
                have zf_3 := hX.free 3
                have z_4 : w8.cell? ⟨w.heap.size, 4, none⟩ = some (.int .i64 0) := hX.cell 4
                have zf_4 := hX.free 4
                have z_5 : w8.cell? ⟨w.heap.size, 5, none⟩ = some (.int .i64 0) := hX.cell 5
                have zf_5 := hX.free 5
                have z_6 : w8.cell? ⟨w.heap.size, 6, none⟩ = some (.int .i64 0) := hX.cell 6
                have zf_6 := hX.free 6
                have z_7 : w8.cell? ⟨w.heap.size, 7, none⟩ = some (.int .i64 0) := hX.cell 7
                have zf_7 := hX.free 7
                have z_8 : w8.cell? ⟨w.heap.size, 8, none⟩ = some (.int .i64 0) := hX.cell 8
                have zf_8 := hX.free 8
                have z_9 : w8.cell? ⟨w.heap.size, 9, none⟩ = some (.int .i64 0) := hX.cell 9
                have zf_9 := hX.free 9
                have z_10 : w8.cell? ⟨w.heap.size, 10, none⟩ = some (.int .i64 0) := hX.cell 10
                have zf_10 := hX.free 10
                have z_11 : w8.cell? ⟨w.heap.size, 11, none⟩ = some (.int .i64 0) := hX.cell 11
                have zf_11 := hX.free 11
                have z_12 : w8.cell? ⟨w.heap.size, 12, none⟩ = some (.int .i64 0) := hX.cell 12
                have zf_12 := hX.free 12
                have lt_z := hX.lt
                go_wp2_with fail
                have hF : Blok (((((((((((((w8.setCell ⟨w.heap.size, 0, none⟩ (.int .i64 0)).setCell ⟨w.heap.size, 1, none⟩ (.int .i64 0)).setCell ⟨w.heap.size, 2, none⟩ (.int .i64 0)).setCell ⟨w.heap.size, 3, none⟩ (.int .i64 0)).setCell ⟨w.heap.size, 4, none⟩ (.int .i64 0)).setCell ⟨w.heap.size, 5, none⟩ (.int .i64 0)).setCell ⟨w.heap.size, 6, none⟩ (.int .i64 0)).setCell ⟨w.heap.size, 7, none⟩ (.int .i64 0)).setCell ⟨w.heap.size, 8, none⟩ (.int .i64 0)).setCell ⟨w.heap.size, 9, none⟩ (.int .i64 0)).setCell ⟨w.heap.size, 10, none⟩ (.int .i64 0)).setCell ⟨w.heap.size, 11, none⟩ (.int .i64 0)).setCell ⟨w.heap.size, 12, none⟩ (.int .i64 0)) w.heap.size 38 #[.int .i64 0, .int .i64 0, .int .i64 0, .int .i64 0, .int .i64 0, .int .i64 0, .int .i64 0, .int .i64 0, .int .i64 0, .int .i64 0, .int .i64 0, .int .i64 0, .int .i64 0] := by have h := (((((((((((((hX.set_ 0 (.int .i64 0)).set_ 1 (.int .i64 0)).set_ 2 (.int .i64 0)).set_ 3 (.int .i64 0)).set_ 4 (.int .i64 0)).set_ 5 (.int .i64 0)).set_ 6 (.int .i64 0)).set_ 7 (.int .i64 0)).set_ 8 (.int .i64 0)).set_ 9 (.int .i64 0)).set_ 10 (.int .i64 0)).set_ 11 (.int .i64 0)).set_ 12 (.int .i64 0)); simpa using h
                have hle0 : w.heap.size ≤ w.heap.size := by first | exact Nat.le_refl _ | omega
                have hWf : Below w.heap.size w (((((((((((((w8.setCell ⟨w.heap.size, 0, none⟩ (.int .i64 0)).setCell ⟨w.heap.size, 1, none⟩ (.int .i64 0)).setCell ⟨w.heap.size, 2, none⟩ (.int .i64 0)).setCell ⟨w.heap.size, 3, none⟩ (.int .i64 0)).setCell ⟨w.heap.size, 4, none⟩ (.int .i64 0)).setCell ⟨w.heap.size, 5, none⟩ (.int .i64 0)).setCell ⟨w.heap.size, 6, none⟩ (.int .i64 0)).setCell ⟨w.heap.size, 7, none⟩ (.int .i64 0)).setCell ⟨w.heap.size, 8, none⟩ (.int .i64 0)).setCell ⟨w.heap.size, 9, none⟩ (.int .i64 0)).setCell ⟨w.heap.size, 10, none⟩ (.int .i64 0)).setCell ⟨w.heap.size, 11, none⟩ (.int .i64 0)).setCell ⟨w.heap.size, 12, none⟩ (.int .i64 0)) := (((((((((((((hB.setCell (p := ⟨w.heap.size, 0, none⟩) hle0 (.int .i64 0)).setCell (p := ⟨w.heap.size, 1, none⟩) hle0 (.int .i64 0)).setCell (p := ⟨w.heap.size, 2, none⟩) hle0 (.int .i64 0)).setCell (p := ⟨w.heap.size, 3, none⟩) hle0 (.int .i64 0)).setCell (p := ⟨w.heap.size, 4, none⟩) hle0 (.int .i64 0)).setCell (p := ⟨w.heap.size, 5, none⟩) hle0 (.int .i64 0)).setCell (p := ⟨w.heap.size, 6, none⟩) hle0 (.int .i64 0)).setCell (p := ⟨w.heap.size, 7, none⟩) hle0 (.int .i64 0)).setCell (p := ⟨w.heap.size, 8, none⟩) hle0 (.int .i64 0)).setCell (p := ⟨w.heap.size, 9, none⟩) hle0 (.int .i64 0)).setCell (p := ⟨w.heap.size, 10, none⟩) hle0 (.int .i64 0)).setCell (p := ⟨w.heap.size, 11, none⟩) hle0 (.int .i64 0)).setCell (p := ⟨w.heap.size, 12, none⟩) hle0 (.int .i64 0))
                have hlF := hF.lt
                generalize (((((((((((((w8.setCell ⟨w.heap.size, 0, none⟩ (.int .i64 0)).setCell ⟨w.heap.size, 1, none⟩ (.int .i64 0)).setCell ⟨w.heap.size, 2, none⟩ (.int .i64 0)).setCell ⟨w.heap.size, 3, none⟩ (.int .i64 0)).setCell ⟨w.heap.size, 4, none⟩ (.int .i64 0)).setCell ⟨w.heap.size, 5, none⟩ (.int .i64 0)).setCell ⟨w.heap.size, 6, none⟩ (.int .i64 0)).setCell ⟨w.heap.size, 7, none⟩ (.int .i64 0)).setCell ⟨w.heap.size, 8, none⟩ (.int .i64 0)).setCell ⟨w.heap.size, 9, none⟩ (.int .i64 0)).setCell ⟨w.heap.size, 10, none⟩ (.int .i64 0)).setCell ⟨w.heap.size, 11, none⟩ (.int .i64 0)).setCell ⟨w.heap.size, 12, none⟩ (.int .i64 0)) = wf at *
                have r0 : wf.cell? ⟨w.heap.size, 0, none⟩ = some (.int .i64 0) := hF.cell 0
                have r1 : wf.cell? ⟨w.heap.size, 1, none⟩ = some (.int .i64 0) := hF.cell 1
                have r2 : wf.cell? ⟨w.heap.size, 2, none⟩ = some (.int .i64 0) := hF.cell 2
                have r3 : wf.cell? ⟨w.heap.size, 3, none⟩ = some (.int .i64 0) := hF.cell 3
                have r4 : wf.cell? ⟨w.heap.size, 4, none⟩ = some (.int .i64 0) := hF.cell 4
                have r5 : wf.cell? ⟨w.heap.size, 5, none⟩ = some (.int .i64 0) := hF.cell 5
                have r6 : wf.cell? ⟨w.heap.size, 6, none⟩ = some (.int .i64 0) := hF.cell 6
                have r7 : wf.cell? ⟨w.heap.size, 7, none⟩ = some (.int .i64 0) := hF.cell 7
                have r8 : wf.cell? ⟨w.heap.size, 8, none⟩ = some (.int .i64 0) := hF.cell 8
                have r9 : wf.cell? ⟨w.heap.size, 9, none⟩ = some (.int .i64 0) := hF.cell 9
                have r10 : wf.cell? ⟨w.heap.size, 10, none⟩ = some (.int .i64 0) := hF.cell 10
                have r11 : wf.cell? ⟨w.heap.size, 11, none⟩ = some (.int .i64 0) := hF.cell 11
                have r12 : wf.cell? ⟨w.heap.size, 12, none⟩ = some (.int .i64 0) := hF.cell 12
                refine bodyPost_ret (v := .tuple #[.agg #[.int .i64 0, .int .i64 0, .int .i64 0, .int .i64 0, .int .i64 0, .int .i64 0, .int .i64 0, .int .i64 0, .int .i64 0, .int .i64 0, .int .i64 0, .int .i64 0, .int .i64 0], .int .i64 1]) (by simp [results, Tryz.results64, go_sem, r0, r1, r2, r3, r4, r5, r6, r7, r8, r9, r10, r11, r12, hlF]) rfl ?_
                exact ⟨rfl, hWf⟩
              · have hz := HZ2.out
                rw [hmm, if_pos rfl] at hz
                injection hz with e1 e2
                subst e1 e2
                clear HZ2 hmm hcf1 hcf3 HMAY
                obtain ⟨y0, y1, y2, y3, y4, y5, y6, y7, y8, y9, y10, y11, y12, lt_y⟩ := blok13 hY
                have z_0 : w8.cell? ⟨w.heap.size, 0, none⟩ = some (.int .i64 0) := hX.cell 0
                have zf_0 := hX.free 0
                have z_1 : w8.cell? ⟨w.heap.size, 1, none⟩ = some (.int .i64 0) := hX.cell 1
                have zf_1 := hX.free 1
                have z_2 : w8.cell? ⟨w.heap.size, 2, none⟩ = some (.int .i64 0) := hX.cell 2
                have zf_2 := hX.free 2
                have z_3 : w8.cell? ⟨w.heap.size, 3, none⟩ = some (.int .i64 0) := hX.cell 3
                have zf_3 := hX.free 3
                have z_4 : w8.cell? ⟨w.heap.size, 4, none⟩ = some (.int .i64 0) := hX.cell 4
                have zf_4 := hX.free 4
                have z_5 : w8.cell? ⟨w.heap.size, 5, none⟩ = some (.int .i64 0) := hX.cell 5
                have zf_5 := hX.free 5
                have z_6 : w8.cell? ⟨w.heap.size, 6, none⟩ = some (.int .i64 0) := hX.cell 6
                have zf_6 := hX.free 6
                have z_7 : w8.cell? ⟨w.heap.size, 7, none⟩ = some (.int .i64 0) := hX.cell 7
                have zf_7 := hX.free 7
                have z_8 : w8.cell? ⟨w.heap.size, 8, none⟩ = some (.int .i64 0) := hX.cell 8
                have zf_8 := hX.free 8
                have z_9 : w8.cell? ⟨w.heap.size, 9, none⟩ = some (.int .i64 0) := hX.cell 9
                have zf_9 := hX.free 9
                have z_10 : w8.cell? ⟨w.heap.size, 10, none⟩ = some (.int .i64 0) := hX.cell 10
                have zf_10 := hX.free 10
                have z_11 : w8.cell? ⟨w.heap.size, 11, none⟩ = some (.int .i64 0) := hX.cell 11
                have zf_11 := hX.free 11
                have z_12 : w8.cell? ⟨w.heap.size, 12, none⟩ = some (.int .i64 0) := hX.cell 12
                have zf_12 := hX.free 12
                have lt_z := hX.lt
                go_wp2_with fail
                clear y0 y1 y2 y3 y4 y5 y6 y7 y8 y9 y10 y11 y12 lt_y
                have hF : Blok (((((((((((((w8.setCell ⟨w.heap.size, 0, none⟩ (.int .i64 d1.op)).setCell ⟨w.heap.size, 1, none⟩ (.int .i64 d1.kd)).setCell ⟨w.heap.size, 2, none⟩ (.int .i64 d1.id)).setCell ⟨w.heap.size, 3, none⟩ (.int .i64 d1.fr)).setCell ⟨w.heap.size, 4, none⟩ (.int .i64 d1.tn)).setCell ⟨w.heap.size, 5, none⟩ (.int .i64 d1.st)).setCell ⟨w.heap.size, 6, none⟩ (.int .i64 d1.en)).setCell ⟨w.heap.size, 7, none⟩ (.int .i64 d1.rt)).setCell ⟨w.heap.size, 8, none⟩ (.int .i64 d1.rf)).setCell ⟨w.heap.size, 9, none⟩ (.int .i64 d1.rn)).setCell ⟨w.heap.size, 10, none⟩ (.int .i64 d1.rs)).setCell ⟨w.heap.size, 11, none⟩ (.int .i64 d1.re)).setCell ⟨w.heap.size, 12, none⟩ (.int .i64 d1.ro)) w.heap.size 38 #[.int .i64 d1.op, .int .i64 d1.kd, .int .i64 d1.id, .int .i64 d1.fr, .int .i64 d1.tn, .int .i64 d1.st, .int .i64 d1.en, .int .i64 d1.rt, .int .i64 d1.rf, .int .i64 d1.rn, .int .i64 d1.rs, .int .i64 d1.re, .int .i64 d1.ro] := by have h := (((((((((((((hX.set_ 0 (.int .i64 d1.op)).set_ 1 (.int .i64 d1.kd)).set_ 2 (.int .i64 d1.id)).set_ 3 (.int .i64 d1.fr)).set_ 4 (.int .i64 d1.tn)).set_ 5 (.int .i64 d1.st)).set_ 6 (.int .i64 d1.en)).set_ 7 (.int .i64 d1.rt)).set_ 8 (.int .i64 d1.rf)).set_ 9 (.int .i64 d1.rn)).set_ 10 (.int .i64 d1.rs)).set_ 11 (.int .i64 d1.re)).set_ 12 (.int .i64 d1.ro)); simpa using h
                have hle0 : w.heap.size ≤ w.heap.size := by first | exact Nat.le_refl _ | omega
                have hWf : Below w.heap.size w (((((((((((((w8.setCell ⟨w.heap.size, 0, none⟩ (.int .i64 d1.op)).setCell ⟨w.heap.size, 1, none⟩ (.int .i64 d1.kd)).setCell ⟨w.heap.size, 2, none⟩ (.int .i64 d1.id)).setCell ⟨w.heap.size, 3, none⟩ (.int .i64 d1.fr)).setCell ⟨w.heap.size, 4, none⟩ (.int .i64 d1.tn)).setCell ⟨w.heap.size, 5, none⟩ (.int .i64 d1.st)).setCell ⟨w.heap.size, 6, none⟩ (.int .i64 d1.en)).setCell ⟨w.heap.size, 7, none⟩ (.int .i64 d1.rt)).setCell ⟨w.heap.size, 8, none⟩ (.int .i64 d1.rf)).setCell ⟨w.heap.size, 9, none⟩ (.int .i64 d1.rn)).setCell ⟨w.heap.size, 10, none⟩ (.int .i64 d1.rs)).setCell ⟨w.heap.size, 11, none⟩ (.int .i64 d1.re)).setCell ⟨w.heap.size, 12, none⟩ (.int .i64 d1.ro)) := (((((((((((((hB.setCell (p := ⟨w.heap.size, 0, none⟩) hle0 (.int .i64 d1.op)).setCell (p := ⟨w.heap.size, 1, none⟩) hle0 (.int .i64 d1.kd)).setCell (p := ⟨w.heap.size, 2, none⟩) hle0 (.int .i64 d1.id)).setCell (p := ⟨w.heap.size, 3, none⟩) hle0 (.int .i64 d1.fr)).setCell (p := ⟨w.heap.size, 4, none⟩) hle0 (.int .i64 d1.tn)).setCell (p := ⟨w.heap.size, 5, none⟩) hle0 (.int .i64 d1.st)).setCell (p := ⟨w.heap.size, 6, none⟩) hle0 (.int .i64 d1.en)).setCell (p := ⟨w.heap.size, 7, none⟩) hle0 (.int .i64 d1.rt)).setCell (p := ⟨w.heap.size, 8, none⟩) hle0 (.int .i64 d1.rf)).setCell (p := ⟨w.heap.size, 9, none⟩) hle0 (.int .i64 d1.rn)).setCell (p := ⟨w.heap.size, 10, none⟩) hle0 (.int .i64 d1.rs)).setCell (p := ⟨w.heap.size, 11, none⟩) hle0 (.int .i64 d1.re)).setCell (p := ⟨w.heap.size, 12, none⟩) hle0 (.int .i64 d1.ro))
                have hlF := hF.lt
                generalize (((((((((((((w8.setCell ⟨w.heap.size, 0, none⟩ (.int .i64 d1.op)).setCell ⟨w.heap.size, 1, none⟩ (.int .i64 d1.kd)).setCell ⟨w.heap.size, 2, none⟩ (.int .i64 d1.id)).setCell ⟨w.heap.size, 3, none⟩ (.int .i64 d1.fr)).setCell ⟨w.heap.size, 4, none⟩ (.int .i64 d1.tn)).setCell ⟨w.heap.size, 5, none⟩ (.int .i64 d1.st)).setCell ⟨w.heap.size, 6, none⟩ (.int .i64 d1.en)).setCell ⟨w.heap.size, 7, none⟩ (.int .i64 d1.rt)).setCell ⟨w.heap.size, 8, none⟩ (.int .i64 d1.rf)).setCell ⟨w.heap.size, 9, none⟩ (.int .i64 d1.rn)).setCell ⟨w.heap.size, 10, none⟩ (.int .i64 d1.rs)).setCell ⟨w.heap.size, 11, none⟩ (.int .i64 d1.re)).setCell ⟨w.heap.size, 12, none⟩ (.int .i64 d1.ro)) = wf at *
                have r0 : wf.cell? ⟨w.heap.size, 0, none⟩ = some (.int .i64 d1.op) := hF.cell 0
                have r1 : wf.cell? ⟨w.heap.size, 1, none⟩ = some (.int .i64 d1.kd) := hF.cell 1
                have r2 : wf.cell? ⟨w.heap.size, 2, none⟩ = some (.int .i64 d1.id) := hF.cell 2
                have r3 : wf.cell? ⟨w.heap.size, 3, none⟩ = some (.int .i64 d1.fr) := hF.cell 3
                have r4 : wf.cell? ⟨w.heap.size, 4, none⟩ = some (.int .i64 d1.tn) := hF.cell 4
                have r5 : wf.cell? ⟨w.heap.size, 5, none⟩ = some (.int .i64 d1.st) := hF.cell 5
                have r6 : wf.cell? ⟨w.heap.size, 6, none⟩ = some (.int .i64 d1.en) := hF.cell 6
                have r7 : wf.cell? ⟨w.heap.size, 7, none⟩ = some (.int .i64 d1.rt) := hF.cell 7
                have r8 : wf.cell? ⟨w.heap.size, 8, none⟩ = some (.int .i64 d1.rf) := hF.cell 8
                have r9 : wf.cell? ⟨w.heap.size, 9, none⟩ = some (.int .i64 d1.rn) := hF.cell 9
                have r10 : wf.cell? ⟨w.heap.size, 10, none⟩ = some (.int .i64 d1.rs) := hF.cell 10
                have r11 : wf.cell? ⟨w.heap.size, 11, none⟩ = some (.int .i64 d1.re) := hF.cell 11
                have r12 : wf.cell? ⟨w.heap.size, 12, none⟩ = some (.int .i64 d1.ro) := hF.cell 12
                refine bodyPost_ret (v := .tuple #[.agg #[.int .i64 d1.op, .int .i64 d1.kd, .int .i64 d1.id, .int .i64 d1.fr, .int .i64 d1.tn, .int .i64 d1.st, .int .i64 d1.en, .int .i64 d1.rt, .int .i64 d1.rf, .int .i64 d1.rn, .int .i64 d1.rs, .int .i64 d1.re, .int .i64 d1.ro], .int .i64 0]) (by simp [results, Tryz.results64, go_sem, r0, r1, r2, r3, r4, r5, r6, r7, r8, r9, r10, r11, r12, hlF]) rfl ?_
                exact ⟨rfl, hWf⟩
            · have hz := HZ.out
              try dsimp only at hz
              rw [if_neg (by rw [HNL.out]; exact hkl)] at hz
              injection hz with e1 e2
              subst e1 e2
              have hgq : ((((n - 2) : Nat) : Int) != (fl : Int)) = true := by simp; omega
              clear HZ hcf1 hcf3 hG hsl
              have z_0 : w5.cell? ⟨w.heap.size, 0, none⟩ = some (.int .i64 0) := hX.cell 0
              have zf_0 := hX.free 0
              have z_1 : w5.cell? ⟨w.heap.size, 1, none⟩ = some (.int .i64 0) := hX.cell 1
              have zf_1 := hX.free 1
              have z_2 : w5.cell? ⟨w.heap.size, 2, none⟩ = some (.int .i64 0) := hX.cell 2
              have zf_2 := hX.free 2
              have z_3 : w5.cell? ⟨w.heap.size, 3, none⟩ = some (.int .i64 0) := hX.cell 3
              have zf_3 := hX.free 3
              have z_4 : w5.cell? ⟨w.heap.size, 4, none⟩ = some (.int .i64 0) := hX.cell 4
              have zf_4 := hX.free 4
              have z_5 : w5.cell? ⟨w.heap.size, 5, none⟩ = some (.int .i64 0) := hX.cell 5
              have zf_5 := hX.free 5
              have z_6 : w5.cell? ⟨w.heap.size, 6, none⟩ = some (.int .i64 0) := hX.cell 6
              have zf_6 := hX.free 6
              have z_7 : w5.cell? ⟨w.heap.size, 7, none⟩ = some (.int .i64 0) := hX.cell 7
              have zf_7 := hX.free 7
              have z_8 : w5.cell? ⟨w.heap.size, 8, none⟩ = some (.int .i64 0) := hX.cell 8
              have zf_8 := hX.free 8
              have z_9 : w5.cell? ⟨w.heap.size, 9, none⟩ = some (.int .i64 0) := hX.cell 9
              have zf_9 := hX.free 9
              have z_10 : w5.cell? ⟨w.heap.size, 10, none⟩ = some (.int .i64 0) := hX.cell 10
              have zf_10 := hX.free 10
              have z_11 : w5.cell? ⟨w.heap.size, 11, none⟩ = some (.int .i64 0) := hX.cell 11
              have zf_11 := hX.free 11
              have z_12 : w5.cell? ⟨w.heap.size, 12, none⟩ = some (.int .i64 0) := hX.cell 12
              have zf_12 := hX.free 12
              have lt_z := hX.lt
              go_wp2_with fail
              have hF : Blok (((((((((((((w5.setCell ⟨w.heap.size, 0, none⟩ (.int .i64 0)).setCell ⟨w.heap.size, 1, none⟩ (.int .i64 0)).setCell ⟨w.heap.size, 2, none⟩ (.int .i64 0)).setCell ⟨w.heap.size, 3, none⟩ (.int .i64 0)).setCell ⟨w.heap.size, 4, none⟩ (.int .i64 0)).setCell ⟨w.heap.size, 5, none⟩ (.int .i64 0)).setCell ⟨w.heap.size, 6, none⟩ (.int .i64 0)).setCell ⟨w.heap.size, 7, none⟩ (.int .i64 0)).setCell ⟨w.heap.size, 8, none⟩ (.int .i64 0)).setCell ⟨w.heap.size, 9, none⟩ (.int .i64 0)).setCell ⟨w.heap.size, 10, none⟩ (.int .i64 0)).setCell ⟨w.heap.size, 11, none⟩ (.int .i64 0)).setCell ⟨w.heap.size, 12, none⟩ (.int .i64 0)) w.heap.size 38 #[.int .i64 0, .int .i64 0, .int .i64 0, .int .i64 0, .int .i64 0, .int .i64 0, .int .i64 0, .int .i64 0, .int .i64 0, .int .i64 0, .int .i64 0, .int .i64 0, .int .i64 0] := by have h := (((((((((((((hX.set_ 0 (.int .i64 0)).set_ 1 (.int .i64 0)).set_ 2 (.int .i64 0)).set_ 3 (.int .i64 0)).set_ 4 (.int .i64 0)).set_ 5 (.int .i64 0)).set_ 6 (.int .i64 0)).set_ 7 (.int .i64 0)).set_ 8 (.int .i64 0)).set_ 9 (.int .i64 0)).set_ 10 (.int .i64 0)).set_ 11 (.int .i64 0)).set_ 12 (.int .i64 0)); simpa using h
              have hle0 : w.heap.size ≤ w.heap.size := by first | exact Nat.le_refl _ | omega
              have hWf : Below w.heap.size w (((((((((((((w5.setCell ⟨w.heap.size, 0, none⟩ (.int .i64 0)).setCell ⟨w.heap.size, 1, none⟩ (.int .i64 0)).setCell ⟨w.heap.size, 2, none⟩ (.int .i64 0)).setCell ⟨w.heap.size, 3, none⟩ (.int .i64 0)).setCell ⟨w.heap.size, 4, none⟩ (.int .i64 0)).setCell ⟨w.heap.size, 5, none⟩ (.int .i64 0)).setCell ⟨w.heap.size, 6, none⟩ (.int .i64 0)).setCell ⟨w.heap.size, 7, none⟩ (.int .i64 0)).setCell ⟨w.heap.size, 8, none⟩ (.int .i64 0)).setCell ⟨w.heap.size, 9, none⟩ (.int .i64 0)).setCell ⟨w.heap.size, 10, none⟩ (.int .i64 0)).setCell ⟨w.heap.size, 11, none⟩ (.int .i64 0)).setCell ⟨w.heap.size, 12, none⟩ (.int .i64 0)) := (((((((((((((hB.setCell (p := ⟨w.heap.size, 0, none⟩) hle0 (.int .i64 0)).setCell (p := ⟨w.heap.size, 1, none⟩) hle0 (.int .i64 0)).setCell (p := ⟨w.heap.size, 2, none⟩) hle0 (.int .i64 0)).setCell (p := ⟨w.heap.size, 3, none⟩) hle0 (.int .i64 0)).setCell (p := ⟨w.heap.size, 4, none⟩) hle0 (.int .i64 0)).setCell (p := ⟨w.heap.size, 5, none⟩) hle0 (.int .i64 0)).setCell (p := ⟨w.heap.size, 6, none⟩) hle0 (.int .i64 0)).setCell (p := ⟨w.heap.size, 7, none⟩) hle0 (.int .i64 0)).setCell (p := ⟨w.heap.size, 8, none⟩) hle0 (.int .i64 0)).setCell (p := ⟨w.heap.size, 9, none⟩) hle0 (.int .i64 0)).setCell (p := ⟨w.heap.size, 10, none⟩) hle0 (.int .i64 0)).setCell (p := ⟨w.heap.size, 11, none⟩) hle0 (.int .i64 0)).setCell (p := ⟨w.heap.size, 12, none⟩) hle0 (.int .i64 0))
              have hlF := hF.lt
              generalize (((((((((((((w5.setCell ⟨w.heap.size, 0, none⟩ (.int .i64 0)).setCell ⟨w.heap.size, 1, none⟩ (.int .i64 0)).setCell ⟨w.heap.size, 2, none⟩ (.int .i64 0)).setCell ⟨w.heap.size, 3, none⟩ (.int .i64 0)).setCell ⟨w.heap.size, 4, none⟩ (.int .i64 0)).setCell ⟨w.heap.size, 5, none⟩ (.int .i64 0)).setCell ⟨w.heap.size, 6, none⟩ (.int .i64 0)).setCell ⟨w.heap.size, 7, none⟩ (.int .i64 0)).setCell ⟨w.heap.size, 8, none⟩ (.int .i64 0)).setCell ⟨w.heap.size, 9, none⟩ (.int .i64 0)).setCell ⟨w.heap.size, 10, none⟩ (.int .i64 0)).setCell ⟨w.heap.size, 11, none⟩ (.int .i64 0)).setCell ⟨w.heap.size, 12, none⟩ (.int .i64 0)) = wf at *
              have r0 : wf.cell? ⟨w.heap.size, 0, none⟩ = some (.int .i64 0) := hF.cell 0
              have r1 : wf.cell? ⟨w.heap.size, 1, none⟩ = some (.int .i64 0) := hF.cell 1
              have r2 : wf.cell? ⟨w.heap.size, 2, none⟩ = some (.int .i64 0) := hF.cell 2
              have r3 : wf.cell? ⟨w.heap.size, 3, none⟩ = some (.int .i64 0) := hF.cell 3
              have r4 : wf.cell? ⟨w.heap.size, 4, none⟩ = some (.int .i64 0) := hF.cell 4
              have r5 : wf.cell? ⟨w.heap.size, 5, none⟩ = some (.int .i64 0) := hF.cell 5
              have r6 : wf.cell? ⟨w.heap.size, 6, none⟩ = some (.int .i64 0) := hF.cell 6
              have r7 : wf.cell? ⟨w.heap.size, 7, none⟩ = some (.int .i64 0) := hF.cell 7
              have r8 : wf.cell? ⟨w.heap.size, 8, none⟩ = some (.int .i64 0) := hF.cell 8
              have r9 : wf.cell? ⟨w.heap.size, 9, none⟩ = some (.int .i64 0) := hF.cell 9
              have r10 : wf.cell? ⟨w.heap.size, 10, none⟩ = some (.int .i64 0) := hF.cell 10
              have r11 : wf.cell? ⟨w.heap.size, 11, none⟩ = some (.int .i64 0) := hF.cell 11
              have r12 : wf.cell? ⟨w.heap.size, 12, none⟩ = some (.int .i64 0) := hF.cell 12
              refine bodyPost_ret (v := .tuple #[.agg #[.int .i64 0, .int .i64 0, .int .i64 0, .int .i64 0, .int .i64 0, .int .i64 0, .int .i64 0, .int .i64 0, .int .i64 0, .int .i64 0, .int .i64 0, .int .i64 0, .int .i64 0], .int .i64 2]) (by simp [results, Tryz.results64, go_sem, r0, r1, r2, r3, r4, r5, r6, r7, r8, r9, r10, r11, r12, hlF]) rfl ?_
              exact ⟨rfl, hWf⟩
      · have hk0 : (formV op kd).isSome = false := by simpa using hk
        have hfv : (formV op kd).getD (.agg #[.nilFunc, .nilFunc, .nilFunc]) = .agg #[.nilFunc, .nilFunc, .nilFunc] := by
          cases hv : formV op kd with
          | none => rfl
          | some v => rw [hv] at hk0; cases hk0
        have hzq : z = zeroDr ∧ q = 2 := by
          have hz := HZ.out
          rw [if_pos hk0] at hz
          injection hz with e1 e2
          exact ⟨e1.symm, e2.symm⟩
        obtain ⟨rfl, rfl⟩ := hzq
        clear HZ hk
        go_wp2_with fail
        refine (forms_any w1).mono ?_
        rintro e w2 ⟨bm, nm, S, rfl, hge, hM, hS, hb⟩
        have hl1 := look_form hM hS hw0 hw1 _ hfv _ hk0
        replace h := h.up hb
        replace hX := hX.below hb hX.lt
        replace hB := hB.trans (hb.mono hs)
        replace hs := hB.size
        clear hb
        clear hM hS hge hfv hk0 hw0 hw1
        go_upto_region 5 with fail
        clear hl1
        have hb : Below w2.heap.size w2 (w2.alloc (.cells #[.nilFunc, .nilFunc, .nilFunc] 126)) := by (repeat (first | exact Below.refl _ _ | refine Below.alloc ?_ (by first | omega | (simp; done) | (simp; omega)) _ | refine Below.setCell ?_ (by first | omega | (simp; done) | (simp; omega)) _ | refine Below.drew ?_))
        replace h := h.up hb
        replace hX := hX.below hb hX.lt
        replace hB := hB.trans (hb.mono hs)
        replace hs := hB.size
        clear hb
        generalize w2.alloc (.cells #[.nilFunc, .nilFunc, .nilFunc] 126) = w3 at *
        have z_0 : w3.cell? ⟨w.heap.size, 0, none⟩ = some (.int .i64 0) := hX.cell 0
        have zf_0 := hX.free 0
        have z_1 : w3.cell? ⟨w.heap.size, 1, none⟩ = some (.int .i64 0) := hX.cell 1
        have zf_1 := hX.free 1
        have z_2 : w3.cell? ⟨w.heap.size, 2, none⟩ = some (.int .i64 0) := hX.cell 2
        have zf_2 := hX.free 2
        have z_3 : w3.cell? ⟨w.heap.size, 3, none⟩ = some (.int .i64 0) := hX.cell 3
        have zf_3 := hX.free 3
        have z_4 : w3.cell? ⟨w.heap.size, 4, none⟩ = some (.int .i64 0) := hX.cell 4
        have zf_4 := hX.free 4
        have z_5 : w3.cell? ⟨w.heap.size, 5, none⟩ = some (.int .i64 0) := hX.cell 5
        have zf_5 := hX.free 5
        have z_6 : w3.cell? ⟨w.heap.size, 6, none⟩ = some (.int .i64 0) := hX.cell 6
        have zf_6 := hX.free 6
        have z_7 : w3.cell? ⟨w.heap.size, 7, none⟩ = some (.int .i64 0) := hX.cell 7
        have zf_7 := hX.free 7
        have z_8 : w3.cell? ⟨w.heap.size, 8, none⟩ = some (.int .i64 0) := hX.cell 8
        have zf_8 := hX.free 8
        have z_9 : w3.cell? ⟨w.heap.size, 9, none⟩ = some (.int .i64 0) := hX.cell 9
        have zf_9 := hX.free 9
        have z_10 : w3.cell? ⟨w.heap.size, 10, none⟩ = some (.int .i64 0) := hX.cell 10
        have zf_10 := hX.free 10
        have z_11 : w3.cell? ⟨w.heap.size, 11, none⟩ = some (.int .i64 0) := hX.cell 11
        have zf_11 := hX.free 11
        have z_12 : w3.cell? ⟨w.heap.size, 12, none⟩ = some (.int .i64 0) := hX.cell 12
        have zf_12 := hX.free 12
        have lt_z := hX.lt
        go_wp2_with fail
        have hF : Blok (((((((((((((w3.setCell ⟨w.heap.size, 0, none⟩ (.int .i64 0)).setCell ⟨w.heap.size, 1, none⟩ (.int .i64 0)).setCell ⟨w.heap.size, 2, none⟩ (.int .i64 0)).setCell ⟨w.heap.size, 3, none⟩ (.int .i64 0)).setCell ⟨w.heap.size, 4, none⟩ (.int .i64 0)).setCell ⟨w.heap.size, 5, none⟩ (.int .i64 0)).setCell ⟨w.heap.size, 6, none⟩ (.int .i64 0)).setCell ⟨w.heap.size, 7, none⟩ (.int .i64 0)).setCell ⟨w.heap.size, 8, none⟩ (.int .i64 0)).setCell ⟨w.heap.size, 9, none⟩ (.int .i64 0)).setCell ⟨w.heap.size, 10, none⟩ (.int .i64 0)).setCell ⟨w.heap.size, 11, none⟩ (.int .i64 0)).setCell ⟨w.heap.size, 12, none⟩ (.int .i64 0)) w.heap.size 38 #[.int .i64 0, .int .i64 0, .int .i64 0, .int .i64 0, .int .i64 0, .int .i64 0, .int .i64 0, .int .i64 0, .int .i64 0, .int .i64 0, .int .i64 0, .int .i64 0, .int .i64 0] := by have h := (((((((((((((hX.set_ 0 (.int .i64 0)).set_ 1 (.int .i64 0)).set_ 2 (.int .i64 0)).set_ 3 (.int .i64 0)).set_ 4 (.int .i64 0)).set_ 5 (.int .i64 0)).set_ 6 (.int .i64 0)).set_ 7 (.int .i64 0)).set_ 8 (.int .i64 0)).set_ 9 (.int .i64 0)).set_ 10 (.int .i64 0)).set_ 11 (.int .i64 0)).set_ 12 (.int .i64 0)); simpa using h
        have hle0 : w.heap.size ≤ w.heap.size := by first | exact Nat.le_refl _ | omega
        have hWf : Below w.heap.size w (((((((((((((w3.setCell ⟨w.heap.size, 0, none⟩ (.int .i64 0)).setCell ⟨w.heap.size, 1, none⟩ (.int .i64 0)).setCell ⟨w.heap.size, 2, none⟩ (.int .i64 0)).setCell ⟨w.heap.size, 3, none⟩ (.int .i64 0)).setCell ⟨w.heap.size, 4, none⟩ (.int .i64 0)).setCell ⟨w.heap.size, 5, none⟩ (.int .i64 0)).setCell ⟨w.heap.size, 6, none⟩ (.int .i64 0)).setCell ⟨w.heap.size, 7, none⟩ (.int .i64 0)).setCell ⟨w.heap.size, 8, none⟩ (.int .i64 0)).setCell ⟨w.heap.size, 9, none⟩ (.int .i64 0)).setCell ⟨w.heap.size, 10, none⟩ (.int .i64 0)).setCell ⟨w.heap.size, 11, none⟩ (.int .i64 0)).setCell ⟨w.heap.size, 12, none⟩ (.int .i64 0)) := (((((((((((((hB.setCell (p := ⟨w.heap.size, 0, none⟩) hle0 (.int .i64 0)).setCell (p := ⟨w.heap.size, 1, none⟩) hle0 (.int .i64 0)).setCell (p := ⟨w.heap.size, 2, none⟩) hle0 (.int .i64 0)).setCell (p := ⟨w.heap.size, 3, none⟩) hle0 (.int .i64 0)).setCell (p := ⟨w.heap.size, 4, none⟩) hle0 (.int .i64 0)).setCell (p := ⟨w.heap.size, 5, none⟩) hle0 (.int .i64 0)).setCell (p := ⟨w.heap.size, 6, none⟩) hle0 (.int .i64 0)).setCell (p := ⟨w.heap.size, 7, none⟩) hle0 (.int .i64 0)).setCell (p := ⟨w.heap.size, 8, none⟩) hle0 (.int .i64 0)).setCell (p := ⟨w.heap.size, 9, none⟩) hle0 (.int .i64 0)).setCell (p := ⟨w.heap.size, 10, none⟩) hle0 (.int .i64 0)).setCell (p := ⟨w.heap.size, 11, none⟩) hle0 (.int .i64 0)).setCell (p := ⟨w.heap.size, 12, none⟩) hle0 (.int .i64 0))
        have hlF := hF.lt
        generalize (((((((((((((w3.setCell ⟨w.heap.size, 0, none⟩ (.int .i64 0)).setCell ⟨w.heap.size, 1, none⟩ (.int .i64 0)).setCell ⟨w.heap.size, 2, none⟩ (.int .i64 0)).setCell ⟨w.heap.size, 3, none⟩ (.int .i64 0)).setCell ⟨w.heap.size, 4, none⟩ (.int .i64 0)).setCell ⟨w.heap.size, 5, none⟩ (.int .i64 0)).setCell ⟨w.heap.size, 6, none⟩ (.int .i64 0)).setCell ⟨w.heap.size, 7, none⟩ (.int .i64 0)).setCell ⟨w.heap.size, 8, none⟩ (.int .i64 0)).setCell ⟨w.heap.size, 9, none⟩ (.int .i64 0)).setCell ⟨w.heap.size, 10, none⟩ (.int .i64 0)).setCell ⟨w.heap.size, 11, none⟩ (.int .i64 0)).setCell ⟨w.heap.size, 12, none⟩ (.int .i64 0)) = wf at *
        have r0 : wf.cell? ⟨w.heap.size, 0, none⟩ = some (.int .i64 0) := hF.cell 0
        have r1 : wf.cell? ⟨w.heap.size, 1, none⟩ = some (.int .i64 0) := hF.cell 1
        have r2 : wf.cell? ⟨w.heap.size, 2, none⟩ = some (.int .i64 0) := hF.cell 2
        have r3 : wf.cell? ⟨w.heap.size, 3, none⟩ = some (.int .i64 0) := hF.cell 3
        have r4 : wf.cell? ⟨w.heap.size, 4, none⟩ = some (.int .i64 0) := hF.cell 4
        have r5 : wf.cell? ⟨w.heap.size, 5, none⟩ = some (.int .i64 0) := hF.cell 5
        have r6 : wf.cell? ⟨w.heap.size, 6, none⟩ = some (.int .i64 0) := hF.cell 6
        have r7 : wf.cell? ⟨w.heap.size, 7, none⟩ = some (.int .i64 0) := hF.cell 7
        have r8 : wf.cell? ⟨w.heap.size, 8, none⟩ = some (.int .i64 0) := hF.cell 8
        have r9 : wf.cell? ⟨w.heap.size, 9, none⟩ = some (.int .i64 0) := hF.cell 9
        have r10 : wf.cell? ⟨w.heap.size, 10, none⟩ = some (.int .i64 0) := hF.cell 10
        have r11 : wf.cell? ⟨w.heap.size, 11, none⟩ = some (.int .i64 0) := hF.cell 11
        have r12 : wf.cell? ⟨w.heap.size, 12, none⟩ = some (.int .i64 0) := hF.cell 12
        refine bodyPost_ret (v := .tuple #[.agg #[.int .i64 0, .int .i64 0, .int .i64 0, .int .i64 0, .int .i64 0, .int .i64 0, .int .i64 0, .int .i64 0, .int .i64 0, .int .i64 0, .int .i64 0, .int .i64 0, .int .i64 0], .int .i64 2]) (by simp [results, Tryz.results64, go_sem, r0, r1, r2, r3, r4, r5, r6, r7, r8, r9, r10, r11, r12, hlF]) rfl ?_
        exact ⟨rfl, hWf⟩
end Go.Proofs.YtjldgcebadojiaaGreatDoor
