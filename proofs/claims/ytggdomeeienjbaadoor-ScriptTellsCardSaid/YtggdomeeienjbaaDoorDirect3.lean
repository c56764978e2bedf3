
/- direct.Right. It makes new memory alone. -/
import Derived.Test.YtggdomeeienjbaaDoorDirect2
import Derived.Laws.EntriesVeiled
namespace Go.Proofs.YtggdomeeienjbaaDoor
open Go.ChangeShapes Go.WideShapes Go.ChangeAt Go.RowKit Go.Sort
set_option linter.unusedSimpArgs false
set_option linter.unusedVariables false
theorem zeroForm (w : World) : (zeroValue 72).run Tryd.prog w = .ok (.agg #[.nilFunc, .nilFunc, .nilFunc]) w := by kernel_rfl
/-- What is looked up in the forms. -/
theorem look_form {w : World} {b n : Nat} {S : Lit → Option Value} (hM : MapV w 76 b n S) (hS : IsS (fun _ => true) S) {x y : Int} (hx : (Lit.int .i64 x).wf = true) (hy : (Lit.int .i64 y).wf = true) (v : Value) (hv : (formV x y).getD (.agg #[.nilFunc, .nilFunc, .nilFunc]) = v) (c : Bool) (hc : (formV x y).isSome = c) :
    (Instr.lookup 73 (.map (some b)) (.agg #[.int .i64 x, .int .i64 y]) true).run Tryd.prog w = .ok (.tuple #[v, .bool c]) w := by
  have h := hM.look_ok keyedD Tryd.underlying73 (zeroForm w) (keyOfD hx hy) (keyD_is _ _)
  rw [formS_at hS hx hy] at h
  rw [← hv, ← hc]
  exact h
set_option maxHeartbeats 8000000 in
set_option maxRecDepth 100000 in
theorem dright_no (d : Dr) (w : World) (hw0 : (Lit.int .i64 d.op).wf = true) (hw1 : (Lit.int .i64 d.kd).wf = true) (hn : formV d.op d.kd = none) : Calls Tryd.prog 30 #[.agg #[.int .i64 d.op, .int .i64 d.kd, .int .i64 d.id, .int .i64 d.fr, .int .i64 d.tn, .int .i64 d.st, .int .i64 d.en, .int .i64 d.rt, .int .i64 d.rf, .int .i64 d.rn, .int .i64 d.rs, .int .i64 d.re, .int .i64 d.ro]] w fun e w' => e = .returned (.bool false) ∧ Below w.heap.size w w' := by
  have hB : Below w.heap.size w (w.alloc (.cells #[.int .i64 d.op, .int .i64 d.kd, .int .i64 d.id, .int .i64 d.fr, .int .i64 d.tn, .int .i64 d.st, .int .i64 d.en, .int .i64 d.rt, .int .i64 d.rf, .int .i64 d.rn, .int .i64 d.rs, .int .i64 d.re, .int .i64 d.ro] 31)) := by (repeat (first | exact Below.refl _ _ | refine Below.alloc ?_ (by first | omega | (simp; done) | (simp; omega)) _ | refine Below.setCell ?_ (by first | omega | (simp; done) | (simp; omega)) _ | refine Below.drew ?_))
  have hX := Blok.new w 31 #[.int .i64 d.op, .int .i64 d.kd, .int .i64 d.id, .int .i64 d.fr, .int .i64 d.tn, .int .i64 d.st, .int .i64 d.en, .int .i64 d.rt, .int .i64 d.rf, .int .i64 d.rn, .int .i64 d.rs, .int .i64 d.re, .int .i64 d.ro]
  have hs := hB.size
  have hfv : (formV d.op d.kd).getD (.agg #[.nilFunc, .nilFunc, .nilFunc]) = .agg #[.nilFunc, .nilFunc, .nilFunc] := by rw [hn]; rfl
  have hfo : (formV d.op d.kd).isSome = false := by rw [hn]; rfl
  clear hn
  go_enter Tryd.func30, Tryd.ntmps30
  go_upto_region 1 with fail
  generalize w.alloc (.cells #[.int .i64 d.op, .int .i64 d.kd, .int .i64 d.id, .int .i64 d.fr, .int .i64 d.tn, .int .i64 d.st, .int .i64 d.en, .int .i64 d.rt, .int .i64 d.rf, .int .i64 d.rn, .int .i64 d.rs, .int .i64 d.re, .int .i64 d.ro] 31) = w0 at *
  go_cut [3, 4] (fun p s wx => ∃ bx, p = .pointer (some ⟨bx, 0, none⟩) ∧ s = .bool false ∧ w0.heap.size ≤ bx ∧ Below w0.heap.size w0 wx ∧ Blok wx bx 72 #[.nilFunc, .nilFunc, .nilFunc])
  case first =>
    have HFOOT := Lib.hid (fun (w' : World) (hb : Below w0.heap.size w0 w') => (show w'.cell? ⟨w.heap.size, 0, none⟩ = some (.int .i64 d.op) ∧ w'.cell? ⟨w.heap.size, 1, none⟩ = some (.int .i64 d.kd) from ⟨(hX.below hb hX.lt).cell 0, (hX.below hb hX.lt).cell 1⟩))
    have r0 : w0.cell? ⟨w.heap.size, 0, none⟩ = some (.int .i64 d.op) := hX.cell 0
    have r1 : w0.cell? ⟨w.heap.size, 1, none⟩ = some (.int .i64 d.kd) := hX.cell 1
    have lt_x := hX.lt
    have hC : Below w0.heap.size w0 w0 := Below.refl _ _
    clear hX hB hs
    try simp only [List.append]
    go_region_held3 (fun w' => w'.cell? ⟨w.heap.size, 0, none⟩ = some (.int .i64 d.op) ∧ w'.cell? ⟨w.heap.size, 1, none⟩ = some (.int .i64 d.kd))
      (first | exact HFOOT.out _ hC | exact HFOOT.out _ (by (repeat (first | exact Below.refl _ _ | exact hC | refine Below.alloc ?_ (by first | omega | (simp; done) | (simp; omega)) _ | refine Below.setCell ?_ (by first | omega | (simp; done) | (simp; omega)) _ | refine Below.drew ?_ | refine Below.trans ?_ (hC.mono (by first | omega | (simp; done) | (simp; omega)))))) | go_keep)
      (first
        | (go_at_call 33; (with_reducible refine Calls.mono (forms_any _) ?_); rintro e x1 ⟨bm, nm, S, rfl, hge, hM, hS, hbx⟩; replace hC : Below w0.heap.size w0 x1 := Below.trans (by (repeat (first | exact Below.refl _ _ | exact hC | refine Below.alloc ?_ (by first | omega | (simp; done) | (simp; omega)) _ | refine Below.setCell ?_ (by first | omega | (simp; done) | (simp; omega)) _ | refine Below.drew ?_ | refine Below.trans ?_ (hC.mono (by first | omega | (simp; done) | (simp; omega)))))) (hbx.mono (by first | exact Nat.le_refl _ | (simp; done) | (simp; omega))); have hsC := hC.size; have hl1 := look_form hM hS hw0 hw1 _ hfv _ hfo; have hl2 := look_form (hM.alloc (.cells #[.nilFunc, .nilFunc, .nilFunc] 72)) hS hw0 hw1 _ hfv _ hfo; have hq := Blok.new x1 72 #[.nilFunc, .nilFunc, .nilFunc]; (try (have hzz : Blok x1 w0.heap.size 72 #[.nilFunc, .nilFunc, .nilFunc] := (by with_reducible exact Blok.below (Blok.new w0.drew 72 #[.nilFunc, .nilFunc, .nilFunc]) hbx (by simp)); have z0 : x1.cell? ⟨w0.heap.size, 0, none⟩ = some .nilFunc := hzz.cell 0; have y0 := hzz.free 0; have z1 : x1.cell? ⟨w0.heap.size, 1, none⟩ = some .nilFunc := hzz.cell 1; have y1 := hzz.free 1; have z2 : x1.cell? ⟨w0.heap.size, 2, none⟩ = some .nilFunc := hzz.cell 2; have y2 := hzz.free 2; have ltz := hzz.lt)); clear hM hge hbx))
    all_goals
      go_wp2
      go_meet
      first
        | exact ⟨_, rfl, rfl, hsC, hC.alloc hsC _, Blok.new _ _ _⟩
        | exact ⟨_, rfl, rfl, Nat.le_refl _, by (repeat (first | exact Below.refl _ _ | exact hC | refine Below.alloc ?_ (by first | omega | (simp; done) | (simp; omega)) _ | refine Below.setCell ?_ (by first | omega | (simp; done) | (simp; omega)) _ | refine Below.drew ?_ | refine Below.trans ?_ (hC.mono (by first | omega | (simp; done) | (simp; omega))))), by have h := ((hzz.set_ 0 (.nilFunc)).set_ 1 (.nilFunc)).set_ 2 (.nilFunc); simpa using h⟩
  case rest =>
    revert wc
    intro w1 hcut
    obtain ⟨bx, rfl, rfl, hbx, hb, hF⟩ := hcut
    clear hfv hfo
    replace hX := hX.below hb hX.lt
    replace hB := hB.trans (hb.mono hs)
    replace hs := hB.size
    clear hb
    go_wp2_with fail
    try simp only [List.append]
    first | refine wp_region_text_below ?_ | refine wp_region_quiet_below (by kernel_rfl) (by kernel_rfl) ?_
    repeat (go_big_quiet_step ((fail)))
    refine wpQuiet_nil ?_
    intro _ hqw
    obtain ⟨pq, hqw⟩ := hqw
    subst hqw
    have hbq := hB.trans ((below_regrown w1 pq.d pq.os).mono hs)
    generalize grow (redrawn w1 pq.d) pq.os = wq at *
    go_wp2
    go_ret
    exact ⟨rfl, hbq⟩
set_option maxHeartbeats 16000000 in
set_option maxRecDepth 100000 in
theorem dright_yes (d : Dr) (w : World) (hw0 : (Lit.int .i64 d.op).wf = true) (hw1 : (Lit.int .i64 d.kd).wf = true) (f1 f2 f3 : FuncId) (ns : List Int) (y : Dr) (mb : Bool) (hn : formV d.op d.kd = some (formOf f1 f2 f3)) (hc : FormC d f1 f2 f3 ns y mb) (z : Dr) (hz : withDo y d.op d.kd = z) (qb : Bool) (hqb : decide (d = z) = qb) : Calls Tryd.prog 30 #[.agg #[.int .i64 d.op, .int .i64 d.kd, .int .i64 d.id, .int .i64 d.fr, .int .i64 d.tn, .int .i64 d.st, .int .i64 d.en, .int .i64 d.rt, .int .i64 d.rf, .int .i64 d.rn, .int .i64 d.rs, .int .i64 d.re, .int .i64 d.ro]] w fun e w' => e = .returned (.bool (mb && qb)) ∧ Below w.heap.size w w' := by
  have hB : Below w.heap.size w (w.alloc (.cells #[.int .i64 d.op, .int .i64 d.kd, .int .i64 d.id, .int .i64 d.fr, .int .i64 d.tn, .int .i64 d.st, .int .i64 d.en, .int .i64 d.rt, .int .i64 d.rf, .int .i64 d.rn, .int .i64 d.rs, .int .i64 d.re, .int .i64 d.ro] 31)) := by (repeat (first | exact Below.refl _ _ | refine Below.alloc ?_ (by first | omega | (simp; done) | (simp; omega)) _ | refine Below.setCell ?_ (by first | omega | (simp; done) | (simp; omega)) _ | refine Below.drew ?_))
  have hX := Blok.new w 31 #[.int .i64 d.op, .int .i64 d.kd, .int .i64 d.id, .int .i64 d.fr, .int .i64 d.tn, .int .i64 d.st, .int .i64 d.en, .int .i64 d.rt, .int .i64 d.rf, .int .i64 d.rn, .int .i64 d.rs, .int .i64 d.re, .int .i64 d.ro]
  have hs := hB.size
  have hfv : (formV d.op d.kd).getD (.agg #[.nilFunc, .nilFunc, .nilFunc]) = .agg #[.func (.func f1) #[] #[], .func (.func f2) #[] #[], .func (.func f3) #[] #[]] := by rw [hn]; rfl
  have hfo : (formV d.op d.kd).isSome = true := by rw [hn]; rfl
  have HC := Lib.hid hc
  have HZ := Lib.hid hz
  clear hn hc hz
  go_enter Tryd.func30, Tryd.ntmps30
  go_upto_region 1 with fail
  generalize w.alloc (.cells #[.int .i64 d.op, .int .i64 d.kd, .int .i64 d.id, .int .i64 d.fr, .int .i64 d.tn, .int .i64 d.st, .int .i64 d.en, .int .i64 d.rt, .int .i64 d.rf, .int .i64 d.rn, .int .i64 d.rs, .int .i64 d.re, .int .i64 d.ro] 31) = w0 at *
  go_cut [3, 4] (fun p s wx => ∃ bx, p = .pointer (some ⟨bx, 0, none⟩) ∧ s = .bool true ∧ w0.heap.size ≤ bx ∧ Below w0.heap.size w0 wx ∧ Blok wx bx 72 #[.func (.func f1) #[] #[], .func (.func f2) #[] #[], .func (.func f3) #[] #[]])
  case first =>
    have HFOOT := Lib.hid (fun (w' : World) (hb : Below w0.heap.size w0 w') => (show w'.cell? ⟨w.heap.size, 0, none⟩ = some (.int .i64 d.op) ∧ w'.cell? ⟨w.heap.size, 1, none⟩ = some (.int .i64 d.kd) from ⟨(hX.below hb hX.lt).cell 0, (hX.below hb hX.lt).cell 1⟩))
    have r0 : w0.cell? ⟨w.heap.size, 0, none⟩ = some (.int .i64 d.op) := hX.cell 0
    have r1 : w0.cell? ⟨w.heap.size, 1, none⟩ = some (.int .i64 d.kd) := hX.cell 1
    have lt_x := hX.lt
    have hC : Below w0.heap.size w0 w0 := Below.refl _ _
    clear hX hB hs
    try simp only [List.append]
    go_region_held3 (fun w' => w'.cell? ⟨w.heap.size, 0, none⟩ = some (.int .i64 d.op) ∧ w'.cell? ⟨w.heap.size, 1, none⟩ = some (.int .i64 d.kd))
      (first | exact HFOOT.out _ hC | exact HFOOT.out _ (by (repeat (first | exact Below.refl _ _ | exact hC | refine Below.alloc ?_ (by first | omega | (simp; done) | (simp; omega)) _ | refine Below.setCell ?_ (by first | omega | (simp; done) | (simp; omega)) _ | refine Below.drew ?_ | refine Below.trans ?_ (hC.mono (by first | omega | (simp; done) | (simp; omega)))))) | go_keep)
      (first
        | (go_at_call 33; (with_reducible refine Calls.mono (forms_any _) ?_); rintro e x1 ⟨bm, nm, S, rfl, hge, hM, hS, hbx⟩; replace hC : Below w0.heap.size w0 x1 := Below.trans (by (repeat (first | exact Below.refl _ _ | exact hC | refine Below.alloc ?_ (by first | omega | (simp; done) | (simp; omega)) _ | refine Below.setCell ?_ (by first | omega | (simp; done) | (simp; omega)) _ | refine Below.drew ?_ | refine Below.trans ?_ (hC.mono (by first | omega | (simp; done) | (simp; omega)))))) (hbx.mono (by first | exact Nat.le_refl _ | (simp; done) | (simp; omega))); have hsC := hC.size; have hl1 := look_form hM hS hw0 hw1 _ hfv _ hfo; have hl2 := look_form (hM.alloc (.cells #[.nilFunc, .nilFunc, .nilFunc] 72)) hS hw0 hw1 _ hfv _ hfo; have hq := Blok.new x1 72 #[.nilFunc, .nilFunc, .nilFunc]; (try (have hzz : Blok x1 w0.heap.size 72 #[.nilFunc, .nilFunc, .nilFunc] := (by with_reducible exact Blok.below (Blok.new w0.drew 72 #[.nilFunc, .nilFunc, .nilFunc]) hbx (by simp)); have z0 : x1.cell? ⟨w0.heap.size, 0, none⟩ = some .nilFunc := hzz.cell 0; have y0 := hzz.free 0; have z1 : x1.cell? ⟨w0.heap.size, 1, none⟩ = some .nilFunc := hzz.cell 1; have y1 := hzz.free 1; have z2 : x1.cell? ⟨w0.heap.size, 2, none⟩ = some .nilFunc := hzz.cell 2; have y2 := hzz.free 2; have ltz := hzz.lt)); clear hM hge hbx))
    all_goals
      go_wp2
      go_meet
      first
        | exact ⟨_, rfl, rfl, hsC, hC.alloc hsC _, Blok.new _ _ _⟩
        | exact ⟨_, rfl, rfl, Nat.le_refl _, by (repeat (first | exact Below.refl _ _ | exact hC | refine Below.alloc ?_ (by first | omega | (simp; done) | (simp; omega)) _ | refine Below.setCell ?_ (by first | omega | (simp; done) | (simp; omega)) _ | refine Below.drew ?_ | refine Below.trans ?_ (hC.mono (by first | omega | (simp; done) | (simp; omega))))), by have h := ((hzz.set_ 0 (.func (.func f1) #[] #[])).set_ 1 (.func (.func f2) #[] #[])).set_ 2 (.func (.func f3) #[] #[]); simpa using h⟩
  case rest =>
    revert wc
    intro w1 hcut
    obtain ⟨bx, rfl, rfl, hbx, hb, hF⟩ := hcut
    clear hfv hfo
    replace hX := hX.below hb hX.lt
    replace hB := hB.trans (hb.mono hs)
    replace hs := hB.size
    clear hb
    have hcf1 := HC.out.e1
    have hcf2 := HC.out.e2
    have hcf3 := HC.out.e3
    unfold EnterF at hcf1 hcf2 hcf3
    have HNU := Lib.hid HC.out.nums
    have HFI := Lib.hid HC.out.fill
    have HMA := Lib.hid HC.out.may
    have HE2 := Lib.hid HC.out.e2
    have heq := eqlDr d z
    rw [hqb] at heq
    have HMD : Hid (∀ (A : Option Addr) (c : Nat) (w' : World), Sl w' w'.heap.size 1 A ns.length c (ns.map (Value.int .i64)) → Calls Tryd.prog 40 #[.int .i64 d.op, .int .i64 d.kd, .agg #[.func (.func f1) #[] #[], .func (.func f2) #[] #[], .func (.func f3) #[] #[]], .slice A ns.length c] w' fun e w'' => e = .returned (.agg #[.int .i64 z.op, .int .i64 z.kd, .int .i64 z.id, .int .i64 z.fr, .int .i64 z.tn, .int .i64 z.st, .int .i64 z.en, .int .i64 z.rt, .int .i64 z.rf, .int .i64 z.rn, .int .i64 z.rs, .int .i64 z.re, .int .i64 z.ro]) ∧ Below w'.heap.size w' w'') := fun A c w' h => by
      have h1 := made_any f1 f2 f3 A ns.length c ns y d.op d.kd HE2.out (fun w => HFI.out A c w) w' h
      rw [HZ.out] at h1
      exact h1
    have HFOOT := Lib.hid (fun (w' : World) (hb : Below w1.heap.size w1 w') => (show w'.cell? ⟨w.heap.size, 0, none⟩ = some (.int .i64 d.op) ∧ w'.cell? ⟨w.heap.size, 1, none⟩ = some (.int .i64 d.kd) ∧ w'.cell? ⟨w.heap.size, 2, none⟩ = some (.int .i64 d.id) ∧ w'.cell? ⟨w.heap.size, 3, none⟩ = some (.int .i64 d.fr) ∧ w'.cell? ⟨w.heap.size, 4, none⟩ = some (.int .i64 d.tn) ∧ w'.cell? ⟨w.heap.size, 5, none⟩ = some (.int .i64 d.st) ∧ w'.cell? ⟨w.heap.size, 6, none⟩ = some (.int .i64 d.en) ∧ w'.cell? ⟨w.heap.size, 7, none⟩ = some (.int .i64 d.rt) ∧ w'.cell? ⟨w.heap.size, 8, none⟩ = some (.int .i64 d.rf) ∧ w'.cell? ⟨w.heap.size, 9, none⟩ = some (.int .i64 d.rn) ∧ w'.cell? ⟨w.heap.size, 10, none⟩ = some (.int .i64 d.rs) ∧ w'.cell? ⟨w.heap.size, 11, none⟩ = some (.int .i64 d.re) ∧ w'.cell? ⟨w.heap.size, 12, none⟩ = some (.int .i64 d.ro) ∧ w'.cell? ⟨bx, 0, none⟩ = some (.func (.func f1) #[] #[]) ∧ w'.cell? ⟨bx, 1, none⟩ = some (.func (.func f2) #[] #[]) ∧ w'.cell? ⟨bx, 2, none⟩ = some (.func (.func f3) #[] #[]) from ⟨(hX.below hb hX.lt).cell 0, (hX.below hb hX.lt).cell 1, (hX.below hb hX.lt).cell 2, (hX.below hb hX.lt).cell 3, (hX.below hb hX.lt).cell 4, (hX.below hb hX.lt).cell 5, (hX.below hb hX.lt).cell 6, (hX.below hb hX.lt).cell 7, (hX.below hb hX.lt).cell 8, (hX.below hb hX.lt).cell 9, (hX.below hb hX.lt).cell 10, (hX.below hb hX.lt).cell 11, (hX.below hb hX.lt).cell 12, (hF.below hb hF.lt).cell 0, (hF.below hb hF.lt).cell 1, (hF.below hb hF.lt).cell 2⟩))
    have hFF := HFOOT.out w1 (Below.refl _ _)
    obtain ⟨r0, r1, r2, r3, r4, r5, r6, r7, r8, r9, r10, r11, r12, g0, g1, g2⟩ := hFF
    have lt_x := hX.lt
    have lt_f := hF.lt
    have hC : Below w1.heap.size w1 w1 := Below.refl _ _
    have HBB := Lib.hid hB
    clear hX hF hqb hB HC
    go_upto_region 2 with fail
    cases mb
    case false =>
      have HM2 := HMA
      clear HFOOT
      have q_r0 := fun d os => cell_regrown r0 d os
      have q_r1 := fun d os => cell_regrown r1 d os
      have q_r2 := fun d os => cell_regrown r2 d os
      have q_r3 := fun d os => cell_regrown r3 d os
      have q_r4 := fun d os => cell_regrown r4 d os
      have q_r5 := fun d os => cell_regrown r5 d os
      have q_r6 := fun d os => cell_regrown r6 d os
      have q_r7 := fun d os => cell_regrown r7 d os
      have q_r8 := fun d os => cell_regrown r8 d os
      have q_r9 := fun d os => cell_regrown r9 d os
      have q_r10 := fun d os => cell_regrown r10 d os
      have q_r11 := fun d os => cell_regrown r11 d os
      have q_r12 := fun d os => cell_regrown r12 d os
      have q_g0 := fun d os => cell_regrown g0 d os
      have q_g1 := fun d os => cell_regrown g1 d os
      have q_g2 := fun d os => cell_regrown g2 d os
      try simp only [List.append]
      first | refine wp_region_text_below ?_ | refine wp_region_quiet_below (by kernel_rfl) (by kernel_rfl) ?_
      repeat (go_big_quiet_step (((with_reducible exact Calls.regrown_of (HM2.out _)))))
      refine wpQuiet_nil ?_
      intro _ hqw
      obtain ⟨pq, hqw⟩ := hqw
      subst hqw
      clear q_r0 q_r1 q_r2 q_r3 q_r4 q_r5 q_r6 q_r7 q_r8 q_r9 q_r10 q_r11 q_r12 q_g0 q_g1 q_g2
      have hbq := HBB.out.trans ((below_regrown w1 pq.d pq.os).mono hs)
      generalize grow (redrawn w1 pq.d) pq.os = wq at *
      go_wp2
      go_ret
      exact ⟨rfl, hbq⟩
    case true =>
      try simp only [List.append]
      go_region_held3 (fun w' => w'.cell? ⟨w.heap.size, 0, none⟩ = some (.int .i64 d.op) ∧ w'.cell? ⟨w.heap.size, 1, none⟩ = some (.int .i64 d.kd) ∧ w'.cell? ⟨w.heap.size, 2, none⟩ = some (.int .i64 d.id) ∧ w'.cell? ⟨w.heap.size, 3, none⟩ = some (.int .i64 d.fr) ∧ w'.cell? ⟨w.heap.size, 4, none⟩ = some (.int .i64 d.tn) ∧ w'.cell? ⟨w.heap.size, 5, none⟩ = some (.int .i64 d.st) ∧ w'.cell? ⟨w.heap.size, 6, none⟩ = some (.int .i64 d.en) ∧ w'.cell? ⟨w.heap.size, 7, none⟩ = some (.int .i64 d.rt) ∧ w'.cell? ⟨w.heap.size, 8, none⟩ = some (.int .i64 d.rf) ∧ w'.cell? ⟨w.heap.size, 9, none⟩ = some (.int .i64 d.rn) ∧ w'.cell? ⟨w.heap.size, 10, none⟩ = some (.int .i64 d.rs) ∧ w'.cell? ⟨w.heap.size, 11, none⟩ = some (.int .i64 d.re) ∧ w'.cell? ⟨w.heap.size, 12, none⟩ = some (.int .i64 d.ro) ∧ w'.cell? ⟨bx, 0, none⟩ = some (.func (.func f1) #[] #[]) ∧ w'.cell? ⟨bx, 1, none⟩ = some (.func (.func f2) #[] #[]) ∧ w'.cell? ⟨bx, 2, none⟩ = some (.func (.func f3) #[] #[]))
        (first | exact HFOOT.out _ hC | exact HFOOT.out _ (by (repeat (first | exact Below.refl _ _ | exact hC | refine Below.alloc ?_ (by first | omega | (simp; done) | (simp; omega)) _ | refine Below.setCell ?_ (by first | omega | (simp; done) | (simp; omega)) _ | refine Below.drew ?_ | refine Below.trans ?_ (hC.mono (by first | omega | (simp; done) | (simp; omega)))))) | go_keep)
        (first
          | ((with_reducible refine Calls.mono (HMA.out _) ?_); rintro e wn ⟨rfl, hbn⟩; replace hC : Below w1.heap.size w1 wn := Below.trans (by (repeat (first | exact Below.refl _ _ | exact hC | refine Below.alloc ?_ (by first | omega | (simp; done) | (simp; omega)) _ | refine Below.setCell ?_ (by first | omega | (simp; done) | (simp; omega)) _ | refine Below.drew ?_ | refine Below.trans ?_ (hC.mono (by first | omega | (simp; done) | (simp; omega)))))) (hbn.mono (by first | exact hC.size | (have := hC.size; simp at *; omega))); clear hbn)
          | ((with_reducible refine Calls.mono (HNU.out _) ?_); rintro e wn ⟨v, rfl, hv, hbn⟩; obtain ⟨Av, cv, rfl⟩ := slice_of_own hv; replace hC : Below w1.heap.size w1 wn := Below.trans (by (repeat (first | exact Below.refl _ _ | exact hC | refine Below.alloc ?_ (by first | omega | (simp; done) | (simp; omega)) _ | refine Below.setCell ?_ (by first | omega | (simp; done) | (simp; omega)) _ | refine Below.drew ?_ | refine Below.trans ?_ (hC.mono (by first | omega | (simp; done) | (simp; omega)))))) (hbn.mono (by first | exact hC.size | (have := hC.size; simp at *; omega))); clear hbn)
          | (go_at_call 40; (with_reducible refine Calls.mono (HMD.out Av cv _ (Sl.of_own hv)) ?_); rintro e wn ⟨rfl, hbn⟩; replace hC : Below w1.heap.size w1 wn := Below.trans (by (repeat (first | exact Below.refl _ _ | exact hC | refine Below.alloc ?_ (by first | omega | (simp; done) | (simp; omega)) _ | refine Below.setCell ?_ (by first | omega | (simp; done) | (simp; omega)) _ | refine Below.drew ?_ | refine Below.trans ?_ (hC.mono (by first | omega | (simp; done) | (simp; omega)))))) (hbn.mono (by first | exact hC.size | (have := hC.size; simp at *; omega))); clear hbn))
      all_goals
        go_wp2
        go_ret
        exact ⟨rfl, HBB.out.trans (hC.mono hs)⟩
theorem dright_any (d : Dr) (w : World) (hw0 : (Lit.int .i64 d.op).wf = true) (hw1 : (Lit.int .i64 d.kd).wf = true) (b : Bool) (hb : rightD d = b) : Calls Tryd.prog 30 #[.agg #[.int .i64 d.op, .int .i64 d.kd, .int .i64 d.id, .int .i64 d.fr, .int .i64 d.tn, .int .i64 d.st, .int .i64 d.en, .int .i64 d.rt, .int .i64 d.rf, .int .i64 d.rn, .int .i64 d.rs, .int .i64 d.re, .int .i64 d.ro]] w fun e w' => e = .returned (.bool b) ∧ Below w.heap.size w w' := by
  subst hb
  rcases form_cases d with ⟨h1, h2⟩ | ⟨h1, f1, f2, f3, ns, y, h2, h3, h4⟩
  · unfold rightD
    rw [h2]
    exact dright_no d w hw0 hw1 h1
  · unfold rightD
    rw [h1, h4]
    exact dright_yes d w hw0 hw1 f1 f2 f3 ns y _ h2 h3 _ rfl _ rfl
end Go.Proofs.YtggdomeeienjbaaDoor
