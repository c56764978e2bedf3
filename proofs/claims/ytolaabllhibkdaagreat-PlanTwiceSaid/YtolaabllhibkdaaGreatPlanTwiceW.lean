/- A contact that was added and deleted leaves the tables as they were: PlanTwice returns true. No condition. -/
import Derived.Test.YtolaabllhibkdaaGreatW9
import Derived.Test.YtolaabllhibkdaaGreatRows
namespace Go.Proofs.YtolaabllhibkdaaGreat
open Go.ChangeShapes Go.WideShapes Go.ChangeAt Go.RowKit Go.Sort
set_option linter.unusedSimpArgs false
set_option linter.unusedVariables false
set_option maxHeartbeats 16000000 in
set_option maxRecDepth 100000 in
theorem planTwice_w (A1 : Option Addr) (n1 c1 : Nat) (A : Option Addr) (n c : Nat) (p : Pl) (k : Co) (hd1 : p.cs.length = n1) (hd : p.rs.length = n) (w : World) (h1 : Sl w w.heap.size 6 A1 n1 c1 (flatCo p.cs)) (h : Sl w w.heap.size 5 A n c (flatRg p.rs)) :
    Calls Tryz.prog 8 #[.agg #[.slice A1 n1 c1, .slice A n c, .int .i64 p.clk, .int .i64 p.ver], .agg #[.int .i64 k.id, .int .i64 k.fr, .int .i64 k.tn, .int .i64 k.st, .int .i64 k.en, .int .i64 k.rt]] w fun e w' => e = .returned (.bool true) ∧ Below w.heap.size w w' := by
  have hB : Below w.heap.size w (w.alloc (.cells #[.slice A1 n1 c1, .slice A n c, .int .i64 p.clk, .int .i64 p.ver] 25)) := by (repeat (first | exact Below.refl _ _ | refine Below.alloc ?_ (by first | omega | (simp; done) | (simp; omega)) _ | refine Below.setCell ?_ (by first | omega | (simp; done) | (simp; omega)) _ | refine Below.drew ?_))
  have hP := Blok.new w 25 #[.slice A1 n1 c1, .slice A n c, .int .i64 p.clk, .int .i64 p.ver]
  replace h1 := h1.up hB
  replace h := h.up hB
  have hs := hB.size
  have HD1 := Lib.hid hd1
  have HD := Lib.hid hd
  clear hd hd1
  go_enter Tryz.func8, Tryz.ntmps8
  go_wp2_with fail
  have hz0 : (w.alloc (.cells #[.slice A1 n1 c1, .slice A n c, .int .i64 p.clk, .int .i64 p.ver] 25)).heap.size = w.heap.size + 1 := by simp
  generalize w.alloc (.cells #[.slice A1 n1 c1, .slice A n c, .int .i64 p.clk, .int .i64 p.ver] 25) = w0 at *
  have hK := Blok.new w0 33 #[.int .i64 k.id, .int .i64 k.fr, .int .i64 k.tn, .int .i64 k.st, .int .i64 k.en, .int .i64 k.rt]
  have hb : Below w0.heap.size w0 (w0.alloc (.cells #[.int .i64 k.id, .int .i64 k.fr, .int .i64 k.tn, .int .i64 k.st, .int .i64 k.en, .int .i64 k.rt] 33)) := by (repeat (first | exact Below.refl _ _ | refine Below.alloc ?_ (by first | omega | (simp; done) | (simp; omega)) _ | refine Below.setCell ?_ (by first | omega | (simp; done) | (simp; omega)) _ | refine Below.drew ?_))
  replace h1 := h1.up hb
  replace h := h.up hb
  replace hP := hP.below hb hP.lt
  replace hB := hB.trans (hb.mono hs)
  replace hs := hB.size
  clear hb
  generalize w0.alloc (.cells #[.int .i64 k.id, .int .i64 k.fr, .int .i64 k.tn, .int .i64 k.st, .int .i64 k.en, .int .i64 k.rt] 33) = w0' at *
  rw [hz0] at hK
  clear hz0
  generalize hzhK : w.heap.size + 1 = bhK at *
  clear hzhK
  refine (small08_any w0').mono ?_
  rintro e w1 ⟨rfl, hb⟩
  replace h1 := h1.up hb
  replace h := h.up hb
  replace hP := hP.below hb hP.lt
  replace hK := hK.below hb hK.lt
  replace hB := hB.trans (hb.mono hs)
  replace hs := hB.size
  clear hb
  have p0 : w1.cell? ⟨w.heap.size, 0, none⟩ = some (.slice A1 n1 c1) := hP.cell 0
  have p1 : w1.cell? ⟨w.heap.size, 1, none⟩ = some (.slice A n c) := hP.cell 1
  have p2 : w1.cell? ⟨w.heap.size, 2, none⟩ = some (.int .i64 p.clk) := hP.cell 2
  have p3 : w1.cell? ⟨w.heap.size, 3, none⟩ = some (.int .i64 p.ver) := hP.cell 3
  have lt_p := hP.lt
  go_wp2_with fail
  clear p0 p1 p2 p3 lt_p
  refine (few_any A1 n1 c1 A n c p.clk p.ver w1 _ rfl).mono ?_
  rintro e w2 ⟨rfl, hb⟩
  replace h1 := h1.up hb
  replace h := h.up hb
  replace hP := hP.below hb hP.lt
  replace hK := hK.below hb hK.lt
  replace hB := hB.trans (hb.mono hs)
  replace hs := hB.size
  clear hb
  by_cases hf : ¬ (n1 ≤ 50 ∧ n ≤ 50)
  · rw [decide_eq_false hf]
    go_wp2_with fail
    go_ret
    exact ⟨rfl, hB⟩
  replace hf := Decidable.not_not.1 hf
  rw [decide_eq_true hf]
  obtain ⟨hf1, hf2⟩ := hf
  have p0 : w2.cell? ⟨w.heap.size, 0, none⟩ = some (.slice A1 n1 c1) := hP.cell 0
  have p1 : w2.cell? ⟨w.heap.size, 1, none⟩ = some (.slice A n c) := hP.cell 1
  have p2 : w2.cell? ⟨w.heap.size, 2, none⟩ = some (.int .i64 p.clk) := hP.cell 2
  have p3 : w2.cell? ⟨w.heap.size, 3, none⟩ = some (.int .i64 p.ver) := hP.cell 3
  have lt_p := hP.lt
  go_wp2_with fail
  clear p0 p1 p2 p3 lt_p
  obtain ⟨rb, hrb⟩ : ∃ rb, rightP p.cs p.rs p.clk p.ver = rb := ⟨_, rfl⟩
  refine (pright_any A1 n1 c1 p.cs A n c p.rs p.clk p.ver w2 HD1.out (by omega) HD.out (by omega) h1 h rb hrb).mono ?_
  rintro e w3 ⟨rfl, hb⟩
  replace h1 := h1.up hb
  replace h := h.up hb
  replace hP := hP.below hb hP.lt
  replace hK := hK.below hb hK.lt
  replace hB := hB.trans (hb.mono hs)
  replace hs := hB.size
  clear hb
  cases rb
  · clear hrb
    go_wp2_with fail
    go_ret
    exact ⟨rfl, hB⟩
  have HRP := Lib.hid (rightP_spec.1 hrb)
  clear hrb
  have hp : PlAt w3 A1 n1 c1 A n c p := ⟨HD1.out, HD.out, by omega, by omega, h1, h⟩
  clear h1 h
  have hpr : p.right = true := Pl.right_spec.2 HRP.out
  have HPR := Lib.hid hpr
  clear hpr
  obtain ⟨q, hqd⟩ : ∃ q, stepP p (addD k) = q := ⟨_, rfl⟩
  obtain ⟨e1, he1⟩ : ∃ e1, stepQ p (addD k) = e1 := ⟨_, rfl⟩
  have HQ := Lib.hid hqd
  have HE := Lib.hid he1
  clear hqd he1
  have p0 : w3.cell? ⟨w.heap.size, 0, none⟩ = some (.slice A1 n1 c1) := hP.cell 0
  have p1 : w3.cell? ⟨w.heap.size, 1, none⟩ = some (.slice A n c) := hP.cell 1
  have p2 : w3.cell? ⟨w.heap.size, 2, none⟩ = some (.int .i64 p.clk) := hP.cell 2
  have p3 : w3.cell? ⟨w.heap.size, 3, none⟩ = some (.int .i64 p.ver) := hP.cell 3
  have lt_p := hP.lt
  have k_0 : w3.cell? ⟨bhK, 0, none⟩ = some (.int .i64 k.id) := hK.cell 0
  have k_1 : w3.cell? ⟨bhK, 1, none⟩ = some (.int .i64 k.fr) := hK.cell 1
  have k_2 : w3.cell? ⟨bhK, 2, none⟩ = some (.int .i64 k.tn) := hK.cell 2
  have k_3 : w3.cell? ⟨bhK, 3, none⟩ = some (.int .i64 k.st) := hK.cell 3
  have k_4 : w3.cell? ⟨bhK, 4, none⟩ = some (.int .i64 k.en) := hK.cell 4
  have k_5 : w3.cell? ⟨bhK, 5, none⟩ = some (.int .i64 k.rt) := hK.cell 5
  have lt_k := hK.lt
  go_wp2_with fail
  clear p0 p1 p2 p3 lt_p k_0 k_1 k_2 k_3 k_4 k_5 lt_k
  refine (papp_to A1 n1 c1 A n c p (addD k) w3 (show (Lit.int .i64 1).wf = true by decide) (show (Lit.int .i64 1).wf = true by decide) hp HPR.out q e1 HQ.out HE.out).mono ?_
  rintro e w4 ⟨A2, n2, c2, A3, n3, c3, rfl, ho, hb⟩
  have hq := ho.at_
  clear ho
  replace hp := hp.up hb
  replace hP := hP.below hb hP.lt
  replace hK := hK.below hb hK.lt
  replace hB := hB.trans (hb.mono hs)
  replace hs := hB.size
  clear hb
  by_cases hz : e1 = 0
  · subst hz
    obtain ⟨r, hrd⟩ : ∃ r, stepP q (delD k.id) = r := ⟨_, rfl⟩
    have HT := Lib.hid (twice_q (twice_at HPR.out HE.out) HQ.out hrd)
    have HRR := Lib.hid hrd
    clear hrd
    rw [HT.out.clk]
    go_upto_region 6 with fail
    have bq := Blok.new w4 25 #[.slice A2 n2 c2, .slice A3 n3 c3, .int .i64 p.clk, .int .i64 q.ver]
    have hb : Below w4.heap.size w4 (w4.alloc (.cells #[.slice A2 n2 c2, .slice A3 n3 c3, .int .i64 p.clk, .int .i64 q.ver] 25)) := by (repeat (first | exact Below.refl _ _ | refine Below.alloc ?_ (by first | omega | (simp; done) | (simp; omega)) _ | refine Below.setCell ?_ (by first | omega | (simp; done) | (simp; omega)) _ | refine Below.drew ?_))
    replace hp := hp.up hb
    replace hq := hq.up hb
    replace hP := hP.below hb hP.lt
    replace hK := hK.below hb hK.lt
    replace hB := hB.trans (hb.mono hs)
    replace hs := hB.size
    clear hb
    generalize w4.alloc (.cells #[.slice A2 n2 c2, .slice A3 n3 c3, .int .i64 p.clk, .int .i64 q.ver] 25) = w5 at *
    generalize hzz : w4.heap.size = Bq at *
    clear hzz
    have a0 : w5.cell? ⟨Bq, 0, none⟩ = some (.slice A2 n2 c2) := bq.cell 0
    have a1 : w5.cell? ⟨Bq, 1, none⟩ = some (.slice A3 n3 c3) := bq.cell 1
    have a2 : w5.cell? ⟨Bq, 2, none⟩ = some (.int .i64 p.clk) := bq.cell 2
    have a3 : w5.cell? ⟨Bq, 3, none⟩ = some (.int .i64 q.ver) := bq.cell 3
    have k_0 : w5.cell? ⟨bhK, 0, none⟩ = some (.int .i64 k.id) := hK.cell 0
    have lt_a := bq.lt
    have lt_k := hK.lt
    go_wp2_with fail
    clear a0 a1 a2 a3 lt_a k_0 lt_k
    refine (papp_to' A2 n2 c2 A3 n3 c3 q (delD k.id) w5 (show (Lit.int .i64 2).wf = true by decide) (show (Lit.int .i64 1).wf = true by decide) hq HT.out.right r 0 HRR.out HT.out.q0 p.clk q.ver HT.out.clk rfl).mono ?_
    rintro e w6 ⟨A5, n5, c5, A6, n6, c6, rfl, ho, hb⟩
    have hz := ho.at_
    clear ho hq bq
    replace hp := hp.up hb
    replace hP := hP.below hb hP.lt
    replace hK := hK.below hb hK.lt
    replace hB := hB.trans (hb.mono hs)
    replace hs := hB.size
    clear hb
    rw [HT.out.rclk]
    go_upto_region 9 with fail
    have br := Blok.new w6 25 #[.slice A5 n5 c5, .slice A6 n6 c6, .int .i64 p.clk, .int .i64 r.ver]
    have hb : Below w6.heap.size w6 (w6.alloc (.cells #[.slice A5 n5 c5, .slice A6 n6 c6, .int .i64 p.clk, .int .i64 r.ver] 25)) := by (repeat (first | exact Below.refl _ _ | refine Below.alloc ?_ (by first | omega | (simp; done) | (simp; omega)) _ | refine Below.setCell ?_ (by first | omega | (simp; done) | (simp; omega)) _ | refine Below.drew ?_))
    replace hp := hp.up hb
    replace hz := hz.up hb
    replace hP := hP.below hb hP.lt
    replace hK := hK.below hb hK.lt
    replace hB := hB.trans (hb.mono hs)
    replace hs := hB.size
    clear hb
    generalize w6.alloc (.cells #[.slice A5 n5 c5, .slice A6 n6 c6, .int .i64 p.clk, .int .i64 r.ver] 25) = w7 at *
    generalize hzz : w6.heap.size = Br at *
    clear hzz
    have b0 : w7.cell? ⟨Br, 0, none⟩ = some (.slice A5 n5 c5) := br.cell 0
    have b1 : w7.cell? ⟨Br, 1, none⟩ = some (.slice A6 n6 c6) := br.cell 1
    have b2 : w7.cell? ⟨Br, 2, none⟩ = some (.int .i64 p.clk) := br.cell 2
    have lt_b := br.lt
    have p0 : w7.cell? ⟨w.heap.size, 0, none⟩ = some (.slice A1 n1 c1) := hP.cell 0
    have p1 : w7.cell? ⟨w.heap.size, 1, none⟩ = some (.slice A n c) := hP.cell 1
    have p2 : w7.cell? ⟨w.heap.size, 2, none⟩ = some (.int .i64 p.clk) := hP.cell 2
    have p3 : w7.cell? ⟨w.heap.size, 3, none⟩ = some (.int .i64 p.ver) := hP.cell 3
    have lt_p := hP.lt
    have k_4 : w7.cell? ⟨bhK, 4, none⟩ = some (.int .i64 k.en) := hK.cell 4
    have lt_k := hK.lt
    have hpast := HT.out.past
    have g0 : decide (k.en > p.clk) = true := decide_eq_true hpast
    have g1 : decide (p.clk < k.en) = true := decide_eq_true hpast
    have HZ := Lib.hid (fun d os => hz.up (below_regrown w7 d os))
    have HPP := Lib.hid (fun d os => hp.up (below_regrown w7 d os))
    clear hz hp br hP hK HQ HE HRR hpast
    have q_b0 := fun d os => cell_regrown b0 d os
    have q_b1 := fun d os => cell_regrown b1 d os
    have q_b2 := fun d os => cell_regrown b2 d os
    have q_p0 := fun d os => cell_regrown p0 d os
    have q_p1 := fun d os => cell_regrown p1 d os
    have q_p2 := fun d os => cell_regrown p2 d os
    have q_k_4 := fun d os => cell_regrown k_4 d os
    try simp only [List.append]
    first | refine wp_region_text_below ?_ | refine wp_region_quiet_below (by kernel_rfl) (by kernel_rfl) ?_
    repeat (go_big_quiet_step (((first | (go_at_call 29; with_reducible exact Calls.regrown_of (csame_yes A5 A1 n5 c5 n1 c1 r.cs p.cs _ (HZ.out 0 #[]).l1 (HPP.out 0 #[]).l1 (by have := (HZ.out 0 #[]).b1; omega) (by have := (HPP.out 0 #[]).b1; omega) (HZ.out _ _).s1 (HPP.out _ _).s1 HT.out.cs)) | (go_at_call 30; with_reducible exact Calls.regrown_of (rsame_yes A6 A n6 c6 n c r.rs p.rs _ (HZ.out 0 #[]).l (HPP.out 0 #[]).l (by have := (HZ.out 0 #[]).b; omega) (by have := (HPP.out 0 #[]).b; omega) (HZ.out _ _).s (HPP.out _ _).s HT.out.rs))))))
    refine wpQuiet_nil ?_
    intro _ hqw
    obtain ⟨pq, hqw⟩ := hqw
    subst hqw
    have hfin := hB.trans ((below_regrown w7 pq.d pq.os).mono hs)
    clear q_b0 q_b1 q_b2 q_p0 q_p1 q_p2 q_k_4 b0 b1 b2 p0 p1 p2 p3 k_4
    generalize grow (redrawn w7 pq.d) pq.os = wq at *
    go_wp2
    go_ret
    exact ⟨rfl, hfin⟩
  · have hqp : q = p := by rw [← HQ.out]; exact stepP_same (by rw [HE.out]; exact hz)
    subst hqp
    have hne : (e1 != 0) = true := by simpa using hz
    have hne2 : (e1 == 0) = false := by simpa using hz
    clear hz HQ HE
    go_upto_region 6 with fail
    have bq := Blok.new w4 25 #[.slice A2 n2 c2, .slice A3 n3 c3, .int .i64 q.clk, .int .i64 q.ver]
    have hb : Below w4.heap.size w4 (w4.alloc (.cells #[.slice A2 n2 c2, .slice A3 n3 c3, .int .i64 q.clk, .int .i64 q.ver] 25)) := by (repeat (first | exact Below.refl _ _ | refine Below.alloc ?_ (by first | omega | (simp; done) | (simp; omega)) _ | refine Below.setCell ?_ (by first | omega | (simp; done) | (simp; omega)) _ | refine Below.drew ?_))
    replace hp := hp.up hb
    replace hq := hq.up hb
    replace hP := hP.below hb hP.lt
    replace hK := hK.below hb hK.lt
    replace hB := hB.trans (hb.mono hs)
    replace hs := hB.size
    clear hb
    generalize w4.alloc (.cells #[.slice A2 n2 c2, .slice A3 n3 c3, .int .i64 q.clk, .int .i64 q.ver] 25) = w5 at *
    generalize hzz : w4.heap.size = Bq at *
    clear hzz
    have p0 : w5.cell? ⟨w.heap.size, 0, none⟩ = some (.slice A1 n1 c1) := hP.cell 0
    have p1 : w5.cell? ⟨w.heap.size, 1, none⟩ = some (.slice A n c) := hP.cell 1
    have p2 : w5.cell? ⟨w.heap.size, 2, none⟩ = some (.int .i64 q.clk) := hP.cell 2
    have p3 : w5.cell? ⟨w.heap.size, 3, none⟩ = some (.int .i64 q.ver) := hP.cell 3
    have lt_p := hP.lt
    have a0 : w5.cell? ⟨Bq, 0, none⟩ = some (.slice A2 n2 c2) := bq.cell 0
    have a1 : w5.cell? ⟨Bq, 1, none⟩ = some (.slice A3 n3 c3) := bq.cell 1
    have a2 : w5.cell? ⟨Bq, 2, none⟩ = some (.int .i64 q.clk) := bq.cell 2
    have a3 : w5.cell? ⟨Bq, 3, none⟩ = some (.int .i64 q.ver) := bq.cell 3
    have lt_a := bq.lt
    have HR := Lib.hid (fun d os => hq.up (below_regrown w5 d os))
    have HPP := Lib.hid (fun d os => hp.up (below_regrown w5 d os))
    clear hq hp bq hP hK
    go_upto_region 7 with fail
    have q_p0 := fun d os => cell_regrown p0 d os
    have q_p1 := fun d os => cell_regrown p1 d os
    have q_p2 := fun d os => cell_regrown p2 d os
    have q_p3 := fun d os => cell_regrown p3 d os
    have q_a0 := fun d os => cell_regrown a0 d os
    have q_a1 := fun d os => cell_regrown a1 d os
    have q_a2 := fun d os => cell_regrown a2 d os
    have q_a3 := fun d os => cell_regrown a3 d os
    try simp only [List.append]
    first | refine wp_region_text_below ?_ | refine wp_region_quiet_below (by kernel_rfl) (by kernel_rfl) ?_
    repeat (go_big_quiet_step (((go_at_call 14; with_reducible exact Calls.regrown_of (psame_any A2 n2 c2 A3 n3 c3 q A1 n1 c1 A n c q _ (HR.out _ _) (HPP.out _ _) true (samePB_refl q))))))
    refine wpQuiet_nil ?_
    intro _ hqw
    obtain ⟨pq, hqw⟩ := hqw
    subst hqw
    have hfin := hB.trans ((below_regrown w5 pq.d pq.os).mono hs)
    clear q_p0 q_p1 q_p2 q_p3 q_a0 q_a1 q_a2 q_a3 p0 p1 p2 p3 a0 a1 a2 a3
    generalize grow (redrawn w5 pq.d) pq.os = wq at *
    go_wp2
    go_ret
    exact ⟨rfl, hfin⟩
theorem planTwice_walk (A1 : Option Addr) (n1 c1 : Nat) (ns1 : List Int) (A : Option Addr) (n c : Nat) (ns : List Int) (clk ver : Int) (i0 i1 i2 i3 i4 i5 : Int) (hnl1 : ns1.length = n1 * 6) (_ : ∀ m ∈ ns1, (Lit.int .i64 m).wf = true) (hnl : ns.length = n * 5) (_ : ∀ m ∈ ns, (Lit.int .i64 m).wf = true) (_ : (Lit.int .i64 clk).wf = true) (_ : (Lit.int .i64 ver).wf = true) (_ : ∀ m ∈ [i0, i1, i2, i3, i4, i5], (Lit.int .i64 m).wf = true) (w : World)
    (h1 : Sl w w.heap.size 6 A1 n1 c1 (ns1.map (Value.int .i64))) (h : Sl w w.heap.size 5 A n c (ns.map (Value.int .i64))) :
    Calls Tryz.prog 8 #[.agg #[.slice A1 n1 c1, .slice A n c, .int .i64 clk, .int .i64 ver], .agg #[.int .i64 i0, .int .i64 i1, .int .i64 i2, .int .i64 i3, .int .i64 i4, .int .i64 i5]] w fun e w' => e = .returned (.bool true) ∧ Below w.heap.size w w' := by
  obtain ⟨cs, hd1, hf1⟩ := rowsCo_of n1 ns1 hnl1
  obtain ⟨rs, hd, hf⟩ := rowsRg_of n ns hnl
  rw [hf1] at h1
  rw [hf] at h
  exact planTwice_w A1 n1 c1 A n c ⟨cs, rs, clk, ver⟩ ⟨i0, i1, i2, i3, i4, i5⟩ hd1 hd w h1 h
theorem planTwice_own : ownKnob Tryz.prog.godebug = none := by kernel_rfl
theorem planTwice_laidOut : laidOutB Tryz.prog = true := by kernel_rfl

set_option maxHeartbeats 1000000 in
set_option maxRecDepth 100000 in
theorem planTwice_lifted (os : Os) (started : os.Started) (H : Type) (enc : TypeId × Value → H) :
    ReturnsInHanded {} Tryz.checked os 8 .any (Rows.planTwiceSpec.pre6 enc Tryz.prog Tryz.f8 Rows.planTwiceRow.domain false) (Rows.planTwiceSpec.post enc Tryz.prog Tryz.f8 false true false false) := by
  refine returnsInHanded_of_change (C := Tryz.checked) planTwice_own started (by kernel_rfl) Tryz.func8
    (ChangeSpec.witness6 (enc := enc) (C := Tryz.checked) false ⟨#[], #[.agg #[.slice none 0 0, .slice none 0 0, .int .i64 0, .int .i64 0], .agg #[.int .i64 0, .int .i64 0, .int .i64 0, .int .i64 0, .int .i64 0, .int .i64 0]], []⟩ 8 (by kernel_rfl) (by kernel_rfl) (by kernel_rfl) (by kernel_rfl)) ?_
  intro W base args ds gs before hval0 hW hcnd _
  have hval : ∀ (j : Nat) t v, Tryz.f8.params[j]? = some t → args[j]? = some v → Value.okWide Tryz.prog W .any base t v := hval0
  have hW' := hW
  obtain ⟨p, q, hA0, hV, rfl, hfz, hnd⟩ := hW
  have hA : DataW.TrodAll enc Tryz.prog W 0 (fun _ => true) true Tryz.f8.params.toList args.toList ds p := hA0
  rw [Tryz.params8] at hA hval
  obtain ⟨v0, vs0, d0, ds0, p0, q0, hargs, rfl, rfl, h0, r0⟩ := trodAll_cons hA
  obtain ⟨v1, vs1, d1, ds1, p1, q1, rfl, rfl, rfl, h1, r1⟩ := trodAll_cons r0
  obtain ⟨rfl, rfl, rfl⟩ := trodAll_nil r1
  obtain rfl : args = #[v0, v1] := by cases args; simp_all
  obtain ⟨rfl, rfl⟩ := trodVars_none hV
  obtain ⟨A0, n0, c0, ns0, B0, m0, k0, ms0, x0, y0, rfl, hl0, nl0, w0, hm0, ml0, wm0, wx0, wy0⟩ := open_plan 4 (e0 := 33) (e1 := 35) (K0 := 6) (K1 := 5) Tryz.underlying25 (by kernel_rfl) (by kernel_rfl) (by kernel_rfl) (by kernel_rfl) (by kernel_rfl) (by kernel_rfl) (by kernel_rfl) (by kernel_rfl) (by omega) (by kernel_rfl) (by omega) (hval 0 25 v0 rfl rfl) h0
  obtain ⟨n1, e1, l1, w1⟩ := open_flat 4 Tryz.underlying33 (by kernel_rfl) (hval 1 33 v1 rfl rfl) h1
  obtain ⟨a1_0, a1_1, a1_2, a1_3, a1_4, a1_5, rfl⟩ : ∃ a1_0 a1_1 a1_2 a1_3 a1_4 a1_5 : Int, n1 = [a1_0, a1_1, a1_2, a1_3, a1_4, a1_5] := by
    rw [show Tryz.prog.cellsOf 33 = 6 by kernel_rfl] at l1
    match n1, l1 with
    | [a1_0, a1_1, a1_2, a1_3, a1_4, a1_5], _ => exact ⟨_, _, _, _, _, _, rfl⟩
  obtain rfl : v1 = .agg #[.int .i64 a1_0, .int .i64 a1_1, .int .i64 a1_2, .int .i64 a1_3, .int .i64 a1_4, .int .i64 a1_5] := e1
  clear hA0 hval0
  refine (planTwice_walk A0 n0 c0 ns0 B0 m0 k0 ms0 x0 y0 a1_0 a1_1 a1_2 a1_3 a1_4 a1_5 nl0 w0 ml0 wm0 wx0 wy0 w1 W hl0 hm0).mono fun e W' ⟨he, bel⟩ => ?_
  subst he
  exact ⟨_, rfl, law_post planTwice_laidOut (by kernel_rfl) rfl Tryz.underlying4 rfl rfl hW' bel⟩

theorem planTwice_proved : Rows.PlanTwiceSaid :=
  OpenClaim.holds_of_wide 8 Tryz.f8 rfl rfl rfl rfl rfl rfl rfl ⟨rfl, rfl, rfl, rfl, rfl⟩ rfl rfl rfl rfl rfl (by kernel_rfl) Tryz.func8 (by kernel_rfl)
    (of_decide_eq_true (by kernel_rfl)) (by unfold Func.isWrapper; first | (rw [if_pos (by decide +kernel)]; kernel_rfl) | (rw [if_neg (by decide +kernel)]; exact ⟨rfl, rfl⟩))
    (fun os started H enc _ => planTwice_lifted os started H enc)
#print axioms planTwice_proved
end Go.Proofs.YtolaabllhibkdaaGreat
