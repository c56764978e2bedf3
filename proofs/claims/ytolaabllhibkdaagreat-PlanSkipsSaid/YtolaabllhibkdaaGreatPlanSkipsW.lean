/- It does not matter to the tables whether time goes on once, or twice: PlanSkips returns true. No condition. -/
import Derived.Test.YtolaabllhibkdaaGreatW9
import Derived.Test.YtolaabllhibkdaaGreatRows
namespace Go.Proofs.YtolaabllhibkdaaGreat
open Go.ChangeShapes Go.WideShapes Go.ChangeAt Go.RowKit Go.Sort
set_option linter.unusedSimpArgs false
set_option linter.unusedVariables false
set_option maxHeartbeats 16000000 in
set_option maxRecDepth 100000 in
theorem planSkips_w (A1 : Option Addr) (n1 c1 : Nat) (A : Option Addr) (n c : Nat) (p : Pl) (now later : Int) (hd1 : p.cs.length = n1) (hd : p.rs.length = n) (w : World) (h1 : Sl w w.heap.size 6 A1 n1 c1 (flatCo p.cs)) (h : Sl w w.heap.size 5 A n c (flatRg p.rs)) :
    Calls Tryz.prog 7 #[.agg #[.slice A1 n1 c1, .slice A n c, .int .i64 p.clk, .int .i64 p.ver], .int .i64 now, .int .i64 later] w fun e w' => e = .returned (.bool true) ∧ Below w.heap.size w w' := by
  have hB : Below w.heap.size w (w.alloc (.cells #[.slice A1 n1 c1, .slice A n c, .int .i64 p.clk, .int .i64 p.ver] 25)) := by (repeat (first | exact Below.refl _ _ | refine Below.alloc ?_ (by first | omega | (simp; done) | (simp; omega)) _ | refine Below.setCell ?_ (by first | omega | (simp; done) | (simp; omega)) _ | refine Below.drew ?_))
  have hP := Blok.new w 25 #[.slice A1 n1 c1, .slice A n c, .int .i64 p.clk, .int .i64 p.ver]
  replace h1 := h1.up hB
  replace h := h.up hB
  have hs := hB.size
  have HD1 := Lib.hid hd1
  have HD := Lib.hid hd
  clear hd hd1
  go_enter Tryz.func7, Tryz.ntmps7
  go_wp2_with fail
  generalize w.alloc (.cells #[.slice A1 n1 c1, .slice A n c, .int .i64 p.clk, .int .i64 p.ver] 25) = w0 at *
  refine (small08_any w0).mono ?_
  rintro e w1 ⟨rfl, hb⟩
  replace h1 := h1.up hb
  replace h := h.up hb
  replace hP := hP.below hb hP.lt
  replace hB := hB.trans (hb.mono hs)
  replace hs := hB.size
  clear hb
  have p0 : w1.cell? ⟨w.heap.size, 0, none⟩ = some (.slice A1 n1 c1) := hP.cell 0
  have p1 : w1.cell? ⟨w.heap.size, 1, none⟩ = some (.slice A n c) := hP.cell 1
  have p2 : w1.cell? ⟨w.heap.size, 2, none⟩ = some (.int .i64 p.clk) := hP.cell 2
  have p3 : w1.cell? ⟨w.heap.size, 3, none⟩ = some (.int .i64 p.ver) := hP.cell 3
  have lt_p := hP.lt
  go_wp2_with fail
  clear p0 p1 p2 p3 lt_p
  refine (few_any A1 n1 c1 A n c p.clk p.ver w1 _ rfl).mono ?_
  rintro e w2 ⟨rfl, hb⟩
  replace h1 := h1.up hb
  replace h := h.up hb
  replace hP := hP.below hb hP.lt
  replace hB := hB.trans (hb.mono hs)
  replace hs := hB.size
  clear hb
  by_cases hf : ¬ (n1 ≤ 50 ∧ n ≤ 50)
  · rw [decide_eq_false hf]
    go_wp2_with fail
    go_ret
    exact ⟨rfl, hB⟩
  replace hf := Decidable.not_not.1 hf
  rw [decide_eq_true hf]
  obtain ⟨hf1, hf2⟩ := hf
  have p0 : w2.cell? ⟨w.heap.size, 0, none⟩ = some (.slice A1 n1 c1) := hP.cell 0
  have p1 : w2.cell? ⟨w.heap.size, 1, none⟩ = some (.slice A n c) := hP.cell 1
  have p2 : w2.cell? ⟨w.heap.size, 2, none⟩ = some (.int .i64 p.clk) := hP.cell 2
  have p3 : w2.cell? ⟨w.heap.size, 3, none⟩ = some (.int .i64 p.ver) := hP.cell 3
  have lt_p := hP.lt
  go_wp2_with fail
  clear p0 p1 p2 p3 lt_p
  obtain ⟨rb, hrb⟩ : ∃ rb, rightP p.cs p.rs p.clk p.ver = rb := ⟨_, rfl⟩
  refine (pright_any A1 n1 c1 p.cs A n c p.rs p.clk p.ver w2 HD1.out (by omega) HD.out (by omega) h1 h rb hrb).mono ?_
  rintro e w3 ⟨rfl, hb⟩
  replace h1 := h1.up hb
  replace h := h.up hb
  replace hP := hP.below hb hP.lt
  replace hB := hB.trans (hb.mono hs)
  replace hs := hB.size
  clear hb
  cases rb
  · clear hrb
    go_wp2_with fail
    go_ret
    exact ⟨rfl, hB⟩
  have HRP := Lib.hid (rightP_spec.1 hrb)
  clear hrb
  have hp : PlAt w3 A1 n1 c1 A n c p := ⟨HD1.out, HD.out, by omega, by omega, h1, h⟩
  clear h1 h
  by_cases k1 : now < p.clk
  · have g0 : decide (now < p.clk) = true := decide_eq_true k1
    have p0 : w3.cell? ⟨w.heap.size, 0, none⟩ = some (.slice A1 n1 c1) := hP.cell 0
    have p1 : w3.cell? ⟨w.heap.size, 1, none⟩ = some (.slice A n c) := hP.cell 1
    have p2 : w3.cell? ⟨w.heap.size, 2, none⟩ = some (.int .i64 p.clk) := hP.cell 2
    have p3 : w3.cell? ⟨w.heap.size, 3, none⟩ = some (.int .i64 p.ver) := hP.cell 3
    have lt_p := hP.lt
    go_wp2_with fail
    go_ret
    exact ⟨rfl, hB⟩
  have g_k1 : decide (now < p.clk) = false := decide_eq_false k1
  by_cases k2 : later < now
  · have g0 : decide (later < now) = true := decide_eq_true k2
    have p0 : w3.cell? ⟨w.heap.size, 0, none⟩ = some (.slice A1 n1 c1) := hP.cell 0
    have p1 : w3.cell? ⟨w.heap.size, 1, none⟩ = some (.slice A n c) := hP.cell 1
    have p2 : w3.cell? ⟨w.heap.size, 2, none⟩ = some (.int .i64 p.clk) := hP.cell 2
    have p3 : w3.cell? ⟨w.heap.size, 3, none⟩ = some (.int .i64 p.ver) := hP.cell 3
    have lt_p := hP.lt
    go_wp2_with fail
    go_ret
    exact ⟨rfl, hB⟩
  have g_k2 : decide (later < now) = false := decide_eq_false k2
  by_cases k3 : later > 2147483647
  · have g0 : decide (later > 2147483647) = true := decide_eq_true k3
    have p0 : w3.cell? ⟨w.heap.size, 0, none⟩ = some (.slice A1 n1 c1) := hP.cell 0
    have p1 : w3.cell? ⟨w.heap.size, 1, none⟩ = some (.slice A n c) := hP.cell 1
    have p2 : w3.cell? ⟨w.heap.size, 2, none⟩ = some (.int .i64 p.clk) := hP.cell 2
    have p3 : w3.cell? ⟨w.heap.size, 3, none⟩ = some (.int .i64 p.ver) := hP.cell 3
    have lt_p := hP.lt
    go_wp2_with fail
    go_ret
    exact ⟨rfl, hB⟩
  have g_k3 : decide (later > 2147483647) = false := decide_eq_false k3
  have hS := skips_at HRP.out (by omega : p.clk ≤ now) (by omega : now ≤ later) (by omega : later ≤ 2147483647)
  obtain ⟨a, ha⟩ : ∃ a, advP p now = a := ⟨_, rfl⟩
  obtain ⟨b, hb_⟩ : ∃ b, advP a later = b := ⟨_, rfl⟩
  obtain ⟨z, hz_⟩ : ∃ z, advP p later = z := ⟨_, rfl⟩
  obtain ⟨gx, hgx⟩ : ∃ g, advG p now = g := ⟨_, rfl⟩
  obtain ⟨gy, hgy⟩ : ∃ g, advG a later = g := ⟨_, rfl⟩
  obtain ⟨gz, hgz⟩ : ∃ g, advG p later = g := ⟨_, rfl⟩
  have HS := Lib.hid (skips_r hS ha hb_ hz_ hgx hgy hgz)
  have HA := Lib.hid ha
  have HBp := Lib.hid hb_
  have HZp := Lib.hid hz_
  have HGX := Lib.hid hgx
  have HGY := Lib.hid hgy
  have HGZ := Lib.hid hgz
  clear hS ha hb_ hz_ hgx hgy hgz
  have p0 : w3.cell? ⟨w.heap.size, 0, none⟩ = some (.slice A1 n1 c1) := hP.cell 0
  have p1 : w3.cell? ⟨w.heap.size, 1, none⟩ = some (.slice A n c) := hP.cell 1
  have p2 : w3.cell? ⟨w.heap.size, 2, none⟩ = some (.int .i64 p.clk) := hP.cell 2
  have p3 : w3.cell? ⟨w.heap.size, 3, none⟩ = some (.int .i64 p.ver) := hP.cell 3
  have lt_p := hP.lt
  go_wp2_with fail
  clear p0 p1 p2 p3 lt_p g_k1 g_k2 g_k3
  refine (padv_to A1 n1 c1 A n c p now w3 hp HRP.out.v0 HRP.out.v1 p.clk p.ver rfl rfl a 0 gx HA.out HS.out.aq HGX.out).mono ?_
  rintro e w4 ⟨A2, n2, c2, A3, n3, c3, A4, n4, c4, rfl, ho, hl4, hs4, hb⟩
  have hq := ho.at_
  have HL4 := Lib.hid hl4
  clear ho hs4 hl4
  replace hp := hp.up hb
  replace hP := hP.below hb hP.lt
  replace hB := hB.trans (hb.mono hs)
  replace hs := hB.size
  clear hb
  go_upto_region 6 with fail
  have ba := Blok.new w4 25 #[.slice A2 n2 c2, .slice A3 n3 c3, .int .i64 a.clk, .int .i64 a.ver]
  have hb : Below w4.heap.size w4 (w4.alloc (.cells #[.slice A2 n2 c2, .slice A3 n3 c3, .int .i64 a.clk, .int .i64 a.ver] 25)) := by (repeat (first | exact Below.refl _ _ | refine Below.alloc ?_ (by first | omega | (simp; done) | (simp; omega)) _ | refine Below.setCell ?_ (by first | omega | (simp; done) | (simp; omega)) _ | refine Below.drew ?_))
  replace hp := hp.up hb
  replace hq := hq.up hb
  replace hP := hP.below hb hP.lt
  replace hB := hB.trans (hb.mono hs)
  replace hs := hB.size
  clear hb
  generalize w4.alloc (.cells #[.slice A2 n2 c2, .slice A3 n3 c3, .int .i64 a.clk, .int .i64 a.ver] 25) = w5 at *
  generalize hzz : w4.heap.size = Ba at *
  clear hzz
  have p0 : w5.cell? ⟨Ba, 0, none⟩ = some (.slice A2 n2 c2) := ba.cell 0
  have p1 : w5.cell? ⟨Ba, 1, none⟩ = some (.slice A3 n3 c3) := ba.cell 1
  have p2 : w5.cell? ⟨Ba, 2, none⟩ = some (.int .i64 a.clk) := ba.cell 2
  have p3 : w5.cell? ⟨Ba, 3, none⟩ = some (.int .i64 a.ver) := ba.cell 3
  have lt_p := ba.lt
  go_wp2_with fail
  clear p0 p1 p2 p3 lt_p
  refine (padv_to A2 n2 c2 A3 n3 c3 a later w5 hq HS.out.av0 HS.out.av1 a.clk a.ver rfl rfl b 0 gy HBp.out HS.out.bq HGY.out).mono ?_
  rintro e w6 ⟨A5, n5, c5, A6, n6, c6, A7, n7, c7, rfl, ho, hl7, hs7, hb⟩
  have hr := ho.at_
  have HL7 := Lib.hid hl7
  clear ho hs7 hl7 hq ba
  replace hp := hp.up hb
  replace hP := hP.below hb hP.lt
  replace hB := hB.trans (hb.mono hs)
  replace hs := hB.size
  clear hb
  rw [HS.out.bclk]
  go_upto_region 7 with fail
  have bb := Blok.new w6 25 #[.slice A5 n5 c5, .slice A6 n6 c6, .int .i64 later, .int .i64 b.ver]
  have hb : Below w6.heap.size w6 (w6.alloc (.cells #[.slice A5 n5 c5, .slice A6 n6 c6, .int .i64 later, .int .i64 b.ver] 25)) := by (repeat (first | exact Below.refl _ _ | refine Below.alloc ?_ (by first | omega | (simp; done) | (simp; omega)) _ | refine Below.setCell ?_ (by first | omega | (simp; done) | (simp; omega)) _ | refine Below.drew ?_))
  replace hp := hp.up hb
  replace hr := hr.up hb
  replace hP := hP.below hb hP.lt
  replace hB := hB.trans (hb.mono hs)
  replace hs := hB.size
  clear hb
  generalize w6.alloc (.cells #[.slice A5 n5 c5, .slice A6 n6 c6, .int .i64 later, .int .i64 b.ver] 25) = w7 at *
  generalize hzz : w6.heap.size = Bb at *
  clear hzz
  have p0 : w7.cell? ⟨w.heap.size, 0, none⟩ = some (.slice A1 n1 c1) := hP.cell 0
  have p1 : w7.cell? ⟨w.heap.size, 1, none⟩ = some (.slice A n c) := hP.cell 1
  have p2 : w7.cell? ⟨w.heap.size, 2, none⟩ = some (.int .i64 p.clk) := hP.cell 2
  have p3 : w7.cell? ⟨w.heap.size, 3, none⟩ = some (.int .i64 p.ver) := hP.cell 3
  have lt_p := hP.lt
  go_wp2_with fail
  clear p0 p1 p2 p3 lt_p
  refine (padv_to A1 n1 c1 A n c p later w7 hp HRP.out.v0 HRP.out.v1 p.clk p.ver rfl rfl z 0 gz HZp.out HS.out.zq HGZ.out).mono ?_
  rintro e w8 ⟨A8, n8, c8, A9, n9, c9, Aa, na, ca, rfl, ho, hla, hsa, hb⟩
  have hz := ho.at_
  have hna : n4 + n7 = na := by have := HS.out.len; rw [HL4.out, HL7.out, hla] at this; exact this
  have hn4 : n4 ≤ 50 := by have := HS.out.l1; rw [HL4.out] at this; have := HD1.out; omega
  have hn7 : n7 ≤ 50 := by have := HS.out.l2; rw [HL7.out] at this; have := HD1.out; omega
  subst hna
  clear ho hsa hla hp hP
  replace hr := hr.up hb
  replace bb := bb.below hb bb.lt
  replace hB := hB.trans (hb.mono hs)
  replace hs := hB.size
  clear hb
  rw [HS.out.zclk]
  go_upto_region 8 with fail
  have bz := Blok.new w8 25 #[.slice A8 n8 c8, .slice A9 n9 c9, .int .i64 later, .int .i64 z.ver]
  have hb : Below w8.heap.size w8 (w8.alloc (.cells #[.slice A8 n8 c8, .slice A9 n9 c9, .int .i64 later, .int .i64 z.ver] 25)) := by (repeat (first | exact Below.refl _ _ | refine Below.alloc ?_ (by first | omega | (simp; done) | (simp; omega)) _ | refine Below.setCell ?_ (by first | omega | (simp; done) | (simp; omega)) _ | refine Below.drew ?_))
  replace hr := hr.up hb
  replace hz := hz.up hb
  replace bb := bb.below hb bb.lt
  replace hB := hB.trans (hb.mono hs)
  replace hs := hB.size
  clear hb
  generalize w8.alloc (.cells #[.slice A8 n8 c8, .slice A9 n9 c9, .int .i64 later, .int .i64 z.ver] 25) = w9 at *
  generalize hzz : w8.heap.size = Bz at *
  clear hzz
  have b0 : w9.cell? ⟨Bb, 0, none⟩ = some (.slice A5 n5 c5) := bb.cell 0
  have b1 : w9.cell? ⟨Bb, 1, none⟩ = some (.slice A6 n6 c6) := bb.cell 1
  have b2 : w9.cell? ⟨Bb, 2, none⟩ = some (.int .i64 later) := bb.cell 2
  have z0 : w9.cell? ⟨Bz, 0, none⟩ = some (.slice A8 n8 c8) := bz.cell 0
  have z1 : w9.cell? ⟨Bz, 1, none⟩ = some (.slice A9 n9 c9) := bz.cell 1
  have z2 : w9.cell? ⟨Bz, 2, none⟩ = some (.int .i64 later) := bz.cell 2
  have lt_b := bb.lt
  have lt_z := bz.lt
  have HR := Lib.hid (fun d os => hr.up (below_regrown w9 d os))
  have HZ := Lib.hid (fun d os => hz.up (below_regrown w9 d os))
  clear hr hz bb bz HA HBp HZp HGX HGY HGZ
  have q_b0 := fun d os => cell_regrown b0 d os
  have q_b1 := fun d os => cell_regrown b1 d os
  have q_b2 := fun d os => cell_regrown b2 d os
  have q_z0 := fun d os => cell_regrown z0 d os
  have q_z1 := fun d os => cell_regrown z1 d os
  have q_z2 := fun d os => cell_regrown z2 d os
  try simp only [List.append]
  first | refine wp_region_text_below ?_ | refine wp_region_quiet_below (by kernel_rfl) (by kernel_rfl) ?_
  repeat (go_big_quiet_step (((first | (go_at_call 29; with_reducible exact Calls.regrown_of (csame_yes A5 A8 n5 c5 n8 c8 b.cs z.cs _ (HR.out 0 #[]).l1 (HZ.out 0 #[]).l1 (by have := (HR.out 0 #[]).b1; omega) (by have := (HZ.out 0 #[]).b1; omega) (HR.out _ _).s1 (HZ.out _ _).s1 HS.out.cs)) | (go_at_call 30; with_reducible exact Calls.regrown_of (rsame_yes A6 A9 n6 c6 n9 c9 b.rs z.rs _ (HR.out 0 #[]).l (HZ.out 0 #[]).l (by have := (HR.out 0 #[]).b; omega) (by have := (HZ.out 0 #[]).b; omega) (HR.out _ _).s (HZ.out _ _).s HS.out.rs))))))
  refine wpQuiet_nil ?_
  intro _ hqw
  obtain ⟨pq, hqw⟩ := hqw
  subst hqw
  have hfin := hB.trans ((below_regrown w9 pq.d pq.os).mono hs)
  generalize grow (redrawn w9 pq.d) pq.os = wq at *
  go_wp2
  go_ret
  exact ⟨rfl, hfin⟩
theorem planSkips_walk (A1 : Option Addr) (n1 c1 : Nat) (ns1 : List Int) (A : Option Addr) (n c : Nat) (ns : List Int) (clk ver : Int) (now later : Int) (hnl1 : ns1.length = n1 * 6) (_ : ∀ m ∈ ns1, (Lit.int .i64 m).wf = true) (hnl : ns.length = n * 5) (_ : ∀ m ∈ ns, (Lit.int .i64 m).wf = true) (_ : (Lit.int .i64 clk).wf = true) (_ : (Lit.int .i64 ver).wf = true) (_ : (Lit.int .i64 now).wf = true) (_ : (Lit.int .i64 later).wf = true) (w : World)
    (h1 : Sl w w.heap.size 6 A1 n1 c1 (ns1.map (Value.int .i64))) (h : Sl w w.heap.size 5 A n c (ns.map (Value.int .i64))) :
    Calls Tryz.prog 7 #[.agg #[.slice A1 n1 c1, .slice A n c, .int .i64 clk, .int .i64 ver], .int .i64 now, .int .i64 later] w fun e w' => e = .returned (.bool true) ∧ Below w.heap.size w w' := by
  obtain ⟨cs, hd1, hf1⟩ := rowsCo_of n1 ns1 hnl1
  obtain ⟨rs, hd, hf⟩ := rowsRg_of n ns hnl
  rw [hf1] at h1
  rw [hf] at h
  exact planSkips_w A1 n1 c1 A n c ⟨cs, rs, clk, ver⟩ now later hd1 hd w h1 h
theorem planSkips_own : ownKnob Tryz.prog.godebug = none := by kernel_rfl
theorem planSkips_laidOut : laidOutB Tryz.prog = true := by kernel_rfl

set_option maxHeartbeats 1000000 in
set_option maxRecDepth 100000 in
theorem planSkips_lifted (os : Os) (started : os.Started) (H : Type) (enc : TypeId × Value → H) :
    ReturnsInHanded {} Tryz.checked os 7 .any (Rows.planSkipsSpec.pre6 enc Tryz.prog Tryz.f7 Rows.planSkipsRow.domain false) (Rows.planSkipsSpec.post enc Tryz.prog Tryz.f7 false true false false) := by
  refine returnsInHanded_of_change (C := Tryz.checked) planSkips_own started (by kernel_rfl) Tryz.func7
    (ChangeSpec.witness6 (enc := enc) (C := Tryz.checked) false ⟨#[], #[.agg #[.slice none 0 0, .slice none 0 0, .int .i64 0, .int .i64 0], .int .i64 0, .int .i64 0], []⟩ 8 (by kernel_rfl) (by kernel_rfl) (by kernel_rfl) (by kernel_rfl)) ?_
  intro W base args ds gs before hval0 hW hcnd _
  have hval : ∀ (j : Nat) t v, Tryz.f7.params[j]? = some t → args[j]? = some v → Value.okWide Tryz.prog W .any base t v := hval0
  have hW' := hW
  obtain ⟨p, q, hA0, hV, rfl, hfz, hnd⟩ := hW
  have hA : DataW.TrodAll enc Tryz.prog W 0 (fun _ => true) true Tryz.f7.params.toList args.toList ds p := hA0
  rw [Tryz.params7] at hA hval
  obtain ⟨v0, vs0, d0, ds0, p0, q0, hargs, rfl, rfl, h0, r0⟩ := trodAll_cons hA
  obtain ⟨v1, vs1, d1, ds1, p1, q1, rfl, rfl, rfl, h1, r1⟩ := trodAll_cons r0
  obtain ⟨v2, vs2, d2, ds2, p2, q2, rfl, rfl, rfl, h2, r2⟩ := trodAll_cons r1
  obtain ⟨rfl, rfl, rfl⟩ := trodAll_nil r2
  obtain rfl : args = #[v0, v1, v2] := by cases args; simp_all
  obtain ⟨rfl, rfl⟩ := trodVars_none hV
  obtain ⟨A0, n0, c0, ns0, B0, m0, k0, ms0, x0, y0, rfl, hl0, nl0, w0, hm0, ml0, wm0, wx0, wy0⟩ := open_plan 4 (e0 := 33) (e1 := 35) (K0 := 6) (K1 := 5) Tryz.underlying25 (by kernel_rfl) (by kernel_rfl) (by kernel_rfl) (by kernel_rfl) (by kernel_rfl) (by kernel_rfl) (by kernel_rfl) (by kernel_rfl) (by omega) (by kernel_rfl) (by omega) (hval 0 25 v0 rfl rfl) h0
  obtain ⟨a1, rfl, rfl, rfl, w1⟩ := open_int Tryz.underlying3 (hval 1 3 v1 rfl rfl) h1
  obtain ⟨a2, rfl, rfl, rfl, w2⟩ := open_int Tryz.underlying3 (hval 2 3 v2 rfl rfl) h2
  clear hA0 hval0
  refine (planSkips_walk A0 n0 c0 ns0 B0 m0 k0 ms0 x0 y0 a1 a2 nl0 w0 ml0 wm0 wx0 wy0 w1 w2 W hl0 hm0).mono fun e W' ⟨he, bel⟩ => ?_
  subst he
  exact ⟨_, rfl, law_post planSkips_laidOut (by kernel_rfl) rfl Tryz.underlying4 rfl rfl hW' bel⟩

theorem planSkips_proved : Rows.PlanSkipsSaid :=
  OpenClaim.holds_of_wide 7 Tryz.f7 rfl rfl rfl rfl rfl rfl rfl ⟨rfl, rfl, rfl, rfl, rfl⟩ rfl rfl rfl rfl rfl (by kernel_rfl) Tryz.func7 (by kernel_rfl)
    (of_decide_eq_true (by kernel_rfl)) (by unfold Func.isWrapper; first | (rw [if_pos (by decide +kernel)]; kernel_rfl) | (rw [if_neg (by decide +kernel)]; exact ⟨rfl, rfl⟩))
    (fun os started H enc _ => planSkips_lifted os started H enc)
#print axioms planSkips_proved
end Go.Proofs.YtolaabllhibkdaaGreat
