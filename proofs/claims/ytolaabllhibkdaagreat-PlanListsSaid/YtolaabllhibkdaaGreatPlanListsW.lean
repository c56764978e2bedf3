/- What is listed makes the same contacts and ranges again, at the same time: PlanLists returns true. No condition. -/
import Derived.Test.YtolaabllhibkdaaGreatW9
import Derived.Test.YtolaabllhibkdaaGreatRows
namespace Go.Proofs.YtolaabllhibkdaaGreat
open Go.ChangeShapes Go.WideShapes Go.ChangeAt Go.RowKit Go.Sort
set_option linter.unusedSimpArgs false
set_option linter.unusedVariables false
theorem sl_zero {w w' : World} {B B' k c : Nat} {A : Option Addr} (h : Sl w B k A 0 c []) : Sl w' B' k A 0 c [] := ⟨⟨by simp, fun h => by omega⟩, h.cap, h.max, h.nil⟩
theorem plat_zero {w : World} {A1 A : Option Addr} {c1 c : Nat} {a : Pl} (h : PlAt w A1 0 c1 A 0 c a) (h1 : a.cs = []) (h2 : a.rs = []) (w' : World) : PlAt w' A1 0 c1 A 0 c a := by
  obtain ⟨cs, rs, clk, ver⟩ := a
  subst h1 h2
  exact ⟨rfl, rfl, h.b1, h.b, sl_zero h.s1, sl_zero h.s⟩
theorem new_nil (w : World) : PlAt w none 0 0 none 0 0 newP := ⟨rfl, rfl, by omega, by omega, Sl.nil0 _ _ _, Sl.nil0 _ _ _⟩
set_option maxHeartbeats 16000000 in
set_option maxRecDepth 100000 in
theorem planLists_w (A1 : Option Addr) (n1 c1 : Nat) (A : Option Addr) (n c : Nat) (p : Pl)  (hd1 : p.cs.length = n1) (hd : p.rs.length = n) (w : World) (h1 : Sl w w.heap.size 6 A1 n1 c1 (flatCo p.cs)) (h : Sl w w.heap.size 5 A n c (flatRg p.rs)) :
    Calls Tryz.prog 5 #[.agg #[.slice A1 n1 c1, .slice A n c, .int .i64 p.clk, .int .i64 p.ver]] w fun e w' => e = .returned (.bool true) ∧ Below w.heap.size w w' := by
  have hB : Below w.heap.size w (w.alloc (.cells #[.slice A1 n1 c1, .slice A n c, .int .i64 p.clk, .int .i64 p.ver] 25)) := by (repeat (first | exact Below.refl _ _ | refine Below.alloc ?_ (by first | omega | (simp; done) | (simp; omega)) _ | refine Below.setCell ?_ (by first | omega | (simp; done) | (simp; omega)) _ | refine Below.drew ?_))
  have hP := Blok.new w 25 #[.slice A1 n1 c1, .slice A n c, .int .i64 p.clk, .int .i64 p.ver]
  replace h1 := h1.up hB
  replace h := h.up hB
  have hs := hB.size
  have HD1 := Lib.hid hd1
  have HD := Lib.hid hd
  clear hd hd1
  go_enter Tryz.func5, Tryz.ntmps5
  go_wp2_with fail
  generalize w.alloc (.cells #[.slice A1 n1 c1, .slice A n c, .int .i64 p.clk, .int .i64 p.ver] 25) = w0 at *
  refine (small08_any w0).mono ?_
  rintro e w1 ⟨rfl, hb⟩
  replace h1 := h1.up hb
  replace h := h.up hb
  replace hP := hP.below hb hP.lt
  replace hB := hB.trans (hb.mono hs)
  replace hs := hB.size
  clear hb
  have p0 : w1.cell? ⟨w.heap.size, 0, none⟩ = some (.slice A1 n1 c1) := hP.cell 0
  have p1 : w1.cell? ⟨w.heap.size, 1, none⟩ = some (.slice A n c) := hP.cell 1
  have p2 : w1.cell? ⟨w.heap.size, 2, none⟩ = some (.int .i64 p.clk) := hP.cell 2
  have p3 : w1.cell? ⟨w.heap.size, 3, none⟩ = some (.int .i64 p.ver) := hP.cell 3
  have lt_p := hP.lt
  go_wp2_with fail
  clear p0 p1 p2 p3 lt_p
  refine (few_any A1 n1 c1 A n c p.clk p.ver w1 _ rfl).mono ?_
  rintro e w2 ⟨rfl, hb⟩
  replace h1 := h1.up hb
  replace h := h.up hb
  replace hP := hP.below hb hP.lt
  replace hB := hB.trans (hb.mono hs)
  replace hs := hB.size
  clear hb
  by_cases hf : ¬ (n1 ≤ 50 ∧ n ≤ 50)
  · rw [decide_eq_false hf]
    go_wp2_with fail
    go_ret
    exact ⟨rfl, hB⟩
  replace hf := Decidable.not_not.1 hf
  rw [decide_eq_true hf]
  obtain ⟨hf1, hf2⟩ := hf
  have p0 : w2.cell? ⟨w.heap.size, 0, none⟩ = some (.slice A1 n1 c1) := hP.cell 0
  have p1 : w2.cell? ⟨w.heap.size, 1, none⟩ = some (.slice A n c) := hP.cell 1
  have p2 : w2.cell? ⟨w.heap.size, 2, none⟩ = some (.int .i64 p.clk) := hP.cell 2
  have p3 : w2.cell? ⟨w.heap.size, 3, none⟩ = some (.int .i64 p.ver) := hP.cell 3
  have lt_p := hP.lt
  go_wp2_with fail
  clear p0 p1 p2 p3 lt_p
  obtain ⟨rb, hrb⟩ : ∃ rb, rightP p.cs p.rs p.clk p.ver = rb := ⟨_, rfl⟩
  refine (pright_any A1 n1 c1 p.cs A n c p.rs p.clk p.ver w2 HD1.out (by omega) HD.out (by omega) h1 h rb hrb).mono ?_
  rintro e w3 ⟨rfl, hb⟩
  replace h1 := h1.up hb
  replace h := h.up hb
  replace hP := hP.below hb hP.lt
  replace hB := hB.trans (hb.mono hs)
  replace hs := hB.size
  clear hb
  cases rb
  · clear hrb
    go_wp2_with fail
    go_ret
    exact ⟨rfl, hB⟩
  have HRP := Lib.hid (rightP_spec.1 hrb)
  clear hrb
  have hp : PlAt w3 A1 n1 c1 A n c p := ⟨HD1.out, HD.out, by omega, by omega, h1, h⟩
  clear h1 h
  have p0 : w3.cell? ⟨w.heap.size, 0, none⟩ = some (.slice A1 n1 c1) := hP.cell 0
  have p1 : w3.cell? ⟨w.heap.size, 1, none⟩ = some (.slice A n c) := hP.cell 1
  have p2 : w3.cell? ⟨w.heap.size, 2, none⟩ = some (.int .i64 p.clk) := hP.cell 2
  have p3 : w3.cell? ⟨w.heap.size, 3, none⟩ = some (.int .i64 p.ver) := hP.cell 3
  have lt_p := hP.lt
  go_wp2_with fail
  clear p0 p1 p2 p3 lt_p
  refine (plist_any A1 n1 c1 A n c p w3 hp).mono ?_
  rintro e w4 ⟨v, rfl, hv, hb⟩
  rw [Nat.add_comm n n1] at hv
  replace hp := hp.up hb
  replace hP := hP.below hb hP.lt
  replace hB := hB.trans (hb.mono hs)
  replace hs := hB.size
  clear hb
  obtain ⟨Al, cl, rfl⟩ := slice_of_own hv
  have hl := Sl.of_own hv
  clear hv
  go_upto_region 6 with fail
  obtain ⟨a, ha⟩ : ∃ a, advP newP p.clk = a := ⟨_, rfl⟩
  have HN := Lib.hid (new_at HRP.out ha)
  have HA := Lib.hid ha
  clear ha
  go_cut [6, 7, 8] (fun pv gv sv wx => ∃ b A2 c2 A3 c3 A4 c4, pv = .pointer (some ⟨b, 0, none⟩) ∧ gv = .slice A4 0 c4 ∧ sv = .int .i64 0 ∧ w4.heap.size ≤ b ∧ Below w4.heap.size w4 wx ∧ Blok wx b 25 #[.slice A2 0 c2, .slice A3 0 c3, .int .i64 a.clk, .int .i64 a.ver] ∧ PlAt wx A2 0 c2 A3 0 c3 a)
  case first =>
    have r2 : w4.cell? ⟨w.heap.size, 2, none⟩ = some (.int .i64 p.clk) := hP.cell 2
    have lt_p := hP.lt
    have HFOOT := Lib.hid (fun (w' : World) (hb : Below w4.heap.size w4 w') => (show w'.cell? ⟨w.heap.size, 2, none⟩ = some (.int .i64 p.clk) from (hP.below hb hP.lt).cell 2))
    have hC : Below w4.heap.size w4 w4 := Below.refl _ _
    clear hP hp hl hB hs
    try simp only [List.append]
    go_region_held3 (fun w' => w'.cell? ⟨w.heap.size, 2, none⟩ = some (.int .i64 p.clk))
      (first | exact HFOOT.out _ hC | exact HFOOT.out _ (by (repeat (first | exact Below.refl _ _ | exact hC | refine Below.alloc ?_ (by first | omega | (simp; done) | (simp; omega)) _ | refine Below.setCell ?_ (by first | omega | (simp; done) | (simp; omega)) _ | refine Below.drew ?_ | refine Below.trans ?_ (hC.mono (by first | omega | (simp; done) | (simp; omega)))))) | go_keep)
      (first
        | (go_at_call 28; (with_reducible refine Calls.mono (pnew_any _) ?_); rintro e x1 ⟨rfl, hbx⟩; replace hC : Below w4.heap.size w4 x1 := Below.trans (by (repeat (first | exact Below.refl _ _ | exact hC | refine Below.alloc ?_ (by first | omega | (simp; done) | (simp; omega)) _ | refine Below.setCell ?_ (by first | omega | (simp; done) | (simp; omega)) _ | refine Below.drew ?_ | refine Below.trans ?_ (hC.mono (by first | omega | (simp; done) | (simp; omega)))))) (hbx.mono (by first | exact Nat.le_refl _ | (simp; done) | (simp; omega))); have hs1 := hC.size; (try (have hz1 : Blok x1 w4.heap.size 25 #[.slice none 0 0, .slice none 0 0, .int .i64 0, .int .i64 0] := (by with_reducible exact Blok.below (Blok.new w4.drew 25 #[.slice none 0 0, .slice none 0 0, .int .i64 0, .int .i64 0]) hbx (by simp)))); clear hbx)
        | (go_at_call 25; (with_reducible refine Calls.mono (padv_to none 0 0 none 0 0 newP p.clk _ (new_nil _) (by decide) (by decide) 0 0 rfl rfl a 0 [] HA.out HN.out.q0 HN.out.g) ?_); rintro e x2 ⟨A2, n2, c2, A3, n3, c3, A4, n4, c4, rfl, ho, hl4, hs4, hbx⟩; obtain rfl : n2 = 0 := (by have h := ho.l1; rw [HN.out.cs] at h; exact h.symm); obtain rfl : n3 = 0 := (by have h := ho.l; rw [HN.out.rs] at h; exact h.symm); obtain rfl : n4 = 0 := hl4.symm; replace hC : Below w4.heap.size w4 x2 := Below.trans (by (repeat (first | exact Below.refl _ _ | exact hC | refine Below.alloc ?_ (by first | omega | (simp; done) | (simp; omega)) _ | refine Below.setCell ?_ (by first | omega | (simp; done) | (simp; omega)) _ | refine Below.drew ?_ | refine Below.trans ?_ (hC.mono (by first | omega | (simp; done) | (simp; omega)))))) (hbx.mono (by first | exact Nat.le_refl _ | (simp; done) | exact hs1 | (simp; omega))); have hsC := hC.size; have hpl := plat_zero ho.at_ HN.out.cs HN.out.rs; (try (have hzz : Blok x2 w4.heap.size 25 #[.slice none 0 0, .slice none 0 0, .int .i64 0, .int .i64 0] := (by with_reducible exact Blok.below hz1 hbx hz1.lt); have z0 := hzz.cell 0; have y0 := hzz.free 0; have z1 := hzz.cell 1; have y1 := hzz.free 1; have z2 := hzz.cell 2; have y2 := hzz.free 2; have z3 := hzz.cell 3; have y3 := hzz.free 3; have ltz := hzz.lt)); (try (have hzz : Blok x2 x1.heap.size 25 #[.slice none 0 0, .slice none 0 0, .int .i64 0, .int .i64 0] := (by with_reducible exact Blok.below (Blok.new x1 25 #[.slice none 0 0, .slice none 0 0, .int .i64 0, .int .i64 0]) hbx (by simp)); have z0 := hzz.cell 0; have y0 := hzz.free 0; have z1 := hzz.cell 1; have y1 := hzz.free 1; have z2 := hzz.cell 2; have y2 := hzz.free 2; have z3 := hzz.cell 3; have y3 := hzz.free 3; have ltz := hzz.lt)); clear hbx ho hs4 hl4))
    all_goals
      go_wp2
      go_meet
      first
        | exact ⟨_, A2, c2, A3, c3, A4, c4, rfl, rfl, rfl, hsC, hC.alloc hsC _, Blok.new _ _ _, hpl _⟩
        | exact ⟨_, A2, c2, A3, c3, A4, c4, rfl, rfl, rfl, Nat.le_refl _, by (repeat (first | exact Below.refl _ _ | exact hC | refine Below.alloc ?_ (by first | omega | (simp; done) | (simp; omega)) _ | refine Below.setCell ?_ (by first | omega | (simp; done) | (simp; omega)) _ | refine Below.drew ?_ | refine Below.trans ?_ (hC.mono (by first | omega | (simp; done) | (simp; omega))))), by have h := (((hzz.set_ 0 (.slice A2 0 c2)).set_ 1 (.slice A3 0 c3)).set_ 2 (.int .i64 a.clk)).set_ 3 (.int .i64 a.ver); simpa using h, hpl _⟩
        | exact ⟨_, A2, c2, A3, c3, A4, c4, rfl, rfl, rfl, hs1, by (repeat (first | exact Below.refl _ _ | exact hC | refine Below.alloc ?_ (by first | omega | (simp; done) | (simp; omega)) _ | refine Below.setCell ?_ (by first | omega | (simp; done) | (simp; omega)) _ | refine Below.drew ?_ | refine Below.trans ?_ (hC.mono (by first | omega | (simp; done) | (simp; omega))))), by have h := (((hzz.set_ 0 (.slice A2 0 c2)).set_ 1 (.slice A3 0 c3)).set_ 2 (.int .i64 a.clk)).set_ 3 (.int .i64 a.ver); simpa using h, hpl _⟩
  case rest =>
    revert wc
    intro w5 hcut
    obtain ⟨Ba, A2, c2, A3, c3, A4, c4, rfl, rfl, rfl, _, hb, ba, hq⟩ := hcut
    replace hp := hp.up hb
    replace hl := hl.up hb
    replace hP := hP.below hb hP.lt
    replace hB := hB.trans (hb.mono hs)
    replace hs := hB.size
    clear hb
    have p0 : w5.cell? ⟨Ba, 0, none⟩ = some (.slice A2 0 c2) := ba.cell 0
    have p1 : w5.cell? ⟨Ba, 1, none⟩ = some (.slice A3 0 c3) := ba.cell 1
    have p2 : w5.cell? ⟨Ba, 2, none⟩ = some (.int .i64 a.clk) := ba.cell 2
    have p3 : w5.cell? ⟨Ba, 3, none⟩ = some (.int .i64 a.ver) := ba.cell 3
    have lt_p := ba.lt
    go_wp2_with fail
    clear p0 p1 p2 p3 lt_p ba
    obtain ⟨r, hrd⟩ : ∃ r, allP a (listP p) = r := ⟨_, rfl⟩
    obtain ⟨ga, gc, gr, gk⟩ := list_all HRP.out HN.out.cs HN.out.rs HN.out.clk
    rw [hrd] at gc gr gk
    rw [listP_len, HD1.out, HD.out, Nat.add_comm n n1] at ga
    have HR := Lib.hid (And.intro gc (And.intro gr gk))
    have HGA := Lib.hid ga
    have HRD := Lib.hid hrd
    have HLP := Lib.hid (show (listP p).length = n1 + n by rw [listP_len, HD1.out, HD.out, Nat.add_comm])
    clear gc gr gk ga hrd
    refine (pall_any A2 0 c2 A3 0 c3 a Al (n1 + n) cl (listP p) w5 HLP.out (by omega) (fun j hj => listP_wf (by rw [HLP.out]; exact hj)) hq hl HN.out.right).mono ?_
    rintro e w6 hret
    obtain ⟨A5, c5, A6, c6, rfl, hz, hb⟩ := allRet_is r 0 (n1 + n) ((n1 + n : Nat) : Int) p.clk r.ver n1 n hret HGA.out rfl HRD.out (by rw [HR.out.1]; exact HD1.out) (by rw [HR.out.2.1]; exact HD.out) HR.out.2.2 rfl
    clear hret hq hl
    replace hp := hp.up hb
    replace hP := hP.below hb hP.lt
    replace hB := hB.trans (hb.mono hs)
    replace hs := hB.size
    clear hb
    go_upto_region 8 with fail
    have br := Blok.new w6 25 #[.slice A5 n1 c5, .slice A6 n c6, .int .i64 p.clk, .int .i64 r.ver]
    have hb : Below w6.heap.size w6 (w6.alloc (.cells #[.slice A5 n1 c5, .slice A6 n c6, .int .i64 p.clk, .int .i64 r.ver] 25)) := by (repeat (first | exact Below.refl _ _ | refine Below.alloc ?_ (by first | omega | (simp; done) | (simp; omega)) _ | refine Below.setCell ?_ (by first | omega | (simp; done) | (simp; omega)) _ | refine Below.drew ?_))
    replace hp := hp.up hb
    replace hz := hz.up hb
    replace hP := hP.below hb hP.lt
    replace hB := hB.trans (hb.mono hs)
    replace hs := hB.size
    clear hb
    generalize w6.alloc (.cells #[.slice A5 n1 c5, .slice A6 n c6, .int .i64 p.clk, .int .i64 r.ver] 25) = w7 at *
    generalize hzz : w6.heap.size = Br at *
    clear hzz
    have b0 : w7.cell? ⟨Br, 0, none⟩ = some (.slice A5 n1 c5) := br.cell 0
    have b1 : w7.cell? ⟨Br, 1, none⟩ = some (.slice A6 n c6) := br.cell 1
    have b2 : w7.cell? ⟨Br, 2, none⟩ = some (.int .i64 p.clk) := br.cell 2
    have lt_b := br.lt
    have p0 : w7.cell? ⟨w.heap.size, 0, none⟩ = some (.slice A1 n1 c1) := hP.cell 0
    have p1 : w7.cell? ⟨w.heap.size, 1, none⟩ = some (.slice A n c) := hP.cell 1
    have p2 : w7.cell? ⟨w.heap.size, 2, none⟩ = some (.int .i64 p.clk) := hP.cell 2
    have p3 : w7.cell? ⟨w.heap.size, 3, none⟩ = some (.int .i64 p.ver) := hP.cell 3
    have lt_p := hP.lt
    have HZ := Lib.hid (fun d os => hz.up (below_regrown w7 d os))
    have HPP := Lib.hid (fun d os => hp.up (below_regrown w7 d os))
    clear hz hp br hP HGA HRD HLP HN HA
    have q_b0 := fun d os => cell_regrown b0 d os
    have q_b1 := fun d os => cell_regrown b1 d os
    have q_b2 := fun d os => cell_regrown b2 d os
    have q_p0 := fun d os => cell_regrown p0 d os
    have q_p1 := fun d os => cell_regrown p1 d os
    have q_p2 := fun d os => cell_regrown p2 d os
    try simp only [List.append]
    first | refine wp_region_text_below ?_ | refine wp_region_quiet_below (by kernel_rfl) (by kernel_rfl) ?_
    repeat (go_big_quiet_step (((first | (go_at_call 29; with_reducible exact Calls.regrown_of (csame_yes A5 A1 n1 c5 n1 c1 r.cs p.cs _ (HZ.out 0 #[]).l1 (HPP.out 0 #[]).l1 (by have := (HZ.out 0 #[]).b1; omega) (by have := (HPP.out 0 #[]).b1; omega) (HZ.out _ _).s1 (HPP.out _ _).s1 HR.out.1)) | (go_at_call 30; with_reducible exact Calls.regrown_of (rsame_yes A6 A n c6 n c r.rs p.rs _ (HZ.out 0 #[]).l (HPP.out 0 #[]).l (by have := (HZ.out 0 #[]).b; omega) (by have := (HPP.out 0 #[]).b; omega) (HZ.out _ _).s (HPP.out _ _).s HR.out.2.1))))))
    refine wpQuiet_nil ?_
    intro _ hqw
    obtain ⟨pq, hqw⟩ := hqw
    subst hqw
    have hfin := hB.trans ((below_regrown w7 pq.d pq.os).mono hs)
    clear q_b0 q_b1 q_b2 q_p0 q_p1 q_p2 b0 b1 b2 p0 p1 p2 p3
    generalize grow (redrawn w7 pq.d) pq.os = wq at *
    go_wp2
    go_ret
    exact ⟨rfl, hfin⟩
theorem planLists_walk (A1 : Option Addr) (n1 c1 : Nat) (ns1 : List Int) (A : Option Addr) (n c : Nat) (ns : List Int) (clk ver : Int)  (hnl1 : ns1.length = n1 * 6) (_ : ∀ m ∈ ns1, (Lit.int .i64 m).wf = true) (hnl : ns.length = n * 5) (_ : ∀ m ∈ ns, (Lit.int .i64 m).wf = true) (_ : (Lit.int .i64 clk).wf = true) (_ : (Lit.int .i64 ver).wf = true)  (w : World)
    (h1 : Sl w w.heap.size 6 A1 n1 c1 (ns1.map (Value.int .i64))) (h : Sl w w.heap.size 5 A n c (ns.map (Value.int .i64))) :
    Calls Tryz.prog 5 #[.agg #[.slice A1 n1 c1, .slice A n c, .int .i64 clk, .int .i64 ver]] w fun e w' => e = .returned (.bool true) ∧ Below w.heap.size w w' := by
  obtain ⟨cs, hd1, hf1⟩ := rowsCo_of n1 ns1 hnl1
  obtain ⟨rs, hd, hf⟩ := rowsRg_of n ns hnl
  rw [hf1] at h1
  rw [hf] at h
  exact planLists_w A1 n1 c1 A n c ⟨cs, rs, clk, ver⟩  hd1 hd w h1 h
theorem planLists_own : ownKnob Tryz.prog.godebug = none := by kernel_rfl
theorem planLists_laidOut : laidOutB Tryz.prog = true := by kernel_rfl

set_option maxHeartbeats 1000000 in
set_option maxRecDepth 100000 in
theorem planLists_lifted (os : Os) (started : os.Started) (H : Type) (enc : TypeId × Value → H) :
    ReturnsInHanded {} Tryz.checked os 5 .any (Rows.planListsSpec.pre6 enc Tryz.prog Tryz.f5 Rows.planListsRow.domain false) (Rows.planListsSpec.post enc Tryz.prog Tryz.f5 false true false false) := by
  refine returnsInHanded_of_change (C := Tryz.checked) planLists_own started (by kernel_rfl) Tryz.func5
    (ChangeSpec.witness6 (enc := enc) (C := Tryz.checked) false ⟨#[], #[.agg #[.slice none 0 0, .slice none 0 0, .int .i64 0, .int .i64 0]], []⟩ 8 (by kernel_rfl) (by kernel_rfl) (by kernel_rfl) (by kernel_rfl)) ?_
  intro W base args ds gs before hval0 hW hcnd _
  have hval : ∀ (j : Nat) t v, Tryz.f5.params[j]? = some t → args[j]? = some v → Value.okWide Tryz.prog W .any base t v := hval0
  have hW' := hW
  obtain ⟨p, q, hA0, hV, rfl, hfz, hnd⟩ := hW
  have hA : DataW.TrodAll enc Tryz.prog W 0 (fun _ => true) true Tryz.f5.params.toList args.toList ds p := hA0
  rw [Tryz.params5] at hA hval
  obtain ⟨v0, vs0, d0, ds0, p0, q0, hargs, rfl, rfl, h0, r0⟩ := trodAll_cons hA
  obtain ⟨rfl, rfl, rfl⟩ := trodAll_nil r0
  obtain rfl : args = #[v0] := by cases args; simp_all
  obtain ⟨rfl, rfl⟩ := trodVars_none hV
  obtain ⟨A0, n0, c0, ns0, B0, m0, k0, ms0, x0, y0, rfl, hl0, nl0, w0, hm0, ml0, wm0, wx0, wy0⟩ := open_plan 4 (e0 := 33) (e1 := 35) (K0 := 6) (K1 := 5) Tryz.underlying25 (by kernel_rfl) (by kernel_rfl) (by kernel_rfl) (by kernel_rfl) (by kernel_rfl) (by kernel_rfl) (by kernel_rfl) (by kernel_rfl) (by omega) (by kernel_rfl) (by omega) (hval 0 25 v0 rfl rfl) h0
  clear hA0 hval0
  refine (planLists_walk A0 n0 c0 ns0 B0 m0 k0 ms0 x0 y0 nl0 w0 ml0 wm0 wx0 wy0 W hl0 hm0).mono fun e W' ⟨he, bel⟩ => ?_
  subst he
  exact ⟨_, rfl, law_post planLists_laidOut (by kernel_rfl) rfl Tryz.underlying4 rfl rfl hW' bel⟩

theorem planLists_proved : Rows.PlanListsSaid :=
  OpenClaim.holds_of_wide 5 Tryz.f5 rfl rfl rfl rfl rfl rfl rfl ⟨rfl, rfl, rfl, rfl, rfl⟩ rfl rfl rfl rfl rfl (by kernel_rfl) Tryz.func5 (by kernel_rfl)
    (of_decide_eq_true (by kernel_rfl)) (by unfold Func.isWrapper; first | (rw [if_pos (by decide +kernel)]; kernel_rfl) | (rw [if_neg (by decide +kernel)]; exact ⟨rfl, rfl⟩))
    (fun os started H enc _ => planLists_lifted os started H enc)
#print axioms planLists_proved
end Go.Proofs.YtolaabllhibkdaaGreat
