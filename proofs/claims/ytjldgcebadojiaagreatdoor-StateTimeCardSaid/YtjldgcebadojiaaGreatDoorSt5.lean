/- state.Edit. It makes new memory alone. A right state. -/
import Derived.Test.YtjldgcebadojiaaGreatDoorGQ17
import Derived.Deep.CutBlock
import Derived.Deep.DeepCutAuto
import Derived.BigQuiet
import Derived.Deep.QuietTactic
namespace Go.Proofs.YtjldgcebadojiaaGreatDoor
open Go.ChangeShapes Go.WideShapes Go.ChangeAt Go.RowKit Go.Sort
set_option linter.unusedSimpArgs false
set_option linter.unusedVariables false
/-- Does a changed contact hold less than is booked? -/
def overC21 (s : St) (a : Pl) (d : Dr) : Bool := overB (Kb.rowB s.b (Kc.foundC a.cs d.id).id) (Kc.foundC a.cs d.id)
def editQ (s : St) (d : Dr) : Int := if stepQ s.p d ≠ 0 then stepQ s.p d else if (d.kd = 1 ∧ d.op = 3) ∧ overC21 s (stepP s.p d) d = true then 8 else 0
def editS (s : St) (d : Dr) : St := if editQ s d ≠ 0 then s else ⟨stepP s.p d, if d.kd = 1 ∧ d.op = 2 then Kb.dropL s.b [d.id] else s.b⟩
/-- The state as it is made: a box of the new plan and a copy of what is booked. -/
def EditN (w2 : World) (A2 : Option Addr) (n2 c2 : Nat) (A3 : Option Addr) (n3 c3 : Nat) (a : Pl) (nb : Nat) (l : List Bk) (v : Value) (wx : World) : Prop :=
  ∃ (b : Nat) (A5 : Option Addr) (c5 : Nat), v = .pointer (some ⟨b, 0, none⟩) ∧ Blok wx b 28 #[.slice A2 n2 c2, .slice A3 n3 c3, .int .i64 a.clk, .int .i64 a.ver, .slice A5 nb c5] ∧ wx.ownsRow w2.heap.size 50 4 (.slice A5 nb c5) nb (flatBk l) ∧ w2.heap.size ≤ b ∧ (∀ g, (Value.slice A5 nb c5).ownBlock = some g → g ≠ b) ∧ Below w2.heap.size w2 wx
set_option maxHeartbeats 16000000 in
set_option maxRecDepth 100000 in
theorem sedit_any (A1 : Option Addr) (n1 c1 : Nat) (A : Option Addr) (n c : Nat) (clk ver : Int) (Ab : Option Addr) (nb cb : Nat) (s : St) (d : Dr) (w : World) (h : StAt w A1 n1 c1 A n c clk ver Ab nb cb s) (hr : rightS s = true) (hw0 : (Lit.int .i64 d.op).wf = true) (hw1 : (Lit.int .i64 d.kd).wf = true) (hw2 : (Lit.int .i64 d.id).wf = true) (s' : St) (q : Int) (hs' : editS s d = s') (hq : editQ s d = q) :
    Calls Tryz.prog 27 #[.agg #[.slice A1 n1 c1, .slice A n c, .int .i64 clk, .int .i64 ver, .slice Ab nb cb], .agg #[.int .i64 d.op, .int .i64 d.kd, .int .i64 d.id, .int .i64 d.fr, .int .i64 d.tn, .int .i64 d.st, .int .i64 d.en, .int .i64 d.rt, .int .i64 d.rf, .int .i64 d.rn, .int .i64 d.rs, .int .i64 d.re, .int .i64 d.ro]] w (SRet s' q w) := by
  have hB : Below w.heap.size w (((w.alloc (.cells #[.slice A1 n1 c1, .slice A n c, .int .i64 clk, .int .i64 ver, .slice Ab nb cb] 28)).alloc (.cells #[.int .i64 d.op, .int .i64 d.kd, .int .i64 d.id, .int .i64 d.fr, .int .i64 d.tn, .int .i64 d.st, .int .i64 d.en, .int .i64 d.rt, .int .i64 d.rf, .int .i64 d.rn, .int .i64 d.rs, .int .i64 d.re, .int .i64 d.ro] 38)).alloc (.cells #[.slice none 0 0, .slice none 0 0, .int .i64 0, .int .i64 0, .slice none 0 0] 28)) := by (repeat (first | exact Below.refl _ _ | refine Below.alloc ?_ (by first | omega | (simp; done) | (simp; omega)) _ | refine Below.setCell ?_ (by first | omega | (simp; done) | (simp; omega)) _ | refine Below.drew ?_))
  have hP := ((Blok.new w 28 #[.slice A1 n1 c1, .slice A n c, .int .i64 clk, .int .i64 ver, .slice Ab nb cb]).alloc (.cells #[.int .i64 d.op, .int .i64 d.kd, .int .i64 d.id, .int .i64 d.fr, .int .i64 d.tn, .int .i64 d.st, .int .i64 d.en, .int .i64 d.rt, .int .i64 d.rf, .int .i64 d.rn, .int .i64 d.rs, .int .i64 d.re, .int .i64 d.ro] 38)).alloc (.cells #[.slice none 0 0, .slice none 0 0, .int .i64 0, .int .i64 0, .slice none 0 0] 28)
  have hD := (Blok.new (w.alloc (.cells #[.slice A1 n1 c1, .slice A n c, .int .i64 clk, .int .i64 ver, .slice Ab nb cb] 28)) 38 #[.int .i64 d.op, .int .i64 d.kd, .int .i64 d.id, .int .i64 d.fr, .int .i64 d.tn, .int .i64 d.st, .int .i64 d.en, .int .i64 d.rt, .int .i64 d.rf, .int .i64 d.rn, .int .i64 d.rs, .int .i64 d.re, .int .i64 d.ro]).alloc (.cells #[.slice none 0 0, .slice none 0 0, .int .i64 0, .int .i64 0, .slice none 0 0] 28)
  have hX := Blok.new ((w.alloc (.cells #[.slice A1 n1 c1, .slice A n c, .int .i64 clk, .int .i64 ver, .slice Ab nb cb] 28)).alloc (.cells #[.int .i64 d.op, .int .i64 d.kd, .int .i64 d.id, .int .i64 d.fr, .int .i64 d.tn, .int .i64 d.st, .int .i64 d.en, .int .i64 d.rt, .int .i64 d.rf, .int .i64 d.rn, .int .i64 d.rs, .int .i64 d.re, .int .i64 d.ro] 38)) 28 #[.slice none 0 0, .slice none 0 0, .int .i64 0, .int .i64 0, .slice none 0 0]
  simp only [World.size_alloc] at hX hD
  have hs := hB.size
  replace h := h.up hB
  obtain ⟨hr1, hr2, hr3⟩ := rightS_spec.1 hr
  obtain ⟨a, ha⟩ : ∃ a, stepP s.p d = a := ⟨_, rfl⟩
  obtain ⟨q1, hq1⟩ : ∃ q1, stepQ s.p d = q1 := ⟨_, rfl⟩
  have HA := Lib.hid ha
  have HQ1 := Lib.hid hq1
  have HSE := Lib.hid hs'
  have HQE := Lib.hid hq
  have HR1 := Lib.hid hr1
  have HR2 := Lib.hid hr2
  have HAR : Hid (a.right = true) := by rw [← ha]; exact stepP_right hr1
  have HW2 := Lib.hid hw2
  clear hr hr1 hr2 hr3 ha hq1 hq hs' hw2
  go_enter Tryz.func27, Tryz.ntmps27
  go_upto_region 1 with fail
  generalize ((w.alloc (.cells #[.slice A1 n1 c1, .slice A n c, .int .i64 clk, .int .i64 ver, .slice Ab nb cb] 28)).alloc (.cells #[.int .i64 d.op, .int .i64 d.kd, .int .i64 d.id, .int .i64 d.fr, .int .i64 d.tn, .int .i64 d.st, .int .i64 d.en, .int .i64 d.rt, .int .i64 d.rf, .int .i64 d.rn, .int .i64 d.rs, .int .i64 d.re, .int .i64 d.ro] 38)).alloc (.cells #[.slice none 0 0, .slice none 0 0, .int .i64 0, .int .i64 0, .slice none 0 0] 28) = w0 at *
  obtain ⟨bR, hbR⟩ : ∃ z, w.heap.size + 1 + 1 = z := ⟨_, rfl⟩
  obtain ⟨bD, hbD⟩ : ∃ z, w.heap.size + 1 = z := ⟨_, rfl⟩
  obtain ⟨bS, hbS⟩ : ∃ z, w.heap.size = z := ⟨_, rfl⟩
  rw [hbR] at hX
  rw [hbD] at hD
  rw [hbS] at hP
  try rw [hbR]
  try rw [hbD]
  try rw [hbS]
  have hbo : w.heap.size ≤ bR ∧ bS < bR ∧ bD < bR := by omega
  have HPP := Lib.hid (fun (w' : World) (hb : Below w0.heap.size w0 w') => (hP.below hb hP.lt))
  have HDD := Lib.hid (fun (w' : World) (hb : Below w0.heap.size w0 w') => (hD.below hb hD.lt))
  have HXX := Lib.hid (fun (w' : World) (hb : Below w0.heap.size w0 w') => (hX.below hb hX.lt))
  have HU := Lib.hid (fun (w' : World) (hb : Below w0.heap.size w0 w') => h.up hb)
  have HB := Lib.hid hB
  have hlX := hX.lt
  have hnb : nb ≤ 100000 := h.bb
  obtain ⟨p0, p1, p2, p3, p4, lt_p⟩ := blok5 hP
  obtain ⟨y0, y1, y2, y3, y4, y5, y6, y7, y8, y9, y10, y11, y12, lt_y⟩ := blok13 hD
  clear hX hP hD h hB hbS hbD hbR
  go_wp2_with fail
  refine (papp_to' A1 n1 c1 A n c s.p d w0 hw0 hw1 (HU.out _ (Below.refl _ _)).pl HR1.out a q1 HA.out HQ1.out clk ver (HU.out _ (Below.refl _ _)).ck (HU.out _ (Below.refl _ _)).vr).mono ?_
  rintro e w1 ⟨A2, n2, c2, A3, n3, c3, rfl, ho, hb1⟩
  clear p0 p1 p2 p3 p4 lt_p
  clear y0 y1 y2 y3 y4 y5 y6 y7 y8 y9 y10 y11 y12 lt_y
  have hb2 : Below w1.heap.size w1 (w1.alloc (.cells #[.slice A2 n2 c2, .slice A3 n3 c3, .int .i64 a.clk, .int .i64 a.ver] 25)) := (Below.refl _ _).alloc (Nat.le_refl _) _
  have hY := Blok.new w1 25 #[.slice A2 n2 c2, .slice A3 n3 c3, .int .i64 a.clk, .int .i64 a.ver]
  have ho2 := ho.below hb2
  have hB2 := hb1.trans (hb2.mono hb1.size)
  have hs1 := hb1.size
  go_upto_region 2 with fail
  clear hb2 ho hb1
  generalize w1.alloc (.cells #[.slice A2 n2 c2, .slice A3 n3 c3, .int .i64 a.clk, .int .i64 a.ver] 25) = w2 at *
  generalize w1.heap.size = bP at *
  have HY := Lib.hid (fun (w' : World) (hb : Below w2.heap.size w2 w') => (hY.below hb hY.lt))
  have HO2 := Lib.hid (fun (w' : World) (hb : Below w2.heap.size w2 w') => ho2.below hb)
  have hlY := hY.lt
  have hs2 := hB2.size
  have HB2 := Lib.hid hB2
  by_cases hq0 : q1 = 0
  · subst hq0
    have h00 : ((0 : Int) != 0) = false := rfl
    go_upto_region 4 with fail
    go_cut [8] (fun s8 wx => EditN w2 A2 n2 c2 A3 n3 c3 a nb s.b s8 wx)
    case first =>
      have HCL := Lib.hid (fun (w' : World) (hb : Below w2.heap.size w2 w') => cloneBk Ab nb cb s.b w' (HU.out _ (HB2.out.trans (hb.mono HB2.out.size))).lb (by omega) (HU.out _ (HB2.out.trans (hb.mono HB2.out.size))).sb)
      obtain ⟨p0, p1, p2, p3, p4, lt_p⟩ := blok5 (HPP.out _ hB2)
      obtain ⟨m0, m1, m2, m3, lt_m⟩ := blok4 hY
      have hC : Below w2.heap.size w2 w2 := Below.refl _ _
      have HZB : Hid (Blok (w2.alloc (.cells #[.slice none 0 0, .slice none 0 0, .int .i64 0, .int .i64 0, .slice none 0 0] 28)).drew w2.heap.size 28 #[.slice none 0 0, .slice none 0 0, .int .i64 0, .int .i64 0, .slice none 0 0]) := by
        have h2 := Blok.new w2 28 #[.slice none 0 0, .slice none 0 0, .int .i64 0, .int .i64 0, .slice none 0 0]
        exact h2
      clear hY ho2 hB2
      try simp only [List.append]
      go_region_law (first
        | (refine step_call rfl 66 #[.tmp 25] _ rfl #[.slice Ab nb cb] (by simp [Act.eval, Act.put]) Tryz.func66 rfl rfl ?_
           refine Calls.mono (HCL.out _ (by (repeat (first | exact Below.refl _ _ | refine Below.alloc ?_ (by first | omega | (simp; done) | (simp; omega)) _ | refine Below.setCell ?_ (by first | omega | (simp; done) | (simp; omega)) _ | refine Below.drew ?_)))) ?_
           rintro e x1 ⟨v5, rfl, hv5, hbx⟩
           obtain ⟨A5, c5, rfl⟩ := slice_of_own hv5
           refine ⟨_, rfl, ?_⟩
           first | (have HZ1 : Hid (Blok x1 w2.heap.size 28 #[.slice none 0 0, .slice none 0 0, .int .i64 0, .int .i64 0, .slice none 0 0]) := Blok.below HZB.out hbx (by simp); obtain ⟨z0, z1, z2, z3, z4, zl⟩ := blok5 HZ1.out; obtain ⟨zf0, zf1, zf2, zf3, zf4⟩ := free5 HZ1.out; have HNE : Hid (∀ g, (Value.slice A5 nb c5).ownBlock = some g → g ≠ w2.heap.size) := fun g hg => by have h9 := (hv5.lt g hg).1; simp at h9; omega) | (have HNE : Hid (∀ g, (Value.slice A5 nb c5).ownBlock = some g → g ≠ x1.heap.size) := fun g hg => by have h9 := (hv5.lt g hg).2; omega)
           have hC' : Below w2.heap.size w2 x1 := Below.trans (by (repeat (first | exact Below.refl _ _ | refine Below.alloc ?_ (by first | omega | (simp; done) | (simp; omega)) _ | refine Below.setCell ?_ (by first | omega | (simp; done) | (simp; omega)) _ | refine Below.drew ?_))) (hbx.mono (by first | exact Nat.le_refl _ | (simp; done) | (simp; omega)))
           clear hC
           have HC := Lib.hid hC'
           have hv6 : x1.ownsRow w2.heap.size 50 4 (.slice A5 nb c5) nb (flatBk s.b) := own_down hv5 (by first | exact Nat.le_refl _ | (simp; done) | (simp; omega))
           have szx1 := hC'.size
           obtain ⟨u0, u1, u2, u3, ul⟩ := blok4 (HY.out _ hC')
           clear hC' hbx hv5))
      all_goals
        go_wp2_with fail
        go_meet
        first
          | (have h5 := ret5 (w := w2) HZ1.out HC.out (Nat.le_refl _) (.slice A2 n2 c2) (.slice A3 n3 c3) (.int .i64 a.clk) (.int .i64 a.ver) (.slice A5 nb c5)
             unfold set5 at h5
             obtain ⟨h51, h52, h53⟩ := h5
             have h54 := own_other hv6 h53 HNE.out
             have h55 := HNE.out
             clear h53
             generalize ((((x1.setCell ⟨w2.heap.size, 0, none⟩ (.slice A2 n2 c2)).setCell ⟨w2.heap.size, 1, none⟩ (.slice A3 n3 c3)).setCell ⟨w2.heap.size, 2, none⟩ (.int .i64 a.clk)).setCell ⟨w2.heap.size, 3, none⟩ (.int .i64 a.ver)).setCell ⟨w2.heap.size, 4, none⟩ (.slice A5 nb c5) = wy at *
             exact ⟨w2.heap.size, A5, c5, rfl, h51, h54, Nat.le_refl _, h55, h52⟩)
          | (have h51 := Blok.new x1 28 #[.slice A2 n2 c2, .slice A3 n3 c3, .int .i64 a.clk, .int .i64 a.ver, .slice A5 nb c5]
             have h54 := hv6.alloc (.cells #[.slice A2 n2 c2, .slice A3 n3 c3, .int .i64 a.clk, .int .i64 a.ver, .slice A5 nb c5] 28)
             have h52 := HC.out.alloc szx1 (.cells #[.slice A2 n2 c2, .slice A3 n3 c3, .int .i64 a.clk, .int .i64 a.ver, .slice A5 nb c5] 28)
             have h55 := HNE.out
             generalize x1.alloc (.cells #[.slice A2 n2 c2, .slice A3 n3 c3, .int .i64 a.clk, .int .i64 a.ver, .slice A5 nb c5] 28) = wy at *
             exact ⟨x1.heap.size, A5, c5, rfl, h51, h54, szx1, h55, h52⟩)
    case rest =>
      obtain ⟨bN, A5, c5, rfl, hN, ho5, hbN, hne, hC2⟩ := hcut
      generalize wc = w4 at *
      have hBW := HB2.out.trans (hC2.mono HB2.out.size)
      have hs4 := hC2.size
      have hlb := (HU.out _ (Below.refl _ _)).lb
      have HLB := Lib.hid hlb
      clear hY ho2 hB2 hlb
      have heq0 : stepQ s.p d = 0 := HQ1.out
      by_cases hk : d.kd = 1
      · have hkb : (d.kd != 1) = false := by rw [hk]; rfl
        by_cases ho_2 : d.op = 2
        · have hob : (d.op == 2) = true := by rw [ho_2]; rfl
          have hqe : editQ s d = 0 := by unfold editQ; rw [if_neg (by rw [heq0]; simp), if_neg (by rw [ho_2]; simp)]
          have hse : s' = ⟨a, Kb.dropL s.b [d.id]⟩ := by rw [← HSE.out]; unfold editS; rw [if_neg (by rw [hqe]; simp), if_pos ⟨hk, ho_2⟩, HA.out]
          have hqq : q = 0 := HQE.out.symm.trans hqe
          subst hqq hse
          clear hqe hk ho_2 heq0
          have hbl : Below w4.heap.size w4 (w4.alloc (.cells #[.int .i64 d.id] 3)) := (Below.refl _ _).alloc (Nat.le_refl _) _
          have hlit := own_lit w4 w4.heap.size 3 1 1 #[.int .i64 d.id] (Nat.le_refl _) rfl (by simp [maxLen])
          have hN5 := hN.below hbl hN.lt
          have HDR := Lib.hid (Kb.drop_any A5 nb c5 s.b (some ⟨w4.heap.size, 0, none⟩) 1 1 [d.id] (w4.alloc (.cells #[.int .i64 d.id] 3)) HLB.out (by omega) rfl (by omega) (Sl.of_own (ho5.alloc _)) (Sl.of_own hlit) (fun x hx => Kb.right_wf HR2.out x hx) (fun k hk => by
            obtain rfl : k = 0 := by omega
            exact HW2.out))
          obtain ⟨m0, m1, m2, m3, m4, lt_m⟩ := blok5 hN
          obtain ⟨y0, y1, y2, y3, y4, y5, y6, y7, y8, y9, y10, y11, y12, lt_y⟩ := blok13 (HDD.out _ hBW)
          clear hlit
          have hnl := hN.lt
          go_wp2_with fail
          clear m0 m1 m2 m3 m4 lt_m
          clear y0 y1 y2 y3 y4 y5 y6 y7 y8 y9 y10 y11 y12 lt_y
          have hBW5 := hBW.trans (hbl.mono hBW.size)
          have hC5 := hC2.trans (hbl.mono hC2.size)
          have hszl : (w4.alloc (.cells #[.int .i64 d.id] 3)).heap.size = w4.heap.size + 1 := by simp
          generalize w4.alloc (.cells #[.int .i64 d.id] 3) = w5 at *
          refine HDR.out.mono ?_
          rintro e w6 ⟨v, rfl, hown, hb6⟩
          obtain ⟨A7, c7, rfl⟩ := slice_of_own hown
          have hN6 := hN5.below hb6 hN5.lt
          have hBW6 := hBW5.trans (hb6.mono hBW5.size)
          have hC6 := hC5.trans (hb6.mono hC5.size)
          have hdl : (Kb.dropL s.b [d.id]).length ≤ nb := by rw [← HLB.out]; exact List.length_filter_le _ _
          obtain ⟨nL, hnL⟩ : ∃ z, (Kb.dropL s.b [d.id]).length = z := ⟨_, rfl⟩
          rw [hnL] at hown hdl ⊢
          have HNL := Lib.hid hnL
          clear hN hN5 hbl hb6 hBW5 hC5 HDR hBW hC2 ho5 hnL
          obtain ⟨m0, m1, m2, m3, m4, lt_m⟩ := blok5 hN6
          obtain ⟨mf0, mf1, mf2, mf3, mf4⟩ := free5 hN6
          have hown7 := own_far hown (grown_set (g := bN) w6 4 (.slice A7 nL c7)) (fun q hq => by injection hq with hq; omega)
          have hN := hN6.set_ 4 (.slice A7 nL c7)
          have hBW7 := hBW6.setCell (p := ⟨bN, 4, none⟩) (by show w0.heap.size ≤ bN; omega) (.slice A7 nL c7)
          have hC2 := hC6.setCell (p := ⟨bN, 4, none⟩) (by show w2.heap.size ≤ bN; omega) (.slice A7 nL c7)
          go_upto_region 14 with fail
          clear m0 m1 m2 m3 m4 lt_m mf0 mf1 mf2 mf3 mf4 hown hN6 hBW6 hC6
          generalize w6.setCell ⟨bN, 4, none⟩ (.slice A7 nL c7) = w7 at *
          replace hN : Blok w7 bN 28 #[.slice A2 n2 c2, .slice A3 n3 c3, .int .i64 a.clk, .int .i64 a.ver, .slice A7 nL c7] := by simpa using hN
          have hBW := hBW7
          have hs7 := hC2.size
          clear hBW7
          obtain ⟨m0, m1, m2, m3, m4, lt_m⟩ := blok5 hN
          obtain ⟨r0, r1, r2, r3, r4, lt_r⟩ := blok5 (HXX.out _ hBW)
          obtain ⟨f0, f1, f2, f3, f4⟩ := free5 (HXX.out _ hBW)
          have hX2 := HXX.out _ hBW
          have hB2 := HB.out.trans (hBW.mono hs)
          have HOF : Hid (StOwn w7 (bR + 1) A2 n2 c2 A3 n3 c3 a.clk a.ver A7 nL c7 ⟨a, Kb.dropL s.b [d.id]⟩) := ⟨(HO2.out _ hC2).down (by omega), rfl, rfl, HNL.out, by omega, own_down hown7 (by omega)⟩
          clear hBW hN
          go_wp2
          obtain ⟨hF, hWf, hgw⟩ := ret5 hX2 hB2 (by omega) (.slice A2 n2 c2) (.slice A3 n3 c3) (.int .i64 a.clk) (.int .i64 a.ver) (.slice A7 nL c7)
          unfold set5 at hF hWf hgw
          have HO := Lib.hid (StOwn.far HOF.out hgw (fun q hq => by injection hq with hq; omega))
          clear hgw hX2 hB2 HOF m0 m1 m2 m3 m4 lt_m r0 r1 r2 r3 r4 lt_r f0 f1 f2 f3 f4
          generalize ((((w7.setCell ⟨bR, 0, none⟩ (.slice A2 n2 c2)).setCell ⟨bR, 1, none⟩ (.slice A3 n3 c3)).setCell ⟨bR, 2, none⟩ (.int .i64 a.clk)).setCell ⟨bR, 3, none⟩ (.int .i64 a.ver)).setCell ⟨bR, 4, none⟩ (.slice A7 nL c7) = wf at *
          obtain ⟨r0, r1, r2, r3, r4, hlF⟩ := blok5 hF
          go_wp2_with fail
          refine bodyPost_ret (v := .tuple #[.agg #[.slice A2 n2 c2, .slice A3 n3 c3, .int .i64 a.clk, .int .i64 a.ver, .slice A7 nL c7], .int .i64 0]) (by simp [results, Tryz.results27, go_sem, r0, r1, r2, r3, r4, hlF]) rfl ?_
          exact ⟨_, _, _, _, _, _, _, _, _, rfl, HO.out.down (show w.heap.size ≤ bR + 1 by omega), hWf⟩
        · have hob : (d.op == 2) = false := beq_eq_false_iff_ne.2 ho_2
          by_cases ho_3 : d.op = 3
          · have hoc : (d.op == 3) = true := by rw [ho_3]; rfl
            have HK := Lib.hid hk
            have HO3 := Lib.hid ho_3
            have HE0 := Lib.hid heq0
            clear hk ho_3 heq0 ho_2
            obtain ⟨y, hy⟩ : ∃ y, Kc.foundC a.cs d.id = y := ⟨_, rfl⟩
            obtain ⟨qi, hqi⟩ : ∃ z, Kc.idIn a.cs d.id = z := ⟨_, rfl⟩
            have hao := HO2.out _ hC2
            have HFN := Lib.hid (Kc.find_any A2 n2 c2 a.cs d.id w4 hao.l1 (by have := hao.b1; omega) (Sl.of_own hao.o1) (Pl.right_spec.1 HAR.out).co y qi hy hqi)
            have HYY := Lib.hid hy
            clear hao hy hqi
            obtain ⟨m0, m1, m2, m3, lt_m⟩ := blok4 (HY.out _ hC2)
            obtain ⟨y0, y1, y2, y3, y4, y5, y6, y7, y8, y9, y10, y11, y12, lt_y⟩ := blok13 (HDD.out _ hBW)
            go_wp2_with fail
            clear m0 m1 m2 m3 lt_m
            clear y0 y1 y2 y3 y4 y5 y6 y7 y8 y9 y10 y11 y12 lt_y
            refine HFN.out.mono ?_
            rintro e w5 ⟨rfl, hb5⟩
            have hb6 : Below w5.heap.size w5 (w5.alloc (.cells #[.int .i64 y.id, .int .i64 y.fr, .int .i64 y.tn, .int .i64 y.st, .int .i64 y.en, .int .i64 y.rt] 34)) := (Below.refl _ _).alloc (Nat.le_refl _) _
            have hK := Blok.new w5 34 #[.int .i64 y.id, .int .i64 y.fr, .int .i64 y.tn, .int .i64 y.st, .int .i64 y.en, .int .i64 y.rt]
            go_upto_region 12 with fail
            have hb46 := hb5.trans (hb6.mono hb5.size)
            have hN6 := hN.below hb46 hN.lt
            have ho6 := own_below ho5 hb46
            have hBW6 := hBW.trans (hb46.mono hBW.size)
            have hC6 := hC2.trans (hb46.mono hC2.size)
            clear hb5 hb6 hb46 hN ho5 hBW hC2 HFN
            generalize w5.alloc (.cells #[.int .i64 y.id, .int .i64 y.fr, .int .i64 y.tn, .int .i64 y.st, .int .i64 y.en, .int .i64 y.rt] 34) = w6 at *
            generalize w5.heap.size = bK at *
            obtain ⟨x, hx⟩ : ∃ x, Kb.rowB s.b y.id = x := ⟨_, rfl⟩
            obtain ⟨o, ho⟩ : ∃ o, overB x y = o := ⟨_, rfl⟩
            have hst := HU.out _ hBW6
            have HUS : Hid (∀ dd os, Calls Tryz.prog 28 #[.slice Ab nb cb, .int .i64 y.id] (grow (redrawn w6 dd) os) fun e w' => e = .returned (.agg #[.int .i64 x.ua, .int .i64 x.ub, .int .i64 x.uc]) ∧ Below (grow (redrawn w6 dd) os).heap.size (grow (redrawn w6 dd) os) w') := fun dd os => Kb.used_any Ab nb cb s.b y.id _ hst.lb (by omega) (hst.sb.up (below_regrown w6 dd os)) (Kb.right_sort HR2.out) x hx
            have HOV := Lib.hid ho
            have HXR := Lib.hid hx
            obtain ⟨p0, p1, p2, p3, p4, lt_p⟩ := blok5 (HPP.out _ hBW6)
            have k0 : w6.cell? ⟨bK, 0, none⟩ = some (.int .i64 y.id) := hK.cell 0
            have k1 : w6.cell? ⟨bK, 1, none⟩ = some (.int .i64 y.fr) := hK.cell 1
            have k2 : w6.cell? ⟨bK, 2, none⟩ = some (.int .i64 y.tn) := hK.cell 2
            have k3 : w6.cell? ⟨bK, 3, none⟩ = some (.int .i64 y.st) := hK.cell 3
            have k4 : w6.cell? ⟨bK, 4, none⟩ = some (.int .i64 y.en) := hK.cell 4
            have k5 : w6.cell? ⟨bK, 5, none⟩ = some (.int .i64 y.rt) := hK.cell 5
            have lt_k := hK.lt
            clear hst hx ho hK
            have q_p0 := fun d os => cell_regrown p0 d os
            have q_p1 := fun d os => cell_regrown p1 d os
            have q_p2 := fun d os => cell_regrown p2 d os
            have q_p3 := fun d os => cell_regrown p3 d os
            have q_p4 := fun d os => cell_regrown p4 d os
            have q_k0 := fun d os => cell_regrown k0 d os
            have q_k1 := fun d os => cell_regrown k1 d os
            have q_k2 := fun d os => cell_regrown k2 d os
            have q_k3 := fun d os => cell_regrown k3 d os
            have q_k4 := fun d os => cell_regrown k4 d os
            have q_k5 := fun d os => cell_regrown k5 d os
            try simp only [List.append]
            first | refine wp_region_text_below ?_ | refine wp_region_quiet_below (by kernel_rfl) (by kernel_rfl) ?_
            repeat (go_big_quiet_step ((first | (go_at_call 28; with_reducible exact Calls.regrown_of (HUS.out _ _)) | (go_at_call 38; with_reducible exact Calls.regrown_of (over_any x y _ o HOV.out)))))
            refine wpQuiet_nil ?_
            intro _ hqw
            obtain ⟨pq, hqw⟩ := hqw
            subst hqw
            clear q_p0 q_p1 q_p2 q_p3 q_p4 q_k0 q_k1 q_k2 q_k3 q_k4 q_k5
            have hbel := below_regrown w6 pq.d pq.os
            have hN := hN6.below hbel hN6.lt
            have ho5 := own_below ho6 hbel
            have hBW := hBW6.trans (hbel.mono hBW6.size)
            have hC2 := hC6.trans (hbel.mono hC6.size)
            clear hbel hN6 ho6 hBW6 hC6 p0 p1 p2 p3 p4 lt_p k0 k1 k2 k3 k4 k5 lt_k HUS
            generalize grow (redrawn w6 pq.d) pq.os = w7 at *
            have hs7 := hC2.size
            have hov : overC21 s a d = o := by unfold overC21; rw [HYY.out, HXR.out, HOV.out]
            cases o with
            | true =>
              have hqe : editQ s d = 8 := by unfold editQ; rw [if_neg (by rw [HE0.out]; simp), if_pos ⟨⟨HK.out, HO3.out⟩, by rw [HA.out]; exact hov⟩]
              have hse : s' = s := by rw [← HSE.out]; unfold editS; rw [if_pos (by rw [hqe]; simp)]
              have hqq : q = 8 := HQE.out.symm.trans hqe
              subst hqq
              have HSS := Lib.hid hse
              clear hN ho5 hC2 hov hqe hse
              obtain ⟨p0, p1, p2, p3, p4, lt_p⟩ := blok5 (HPP.out _ hBW)
              have hkk := HU.out _ hBW
              go_wp2_with fail
              refine (sclone_any A1 n1 c1 A n c clk ver Ab nb cb s w7 hkk).mono ?_
              rintro e x9 ⟨A6, c6, A7, c7, A8, c8, rfl, hv5, hbx⟩
              have hC9 := hBW.trans (hbx.mono hBW.size)
              obtain ⟨ur0, ur1, ur2, ur3, ur4, url⟩ := blok5 (HXX.out _ hC9)
              obtain ⟨uf0, uf1, uf2, uf3, uf4⟩ := free5 (HXX.out _ hC9)
              have hX2 := HXX.out _ hC9
              have hB2 := HB.out.trans (hC9.mono hs)
              have hszW := hBW.size
              have hck := hkk.ck
              have hvr := hkk.vr
              have HCK := Lib.hid hck
              have HVR := Lib.hid hvr
              have HOF : Hid (StOwn x9 (bR + 1) A6 n1 c6 A7 n c7 clk ver A8 nb c8 s) := hv5.down (by omega)
              clear p0 p1 p2 p3 p4 lt_p hbx hC9 hBW hck hvr hkk
              go_wp2
              obtain ⟨hF, hWf, hgw⟩ := ret5 hX2 hB2 (by omega) (.slice A6 n1 c6) (.slice A7 n c7) (.int .i64 clk) (.int .i64 ver) (.slice A8 nb c8)
              unfold set5 at hF hWf hgw
              have HO := Lib.hid (StOwn.far HOF.out hgw (fun q hq => by injection hq with hq; omega))
              clear hgw hX2 hB2 HOF ur0 ur1 ur2 ur3 ur4 uf0 uf1 uf2 uf3 uf4
              generalize ((((x9.setCell ⟨bR, 0, none⟩ (.slice A6 n1 c6)).setCell ⟨bR, 1, none⟩ (.slice A7 n c7)).setCell ⟨bR, 2, none⟩ (.int .i64 clk)).setCell ⟨bR, 3, none⟩ (.int .i64 ver)).setCell ⟨bR, 4, none⟩ (.slice A8 nb c8) = wf at *
              obtain ⟨r0, r1, r2, r3, r4, hlF⟩ := blok5 hF
              go_wp2_with fail
              refine bodyPost_ret (v := .tuple #[.agg #[.slice A6 n1 c6, .slice A7 n c7, .int .i64 clk, .int .i64 ver, .slice A8 nb c8], .int .i64 8]) (by simp [results, Tryz.results27, go_sem, r0, r1, r2, r3, r4, hlF]) rfl ?_
              have hfin := HSS.out
              subst hfin
              unfold SRet
              rw [HCK.out, HVR.out]
              exact ⟨_, _, _, _, _, _, _, _, _, rfl, HO.out.down (show w.heap.size ≤ bR + 1 by omega), hWf⟩
            | false =>
              have hqe : editQ s d = 0 := by unfold editQ; rw [if_neg (by rw [HE0.out]; simp), if_neg (by rw [HA.out, hov]; simp)]
              have hse : s' = ⟨a, s.b⟩ := by rw [← HSE.out]; unfold editS; rw [if_neg (by rw [hqe]; simp), if_neg (by rw [HO3.out]; simp), HA.out]
              have hqq : q = 0 := HQE.out.symm.trans hqe
              subst hqq hse
              clear hqe hov
              obtain ⟨m0, m1, m2, m3, m4, lt_m⟩ := blok5 hN
              obtain ⟨r0, r1, r2, r3, r4, lt_r⟩ := blok5 (HXX.out _ hBW)
              obtain ⟨f0, f1, f2, f3, f4⟩ := free5 (HXX.out _ hBW)
              have hX2 := HXX.out _ hBW
              have hB2 := HB.out.trans (hBW.mono hs)
              have HOF : Hid (StOwn w7 (bR + 1) A2 n2 c2 A3 n3 c3 a.clk a.ver A5 nb c5 ⟨a, s.b⟩) := ⟨(HO2.out _ hC2).down (by omega), rfl, rfl, HLB.out, hnb, own_down ho5 (by omega)⟩
              clear hBW hN
              go_wp2
              obtain ⟨hF, hWf, hgw⟩ := ret5 hX2 hB2 (by omega) (.slice A2 n2 c2) (.slice A3 n3 c3) (.int .i64 a.clk) (.int .i64 a.ver) (.slice A5 nb c5)
              unfold set5 at hF hWf hgw
              have HO := Lib.hid (StOwn.far HOF.out hgw (fun q hq => by injection hq with hq; omega))
              clear hgw hX2 hB2 HOF m0 m1 m2 m3 m4 lt_m r0 r1 r2 r3 r4 lt_r f0 f1 f2 f3 f4
              generalize ((((w7.setCell ⟨bR, 0, none⟩ (.slice A2 n2 c2)).setCell ⟨bR, 1, none⟩ (.slice A3 n3 c3)).setCell ⟨bR, 2, none⟩ (.int .i64 a.clk)).setCell ⟨bR, 3, none⟩ (.int .i64 a.ver)).setCell ⟨bR, 4, none⟩ (.slice A5 nb c5) = wf at *
              obtain ⟨r0, r1, r2, r3, r4, hlF⟩ := blok5 hF
              go_wp2_with fail
              refine bodyPost_ret (v := .tuple #[.agg #[.slice A2 n2 c2, .slice A3 n3 c3, .int .i64 a.clk, .int .i64 a.ver, .slice A5 nb c5], .int .i64 0]) (by simp [results, Tryz.results27, go_sem, r0, r1, r2, r3, r4, hlF]) rfl ?_
              exact ⟨_, _, _, _, _, _, _, _, _, rfl, HO.out.down (show w.heap.size ≤ bR + 1 by omega), hWf⟩
          · have hoc : (d.op == 3) = false := beq_eq_false_iff_ne.2 ho_3
            have hqe : editQ s d = 0 := by unfold editQ; rw [if_neg (by rw [heq0]; simp), if_neg (fun h => ho_3 h.1.2)]
            have hse : s' = ⟨a, s.b⟩ := by rw [← HSE.out]; unfold editS; rw [if_neg (by rw [hqe]; simp), if_neg (fun h => ho_2 h.2), HA.out]
            have hqq : q = 0 := HQE.out.symm.trans hqe
            subst hqq hse
            clear hqe hk ho_2 ho_3 heq0
            obtain ⟨y0, y1, y2, y3, y4, y5, y6, y7, y8, y9, y10, y11, y12, lt_y⟩ := blok13 (HDD.out _ hBW)
            obtain ⟨m0, m1, m2, m3, m4, lt_m⟩ := blok5 hN
            obtain ⟨r0, r1, r2, r3, r4, lt_r⟩ := blok5 (HXX.out _ hBW)
            obtain ⟨f0, f1, f2, f3, f4⟩ := free5 (HXX.out _ hBW)
            have hX2 := HXX.out _ hBW
            have hB2 := HB.out.trans (hBW.mono hs)
            have HOF : Hid (StOwn w4 (bR + 1) A2 n2 c2 A3 n3 c3 a.clk a.ver A5 nb c5 ⟨a, s.b⟩) := ⟨(HO2.out _ hC2).down (by omega), rfl, rfl, HLB.out, hnb, own_down ho5 (by omega)⟩
            clear hBW hN
            go_wp2
            obtain ⟨hF, hWf, hgw⟩ := ret5 hX2 hB2 (by omega) (.slice A2 n2 c2) (.slice A3 n3 c3) (.int .i64 a.clk) (.int .i64 a.ver) (.slice A5 nb c5)
            unfold set5 at hF hWf hgw
            have HO := Lib.hid (StOwn.far HOF.out hgw (fun q hq => by injection hq with hq; omega))
            clear hgw hX2 hB2 HOF m0 m1 m2 m3 m4 lt_m r0 r1 r2 r3 r4 lt_r f0 f1 f2 f3 f4
            generalize ((((w4.setCell ⟨bR, 0, none⟩ (.slice A2 n2 c2)).setCell ⟨bR, 1, none⟩ (.slice A3 n3 c3)).setCell ⟨bR, 2, none⟩ (.int .i64 a.clk)).setCell ⟨bR, 3, none⟩ (.int .i64 a.ver)).setCell ⟨bR, 4, none⟩ (.slice A5 nb c5) = wf at *
            obtain ⟨r0, r1, r2, r3, r4, hlF⟩ := blok5 hF
            go_wp2_with fail
            refine bodyPost_ret (v := .tuple #[.agg #[.slice A2 n2 c2, .slice A3 n3 c3, .int .i64 a.clk, .int .i64 a.ver, .slice A5 nb c5], .int .i64 0]) (by simp [results, Tryz.results27, go_sem, r0, r1, r2, r3, r4, hlF]) rfl ?_
            exact ⟨_, _, _, _, _, _, _, _, _, rfl, HO.out.down (show w.heap.size ≤ bR + 1 by omega), hWf⟩
      · have hkb : (d.kd != 1) = true := by simpa using hk
        have hqe : editQ s d = 0 := by unfold editQ; rw [if_neg (by rw [heq0]; simp), if_neg (fun h => hk h.1.1)]
        have hse : s' = ⟨a, s.b⟩ := by rw [← HSE.out]; unfold editS; rw [if_neg (by rw [hqe]; simp), if_neg (fun h => hk h.1), HA.out]
        have hqq : q = 0 := HQE.out.symm.trans hqe
        subst hqq hse
        clear hqe hk heq0
        obtain ⟨y0, y1, y2, y3, y4, y5, y6, y7, y8, y9, y10, y11, y12, lt_y⟩ := blok13 (HDD.out _ hBW)
        obtain ⟨m0, m1, m2, m3, m4, lt_m⟩ := blok5 hN
        obtain ⟨r0, r1, r2, r3, r4, lt_r⟩ := blok5 (HXX.out _ hBW)
        obtain ⟨f0, f1, f2, f3, f4⟩ := free5 (HXX.out _ hBW)
        have hX2 := HXX.out _ hBW
        have hB2 := HB.out.trans (hBW.mono hs)
        have HOF : Hid (StOwn w4 (bR + 1) A2 n2 c2 A3 n3 c3 a.clk a.ver A5 nb c5 ⟨a, s.b⟩) := ⟨(HO2.out _ hC2).down (by omega), rfl, rfl, HLB.out, hnb, own_down ho5 (by omega)⟩
        clear hBW hN
        go_wp2
        obtain ⟨hF, hWf, hgw⟩ := ret5 hX2 hB2 (by omega) (.slice A2 n2 c2) (.slice A3 n3 c3) (.int .i64 a.clk) (.int .i64 a.ver) (.slice A5 nb c5)
        unfold set5 at hF hWf hgw
        have HO := Lib.hid (StOwn.far HOF.out hgw (fun q hq => by injection hq with hq; omega))
        clear hgw hX2 hB2 HOF m0 m1 m2 m3 m4 lt_m r0 r1 r2 r3 r4 lt_r f0 f1 f2 f3 f4
        generalize ((((w4.setCell ⟨bR, 0, none⟩ (.slice A2 n2 c2)).setCell ⟨bR, 1, none⟩ (.slice A3 n3 c3)).setCell ⟨bR, 2, none⟩ (.int .i64 a.clk)).setCell ⟨bR, 3, none⟩ (.int .i64 a.ver)).setCell ⟨bR, 4, none⟩ (.slice A5 nb c5) = wf at *
        obtain ⟨r0, r1, r2, r3, r4, hlF⟩ := blok5 hF
        go_wp2_with fail
        refine bodyPost_ret (v := .tuple #[.agg #[.slice A2 n2 c2, .slice A3 n3 c3, .int .i64 a.clk, .int .i64 a.ver, .slice A5 nb c5], .int .i64 0]) (by simp [results, Tryz.results27, go_sem, r0, r1, r2, r3, r4, hlF]) rfl ?_
        exact ⟨_, _, _, _, _, _, _, _, _, rfl, HO.out.down (show w.heap.size ≤ bR + 1 by omega), hWf⟩
  · have h01 : (q1 != 0) = true := by simpa using hq0
    have heq : editQ s d = q1 := by unfold editQ; rw [if_pos (by rw [HQ1.out]; exact hq0), HQ1.out]
    have hqq : q1 = q := heq.symm.trans HQE.out
    have hes : editS s d = s := by unfold editS; rw [if_pos (by rw [heq]; exact hq0)]
    have HSS : Hid (s' = s) := HSE.out.symm.trans hes
    subst hqq
    have hBW := hB2
    clear heq hes hY ho2 hB2
    obtain ⟨p0, p1, p2, p3, p4, lt_p⟩ := blok5 (HPP.out _ hBW)
    have hkk := HU.out _ hBW
    go_wp2_with fail
    refine (sclone_any A1 n1 c1 A n c clk ver Ab nb cb s w2 hkk).mono ?_
    rintro e x9 ⟨A6, c6, A7, c7, A8, c8, rfl, hv5, hbx⟩
    have hC9 := hBW.trans (hbx.mono hBW.size)
    obtain ⟨ur0, ur1, ur2, ur3, ur4, url⟩ := blok5 (HXX.out _ hC9)
    obtain ⟨uf0, uf1, uf2, uf3, uf4⟩ := free5 (HXX.out _ hC9)
    have hX2 := HXX.out _ hC9
    have hB2 := HB.out.trans (hC9.mono hs)
    have hszW := hBW.size
    have hck := hkk.ck
    have hvr := hkk.vr
    have HCK := Lib.hid hck
    have HVR := Lib.hid hvr
    have HOF : Hid (StOwn x9 (bR + 1) A6 n1 c6 A7 n c7 clk ver A8 nb c8 s) := hv5.down (by omega)
    clear p0 p1 p2 p3 p4 lt_p hbx hC9 hBW hck hvr hkk
    go_wp2
    obtain ⟨hF, hWf, hgw⟩ := ret5 hX2 hB2 (by omega) (.slice A6 n1 c6) (.slice A7 n c7) (.int .i64 clk) (.int .i64 ver) (.slice A8 nb c8)
    unfold set5 at hF hWf hgw
    have HO := Lib.hid (StOwn.far HOF.out hgw (fun q hq => by injection hq with hq; omega))
    clear hgw hX2 hB2 HOF ur0 ur1 ur2 ur3 ur4 uf0 uf1 uf2 uf3 uf4
    generalize ((((x9.setCell ⟨bR, 0, none⟩ (.slice A6 n1 c6)).setCell ⟨bR, 1, none⟩ (.slice A7 n c7)).setCell ⟨bR, 2, none⟩ (.int .i64 clk)).setCell ⟨bR, 3, none⟩ (.int .i64 ver)).setCell ⟨bR, 4, none⟩ (.slice A8 nb c8) = wf at *
    obtain ⟨r0, r1, r2, r3, r4, hlF⟩ := blok5 hF
    go_wp2_with fail
    refine bodyPost_ret (v := .tuple #[.agg #[.slice A6 n1 c6, .slice A7 n c7, .int .i64 clk, .int .i64 ver, .slice A8 nb c8], .int .i64 q1]) (by simp [results, Tryz.results27, go_sem, r0, r1, r2, r3, r4, hlF]) rfl ?_
    have hfin := HSS.out
    subst hfin
    unfold SRet
    rw [HCK.out, HVR.out]
    exact ⟨_, _, _, _, _, _, _, _, _, rfl, HO.out.down (show w.heap.size ≤ bR + 1 by omega), hWf⟩
end Go.Proofs.YtjldgcebadojiaaGreatDoor
