/- state.Load. It makes new memory alone. A right state. -/
import Derived.Test.YtjldgcebadojiaaGreatDoorGQ22
import Derived.Deep.CutBlock
import Derived.Deep.DeepCutAuto
namespace Go.Proofs.YtjldgcebadojiaaGreatDoor
open Go.ChangeShapes Go.WideShapes Go.ChangeAt Go.RowKit Go.Sort
set_option linter.unusedSimpArgs false
set_option linter.unusedVariables false
theorem row_cell1 {w : World} {base : Nat} {t : TypeId} {v : Value} {n j : Nat} {xs : List Int} (h : w.ownsRow base t 1 v n (xs.map (Value.int .i64))) (hn : xs.length = n) (hj : j < n) : ∃ g c, v = .slice (some ⟨g, 0, none⟩) n c ∧ base ≤ g ∧ w.cell? ⟨g, j, none⟩ = some (.int .i64 (xs.getD j 0)) := by
  obtain ⟨g, c, e, _, _, hg, _⟩ := own_at h (by omega)
  subst e
  refine ⟨g, c, rfl, hg, ?_⟩
  have hj2 : j < xs.length := by omega
  have := h.cells rfl j (.int .i64 (xs.getD j 0)) (by rw [List.getElem?_map, List.getElem?_eq_getElem hj2, List.getD_eq_getElem?_getD, List.getElem?_eq_getElem hj2]; rfl)
  rwa [show (⟨g, 0, none⟩ : Addr).add j = ⟨g, j, none⟩ by unfold Addr.add; split <;> simp_all] at this
set_option maxHeartbeats 16000000 in
set_option maxRecDepth 100000 in
theorem sload_any (A1 : Option Addr) (n1 c1 : Nat) (A : Option Addr) (n c : Nat) (clk ver : Int) (Ab : Option Addr) (nb cb : Nat) (s : St) (s0 : ByteArray) (w : World) (h : StAt w A1 n1 c1 A n c clk ver Ab nb cb s) (hr : rightS s = true) (hm : MaxAt w) (hs : s0.data.toList.length ≤ 50000) (s' : St) (ln cd : Int) (hz : loadF s s0.data.toList = (s', ln, cd)) :
    Calls Tryz.prog 24 #[.agg #[.slice A1 n1 c1, .slice A n c, .int .i64 clk, .int .i64 ver, .slice Ab nb cb], .string s0] w (LRet s' ln cd w) := by
  have hB : Below w.heap.size w (((w.alloc (.cells #[.slice A1 n1 c1, .slice A n c, .int .i64 clk, .int .i64 ver, .slice Ab nb cb] 28)).alloc (.cells #[.slice none 0 0, .slice none 0 0, .int .i64 0, .int .i64 0, .slice none 0 0] 28)).alloc (.cells #[.int .i64 0, .int .i64 0] 45)) := by (repeat (first | exact Below.refl _ _ | refine Below.alloc ?_ (by first | omega | (simp; done) | (simp; omega)) _ | refine Below.setCell ?_ (by first | omega | (simp; done) | (simp; omega)) _ | refine Below.drew ?_))
  have hP := ((Blok.new w 28 #[.slice A1 n1 c1, .slice A n c, .int .i64 clk, .int .i64 ver, .slice Ab nb cb]).alloc (.cells #[.slice none 0 0, .slice none 0 0, .int .i64 0, .int .i64 0, .slice none 0 0] 28)).alloc (.cells #[.int .i64 0, .int .i64 0] 45)
  have hX := (Blok.new (w.alloc (.cells #[.slice A1 n1 c1, .slice A n c, .int .i64 clk, .int .i64 ver, .slice Ab nb cb] 28)) 28 #[.slice none 0 0, .slice none 0 0, .int .i64 0, .int .i64 0, .slice none 0 0]).alloc (.cells #[.int .i64 0, .int .i64 0] 45)
  have hF := Blok.new ((w.alloc (.cells #[.slice A1 n1 c1, .slice A n c, .int .i64 clk, .int .i64 ver, .slice Ab nb cb] 28)).alloc (.cells #[.slice none 0 0, .slice none 0 0, .int .i64 0, .int .i64 0, .slice none 0 0] 28)) 45 #[.int .i64 0, .int .i64 0]
  simp only [World.size_alloc] at hX hF
  obtain ⟨p, hp⟩ : ∃ p, textF (linesL s0.data.toList) 1 = p := ⟨_, rfl⟩
  obtain ⟨ds, ln0, cd0⟩ := p
  obtain ⟨lns, hlns⟩ : ∃ l, lnoF (linesL s0.data.toList) 1 = l := ⟨_, rfl⟩
  unfold loadF at hz
  rw [hp, hlns] at hz
  have hdr : ∀ d ∈ ds, rightD d = true := fun d hd => text_right (linesL s0.data.toList) 1 d (by rw [hp]; exact hd)
  have HCD : Hid (cd0 = 0 → ln0 = 0 ∧ ds.length = lns.length) := fun h0 => by
    have h1 := text_code0 (linesL s0.data.toList) 1 (by rw [hp]; exact h0)
    have h2 := text_ok_len (linesL s0.data.toList) 1 (by rw [hp]; exact h0)
    rw [hp] at h1 h2
    rw [hlns] at h2
    exact ⟨h1, h2⟩
  have HLS := Lib.hid hs
  have HZ := Lib.hid hz
  have HDR := Lib.hid hdr
  have HMX := Lib.hid hm
  have HRS := Lib.hid hr
  have HST := Lib.hid (fun (w' : World) (hb : Below w.heap.size w w') => h.up hb)
  have HPA := Lib.hid (fun (w' : World) (hb : Below w.heap.size w w') => tparse_any s0 (linesL s0.data.toList) _ rfl rfl w' (hm.below hb) hs ds ln0 cd0 hp)
  have HLI := Lib.hid (fun (w' : World) (hb : Below w.heap.size w w') => hlns ▸ tlines_any s0 (linesL s0.data.toList) _ rfl rfl w' (hm.below hb) hs)
  have hlw : lns.length ≤ 50001 := by
    have h1 := lno_short (linesL s0.data.toList) 1
    have h2 := lines_len s0.data.toList
    rw [hlns] at h1
    omega
  clear hz hdr hm hr hp hlns hs
  go_enter Tryz.func24, Tryz.ntmps24
  go_upto_region 1 with fail
  generalize ((w.alloc (.cells #[.slice A1 n1 c1, .slice A n c, .int .i64 clk, .int .i64 ver, .slice Ab nb cb] 28)).alloc (.cells #[.slice none 0 0, .slice none 0 0, .int .i64 0, .int .i64 0, .slice none 0 0] 28)).alloc (.cells #[.int .i64 0, .int .i64 0] 45) = w0 at *
  obtain ⟨bF, hbF⟩ : ∃ z, w.heap.size + 1 + 1 = z := ⟨_, rfl⟩
  obtain ⟨bR, hbR⟩ : ∃ z, w.heap.size + 1 = z := ⟨_, rfl⟩
  obtain ⟨bS, hbS⟩ : ∃ z, w.heap.size = z := ⟨_, rfl⟩
  rw [hbF] at hF
  rw [hbR] at hX
  rw [hbS] at hP
  try rw [hbF]
  try rw [hbR]
  try rw [hbS]
  have hbo : w.heap.size ≤ bR ∧ bS < bR ∧ bR < bF := by omega
  have HB0 := Lib.hid hB
  have HP0 := Lib.hid hP
  have HX0 := Lib.hid hX
  have HF0 := Lib.hid hF
  have hsz0 := hB.size
  clear hB hP hX hF h hbF hbR hbS
  go_wp2_with fail
  refine (HPA.out w0 HB0.out).mono ?_
  rintro e w1 ⟨v, rfl, hown, hb1⟩
  obtain ⟨m, hm⟩ : ∃ z, ds.length = z := ⟨_, rfl⟩
  rw [hm] at hown
  have HM := Lib.hid hm
  clear hm
  obtain ⟨Ad, cD, rfl⟩ := slice_of_own hown
  have hb2 : Below w1.heap.size w1 (w1.alloc (.cells #[.int .i64 ln0, .int .i64 cd0] 45)) := (Below.refl _ _).alloc (Nat.le_refl _) _
  have hT := Blok.new w1 45 #[.int .i64 ln0, .int .i64 cd0]
  go_upto_region 2 with fail
  have hb3 := hb1.trans (hb2.mono hb1.size)
  have hown2 := own_down (own_below hown hb2) (show bF + 1 ≤ w0.heap.size from HF0.out.lt)
  have hbT : bF < w1.heap.size := Nat.lt_of_lt_of_le HF0.out.lt hb1.size
  have hL : LdW bS bR bF w1.heap.size #[.slice A1 n1 c1, .slice A n c, .int .i64 clk, .int .i64 ver, .slice Ab nb cb] #[.slice none 0 0, .slice none 0 0, .int .i64 0, .int .i64 0, .slice none 0 0] #[.int .i64 0, .int .i64 0] #[.int .i64 ln0, .int .i64 cd0] w (w1.alloc (.cells #[.int .i64 ln0, .int .i64 cd0] 45)) := ⟨HB0.out.trans (hb3.mono hsz0), HP0.out.below hb3 HP0.out.lt, HX0.out.below hb3 HX0.out.lt, HF0.out.below hb3 HF0.out.lt, hT, ⟨hbo.1, hbo.2.1⟩, hbo.2.2, hbT⟩
  have hdw : ∀ g, (Value.slice Ad m cD).ownBlock = some g → g < w1.heap.size := fun g hg => (hown.lt g hg).2
  clear hb1 hb2 hb3 hown HB0 HP0 HX0 HF0
  generalize w1.alloc (.cells #[.int .i64 ln0, .int .i64 cd0] 45) = w2 at *
  generalize w1.heap.size = bT at *
  have y0 : w2.cell? ⟨bT, 0, none⟩ = some (.int .i64 ln0) := hT.cell 0
  have y1 : w2.cell? ⟨bT, 1, none⟩ = some (.int .i64 cd0) := hT.cell 1
  have lty := hT.lt
  clear hT
  have HCL := Lib.hid (fun (R F : Array Value) (x : World) (hl : LdW bS bR bF bT #[.slice A1 n1 c1, .slice A n c, .int .i64 clk, .int .i64 ver, .slice Ab nb cb] R F #[.int .i64 ln0, .int .i64 cd0] w x) => (sclone_any A1 n1 c1 A n c clk ver Ab nb cb s x (HST.out x hl.bel)).mono (R' := fun e x' => ∃ A6 c6 A7 c7 A8 c8, e = .returned (.agg #[.slice A6 n1 c6, .slice A7 n c7, .int .i64 clk, .int .i64 ver, .slice A8 nb c8]) ∧ StOwn x' (bF + 1) A6 n1 c6 A7 n c7 clk ver A8 nb c8 s ∧ LdW bS bR bF bT #[.slice A1 n1 c1, .slice A n c, .int .i64 clk, .int .i64 ver, .slice Ab nb cb] R F #[.int .i64 ln0, .int .i64 cd0] w x' ∧ Below x.heap.size x x') (by rintro e x' ⟨A6, c6, A7, c7, A8, c8, rfl, hv5, hbx⟩; exact ⟨A6, c6, A7, c7, A8, c8, rfl, hv5.down hl.f.lt, hl.call hbx, hbx⟩))
  have hck := (HST.out _ (Below.refl _ _)).ck
  have hvr := (HST.out _ (Below.refl _ _)).vr
  have HCK := Lib.hid hck
  have HVR := Lib.hid hvr
  clear hck hvr
  by_cases hc0 : cd0 = 0
  · subst hc0
    obtain ⟨hl0, hlen⟩ := HCD.out rfl
    subst hl0
    have hNE : ∀ w9 : World, (binOp .neq 45 (.agg #[.int .i64 0, .int .i64 0]) (.agg #[.int .i64 0, .int .i64 0])).run Tryz.prog w9 = .ok (.bool false) w9 := fun w9 => by have h := neqFt 0 0 0 0 w9; simpa using h
    have hz := HZ.out
    rw [if_pos rfl] at hz
    have HZ0 := Lib.hid hz
    obtain ⟨nl, hnl⟩ : ∃ z, lns.length = z := ⟨_, rfl⟩
    have hnm : nl = m := by rw [← hnl, ← hlen, HM.out]
    have HNL := Lib.hid hnl
    have hmb : m ≤ 50001 := by omega
    have hbF := hL.f.lt
    have HLN := Lib.hid (fun (R F : Array Value) (x : World) (hl : LdW bS bR bF bT #[.slice A1 n1 c1, .slice A n c, .int .i64 clk, .int .i64 ver, .slice Ab nb cb] R F #[.int .i64 0, .int .i64 0] w x) => (HLI.out x hl.bel).mono (R' := fun e x' => ∃ v, e = .returned v ∧ x'.ownsRow (bT + 1) 3 1 v nl (lns.map (Value.int .i64)) ∧ LdW bS bR bF bT #[.slice A1 n1 c1, .slice A n c, .int .i64 clk, .int .i64 ver, .slice Ab nb cb] R F #[.int .i64 0, .int .i64 0] w x' ∧ Below x.heap.size x x') (by rintro e x' ⟨v, rfl, hr, hbx⟩; rw [hnl] at hr; exact ⟨v, rfl, own_down hr hl.t.lt, hl.call hbx, hbx⟩))
    have HO2 := Lib.hid hown2
    have HL2 := Lib.hid hL
    clear hz hlen hnl hbF hown2
    obtain ⟨p0, p1, p2, p3, p4, lt_p⟩ := blok5 hL.s
    obtain ⟨q0, q1, q2, q3, q4, lq⟩ := blok5 hL.r
    obtain ⟨qf0, qf1, qf2, qf3, qf4⟩ := free5 hL.r
    have g0 := hL.f.cell 0
    have g1 := hL.f.cell 1
    have y0 := hL.t.cell 0
    have y1 := hL.t.cell 1
    have gf0 := hL.f.free 0
    have gf1 := hL.f.free 1
    have lg := hL.f.lt
    have lty := hL.t.lt
    simp only [List.getElem?_toArray, List.getElem?_cons_zero, List.getElem?_cons_succ] at g0 g1 y0 y1

    clear hL
    go_wp2_with fail
    refine (HCL.out _ _ _ HL2.out).mono ?_
    rintro e w3 ⟨A6, c6, A7, c7, A8, c8, rfl, hv, hL3, hb3⟩
    clear p0 p1 p2 p3 p4 lt_p q0 q1 q2 q3 q4 lq qf0 qf1 qf2 qf3 qf4 g0 g1 gf0 gf1 lg y0 y1 lty
    have hb4 : Below w3.heap.size w3 (w3.alloc (.cells #[.slice A6 n1 c6, .slice A7 n c7, .int .i64 clk, .int .i64 ver, .slice A8 nb c8] 28)) := (Below.refl _ _).alloc (Nat.le_refl _) _
    have hN := Blok.new w3 28 #[.slice A6 n1 c6, .slice A7 n c7, .int .i64 clk, .int .i64 ver, .slice A8 nb c8]
    go_upto_region 5 with fail
    have hL4 := hL3.call hb4
    have hv4 := hv.below hb4
    have hod := own_below (own_below HO2.out hb3) hb4
    have hTN := hL3.t.lt
    clear hb3 hb4 hL3 hv HL2 HO2
    generalize w3.alloc (.cells #[.slice A6 n1 c6, .slice A7 n c7, .int .i64 clk, .int .i64 ver, .slice A8 nb c8] 28) = w4 at *
    generalize w3.heap.size = bN at *
    have hck4 := HCK.out
    have hvr4 := HVR.out
    rw [← hck4, ← hvr4] at hN hv4
    clear hck4 hvr4
    go_wp2
    go_loopw [27] (fun iv wr => ∃ (j : Nat) (x : St) (B1 : Option Addr) (k1 d1 : Nat) (B2 : Option Addr) (k2 d2 : Nat) (Bb : Option Addr) (kb db : Nat), iv = .int .i64 j ∧ j ≤ m ∧ Hid (LdW bS bR bF bT #[.slice A1 n1 c1, .slice A n c, .int .i64 clk, .int .i64 ver, .slice Ab nb cb] #[.slice none 0 0, .slice none 0 0, .int .i64 0, .int .i64 0, .slice none 0 0] #[.int .i64 0, .int .i64 0] #[.int .i64 0, .int .i64 0] w  wr) ∧ Hid (Blok wr bN 28 #[.slice B1 k1 d1, .slice B2 k2 d2, .int .i64 x.p.clk, .int .i64 x.p.ver, .slice Bb kb db]) ∧ Hid (StOwn wr (bF + 1) B1 k1 d1 B2 k2 d2 x.p.clk x.p.ver Bb kb db x) ∧ Hid (rightS x = true) ∧ Hid (loadD s lns x (ds.drop j) j = (s', ln, cd)) ∧ Hid (wr.ownsRow (bF + 1) 38 13 (.slice Ad m cD) m (flatDr ds))) (fun iv _ => m - (intOf iv).toNat)
    case atStart => exact ⟨0, s, A6, n1, c6, A7, n, c7, A8, nb, c8, rfl, by omega, hL4, hN, hv4, HRS.out, HZ0.out, hod⟩
    case round =>
      clear hL4 hN hv4 hod
      obtain ⟨j, x, B1, k1, d1, B2, k2, d2, Bb, kb, db, rfl, hj, HL, HN, HV, HRX, HLD, HOD⟩ := hrel
      by_cases hjm : j < m
      · obtain ⟨gd, cD2, hed, _, _, _, hgd⟩ := own_at HOD.out (by omega)
        simp only [Value.slice.injEq] at hed
        obtain ⟨rfl, _, rfl⟩ := hed
        obtain ⟨z0, z1, z2, z3, z4, z5, z6, z7, z8, z9, z10, z11, z12⟩ := ownDr_at HOD.out HM.out hjm
        obtain ⟨d, hd⟩ : ∃ d, gDr ds j = d := ⟨_, rfl⟩
        rw [hd] at z0 z1 z2 z3 z4 z5 z6 z7 z8 z9 z10 z11 z12
        have HD := Lib.hid hd
        have HRD : Hid (rightD d = true) := HDR.out d (by rw [← hd, gDr_eq (by rw [HM.out]; exact hjm)]; exact List.getElem_mem _)
        have hgT : gd < bT := hdw gd rfl
        clear hd
        have hb5 : Below wr.heap.size wr (wr.alloc (.cells #[.int .i64 d.op, .int .i64 d.kd, .int .i64 d.id, .int .i64 d.fr, .int .i64 d.tn, .int .i64 d.st, .int .i64 d.en, .int .i64 d.rt, .int .i64 d.rf, .int .i64 d.rn, .int .i64 d.rs, .int .i64 d.re, .int .i64 d.ro] 38)) := (Below.refl _ _).alloc (Nat.le_refl _) _
        have hK := Blok.new wr 38 #[.int .i64 d.op, .int .i64 d.kd, .int .i64 d.id, .int .i64 d.fr, .int .i64 d.tn, .int .i64 d.st, .int .i64 d.en, .int .i64 d.rt, .int .i64 d.rf, .int .i64 d.rn, .int .i64 d.rs, .int .i64 d.re, .int .i64 d.ro]
        go_upto_region 8 with fail
        have hL5 := HL.out.call hb5
        have hN5 := HN.out.below hb5 HN.out.lt
        have hv5 := HV.out.below hb5
        have hod5 := own_below HOD.out hb5
        clear z0 z1 z2 z3 z4 z5 z6 z7 z8 z9 z10 z11 z12 hb5 HL HN HV HOD
        generalize wr.alloc (.cells #[.int .i64 d.op, .int .i64 d.kd, .int .i64 d.id, .int .i64 d.fr, .int .i64 d.tn, .int .i64 d.st, .int .i64 d.en, .int .i64 d.rt, .int .i64 d.rf, .int .i64 d.rn, .int .i64 d.rs, .int .i64 d.re, .int .i64 d.ro] 38) = w5 at *
        generalize wr.heap.size = bK at *
        obtain ⟨n0, n1_, n2_, n3_, n4_, lt_n⟩ := blok5 hN5
        obtain ⟨y0, y1, y2, y3, y4, y5, y6, y7, y8, y9, y10, y11, y12, lt_y⟩ := blok13 hK
        obtain ⟨y, hy⟩ : ∃ z, editS x d = z := ⟨_, rfl⟩
        obtain ⟨q, hq⟩ : ∃ z, editQ x d = z := ⟨_, rfl⟩
        have HY := Lib.hid hy
        have HQ := Lib.hid hq
        have HED := Lib.hid (sedit_any B1 k1 d1 B2 k2 d2 x.p.clk x.p.ver Bb kb db x d w5 hv5.at_ HRX.out (right_ops HRD.out).1 (right_ops HRD.out).2 (right_id HRD.out) y q hy hq)
        have hNlt := hN5.lt
        have HL5 := Lib.hid hL5
        have HN5 := Lib.hid hN5
        have HOD5 := Lib.hid hod5
        clear hy hq hK hL5 hN5 hv5 hod5
        go_wp2_with fail
        refine HED.out.mono ?_
        rintro e w6 hsr
        obtain ⟨C1, m1, e1, C2, m2, e2, Cb, mb, eb, rfl, hvN, hb6⟩ := hsr
        clear n0 n1_ n2_ n3_ n4_ lt_n HED
        clear y0 y1 y2 y3 y4 y5 y6 y7 y8 y9 y10 y11 y12 lt_y
        have hL6 := HL5.out.call hb6
        have hN6 := HN5.out.below hb6 HN5.out.lt
        have hod6 := own_below HOD5.out hb6
        clear hb6 HL5 HN5 HOD5
        obtain ⟨n0, n1_, n2_, n3_, n4_, lt_n⟩ := blok5 hN6
        obtain ⟨nf0, nf1, nf2, nf3, nf4⟩ := free5 hN6
        obtain ⟨hN7, hB7, hg7⟩ := ret5 hN6 hL6.bel (by have := hL6.o1; have := hL6.o2; omega) (.slice C1 m1 e1) (.slice C2 m2 e2) (.int .i64 y.p.clk) (.int .i64 y.p.ver) (.slice Cb mb eb)
        have hL7 := hL6.over hg7 hTN hB7
        have hv7 := (hvN.far hg7 (fun q hq => by injection hq with hq; omega)).down (show bF + 1 ≤ w5.heap.size by omega)
        have hod7 := own_other hod6 hg7 (fun g hg => by have := hdw g hg; omega)
        unfold set5 at hN7 hL7 hv7 hod7
        have HN7 := Lib.hid hN7
        have HL7 := Lib.hid hL7
        have HV7 := Lib.hid hv7
        have HOD7 := Lib.hid hod7
        clear hN6 hL6 hvN hod6 hB7 hg7 hN7 hL7 hv7 hod7
        go_upto_region 10 with fail
        clear n0 n1_ n2_ n3_ n4_ lt_n nf0 nf1 nf2 nf3 nf4
        generalize ((((w6.setCell ⟨bN, 0, none⟩ (.slice C1 m1 e1)).setCell ⟨bN, 1, none⟩ (.slice C2 m2 e2)).setCell ⟨bN, 2, none⟩ (.int .i64 y.p.clk)).setCell ⟨bN, 3, none⟩ (.int .i64 y.p.ver)).setCell ⟨bN, 4, none⟩ (.slice Cb mb eb) = w7 at *
        have hld := HLD.out
        rw [loadD_drop (by rw [HM.out]; exact hjm), HD.out, HY.out, HQ.out] at hld
        by_cases hq0 : q = 0
        · subst hq0
          rw [if_pos rfl] at hld
          have HLD2 := Lib.hid hld
          have HRY : Hid (rightS y = true) := by rw [← HY.out]; exact editS_right HRX.out
          clear hld
          go_wp2
          go_roundw
          case rel => exact ⟨j + 1, y, C1, m1, e1, C2, m2, e2, Cb, mb, eb, by go_num, by omega, HL7.out, HN7.out, HV7.out, HRY.out, HLD2.out, HOD7.out⟩
          case measure => simp [intOf]; omega
        · have hq1 : (q != 0) = true := by simpa using hq0
          rw [if_neg hq0] at hld
          injection hld with hz1 hz2
          injection hz2 with hz2 hz3
          obtain ⟨lj, hlj⟩ : ∃ z, lns.getD j 0 = z := ⟨_, rfl⟩
          rw [hlj] at hz2
          have HZ1 := Lib.hid hz1
          have HZ2 := Lib.hid hz2
          have HZ3 := Lib.hid hz3
          have HLJ := Lib.hid hlj
          have hL := HL7.out
          have hjn : j < nl := by omega
          clear hz1 hz2 hz3 hlj HL7 HN7 HV7 HOD7
          try simp only [List.append]
          go_upto_region 11 with fail
          obtain ⟨p0, p1, p2, p3, p4, lt_p⟩ := blok5 hL.s
          obtain ⟨q0, q1, q2, q3, q4, lq⟩ := blok5 hL.r
          obtain ⟨qf0, qf1, qf2, qf3, qf4⟩ := free5 hL.r
          have g0 := hL.f.cell 0
          have g1 := hL.f.cell 1
          have y0 := hL.t.cell 0
          have y1 := hL.t.cell 1
          have gf0 := hL.f.free 0
          have gf1 := hL.f.free 1
          have lg := hL.f.lt
          have lty := hL.t.lt
          simp only [List.getElem?_toArray, List.getElem?_cons_zero, List.getElem?_cons_succ] at g0 g1 y0 y1

          go_region_law (first
            | (refine step_call rfl 61 #[.tmp 40] _ rfl #[.agg #[.slice A1 n1 c1, .slice A n c, .int .i64 clk, .int .i64 ver, .slice Ab nb cb]] (by simp [Act.eval, Act.put]) Tryz.func61 rfl rfl ?_; refine Calls.mono (HCL.out _ _ _ (by first | exact hL | exact hL.drew | exact hL.setF _ _ | exact (hL.setF _ _).drew)) ?_; rintro e x1 ⟨A6, c6, A7, c7, A8, c8, rfl, hv, hL1, hbx⟩; refine ⟨_, rfl, ?_⟩; (try (have hn : x1.ownsRow (bT + 1) 3 1 (.slice (some ⟨gl, 0, none⟩) nl cl) nl (lns.map (Value.int .i64)) := own_below hrow hbx; clear hrow hcl; have hrow := hn; clear hn; obtain ⟨g9, c9, e9, hg9, hcl⟩ := row_cell1 hrow HNL.out hjn; simp only [Value.slice.injEq, Option.some.injEq, Addr.mk.injEq] at e9; obtain ⟨⟨rfl, _⟩, _, rfl⟩ := e9; rw [HLJ.out] at hcl)); clear hbx; replace hL := hL1; clear hL1; obtain ⟨u0, u1, u2, u3, u4, lu⟩ := blok5 hL.s; obtain ⟨q0, q1, q2, q3, q4, lq⟩ := blok5 hL.r; obtain ⟨qf0, qf1, qf2, qf3, qf4⟩ := free5 hL.r; have g0 := hL.f.cell 0; have g1 := hL.f.cell 1; have gf0 := hL.f.free 0; have gf1 := hL.f.free 1; have lg := hL.f.lt; have y0 := hL.t.cell 0; have y1 := hL.t.cell 1; have lty := hL.t.lt; simp only [List.getElem?_toArray, List.getElem?_cons_zero, List.getElem?_cons_succ] at g0 g1 y0 y1)
            | (refine step_call rfl 26 #[.tmp 42] _ rfl #[.string s0] (by simp [Act.eval, Act.put]) Tryz.func26 rfl rfl ?_; refine Calls.mono (HLN.out _ _ _ (by first | exact hL | exact hL.drew | exact hL.setR _ _ _ _ _ | exact (hL.setR _ _ _ _ _).drew)) ?_; rintro e x1 ⟨v9, rfl, hrow, hL1, hbx⟩; refine ⟨_, rfl, ?_⟩; obtain ⟨gl, cl, rfl, hgl, hcl⟩ := row_cell1 hrow HNL.out hjn; rw [HLJ.out] at hcl; (try (have hn : StOwn x1 (bF + 1) A6 n1 c6 A7 n c7 clk ver A8 nb c8 s := (by first | exact hv.below hbx | exact (hL.ownR hv _ _ _ _ _).below hbx); clear hv; have hv := hn; clear hn)); clear hbx; replace hL := hL1; clear hL1; obtain ⟨u0, u1, u2, u3, u4, lu⟩ := blok5 hL.s; obtain ⟨q0, q1, q2, q3, q4, lq⟩ := blok5 hL.r; obtain ⟨qf0, qf1, qf2, qf3, qf4⟩ := free5 hL.r; have g0 := hL.f.cell 0; have g1 := hL.f.cell 1; have gf0 := hL.f.free 0; have gf1 := hL.f.free 1; have lg := hL.f.lt; have y0 := hL.t.cell 0; have y1 := hL.t.cell 1; have lty := hL.t.lt; simp only [List.getElem?_toArray, List.getElem?_cons_zero, List.getElem?_cons_succ] at g0 g1 y0 y1))
          all_goals
            first
              | (have hE1 : LdW bS bR bF bT _ #[.slice A6 n1 c6, .slice A7 n c7, .int .i64 clk, .int .i64 ver, .slice A8 nb c8] #[.int .i64 lj, .int .i64 q] _ w (((((((x1.setCell ⟨bR, 0, none⟩ (.slice A6 n1 c6)).setCell ⟨bR, 1, none⟩ (.slice A7 n c7)).setCell ⟨bR, 2, none⟩ (.int .i64 clk)).setCell ⟨bR, 3, none⟩ (.int .i64 ver)).setCell ⟨bR, 4, none⟩ (.slice A8 nb c8)).setCell ⟨bF, 0, none⟩ (.int .i64 lj)).setCell ⟨bF, 1, none⟩ (.int .i64 q)) := (hL.setR (.slice A6 n1 c6) (.slice A7 n c7) (.int .i64 clk) (.int .i64 ver) (.slice A8 nb c8)).setF (.int .i64 lj) (.int .i64 q)
                 have HE2 := Lib.hid (show StOwn (((((((x1.setCell ⟨bR, 0, none⟩ (.slice A6 n1 c6)).setCell ⟨bR, 1, none⟩ (.slice A7 n c7)).setCell ⟨bR, 2, none⟩ (.int .i64 clk)).setCell ⟨bR, 3, none⟩ (.int .i64 ver)).setCell ⟨bR, 4, none⟩ (.slice A8 nb c8)).setCell ⟨bF, 0, none⟩ (.int .i64 lj)).setCell ⟨bF, 1, none⟩ (.int .i64 q)) _ _ _ _ _ _ _ _ _ _ _ _ _ from ownF (hL.ownR hv (.slice A6 n1 c6) (.slice A7 n c7) (.int .i64 clk) (.int .i64 ver) (.slice A8 nb c8)) (.int .i64 lj) (.int .i64 q))
                 clear hL hv
                 clear u0 u1 u2 u3 u4 lu q0 q1 q2 q3 q4 lq qf0 qf1 qf2 qf3 qf4 g0 g1 gf0 gf1 lg y0 y1 lty
                 generalize ((((((x1.setCell ⟨bR, 0, none⟩ (.slice A6 n1 c6)).setCell ⟨bR, 1, none⟩ (.slice A7 n c7)).setCell ⟨bR, 2, none⟩ (.int .i64 clk)).setCell ⟨bR, 3, none⟩ (.int .i64 ver)).setCell ⟨bR, 4, none⟩ (.slice A8 nb c8)).setCell ⟨bF, 0, none⟩ (.int .i64 lj)).setCell ⟨bF, 1, none⟩ (.int .i64 q) = wf at *
                 obtain ⟨r0, r1, r2, r3, r4, hlF⟩ := blok5 hE1.r
                 have t0 := hE1.f.cell 0
                 have t1 := hE1.f.cell 1
                 have lt := hE1.f.lt
                 simp only [List.getElem?_toArray, List.getElem?_cons_zero, List.getElem?_cons_succ] at t0 t1
                 have HB9 := Lib.hid hE1.bel
                 clear hE1
                 go_wp2_with fail
                 refine bodyPost_ret (v := .tuple #[.agg #[.slice A6 n1 c6, .slice A7 n c7, .int .i64 clk, .int .i64 ver, .slice A8 nb c8], .agg #[.int .i64 lj, .int .i64 q]]) (by simp [results, Tryz.results24, go_sem, r0, r1, r2, r3, r4, hlF, t0, t1, lt]) rfl ?_
                 have e1 := HZ1.out
                 have e2 := HZ2.out
                 have e3 := HZ3.out
                 subst e1 e2 e3
                 unfold LRet
                 rw [HCK.out, HVR.out]
                 exact ⟨_, _, _, _, _, _, _, _, _, rfl, HE2.out.down (by omega), HB9.out⟩)
              | (have hE1 : LdW bS bR bF bT _ #[.slice A6 n1 c6, .slice A7 n c7, .int .i64 clk, .int .i64 ver, .slice A8 nb c8] #[.int .i64 lj, .int .i64 q] _ w (((((((x1.setCell ⟨bF, 0, none⟩ (.int .i64 lj)).setCell ⟨bF, 1, none⟩ (.int .i64 q)).setCell ⟨bR, 0, none⟩ (.slice A6 n1 c6)).setCell ⟨bR, 1, none⟩ (.slice A7 n c7)).setCell ⟨bR, 2, none⟩ (.int .i64 clk)).setCell ⟨bR, 3, none⟩ (.int .i64 ver)).setCell ⟨bR, 4, none⟩ (.slice A8 nb c8)) := (hL.setF (.int .i64 lj) (.int .i64 q)).setR (.slice A6 n1 c6) (.slice A7 n c7) (.int .i64 clk) (.int .i64 ver) (.slice A8 nb c8)
                 have HE2 := Lib.hid (show StOwn (((((((x1.setCell ⟨bF, 0, none⟩ (.int .i64 lj)).setCell ⟨bF, 1, none⟩ (.int .i64 q)).setCell ⟨bR, 0, none⟩ (.slice A6 n1 c6)).setCell ⟨bR, 1, none⟩ (.slice A7 n c7)).setCell ⟨bR, 2, none⟩ (.int .i64 clk)).setCell ⟨bR, 3, none⟩ (.int .i64 ver)).setCell ⟨bR, 4, none⟩ (.slice A8 nb c8)) _ _ _ _ _ _ _ _ _ _ _ _ _ from (hL.setF (.int .i64 lj) (.int .i64 q)).ownR (ownF hv (.int .i64 lj) (.int .i64 q)) (.slice A6 n1 c6) (.slice A7 n c7) (.int .i64 clk) (.int .i64 ver) (.slice A8 nb c8))
                 clear hL hv
                 clear u0 u1 u2 u3 u4 lu q0 q1 q2 q3 q4 lq qf0 qf1 qf2 qf3 qf4 g0 g1 gf0 gf1 lg y0 y1 lty
                 generalize ((((((x1.setCell ⟨bF, 0, none⟩ (.int .i64 lj)).setCell ⟨bF, 1, none⟩ (.int .i64 q)).setCell ⟨bR, 0, none⟩ (.slice A6 n1 c6)).setCell ⟨bR, 1, none⟩ (.slice A7 n c7)).setCell ⟨bR, 2, none⟩ (.int .i64 clk)).setCell ⟨bR, 3, none⟩ (.int .i64 ver)).setCell ⟨bR, 4, none⟩ (.slice A8 nb c8) = wf at *
                 obtain ⟨r0, r1, r2, r3, r4, hlF⟩ := blok5 hE1.r
                 have t0 := hE1.f.cell 0
                 have t1 := hE1.f.cell 1
                 have lt := hE1.f.lt
                 simp only [List.getElem?_toArray, List.getElem?_cons_zero, List.getElem?_cons_succ] at t0 t1
                 have HB9 := Lib.hid hE1.bel
                 clear hE1
                 go_wp2_with fail
                 refine bodyPost_ret (v := .tuple #[.agg #[.slice A6 n1 c6, .slice A7 n c7, .int .i64 clk, .int .i64 ver, .slice A8 nb c8], .agg #[.int .i64 lj, .int .i64 q]]) (by simp [results, Tryz.results24, go_sem, r0, r1, r2, r3, r4, hlF, t0, t1, lt]) rfl ?_
                 have e1 := HZ1.out
                 have e2 := HZ2.out
                 have e3 := HZ3.out
                 subst e1 e2 e3
                 unfold LRet
                 rw [HCK.out, HVR.out]
                 exact ⟨_, _, _, _, _, _, _, _, _, rfl, HE2.out.down (by omega), HB9.out⟩)
              | (have hE1 : LdW bS bR bF bT _ #[.slice A6 n1 c6, .slice A7 n c7, .int .i64 clk, .int .i64 ver, .slice A8 nb c8] #[.int .i64 lj, .int .i64 q] _ w (((((x1.setCell ⟨bR, 0, none⟩ (.slice A6 n1 c6)).setCell ⟨bR, 1, none⟩ (.slice A7 n c7)).setCell ⟨bR, 2, none⟩ (.int .i64 clk)).setCell ⟨bR, 3, none⟩ (.int .i64 ver)).setCell ⟨bR, 4, none⟩ (.slice A8 nb c8)) := hL.setR (.slice A6 n1 c6) (.slice A7 n c7) (.int .i64 clk) (.int .i64 ver) (.slice A8 nb c8)
                 have HE2 := Lib.hid (show StOwn (((((x1.setCell ⟨bR, 0, none⟩ (.slice A6 n1 c6)).setCell ⟨bR, 1, none⟩ (.slice A7 n c7)).setCell ⟨bR, 2, none⟩ (.int .i64 clk)).setCell ⟨bR, 3, none⟩ (.int .i64 ver)).setCell ⟨bR, 4, none⟩ (.slice A8 nb c8)) _ _ _ _ _ _ _ _ _ _ _ _ _ from hL.ownR hv (.slice A6 n1 c6) (.slice A7 n c7) (.int .i64 clk) (.int .i64 ver) (.slice A8 nb c8))
                 clear hL hv
                 clear u0 u1 u2 u3 u4 lu q0 q1 q2 q3 q4 lq qf0 qf1 qf2 qf3 qf4 g0 g1 gf0 gf1 lg y0 y1 lty
                 generalize ((((x1.setCell ⟨bR, 0, none⟩ (.slice A6 n1 c6)).setCell ⟨bR, 1, none⟩ (.slice A7 n c7)).setCell ⟨bR, 2, none⟩ (.int .i64 clk)).setCell ⟨bR, 3, none⟩ (.int .i64 ver)).setCell ⟨bR, 4, none⟩ (.slice A8 nb c8) = wf at *
                 obtain ⟨r0, r1, r2, r3, r4, hlF⟩ := blok5 hE1.r
                 have t0 := hE1.f.cell 0
                 have t1 := hE1.f.cell 1
                 have lt := hE1.f.lt
                 simp only [List.getElem?_toArray, List.getElem?_cons_zero, List.getElem?_cons_succ] at t0 t1
                 have HB9 := Lib.hid hE1.bel
                 clear hE1
                 go_wp2_with fail
                 refine bodyPost_ret (v := .tuple #[.agg #[.slice A6 n1 c6, .slice A7 n c7, .int .i64 clk, .int .i64 ver, .slice A8 nb c8], .agg #[.int .i64 lj, .int .i64 q]]) (by simp [results, Tryz.results24, go_sem, r0, r1, r2, r3, r4, hlF, t0, t1, lt]) rfl ?_
                 have e1 := HZ1.out
                 have e2 := HZ2.out
                 have e3 := HZ3.out
                 subst e1 e2 e3
                 unfold LRet
                 rw [HCK.out, HVR.out]
                 exact ⟨_, _, _, _, _, _, _, _, _, rfl, HE2.out.down (by omega), HB9.out⟩)
              | (have hE1 : LdW bS bR bF bT _ #[.slice A6 n1 c6, .slice A7 n c7, .int .i64 clk, .int .i64 ver, .slice A8 nb c8] #[.int .i64 lj, .int .i64 q] _ w ((x1.setCell ⟨bF, 0, none⟩ (.int .i64 lj)).setCell ⟨bF, 1, none⟩ (.int .i64 q)) := hL.setF (.int .i64 lj) (.int .i64 q)
                 have HE2 := Lib.hid (show StOwn ((x1.setCell ⟨bF, 0, none⟩ (.int .i64 lj)).setCell ⟨bF, 1, none⟩ (.int .i64 q)) _ _ _ _ _ _ _ _ _ _ _ _ _ from ownF hv (.int .i64 lj) (.int .i64 q))
                 clear hL hv
                 clear u0 u1 u2 u3 u4 lu q0 q1 q2 q3 q4 lq qf0 qf1 qf2 qf3 qf4 g0 g1 gf0 gf1 lg y0 y1 lty
                 generalize (x1.setCell ⟨bF, 0, none⟩ (.int .i64 lj)).setCell ⟨bF, 1, none⟩ (.int .i64 q) = wf at *
                 obtain ⟨r0, r1, r2, r3, r4, hlF⟩ := blok5 hE1.r
                 have t0 := hE1.f.cell 0
                 have t1 := hE1.f.cell 1
                 have lt := hE1.f.lt
                 simp only [List.getElem?_toArray, List.getElem?_cons_zero, List.getElem?_cons_succ] at t0 t1
                 have HB9 := Lib.hid hE1.bel
                 clear hE1
                 go_wp2_with fail
                 refine bodyPost_ret (v := .tuple #[.agg #[.slice A6 n1 c6, .slice A7 n c7, .int .i64 clk, .int .i64 ver, .slice A8 nb c8], .agg #[.int .i64 lj, .int .i64 q]]) (by simp [results, Tryz.results24, go_sem, r0, r1, r2, r3, r4, hlF, t0, t1, lt]) rfl ?_
                 have e1 := HZ1.out
                 have e2 := HZ2.out
                 have e3 := HZ3.out
                 subst e1 e2 e3
                 unfold LRet
                 rw [HCK.out, HVR.out]
                 exact ⟨_, _, _, _, _, _, _, _, _, rfl, HE2.out.down (by omega), HB9.out⟩)
      · obtain rfl : j = m := by omega
        have hld := HLD.out
        rw [loadD_end (by rw [HM.out]; exact Nat.le_refl _)] at hld
        injection hld with hz1 hz2
        injection hz2 with hz2 hz3
        have HZ1 := Lib.hid hz1
        have HZ2 := Lib.hid hz2
        have HZ3 := Lib.hid hz3
        have hL := HL.out
        have hv := HV.out
        obtain ⟨n0, n1_, n2_, n3_, n4_, lt_n⟩ := blok5 HN.out
        obtain ⟨p0, p1, p2, p3, p4, lt_p⟩ := blok5 hL.s
        obtain ⟨q0, q1, q2, q3, q4, lq⟩ := blok5 hL.r
        obtain ⟨qf0, qf1, qf2, qf3, qf4⟩ := free5 hL.r
        have g0 := hL.f.cell 0
        have g1 := hL.f.cell 1
        have y0 := hL.t.cell 0
        have y1 := hL.t.cell 1
        have gf0 := hL.f.free 0
        have gf1 := hL.f.free 1
        have lg := hL.f.lt
        have lty := hL.t.lt
        simp only [List.getElem?_toArray, List.getElem?_cons_zero, List.getElem?_cons_succ] at g0 g1 y0 y1
        clear hz1 hz2 hz3 HL HN HV HOD HLD
        go_wp2
        first
          | (have hE1 : LdW bS bR bF bT _ #[.slice B1 k1 d1, .slice B2 k2 d2, .int .i64 x.p.clk, .int .i64 x.p.ver, .slice Bb kb db] #[.int .i64 0, .int .i64 0] _ w (((((((wr.setCell ⟨bR, 0, none⟩ (.slice B1 k1 d1)).setCell ⟨bR, 1, none⟩ (.slice B2 k2 d2)).setCell ⟨bR, 2, none⟩ (.int .i64 x.p.clk)).setCell ⟨bR, 3, none⟩ (.int .i64 x.p.ver)).setCell ⟨bR, 4, none⟩ (.slice Bb kb db)).setCell ⟨bF, 0, none⟩ (.int .i64 0)).setCell ⟨bF, 1, none⟩ (.int .i64 0)) := (hL.setR (.slice B1 k1 d1) (.slice B2 k2 d2) (.int .i64 x.p.clk) (.int .i64 x.p.ver) (.slice Bb kb db)).setF (.int .i64 0) (.int .i64 0)
             have HE2 := Lib.hid (show StOwn (((((((wr.setCell ⟨bR, 0, none⟩ (.slice B1 k1 d1)).setCell ⟨bR, 1, none⟩ (.slice B2 k2 d2)).setCell ⟨bR, 2, none⟩ (.int .i64 x.p.clk)).setCell ⟨bR, 3, none⟩ (.int .i64 x.p.ver)).setCell ⟨bR, 4, none⟩ (.slice Bb kb db)).setCell ⟨bF, 0, none⟩ (.int .i64 0)).setCell ⟨bF, 1, none⟩ (.int .i64 0)) _ _ _ _ _ _ _ _ _ _ _ _ _ from ownF (hL.ownR hv (.slice B1 k1 d1) (.slice B2 k2 d2) (.int .i64 x.p.clk) (.int .i64 x.p.ver) (.slice Bb kb db)) (.int .i64 0) (.int .i64 0))
             clear hL hv
             clear n0 n1_ n2_ n3_ n4_ lt_n p0 p1 p2 p3 p4 lt_p q0 q1 q2 q3 q4 lq qf0 qf1 qf2 qf3 qf4 g0 g1 gf0 gf1 lg y0 y1 lty
             generalize ((((((wr.setCell ⟨bR, 0, none⟩ (.slice B1 k1 d1)).setCell ⟨bR, 1, none⟩ (.slice B2 k2 d2)).setCell ⟨bR, 2, none⟩ (.int .i64 x.p.clk)).setCell ⟨bR, 3, none⟩ (.int .i64 x.p.ver)).setCell ⟨bR, 4, none⟩ (.slice Bb kb db)).setCell ⟨bF, 0, none⟩ (.int .i64 0)).setCell ⟨bF, 1, none⟩ (.int .i64 0) = wf at *
             obtain ⟨r0, r1, r2, r3, r4, hlF⟩ := blok5 hE1.r
             have t0 := hE1.f.cell 0
             have t1 := hE1.f.cell 1
             have lt := hE1.f.lt
             simp only [List.getElem?_toArray, List.getElem?_cons_zero, List.getElem?_cons_succ] at t0 t1
             have HB9 := Lib.hid hE1.bel
             clear hE1
             go_wp2_with fail
             refine bodyPost_ret (v := .tuple #[.agg #[.slice B1 k1 d1, .slice B2 k2 d2, .int .i64 x.p.clk, .int .i64 x.p.ver, .slice Bb kb db], .agg #[.int .i64 0, .int .i64 0]]) (by simp [results, Tryz.results24, go_sem, r0, r1, r2, r3, r4, hlF, t0, t1, lt]) rfl ?_
             have e1 := HZ1.out
             have e2 := HZ2.out
             have e3 := HZ3.out
             subst e1 e2 e3
             unfold LRet
             exact ⟨_, _, _, _, _, _, _, _, _, rfl, HE2.out.down (by omega), HB9.out⟩)
  · have hNE : ∀ w9 : World, (binOp .neq 45 (.agg #[.int .i64 ln0, .int .i64 cd0]) (.agg #[.int .i64 0, .int .i64 0])).run Tryz.prog w9 = .ok (.bool true) w9 := fun w9 => by have h := neqFt ln0 cd0 0 0 w9; simpa [hc0] using h
    have hz := HZ.out
    rw [if_neg hc0] at hz
    injection hz with hz1 hz2
    injection hz2 with hz2 hz3
    have HZ1 := Lib.hid hz1
    have HZ2 := Lib.hid hz2
    have HZ3 := Lib.hid hz3
    clear hz1 hz2 hz3 hown2
    try simp only [List.append]
    go_upto_region 3 with fail
    obtain ⟨p0, p1, p2, p3, p4, lt_p⟩ := blok5 hL.s
    obtain ⟨q0, q1, q2, q3, q4, lq⟩ := blok5 hL.r
    obtain ⟨qf0, qf1, qf2, qf3, qf4⟩ := free5 hL.r
    have g0 := hL.f.cell 0
    have g1 := hL.f.cell 1
    have y0 := hL.t.cell 0
    have y1 := hL.t.cell 1
    have gf0 := hL.f.free 0
    have gf1 := hL.f.free 1
    have lg := hL.f.lt
    have lty := hL.t.lt
    simp only [List.getElem?_toArray, List.getElem?_cons_zero, List.getElem?_cons_succ] at g0 g1 y0 y1
    go_region_law (first
      | (refine step_call rfl 61 #[.tmp 20] _ rfl #[.agg #[.slice A1 n1 c1, .slice A n c, .int .i64 clk, .int .i64 ver, .slice Ab nb cb]] (by simp [Act.eval, Act.put]) Tryz.func61 rfl rfl ?_; refine Calls.mono (HCL.out _ _ _ (by first | exact hL | exact hL.drew | exact hL.setF _ _ | exact (hL.setF _ _).drew)) ?_; rintro e x1 ⟨A6, c6, A7, c7, A8, c8, rfl, hv, hL1, hbx⟩; clear hbx; refine ⟨_, rfl, ?_⟩; replace hL := hL1; clear hL1; obtain ⟨u0, u1, u2, u3, u4, lu⟩ := blok5 hL.s; obtain ⟨q0, q1, q2, q3, q4, lq⟩ := blok5 hL.r; obtain ⟨qf0, qf1, qf2, qf3, qf4⟩ := free5 hL.r; have g0 := hL.f.cell 0; have g1 := hL.f.cell 1; have gf0 := hL.f.free 0; have gf1 := hL.f.free 1; have lg := hL.f.lt; have y0 := hL.t.cell 0; have y1 := hL.t.cell 1; have lty := hL.t.lt; simp only [List.getElem?_toArray, List.getElem?_cons_zero, List.getElem?_cons_succ] at g0 g1 y0 y1))
    all_goals
      first
        | (have hE1 : LdW bS bR bF bT _ #[.slice A6 n1 c6, .slice A7 n c7, .int .i64 clk, .int .i64 ver, .slice A8 nb c8] #[.int .i64 ln0, .int .i64 cd0] _ w (((((((x1.setCell ⟨bR, 0, none⟩ (.slice A6 n1 c6)).setCell ⟨bR, 1, none⟩ (.slice A7 n c7)).setCell ⟨bR, 2, none⟩ (.int .i64 clk)).setCell ⟨bR, 3, none⟩ (.int .i64 ver)).setCell ⟨bR, 4, none⟩ (.slice A8 nb c8)).setCell ⟨bF, 0, none⟩ (.int .i64 ln0)).setCell ⟨bF, 1, none⟩ (.int .i64 cd0)) := (hL.setR (.slice A6 n1 c6) (.slice A7 n c7) (.int .i64 clk) (.int .i64 ver) (.slice A8 nb c8)).setF (.int .i64 ln0) (.int .i64 cd0)
           have HE2 := Lib.hid (show StOwn (((((((x1.setCell ⟨bR, 0, none⟩ (.slice A6 n1 c6)).setCell ⟨bR, 1, none⟩ (.slice A7 n c7)).setCell ⟨bR, 2, none⟩ (.int .i64 clk)).setCell ⟨bR, 3, none⟩ (.int .i64 ver)).setCell ⟨bR, 4, none⟩ (.slice A8 nb c8)).setCell ⟨bF, 0, none⟩ (.int .i64 ln0)).setCell ⟨bF, 1, none⟩ (.int .i64 cd0)) _ _ _ _ _ _ _ _ _ _ _ _ _ from ownF (hL.ownR hv (.slice A6 n1 c6) (.slice A7 n c7) (.int .i64 clk) (.int .i64 ver) (.slice A8 nb c8)) (.int .i64 ln0) (.int .i64 cd0))
           clear hL hv
           clear u0 u1 u2 u3 u4 lu q0 q1 q2 q3 q4 lq qf0 qf1 qf2 qf3 qf4 g0 g1 gf0 gf1 lg y0 y1 lty
           generalize ((((((x1.setCell ⟨bR, 0, none⟩ (.slice A6 n1 c6)).setCell ⟨bR, 1, none⟩ (.slice A7 n c7)).setCell ⟨bR, 2, none⟩ (.int .i64 clk)).setCell ⟨bR, 3, none⟩ (.int .i64 ver)).setCell ⟨bR, 4, none⟩ (.slice A8 nb c8)).setCell ⟨bF, 0, none⟩ (.int .i64 ln0)).setCell ⟨bF, 1, none⟩ (.int .i64 cd0) = wf at *
           obtain ⟨r0, r1, r2, r3, r4, hlF⟩ := blok5 hE1.r
           have t0 := hE1.f.cell 0
           have t1 := hE1.f.cell 1
           have lt := hE1.f.lt
           simp only [List.getElem?_toArray, List.getElem?_cons_zero, List.getElem?_cons_succ] at t0 t1
           have HB9 := Lib.hid hE1.bel
           clear hE1
           go_wp2_with fail
           refine bodyPost_ret (v := .tuple #[.agg #[.slice A6 n1 c6, .slice A7 n c7, .int .i64 clk, .int .i64 ver, .slice A8 nb c8], .agg #[.int .i64 ln0, .int .i64 cd0]]) (by simp [results, Tryz.results24, go_sem, r0, r1, r2, r3, r4, hlF, t0, t1, lt]) rfl ?_
           have e1 := HZ1.out
           have e2 := HZ2.out
           have e3 := HZ3.out
           subst e1 e2 e3
           unfold LRet
           rw [HCK.out, HVR.out]
           exact ⟨_, _, _, _, _, _, _, _, _, rfl, HE2.out.down (by omega), HB9.out⟩)
        | (have hE1 : LdW bS bR bF bT _ #[.slice A6 n1 c6, .slice A7 n c7, .int .i64 clk, .int .i64 ver, .slice A8 nb c8] #[.int .i64 ln0, .int .i64 cd0] _ w (((((((x1.setCell ⟨bF, 0, none⟩ (.int .i64 ln0)).setCell ⟨bF, 1, none⟩ (.int .i64 cd0)).setCell ⟨bR, 0, none⟩ (.slice A6 n1 c6)).setCell ⟨bR, 1, none⟩ (.slice A7 n c7)).setCell ⟨bR, 2, none⟩ (.int .i64 clk)).setCell ⟨bR, 3, none⟩ (.int .i64 ver)).setCell ⟨bR, 4, none⟩ (.slice A8 nb c8)) := (hL.setF (.int .i64 ln0) (.int .i64 cd0)).setR (.slice A6 n1 c6) (.slice A7 n c7) (.int .i64 clk) (.int .i64 ver) (.slice A8 nb c8)
           have HE2 := Lib.hid (show StOwn (((((((x1.setCell ⟨bF, 0, none⟩ (.int .i64 ln0)).setCell ⟨bF, 1, none⟩ (.int .i64 cd0)).setCell ⟨bR, 0, none⟩ (.slice A6 n1 c6)).setCell ⟨bR, 1, none⟩ (.slice A7 n c7)).setCell ⟨bR, 2, none⟩ (.int .i64 clk)).setCell ⟨bR, 3, none⟩ (.int .i64 ver)).setCell ⟨bR, 4, none⟩ (.slice A8 nb c8)) _ _ _ _ _ _ _ _ _ _ _ _ _ from (hL.setF (.int .i64 ln0) (.int .i64 cd0)).ownR (ownF hv (.int .i64 ln0) (.int .i64 cd0)) (.slice A6 n1 c6) (.slice A7 n c7) (.int .i64 clk) (.int .i64 ver) (.slice A8 nb c8))
           clear hL hv
           clear u0 u1 u2 u3 u4 lu q0 q1 q2 q3 q4 lq qf0 qf1 qf2 qf3 qf4 g0 g1 gf0 gf1 lg y0 y1 lty
           generalize ((((((x1.setCell ⟨bF, 0, none⟩ (.int .i64 ln0)).setCell ⟨bF, 1, none⟩ (.int .i64 cd0)).setCell ⟨bR, 0, none⟩ (.slice A6 n1 c6)).setCell ⟨bR, 1, none⟩ (.slice A7 n c7)).setCell ⟨bR, 2, none⟩ (.int .i64 clk)).setCell ⟨bR, 3, none⟩ (.int .i64 ver)).setCell ⟨bR, 4, none⟩ (.slice A8 nb c8) = wf at *
           obtain ⟨r0, r1, r2, r3, r4, hlF⟩ := blok5 hE1.r
           have t0 := hE1.f.cell 0
           have t1 := hE1.f.cell 1
           have lt := hE1.f.lt
           simp only [List.getElem?_toArray, List.getElem?_cons_zero, List.getElem?_cons_succ] at t0 t1
           have HB9 := Lib.hid hE1.bel
           clear hE1
           go_wp2_with fail
           refine bodyPost_ret (v := .tuple #[.agg #[.slice A6 n1 c6, .slice A7 n c7, .int .i64 clk, .int .i64 ver, .slice A8 nb c8], .agg #[.int .i64 ln0, .int .i64 cd0]]) (by simp [results, Tryz.results24, go_sem, r0, r1, r2, r3, r4, hlF, t0, t1, lt]) rfl ?_
           have e1 := HZ1.out
           have e2 := HZ2.out
           have e3 := HZ3.out
           subst e1 e2 e3
           unfold LRet
           rw [HCK.out, HVR.out]
           exact ⟨_, _, _, _, _, _, _, _, _, rfl, HE2.out.down (by omega), HB9.out⟩)
        | (have hE1 : LdW bS bR bF bT _ #[.slice A6 n1 c6, .slice A7 n c7, .int .i64 clk, .int .i64 ver, .slice A8 nb c8] #[.int .i64 ln0, .int .i64 cd0] _ w (((((x1.setCell ⟨bR, 0, none⟩ (.slice A6 n1 c6)).setCell ⟨bR, 1, none⟩ (.slice A7 n c7)).setCell ⟨bR, 2, none⟩ (.int .i64 clk)).setCell ⟨bR, 3, none⟩ (.int .i64 ver)).setCell ⟨bR, 4, none⟩ (.slice A8 nb c8)) := hL.setR (.slice A6 n1 c6) (.slice A7 n c7) (.int .i64 clk) (.int .i64 ver) (.slice A8 nb c8)
           have HE2 := Lib.hid (show StOwn (((((x1.setCell ⟨bR, 0, none⟩ (.slice A6 n1 c6)).setCell ⟨bR, 1, none⟩ (.slice A7 n c7)).setCell ⟨bR, 2, none⟩ (.int .i64 clk)).setCell ⟨bR, 3, none⟩ (.int .i64 ver)).setCell ⟨bR, 4, none⟩ (.slice A8 nb c8)) _ _ _ _ _ _ _ _ _ _ _ _ _ from hL.ownR hv (.slice A6 n1 c6) (.slice A7 n c7) (.int .i64 clk) (.int .i64 ver) (.slice A8 nb c8))
           clear hL hv
           clear u0 u1 u2 u3 u4 lu q0 q1 q2 q3 q4 lq qf0 qf1 qf2 qf3 qf4 g0 g1 gf0 gf1 lg y0 y1 lty
           generalize ((((x1.setCell ⟨bR, 0, none⟩ (.slice A6 n1 c6)).setCell ⟨bR, 1, none⟩ (.slice A7 n c7)).setCell ⟨bR, 2, none⟩ (.int .i64 clk)).setCell ⟨bR, 3, none⟩ (.int .i64 ver)).setCell ⟨bR, 4, none⟩ (.slice A8 nb c8) = wf at *
           obtain ⟨r0, r1, r2, r3, r4, hlF⟩ := blok5 hE1.r
           have t0 := hE1.f.cell 0
           have t1 := hE1.f.cell 1
           have lt := hE1.f.lt
           simp only [List.getElem?_toArray, List.getElem?_cons_zero, List.getElem?_cons_succ] at t0 t1
           have HB9 := Lib.hid hE1.bel
           clear hE1
           go_wp2_with fail
           refine bodyPost_ret (v := .tuple #[.agg #[.slice A6 n1 c6, .slice A7 n c7, .int .i64 clk, .int .i64 ver, .slice A8 nb c8], .agg #[.int .i64 ln0, .int .i64 cd0]]) (by simp [results, Tryz.results24, go_sem, r0, r1, r2, r3, r4, hlF, t0, t1, lt]) rfl ?_
           have e1 := HZ1.out
           have e2 := HZ2.out
           have e3 := HZ3.out
           subst e1 e2 e3
           unfold LRet
           rw [HCK.out, HVR.out]
           exact ⟨_, _, _, _, _, _, _, _, _, rfl, HE2.out.down (by omega), HB9.out⟩)
        | (have hE1 : LdW bS bR bF bT _ #[.slice A6 n1 c6, .slice A7 n c7, .int .i64 clk, .int .i64 ver, .slice A8 nb c8] #[.int .i64 ln0, .int .i64 cd0] _ w ((x1.setCell ⟨bF, 0, none⟩ (.int .i64 ln0)).setCell ⟨bF, 1, none⟩ (.int .i64 cd0)) := hL.setF (.int .i64 ln0) (.int .i64 cd0)
           have HE2 := Lib.hid (show StOwn ((x1.setCell ⟨bF, 0, none⟩ (.int .i64 ln0)).setCell ⟨bF, 1, none⟩ (.int .i64 cd0)) _ _ _ _ _ _ _ _ _ _ _ _ _ from ownF hv (.int .i64 ln0) (.int .i64 cd0))
           clear hL hv
           clear u0 u1 u2 u3 u4 lu q0 q1 q2 q3 q4 lq qf0 qf1 qf2 qf3 qf4 g0 g1 gf0 gf1 lg y0 y1 lty
           generalize (x1.setCell ⟨bF, 0, none⟩ (.int .i64 ln0)).setCell ⟨bF, 1, none⟩ (.int .i64 cd0) = wf at *
           obtain ⟨r0, r1, r2, r3, r4, hlF⟩ := blok5 hE1.r
           have t0 := hE1.f.cell 0
           have t1 := hE1.f.cell 1
           have lt := hE1.f.lt
           simp only [List.getElem?_toArray, List.getElem?_cons_zero, List.getElem?_cons_succ] at t0 t1
           have HB9 := Lib.hid hE1.bel
           clear hE1
           go_wp2_with fail
           refine bodyPost_ret (v := .tuple #[.agg #[.slice A6 n1 c6, .slice A7 n c7, .int .i64 clk, .int .i64 ver, .slice A8 nb c8], .agg #[.int .i64 ln0, .int .i64 cd0]]) (by simp [results, Tryz.results24, go_sem, r0, r1, r2, r3, r4, hlF, t0, t1, lt]) rfl ?_
           have e1 := HZ1.out
           have e2 := HZ2.out
           have e3 := HZ3.out
           subst e1 e2 e3
           unfold LRet
           rw [HCK.out, HVR.out]
           exact ⟨_, _, _, _, _, _, _, _, _, rfl, HE2.out.down (by omega), HB9.out⟩)
end Go.Proofs.YtjldgcebadojiaaGreatDoor
