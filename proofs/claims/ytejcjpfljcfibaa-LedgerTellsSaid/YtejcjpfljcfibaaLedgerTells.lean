/- What becomes of a ledger, act by act, and what it tells, is as the document says: LedgerTells returns true. No condition. -/
import Derived.Test.YtejcjpfljcfibaaRows
import Derived.Test.YtejcjpfljcfibaaRef09g
import Derived.Test.YtejcjpfljcfibaaTyAl
import Derived.Test.YtejcjpfljcfibaaOpenS
import Derived.Deep.CutBlock
import Derived.Deep.DeepCutAuto
namespace Go.Proofs.Ytejcjpfljcfibaa
open Go.ChangeShapes Go.WideShapes Go.ChangeAt Go.RowKit Go.Sort
set_option linter.unusedSimpArgs false
set_option linter.unusedVariables false
theorem rsame9_is (A A' : Option Addr) (n c n' c' : Nat) (d d' : List Bk) (b : Bool) (hb : decide (d = d') = b) (w : World) (hd : d.length = n) (hd' : d'.length = n') (hn : n ≤ 1000000) (h : Sl w w.heap.size 4 A n c (flatBk d)) (h' : Sl w w.heap.size 4 A' n' c' (flatBk d')) :
    Calls Try.prog 13 #[.slice A n c, .slice A' n' c'] w fun e w' => e = .returned (.bool b) ∧ Below w.heap.size w w' := by
  subst hb; exact rsame9_any A A' n c n' c' d d' w hd hd' hn h h'
theorem own_far' {w w' : World} {base : Nat} {e : TypeId} {size n : Nat} {v : Value} {xs : List Value} {row : Option Nat} (h : w.ownsRow base e size v n xs) (hg : w.grownBy w' row) (hr : ∀ q, row = some q → q < base) : w'.ownsRow base e size v n xs :=
  h.kept hg (by
    cases hq : v.ownBlock with
    | none => exact .inl rfl
    | some q => exact .inr (fun e => by have := hr q e.symm; have := (h.lt q hq).1; omega))
/-- What both answers are, behind an act. -/
def MidT (bp N : Nat) (l2 : List Bk) (s14 s16 : Value) (wx : World) : Prop :=
  ∃ (Ap : Option Addr) (np cp : Nat) (Aq : Option Addr) (cq : Nat), s14 = .slice Ap np cp ∧ s16 = .slice Aq np cq ∧ np ≤ N ∧ Hid (l2.length = np) ∧ Hid (rightB l2 = true) ∧ Hid (wx.ownsRow bp 43 4 (.slice Ap np cp) np (flatBk l2)) ∧ Hid (wx.ownsRow bp 43 4 (.slice Aq np cq) np (flatBk l2))
theorem MidT.of {bp N : Nat} {l2 : List Bk} {v v' : Value} {wx : World} (h1 : wx.ownsRow bp 43 4 v l2.length (flatBk l2)) (h2 : wx.ownsRow bp 43 4 v' l2.length (flatBk l2)) (hr : rightB l2 = true) (hN : l2.length ≤ N) : MidT bp N l2 v v' wx := by
  obtain ⟨Ap, cp, rfl⟩ := slice_of_own h1
  obtain ⟨Aq, cq, rfl⟩ := slice_of_own h2
  exact ⟨Ap, _, cp, Aq, cq, rfl, rfl, hN, rfl, hr, h1, h2⟩
theorem MidT.up {bp N : Nat} {l2 : List Bk} {v v' : Value} {wx wy : World} (h : MidT bp N l2 v v' wx) (hb : Below wx.heap.size wx wy) : MidT bp N l2 v v' wy := by
  obtain ⟨Ap, np, cp, Aq, cq, e1, e2, h1, h2, h3, h4, h5⟩ := h
  exact ⟨Ap, np, cp, Aq, cq, e1, e2, h1, h2, h3, own_below h4.out hb, own_below h5.out hb⟩
def RightT (N : Nat) (s : Value) (wx : World) : Prop :=
  ∃ (A1 : Option Addr) (m1 k1 : Nat) (q : List Bk), s = .slice A1 m1 k1 ∧ m1 ≤ N ∧ Hid (q.length = m1) ∧ Hid (rightB q = true) ∧ Hid (Sl wx wx.heap.size 4 A1 m1 k1 (flatBk q))
set_option maxHeartbeats 16000000 in
set_option maxRecDepth 100000 in
theorem ltells_walk (A : Option Addr) (n k : Nat) (d : List Bk) (A' : Option Addr) (n' c' : Nat) (t : List Al) (A2 : Option Addr) (m2 e2 : Nat) (ids : List Int) (A3 : Option Addr) (n3 e3 : Nat) (d3 : List Bk) (hd : d.length = n) (ht : t.length = n') (hi : ids.length = m2) (hd3 : d3.length = n3) (hwf : ∀ q, q < m2 → (Lit.int .i64 (ids.getD q 0)).wf = true) (w : World) (hl : Sl w w.heap.size 4 A n k (flatBk d)) (hl' : Sl w w.heap.size 9 A' n' c' (flatAl t)) (hli : Sl w w.heap.size 1 A2 m2 e2 (ids.map (Value.int .i64))) (hl3 : Sl w w.heap.size 4 A3 n3 e3 (flatBk d3)) :
    Calls Try.prog 3 #[.slice A n k, .slice A' n' c', .slice A2 m2 e2, .slice A3 n3 e3] w fun e w' => e = .returned (.bool true) ∧ Below w.heap.size w w' := by
  have hWF := Lib.hid hwf
  clear hwf
  by_cases hn : 50 < n ∨ 50 < n' ∨ 50 < m2 ∨ 50 < n3
  · have hn' : 50 < n ∨ (n ≤ 50 ∧ 50 < n') ∨ (n ≤ 50 ∧ n' ≤ 50 ∧ 50 < m2) ∨ (n ≤ 50 ∧ n' ≤ 50 ∧ m2 ≤ 50 ∧ 50 < n3) := by omega
    clear hn
    rcases hn' with hn | ⟨hn, hn2⟩ | ⟨hn, hn2, hn3⟩ | ⟨hn, hn2, hn3, hn4⟩
    all_goals
      go_enter Try.func3, Try.ntmps3
      go_wp2_with fail
      refine (small09 _).mono ?_
      rintro e w1 ⟨rfl, hB⟩
      go_wp2
      go_ret
      exact ⟨rfl, hB⟩
  · have hn1 : n ≤ 50 := by omega
    have hn2 : n' ≤ 50 := by omega
    have hn3 : m2 ≤ 50 := by omega
    have hn4 : n3 ≤ 50 := by omega
    clear hn
    have g1 : decide ((n : Int) > 50) = false := by simp; omega
    have g2 : decide ((n' : Int) > 50) = false := by simp; omega
    have g3 : decide ((m2 : Int) > 50) = false := by simp; omega
    have g4 : decide ((n3 : Int) > 50) = false := by simp; omega
    obtain ⟨rb, hrb⟩ : ∃ b, rightB d = b := ⟨_, rfl⟩
    obtain ⟨sb, hsb⟩ : ∃ b, decide (d = d3) = b := ⟨_, rfl⟩
    have x1 : (rb != rb) = false := by cases rb <;> rfl
    have x2 : (sb != sb) = false := by cases sb <;> rfl
    have HD := Lib.hid hd
    have HT := Lib.hid ht
    have HI := Lib.hid hi
    have HD3 := Lib.hid hd3
    have HRB := Lib.hid hrb
    have HSB := Lib.hid hsb
    clear hd ht hi hd3 hrb hsb
    go_enter Try.func3, Try.ntmps3
    go_wp2_with fail
    refine (small09 _).mono ?_
    rintro e w1 ⟨rfl, hB⟩
    replace hl := hl.below hB
    replace hl' := hl'.below hB
    replace hli := hli.below hB
    replace hl3 := hl3.below hB
    have hs := hB.size
    go_wp2_with fail
    refine (right_any A n k d w1 HD.out (by omega) (hl.more hs)).mono ?_
    rw [HRB.out]
    rintro e w2 ⟨rfl, hb⟩
    replace hl := hl.below (hb.mono hs)
    replace hl' := hl'.below (hb.mono hs)
    replace hli := hli.below (hb.mono hs)
    replace hl3 := hl3.below (hb.mono hs)
    replace hB := hB.trans (hb.mono hs)
    replace hs := hB.size
    clear hb
    go_wp2_with fail
    refine (rright_any A n k d w2 HD.out (by omega) (hl.more hs)).mono ?_
    rw [HRB.out]
    rintro e w3 ⟨rfl, hb⟩
    replace hl := hl.below (hb.mono hs)
    replace hl' := hl'.below (hb.mono hs)
    replace hli := hli.below (hb.mono hs)
    replace hl3 := hl3.below (hb.mono hs)
    replace hB := hB.trans (hb.mono hs)
    replace hs := hB.size
    clear hb
    go_wp2_with fail
    refine (same_any A A3 n k n3 e3 d d3 w3 HD.out HD3.out (by omega) (by omega) (hl.more hs) (hl3.more hs)).mono ?_
    rw [HSB.out]
    rintro e w4 ⟨rfl, hb⟩
    replace hl := hl.below (hb.mono hs)
    replace hl' := hl'.below (hb.mono hs)
    replace hli := hli.below (hb.mono hs)
    replace hl3 := hl3.below (hb.mono hs)
    replace hB := hB.trans (hb.mono hs)
    replace hs := hB.size
    clear hb
    go_wp2_with fail
    refine (rsame9_any A A3 n k n3 e3 d d3 w4 HD.out HD3.out (by omega) (hl.more hs) (hl3.more hs)).mono ?_
    rw [HSB.out]
    rintro e w5 ⟨rfl, hb⟩
    replace hl := hl.below (hb.mono hs)
    replace hl' := hl'.below (hb.mono hs)
    replace hli := hli.below (hb.mono hs)
    replace hl3 := hl3.below (hb.mono hs)
    replace hB := hB.trans (hb.mono hs)
    replace hs := hB.size
    clear hb
    go_wp2_with fail
    refine (rright_any A n k d w5 HD.out (by omega) (hl.more hs)).mono ?_
    rw [HRB.out]
    rintro e w6 ⟨rfl, hb⟩
    replace hl := hl.below (hb.mono hs)
    replace hl' := hl'.below (hb.mono hs)
    replace hli := hli.below (hb.mono hs)
    replace hl3 := hl3.below (hb.mono hs)
    replace hB := hB.trans (hb.mono hs)
    replace hs := hB.size
    clear hb
    cases rb
    · go_wp2_with fail
      go_ret
      exact ⟨rfl, hB⟩
    · have HL := Lib.hid hl
      have HL' := Lib.hid hl'
      have HLI := Lib.hid hli
      have HB := Lib.hid hB
      clear hl hl' hli hl3 g1 g2 g3 g4 x1 x2
      go_wp2
      go_loopw [10, 11] (fun lv iv wr => ∃ (i : Nat), RightT (50 + i) lv wr ∧ iv = .int .i64 i ∧ i ≤ n' ∧ Below w.heap.size w wr ∧ Hid (Sl wr w.heap.size 9 A' n' c' (flatAl t)) ∧ Hid (Sl wr w.heap.size 1 A2 m2 e2 (ids.map (Value.int .i64)))) (fun _ iv _ => n' - (intOf iv).toNat)
      case atStart => exact ⟨0, ⟨A, n, k, d, rfl, by omega, HD, HRB, HL.out.more hs⟩, rfl, by omega, HB.out, HL'.out, HLI.out⟩
      case round =>
        clear HD HRB HL HL' HLI HB hB hs hn1 HSB HD3 hn4
        obtain ⟨i, ⟨A, m, kk, d, rfl, hm, HD, HR, HL⟩, rfl, hi, hB, HL', HLI⟩ := hrel
        have hs := hB.size
        by_cases hin : i < n'
        · obtain ⟨ad, rfl, hab, c0, c1, c2, c3, c4, c5, c6, c7, c8⟩ := HL'.out.lst.atAl HT.out hin
          obtain ⟨y, hy⟩ : ∃ y, gAl t i = y := ⟨_, rfl⟩
          rw [hy] at c0 c1 c2 c3 c4 c5 c6 c7 c8
          obtain ⟨y0, y1, y2, y3, y4, y5, y6, y7, y8⟩ := y
          simp only at c0 c1 c2 c3 c4 c5 c6 c7 c8
          clear hy
          have hX := Blok.new wr 31 #[.int .i64 y0, .int .i64 y1, .int .i64 y2, .int .i64 y3, .int .i64 y4, .int .i64 y5, .int .i64 y6, .int .i64 y7, .int .i64 y8]
          have hb : Below wr.heap.size wr (wr.alloc (.cells #[.int .i64 y0, .int .i64 y1, .int .i64 y2, .int .i64 y3, .int .i64 y4, .int .i64 y5, .int .i64 y6, .int .i64 y7, .int .i64 y8] 31)) := by (repeat (first | exact Below.refl _ _ | refine Below.alloc ?_ (by first | omega | (simp; done) | (simp; omega)) _ | refine Below.setCell ?_ (by first | omega | (simp; done) | (simp; omega)) _ | refine Below.drew ?_))
          go_upto_region 13 with fail
          generalize wr.alloc (.cells #[.int .i64 y0, .int .i64 y1, .int .i64 y2, .int .i64 y3, .int .i64 y4, .int .i64 y5, .int .i64 y6, .int .i64 y7, .int .i64 y8] 31) = w3 at *
          have hl := HL.out.up hb
          replace HL' := HL'.out.below (hb.mono hs)
          replace HLI := HLI.out.below (hb.mono hs)
          replace hB := hB.trans (hb.mono hs)
          replace hs := hB.size
          clear hb c0 c1 c2 c3 c4 c5 c6 c7 c8 HL
          generalize wr.heap.size = bx at *
          obtain ⟨bp, hbp⟩ : ∃ q, w3.heap.size = q := ⟨_, rfl⟩
          have hwb : w.heap.size ≤ bp := by rw [← hbp]; exact hs
          have HM := Lib.hid hm
          obtain ⟨b, hb0⟩ : ∃ b, relB d y1 y7 y8 = b := ⟨_, rfl⟩
          obtain ⟨l1, hl1⟩ : ∃ l, relL d y1 y7 y8 = l := ⟨_, rfl⟩
          have hr1 : rightB l1 = true := by rw [← hl1]; exact rel_right HR.out
          have hn1 : l1.length ≤ m + 1 := by rw [← hl1]; have := relL_len d y1 y7 y8; rw [HD.out] at this; exact this
          have HB0 := Lib.hid hb0
          have HL1 := Lib.hid hl1
          have HR1 := Lib.hid hr1
          clear hb0 hl1 hr1
          go_wp2_with fail
          refine (rcopy_any A m kk d w3 HD.out (by omega) hl).mono ?_
          rintro e w4 ⟨vw, rfl, hvw, hb⟩
          rw [hbp] at hvw
          replace hl := hl.up hb
          replace HL' := HL'.below (hb.mono hs)
          replace HLI := HLI.below (hb.mono hs)
          replace hX := hX.below hb hX.lt
          replace hB := hB.trans (hb.mono hs)
          replace hs := hB.size
          have hz4 := hb.size
          clear hb
          obtain ⟨Aw, cw, rfl⟩ := slice_of_own hvw
          have k1 : w4.cell? ⟨bx, 1, none⟩ = some (.int .i64 y1) := hX.cell 1
          have k7 : w4.cell? ⟨bx, 7, none⟩ = some (.int .i64 y7) := hX.cell 7
          have k8 : w4.cell? ⟨bx, 8, none⟩ = some (.int .i64 y8) := hX.cell 8
          have lt_x := hX.lt
          go_wp2_with fail
          refine (rel_any A m kk d y1 y7 y8 w4 HD.out (by omega) hl HR.out b HB0.out l1 HL1.out).mono ?_
          rintro e w5 ⟨v5, rfl, hv5, hb⟩
          replace hvw := own_below hvw hb
          replace hl := hl.up hb
          replace HL' := HL'.below (hb.mono hs)
          replace HLI := HLI.below (hb.mono hs)
          replace hX := hX.below hb hX.lt
          replace hB := hB.trans (hb.mono hs)
          replace hs := hB.size
          have hz5 := hb.size
          clear hb k1 k7 k8 lt_x
          have k1 : w5.cell? ⟨bx, 1, none⟩ = some (.int .i64 y1) := hX.cell 1
          have k7 : w5.cell? ⟨bx, 7, none⟩ = some (.int .i64 y7) := hX.cell 7
          have k8 : w5.cell? ⟨bx, 8, none⟩ = some (.int .i64 y8) := hX.cell 8
          have lt_x := hX.lt
          go_wp2_with fail
          refine (rrel_any A m kk d y1 y7 y8 w5 HD.out (by omega) hl HR.out b HB0.out l1 HL1.out).mono ?_
          rintro e w6 ⟨v6, rfl, hv6, hb⟩
          have hMT : MidT bp (m + 1) l1 v5 v6 w6 := MidT.of (ownB (own_below hv5 hb) (by omega)) (ownB hv6 (by omega)) HR1.out hn1
          replace hvw := own_below hvw hb
          replace hl := hl.up hb
          replace HL' := HL'.below (hb.mono hs)
          replace HLI := HLI.below (hb.mono hs)
          replace hX := hX.below hb hX.lt
          replace hB := hB.trans (hb.mono hs)
          replace hs := hB.size
          have hz6 := hb.size
          have hbw6 : bp ≤ w6.heap.size := by omega
          clear hb k1 k7 k8 lt_x hv5 hv6 hz4 hz5 hz6
          have HMT := Lib.hid hMT
          clear hMT
          have k0 : w6.cell? ⟨bx, 0, none⟩ = some (.int .i64 y0) := hX.cell 0
          have lt_x := hX.lt
          go_upto_if 96 with fail
          clear k0 lt_x
          go_cut [14, 15, 16, 17] (fun s14 s15 s16 s17 wx => ∃ (l2 : List Bk) (b2 : Bool), s15 = .bool b2 ∧ s17 = .bool b2 ∧ MidT bp (m + 1) l2 s14 s16 wx ∧ Below w6.heap.size w6 wx)
          case first =>
            by_cases h1 : y0 = 1
            · have hq : (y0 == 1) = true := by simp [h1]
              clear h1
              have k1 : w6.cell? ⟨bx, 1, none⟩ = some (.int .i64 y1) := hX.cell 1
              have k2 : w6.cell? ⟨bx, 2, none⟩ = some (.int .i64 y2) := hX.cell 2
              have k3 : w6.cell? ⟨bx, 3, none⟩ = some (.int .i64 y3) := hX.cell 3
              have k4 : w6.cell? ⟨bx, 4, none⟩ = some (.int .i64 y4) := hX.cell 4
              have k5 : w6.cell? ⟨bx, 5, none⟩ = some (.int .i64 y5) := hX.cell 5
              have k6 : w6.cell? ⟨bx, 6, none⟩ = some (.int .i64 y6) := hX.cell 6
              have k7 : w6.cell? ⟨bx, 7, none⟩ = some (.int .i64 y7) := hX.cell 7
              have k8 : w6.cell? ⟨bx, 8, none⟩ = some (.int .i64 y8) := hX.cell 8
              have lt_x := hX.lt
              obtain ⟨b2, hb0⟩ : ∃ b, bookB d (⟨y1, y2, y3, y4, y5, y6⟩ : Ct) y7 y8 = b := ⟨_, rfl⟩
              obtain ⟨l2, hl2⟩ : ∃ l, bookL d (⟨y1, y2, y3, y4, y5, y6⟩ : Ct) y7 y8 = l := ⟨_, rfl⟩
              have hr2 : rightB l2 = true := by rw [← hl2]; exact book_right HR.out
              have hn5 : l2.length ≤ m + 1 := by rw [← hl2]; have := bookL_len d (⟨y1, y2, y3, y4, y5, y6⟩ : Ct) y7 y8; rw [HD.out] at this; exact this
              have HB2 := Lib.hid hb0
              have HL2 := Lib.hid hl2
              clear hb0 hl2
              go_wp2_with fail
              refine (book_any A m kk d (⟨y1, y2, y3, y4, y5, y6⟩ : Ct) y7 y8 w6 HD.out (by omega) hl HR.out b2 HB2.out l2 HL2.out).mono ?_
              rintro e w7 ⟨v7, rfl, hv7, hb⟩
              have hX7 := hX.below hb hX.lt
              have hl7 := hl.up hb
              clear k1 k2 k3 k4 k5 k6 k7 k8 lt_x
              have k1 : w7.cell? ⟨bx, 1, none⟩ = some (.int .i64 y1) := hX7.cell 1
              have k2 : w7.cell? ⟨bx, 2, none⟩ = some (.int .i64 y2) := hX7.cell 2
              have k3 : w7.cell? ⟨bx, 3, none⟩ = some (.int .i64 y3) := hX7.cell 3
              have k4 : w7.cell? ⟨bx, 4, none⟩ = some (.int .i64 y4) := hX7.cell 4
              have k5 : w7.cell? ⟨bx, 5, none⟩ = some (.int .i64 y5) := hX7.cell 5
              have k6 : w7.cell? ⟨bx, 6, none⟩ = some (.int .i64 y6) := hX7.cell 6
              have k7 : w7.cell? ⟨bx, 7, none⟩ = some (.int .i64 y7) := hX7.cell 7
              have k8 : w7.cell? ⟨bx, 8, none⟩ = some (.int .i64 y8) := hX7.cell 8
              have lt_x := hX7.lt
              go_wp2_with fail
              refine (rbook_any A m kk d (⟨y1, y2, y3, y4, y5, y6⟩ : Ct) y7 y8 w7 HD.out (by omega) hl7 HR.out b2 HB2.out l2 HL2.out).mono ?_
              rintro e w8 ⟨v8, rfl, hv8, hb3⟩
              have hMT2 : MidT bp (m + 1) l2 v7 v8 w8 := MidT.of (ownB (own_below hv7 hb3) (by omega)) (ownB hv8 (by have := hb.size; omega)) hr2 hn5
              clear k1 k2 k3 k4 k5 k6 k7 k8 lt_x
              go_wp2_with fail
              go_meet
              exact ⟨l2, b2, rfl, rfl, hMT2, hb.trans (hb3.mono hb.size)⟩
            · have hq : (y0 == 1) = false := by simp [h1]
              clear h1
              go_wp2_with fail
              go_meet
              exact ⟨l1, b, rfl, rfl, HMT.out, Below.refl _ _⟩
          case rest =>
            revert wc
            intro w7 hcut
            obtain ⟨l2, b2, rfl, rfl, hMT, hb⟩ := hcut
            replace hvw := own_below hvw hb
            replace hl := hl.up hb
            replace HL' := HL'.below (hb.mono hs)
            replace HLI := HLI.below (hb.mono hs)
            replace hX := hX.below hb hX.lt
            replace hB := hB.trans (hb.mono hs)
            replace hs := hB.size
            have hbw7 : bp ≤ w7.heap.size := by have := hb.size; omega
            clear hb HMT
            have HMT := Lib.hid hMT
            clear hMT
            have k0 : w7.cell? ⟨bx, 0, none⟩ = some (.int .i64 y0) := hX.cell 0
            have lt_x := hX.lt
            go_upto_if 121 with fail
            clear k0 lt_x
            go_cut [14, 16] (fun s14 s16 wx => ∃ (l4 : List Bk), MidT bp (m + 1) l4 s14 s16 wx ∧ Below w7.heap.size w7 wx)
            case first =>
              by_cases h3 : y0 = 3
              · have hq : (y0 == 3) = true := by simp [h3]
                clear h3
                obtain ⟨l3, hl3⟩ : ∃ l, dropL d ids = l := ⟨_, rfl⟩
                have hr3 : rightB l3 = true := by rw [← hl3]; exact drop_right HR.out
                have hn3 : l3.length ≤ m + 1 := by
                  have h1 : (dropL d ids).length ≤ d.length := by unfold dropL; exact List.length_filter_le _ _
                  rw [hl3, HD.out] at h1
                  omega
                have HL3 := Lib.hid hl3
                have HD3 := Lib.hid (drop_any A m kk d A2 m2 e2 ids w7 HD.out (by omega) HI.out (by omega) hl (HLI.more hs) (right_wf HR.out) hWF.out)
                clear hl3
                go_wp2_with fail
                refine HD3.out.mono ?_
                rw [HL3.out]
                rintro e w8 ⟨v8, rfl, hv8, hb⟩
                have hl8 := hl.up hb
                have hi8 := (HLI.below (hb.mono hs)).more (Nat.le_trans hs hb.size)
                go_wp2_with fail
                refine (rdrop_any A m kk d A2 m2 e2 ids w8 HD.out (by omega) HI.out (by omega) hl8 hi8 l3 HL3.out).mono ?_
                rintro e w9 ⟨v9, rfl, hv9, hb3⟩
                have hMT2 : MidT bp (m + 1) l3 v8 v9 w9 := MidT.of (ownB (own_below hv8 hb3) (by omega)) (ownB hv9 (by have := hb.size; omega)) hr3 hn3
                go_wp2_with fail
                go_meet
                exact ⟨l3, hMT2, hb.trans (hb3.mono hb.size)⟩
              · have hq : (y0 == 3) = false := by simp [h3]
                clear h3
                go_wp2_with fail
                go_meet
                exact ⟨l2, HMT.out, Below.refl _ _⟩
            case rest =>
              revert wc
              intro w8 hcut
              obtain ⟨l4, ⟨Ap, np, cp, Aq, cq, rfl, rfl, hnp, HN4, HR4, HP, HQ⟩, hb⟩ := hcut
              replace hvw := own_below hvw hb
              replace hl := hl.up hb
              replace HL' := HL'.below (hb.mono hs)
              replace HLI := HLI.below (hb.mono hs)
              replace hX := hX.below hb hX.lt
              replace hB := hB.trans (hb.mono hs)
              replace hs := hB.size
              have hbw8 : bp ≤ w8.heap.size := by have := hb.size; omega
              clear hb HMT hbw7
              obtain ⟨z, hz⟩ : ∃ z, rowB l4 y1 = z := ⟨_, rfl⟩
              have hzk : okU z := by rw [← hz]; exact right_ok HR4.out y1
              obtain ⟨bv, hbv⟩ : ∃ q, backF z y7 = q := ⟨_, rfl⟩
              obtain ⟨rv, hrv⟩ : ∃ q, roomF (⟨y1, y2, y3, y4, y5, y6⟩ : Ct) z y7 = q := ⟨_, rfl⟩
              have x1 : (b2 != b2) = false := by cases b2 <;> rfl
              have x2 : (bv != bv) = false := by simp
              have x3 : (rv != rv) = false := by simp
              have hrun : ∀ w0, (binOp .neq 38 (.agg #[.int .i64 z.ua, .int .i64 z.ub, .int .i64 z.uc]) (.agg #[.int .i64 z.ua, .int .i64 z.ub, .int .i64 z.uc])).run Try.prog w0 = .ok (.bool false) w0 := fun w0 => by
                have := neql3 z.ua z.ub z.uc z.ua z.ub z.uc w0
                simpa using this
              have HZ := Lib.hid hz
              have HZK := Lib.hid hzk
              have HBV := Lib.hid hbv
              have HRV := Lib.hid hrv
              have HS4 := Lib.hid (right_sort HR4.out)
              have HQP : Hid (∀ dd os, Sl (grow (redrawn w8 dd) os) (grow (redrawn w8 dd) os).heap.size 4 Ap np cp (flatBk l4)) := fun dd os => Sl.of_own (own_below HP.out (below_regrown w8 dd os))
              have HQQ : Hid (∀ dd os, Sl (grow (redrawn w8 dd) os) (grow (redrawn w8 dd) os).heap.size 4 Aq np cq (flatBk l4)) := fun dd os => Sl.of_own (own_below HQ.out (below_regrown w8 dd os))
              have HQX : Hid (∀ dd os, Sl (grow (redrawn w8 dd) os) (grow (redrawn w8 dd) os).heap.size 4 A m kk (flatBk d)) := fun dd os => hl.up (below_regrown w8 dd os)
              have HQW : Hid (∀ dd os, Sl (grow (redrawn w8 dd) os) (grow (redrawn w8 dd) os).heap.size 4 Aw m cw (flatBk d)) := fun dd os => Sl.of_own (own_below hvw (below_regrown w8 dd os))
              clear hz hzk hbv hrv
              have k1 : w8.cell? ⟨bx, 1, none⟩ = some (.int .i64 y1) := hX.cell 1
              have k2 : w8.cell? ⟨bx, 2, none⟩ = some (.int .i64 y2) := hX.cell 2
              have k3 : w8.cell? ⟨bx, 3, none⟩ = some (.int .i64 y3) := hX.cell 3
              have k4 : w8.cell? ⟨bx, 4, none⟩ = some (.int .i64 y4) := hX.cell 4
              have k5 : w8.cell? ⟨bx, 5, none⟩ = some (.int .i64 y5) := hX.cell 5
              have k6 : w8.cell? ⟨bx, 6, none⟩ = some (.int .i64 y6) := hX.cell 6
              have k7 : w8.cell? ⟨bx, 7, none⟩ = some (.int .i64 y7) := hX.cell 7
              have lt_x := hX.lt
              go_wp2_with fail
              have q_k1 := fun d os => cell_regrown k1 d os
              have q_k2 := fun d os => cell_regrown k2 d os
              have q_k3 := fun d os => cell_regrown k3 d os
              have q_k4 := fun d os => cell_regrown k4 d os
              have q_k5 := fun d os => cell_regrown k5 d os
              have q_k6 := fun d os => cell_regrown k6 d os
              have q_k7 := fun d os => cell_regrown k7 d os
              try simp only [List.append]
              first | refine wp_region_text_below ?_ | refine wp_region_quiet_below (by kernel_rfl) (by kernel_rfl) ?_
              repeat (go_big_quiet_step (((first | (go_at_call 13; with_reducible exact Calls.regrown_of (rsame9_is Ap Aq np cp np cq l4 l4 true (decide_eq_true rfl) _ HN4.out HN4.out (by omega) (HQP.out _ _) (HQQ.out _ _))) | (go_at_call 13; with_reducible exact Calls.regrown_of (rsame9_is A Aw m kk m cw d d true (decide_eq_true rfl) _ HD.out HD.out (by omega) (HQX.out _ _) (HQW.out _ _))) | (go_at_call 21; with_reducible exact Calls.regrown_of (used_any Ap np cp l4 y1 _ HN4.out (by omega) (HQP.out _ _) HS4.out z HZ.out)) | (go_at_call 22; with_reducible exact Calls.regrown_of (rused_any Aq np cq l4 y1 _ HN4.out (by omega) (HQQ.out _ _) HS4.out z HZ.out)) | (go_at_call 23; with_reducible exact Calls.regrown_of (backlog_any Ap np cp l4 y1 y7 _ HN4.out (by omega) (HQP.out _ _) HS4.out z HZ.out HZK.out bv HBV.out)) | (go_at_call 24; with_reducible exact Calls.regrown_of (rbacklog_any Aq np cq l4 y1 y7 _ HN4.out (by omega) (HQQ.out _ _) HS4.out z HZ.out HZK.out bv HBV.out)) | (go_at_call 25; with_reducible exact Calls.regrown_of (room_any Ap np cp l4 (⟨y1, y2, y3, y4, y5, y6⟩ : Ct) y7 _ HN4.out (by omega) (HQP.out _ _) HS4.out z HZ.out HZK.out rv HRV.out)) | (go_at_call 26; with_reducible exact Calls.regrown_of (rroom_any Aq np cq l4 (⟨y1, y2, y3, y4, y5, y6⟩ : Ct) y7 _ HN4.out (by omega) (HQQ.out _ _) HS4.out z HZ.out HZK.out rv HRV.out))))))
              refine wpQuiet_nil ?_
              intro _ hqw
              obtain ⟨pq, hqw⟩ := hqw
              subst hqw
              clear q_k1 q_k2 q_k3 q_k4 q_k5 q_k6 q_k7
              have hb := below_regrown w8 pq.d pq.os
              have HP9 := Lib.hid (own_below HP.out hb)
              replace HL' := HL'.below (hb.mono hs)
              replace HLI := HLI.below (hb.mono hs)
              replace hB := hB.trans (hb.mono hs)
              replace hs := hB.size
              have hbw9 := Nat.le_trans hbw8 hb.size
              clear hb hl hvw hX HQP HQQ HQX HQW hrun x1 x2 x3 HP HQ hbw8 k1 k2 k3 k4 k5 k6 k7 lt_x
              generalize grow (redrawn w8 pq.d) pq.os = w9 at *
              have hPs := Sl.of_own HP9.out
              go_wp2_with fail
              refine (rcopy_any Ap np cp l4 w9 HN4.out (by omega) hPs).mono ?_
              rintro e wz ⟨v9, rfl, hv9, hb⟩
              have hpz := own_below HP9.out hb
              replace HL' := HL'.below (hb.mono hs)
              replace HLI := HLI.below (hb.mono hs)
              replace hB := hB.trans (hb.mono hs)
              replace hs := hB.size
              obtain ⟨A9, c9, rfl⟩ := slice_of_own hv9
              obtain ⟨bz, hbz⟩ : ∃ q, w9.heap.size = q := ⟨_, rfl⟩
              have hq9 : ∀ q, (Value.slice Ap np cp).ownBlock = some q → bp ≤ q ∧ q < bz := fun q hq => by
                have h1 := HP9.out.lt q hq
                rw [hbz] at h1
                exact h1
              rw [hbz] at hv9
              have HQ9 := Lib.hid hq9
              have hwbp : w.heap.size ≤ bp := hwb
              clear hb HP9 hPs hq9
              have HPZ := Lib.hid hpz
              have HV9 := Lib.hid hv9
              have HBZ := Lib.hid hB
              have HLZ := Lib.hid HL'
              have HIZ := Lib.hid HLI
              clear hpz hv9 hB HL' HLI
              have hpl : (flatBk l4).length = np * 4 := by rw [flatBk_length, HN4.out]
              have HPL := Lib.hid hpl
              clear hpl
              go_wp2
              go_loopw [18] (fun kv wx => ∃ (k : Nat) (xs : List Value), kv = .int .i64 k ∧ k ≤ np ∧ Hid (xs.length = np * 4) ∧ Hid (wx.ownsRow bp 43 4 (.slice Ap np cp) np xs) ∧ Hid (wx.ownsRow bz 43 4 (.slice A9 np c9) np (flatBk l4)) ∧ Below w.heap.size wz wx) (fun kv _ => np - (intOf kv).toNat)
              case atStart => exact ⟨0, flatBk l4, rfl, by omega, HPL, HPZ, HV9, Below.refl _ _⟩
              case round =>
                obtain ⟨q, xs, rfl, hq, HXL, HPX, HVX, hbx⟩ := hrel
                by_cases hqn : q < np
                · obtain ⟨gb, cur, hae, hgc⟩ : ∃ gb cur, Ap = some ⟨gb, 0, none⟩ ∧ Blok wr gb 43 cur := by
                    rcases HPX.out.2 with ⟨he, _⟩ | ⟨gb, cap, cur, he, _, hh, _⟩
                    · injection he with h1 h2 h3
                      omega
                    · injection he with h1 h2 h3
                      exact ⟨gb, cur, h1, hh⟩
                  subst hae
                  have hlx : q * 4 < xs.length := by rw [HXL.out]; omega
                  have hcell := (HPX.out.cellAt (q * 4) (by omega)).trans (List.getElem?_eq_getElem hlx)
                  obtain ⟨ov, hov⟩ : ∃ ov, xs[q * 4]'hlx = ov := ⟨_, rfl⟩
                  rw [hov] at hcell
                  have hfz : wr.frozen? ⟨gb, q * 4, none⟩ = false := hgc.free (q * 4)
                  obtain ⟨r0, g0⟩ := HPX.out.stored (q * 4) (.int .i64 (-7))
                  obtain ⟨hg1, hg2⟩ := HQ9.out gb rfl
                  have hvN := own_far' HVX.out g0 (fun q' hq' => by injection hq' with hq'; omega)
                  have hbN : Below w.heap.size wz (wr.setCell ⟨gb, q * 4, none⟩ (.int .i64 (-7))) := Below.setCell hbx (by show w.heap.size ≤ gb; omega) _
                  have R0 := Lib.hid r0
                  have R1 := Lib.hid hvN
                  have R2 := Lib.hid hbN
                  have hXN : Hid ((xs.set (q * 4) (.int .i64 (-7))).length = np * 4) := by show (xs.set _ _).length = _; rw [List.length_set]; exact HXL.out
                  clear r0 g0 hvN hbN hgc hov
                  go_wp2_with fail
                  go_roundw
                  case rel => exact ⟨q + 1, _, by go_num, by omega, hXN, R0, R1, R2.out⟩
                  case measure => simp [intOf]; omega
                · go_wp2_with fail
                  go_roundw
                  case rel => exact ⟨i + 1, ⟨A9, np, c9, l4, rfl, by have := HM.out; omega, HN4, HR4, Sl.of_own HVX.out⟩, by go_num, by omega, HBZ.out.trans hbx, HLZ.out.below hbx, HIZ.out.below hbx⟩
                  case measure => simp [intOf]; omega
        · have hie : i = n' := by omega
          subst hie
          go_wp2_with fail
          go_ret
          exact ⟨rfl, hB⟩
theorem wf_ints {ns : List Int} (hw : ∀ m ∈ ns, (Lit.int .i64 m).wf = true) : ∀ q, q < ns.length → (Lit.int .i64 (ns.getD q 0)).wf = true := fun q hq => by
  rw [List.getD_eq_getElem?_getD, List.getElem?_eq_getElem hq]
  exact hw _ (List.getElem_mem hq)
theorem ledgerTells_walk (A : Option Addr) (n k : Nat) (ns : List Int) (A' : Option Addr) (n' k' : Nat) (ns' : List Int) (A2 : Option Addr) (m2 e2 : Nat) (ids : List Int) (A3 : Option Addr) (n3 e3 : Nat) (ns3 : List Int) (hnl : ns.length = n * 4) (_ : ∀ m ∈ ns, (Lit.int .i64 m).wf = true) (hnl' : ns'.length = n' * 9) (_ : ∀ m ∈ ns', (Lit.int .i64 m).wf = true) (hi : ids.length = m2 * 1) (hiw : ∀ m ∈ ids, (Lit.int .i64 m).wf = true) (hnl3 : ns3.length = n3 * 4) (_ : ∀ m ∈ ns3, (Lit.int .i64 m).wf = true) (w : World) (hl : Sl w w.heap.size 4 A n k (ns.map (Value.int .i64))) (hl' : Sl w w.heap.size 9 A' n' k' (ns'.map (Value.int .i64))) (hli : Sl w w.heap.size 1 A2 m2 e2 (ids.map (Value.int .i64))) (hl3 : Sl w w.heap.size 4 A3 n3 e3 (ns3.map (Value.int .i64))) :
    Calls Try.prog 3 #[.slice A n k, .slice A' n' k', .slice A2 m2 e2, .slice A3 n3 e3] w fun e w' => e = .returned (.bool true) ∧ Below w.heap.size w w' := by
  obtain ⟨d, hd, hlf⟩ := rowsBk_of n ns hnl
  obtain ⟨t, ht, hlt⟩ := rowsAl_of n' ns' hnl'
  obtain ⟨d3, hd3, hlf3⟩ := rowsBk_of n3 ns3 hnl3
  have hi1 : ids.length = m2 := by omega
  rw [hlf] at hl
  rw [hlt] at hl'
  rw [hlf3] at hl3
  exact ltells_walk A n k d A' n' k' t A2 m2 e2 ids A3 n3 e3 d3 hd ht hi1 hd3 (fun q hq => wf_ints hiw q (by omega)) w hl hl' hli hl3
theorem ledgerTells_own : ownKnob Try.prog.godebug = none := by kernel_rfl
theorem ledgerTells_laidOut : laidOutB Try.prog = true := by kernel_rfl

set_option maxHeartbeats 1000000 in
set_option maxRecDepth 100000 in
theorem ledgerTells_lifted (os : Os) (started : os.Started) (H : Type) (enc : TypeId × Value → H) :
    ReturnsInHanded {} Try.checked os 3 .any (Rows.ledgerTellsSpec.pre6 enc Try.prog Try.f3 Rows.ledgerTellsRow.domain false) (Rows.ledgerTellsSpec.post enc Try.prog Try.f3 false true false false) := by
  refine returnsInHanded_of_change (C := Try.checked) ledgerTells_own started (by kernel_rfl) Try.func3
    (ChangeSpec.witness6 (enc := enc) (C := Try.checked) false ⟨#[], #[.slice none 0 0, .slice none 0 0, .slice none 0 0, .slice none 0 0], []⟩ 8 (by kernel_rfl) (by kernel_rfl) (by kernel_rfl) (by kernel_rfl)) ?_
  intro W base args ds gs before hval0 hW hcnd _
  have hval : ∀ (j : Nat) t v, Try.f3.params[j]? = some t → args[j]? = some v → Value.okWide Try.prog W .any base t v := hval0
  have hW' := hW
  obtain ⟨p, q, hA0, hV, rfl, hfz, hnd⟩ := hW
  have hA : DataW.TrodAll enc Try.prog W 0 (fun _ => true) true Try.f3.params.toList args.toList ds p := hA0
  rw [Try.params3] at hA hval
  obtain ⟨v0, vs0, d0, ds0, p0, q0, hargs, rfl, rfl, h0, r0⟩ := trodAll_cons hA
  obtain ⟨v1, vs1, d1, ds1, p1, q1, rfl, rfl, rfl, h1, r1⟩ := trodAll_cons r0
  obtain ⟨v2, vs2, d2, ds2, p2, q2, rfl, rfl, rfl, h2, r2⟩ := trodAll_cons r1
  obtain ⟨v3, vs3, d3, ds3, p3, q3, rfl, rfl, rfl, h3, r3⟩ := trodAll_cons r2
  obtain ⟨rfl, rfl, rfl⟩ := trodAll_nil r3
  obtain rfl : args = #[v0, v1, v2, v3] := by cases args; simp_all
  obtain ⟨rfl, rfl⟩ := trodVars_none hV
  obtain ⟨A0, n0, c0, ns0, rfl, hl0, nl0, w0⟩ := open_rowsS 4 (K := 4) Try.underlying22 (by kernel_rfl) (by kernel_rfl) (by omega) (hval 0 22 v0 rfl rfl) h0
  obtain ⟨A1, n1, c1, ns1, rfl, hl1, nl1, w1⟩ := open_rowsS 4 (K := 9) Try.underlying23 (by kernel_rfl) (by kernel_rfl) (by omega) (hval 1 23 v1 rfl rfl) h1
  obtain ⟨A2, n2, c2, ns2, rfl, hl2, nl2, w2⟩ := open_rowsS 4 (K := 1) Try.underlying24 (by kernel_rfl) (by kernel_rfl) (by omega) (hval 2 24 v2 rfl rfl) h2
  obtain ⟨A3, n3, c3, ns3, rfl, hl3, nl3, w3⟩ := open_rowsS 4 (K := 4) Try.underlying22 (by kernel_rfl) (by kernel_rfl) (by omega) (hval 3 22 v3 rfl rfl) h3
  clear hA0 hval0
  refine (ledgerTells_walk A0 n0 c0 ns0 A1 n1 c1 ns1 A2 n2 c2 ns2 A3 n3 c3 ns3 nl0 w0 nl1 w1 nl2 w2 nl3 w3 W hl0 hl1 hl2 hl3).mono fun e W' ⟨he, bel⟩ => ?_
  subst he
  exact ⟨_, rfl, law_post ledgerTells_laidOut (by kernel_rfl) rfl Try.underlying4 rfl rfl hW' bel⟩

theorem ledgerTells_proved : Rows.LedgerTellsSaid :=
  OpenClaim.holds_of_wide 3 Try.f3 rfl rfl rfl rfl rfl rfl rfl ⟨rfl, rfl, rfl, rfl, rfl⟩ rfl rfl rfl rfl rfl (by kernel_rfl) Try.func3 (by kernel_rfl)
    (of_decide_eq_true (by kernel_rfl)) (by unfold Func.isWrapper; first | (rw [if_pos (by decide +kernel)]; kernel_rfl) | (rw [if_neg (by decide +kernel)]; exact ⟨rfl, rfl⟩))
    (fun os started H enc _ => ledgerTells_lifted os started H enc)
#print axioms ledgerTells_proved
end Go.Proofs.Ytejcjpfljcfibaa
