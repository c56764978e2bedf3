/- What becomes of a table, act by act, and what is found, is as the document says: ContactsTells returns true. No condition. -/
import Derived.Test.YtojjnbpgdegjiaaRows
import Derived.Test.YtojjnbpgdegjiaaRef06f
import Derived.Test.YtojjnbpgdegjiaaContactsExpires
import Derived.Test.YtojjnbpgdegjiaaContactsAct
import Derived.Test.YtojjnbpgdegjiaaTyAc
import Derived.Test.YtojjnbpgdegjiaaOpenS
import Derived.Deep.CutBlock
import Derived.Deep.DeepCutAuto
namespace Go.Proofs.Ytojjnbpgdegjiaa
open Go.ChangeShapes Go.WideShapes Go.ChangeAt Go.RowKit Go.Sort
set_option linter.unusedSimpArgs false
set_option linter.unusedVariables false
theorem rsame6_is (A A' : Option Addr) (n c n' c' : Nat) (d d' : List Co) (b : Bool) (hb : decide (d = d') = b) (w : World) (hd : d.length = n) (hd' : d'.length = n') (hn : n ≤ 1000000) (h : Sl w w.heap.size 6 A n c (flatCo d)) (h' : Sl w w.heap.size 6 A' n' c' (flatCo d')) :
    Calls Try.prog 13 #[.slice A n c, .slice A' n' c'] w fun e w' => e = .returned (.bool b) ∧ Below w.heap.size w w' := by
  subst hb; exact rsame6_any A A' n c n' c' d d' w hd hd' hn h h'
theorem cmp_is (a b : Co) (v : Int) (hv : cmpC a b = v) (w : World) : Calls Try.prog 26 #[.agg #[.int .i64 a.id, .int .i64 a.fr, .int .i64 a.tn, .int .i64 a.st, .int .i64 a.en, .int .i64 a.rt], .agg #[.int .i64 b.id, .int .i64 b.fr, .int .i64 b.tn, .int .i64 b.st, .int .i64 b.en, .int .i64 b.rt]] w fun e w' => e = .returned (.int .i64 v) ∧ Below w.heap.size w w' := by
  subst hv; exact cmpC_any a b w
theorem pos_le {d : List Co} {r : Co} (hR : rightC d = true) {i k : Nat} (hk : k ≤ d.length) (h1 : i = d.length ∨ 0 ≤ cmpC (gCo d i) r) (h2 : k = 0 ∨ cmpC (gCo d (k - 1)) r < 0) : k ≤ i := by
  by_cases h : k ≤ i
  · exact h
  · exfalso
    rcases h2 with h2 | h2
    · omega
    rcases h1 with h1 | h1
    · omega
    by_cases e : i = k - 1
    · rw [← e] at h2; omega
    · have := ltC_trans (right_lt hR (k - 1) i (by omega) (by omega)) (cmpC_lt.1 h2)
      have := cmpC_lt.2 this
      omega
theorem ins_add {d : List Co} {r : Co} (hR : rightC d = true) (hm : mayC d r = 0) {i : Nat} (hi : i ≤ d.length) (h1 : i = 0 ∨ cmpC (gCo d (i - 1)) r < 0) (h2 : i = d.length ∨ 0 ≤ cmpC (gCo d i) r) : d.take i ++ [r] ++ d.drop i = addL d r := by
  rw [addL_yes hm]
  have a1 := pos_le hR (lastC_le d r _) h2 (lastC_at d r _)
  have a2 := pos_le hR hi (lastC_end r) h1
  have : i = lastC d r d.length := by omega
  rw [← this]; rfl
theorem addL_len {d : List Co} {r : Co} : (addL d r).length ≤ d.length + 1 := by
  unfold addL; split
  · rw [insC_length r (lastC_le d r _)]; omega
  · omega
theorem addL_right {d : List Co} {r : Co} (hR : rightC d = true) : rightC (addL d r) = true := by
  by_cases hm : mayC d r = 0
  · rw [addL_yes hm]
    exact right_ins hR hm (lastC_le d r _) (lastC_at d r _) (lastC_end r)
  · rw [addL_no hm]; exact hR
theorem add_is (A : Option Addr) (n c : Nat) (d : List Co) (r : Co) (w : World) (hd : d.length = n) (hn : n ≤ 1000000 - 1) (h : Sl w w.heap.size 6 A n c (flatCo d)) (hr : rightC d = true) (q : Int) (hq : mayC d r = q) (l : List Co) (hl : addL d r = l) :
    Calls Try.prog 15 #[.slice A n c, .agg #[.int .i64 r.id, .int .i64 r.fr, .int .i64 r.tn, .int .i64 r.st, .int .i64 r.en, .int .i64 r.rt]] w fun e w' => ∃ v, e = .returned (.tuple #[v, .int .i64 q]) ∧ w'.ownsRow w.heap.size 28 6 v l.length (flatCo l) ∧ Below w.heap.size w w' := by
  subst hq
  subst hl
  by_cases hm : mayC d r = 0
  · refine (add_yes A n c d r w hd hn h hm).mono ?_
    rintro e w' ⟨v, i, rfl, hi, h1, h2, hv, hb⟩
    have hi' : i ≤ d.length := by omega
    have he := ins_add hr hm hi' h1 (by rw [hd]; exact h2)
    rw [he] at hv
    have hlen : (addL d r).length = n + 1 := by rw [addL_yes hm, insC_length r (lastC_le d r _), hd]
    rw [hm, hlen]
    exact ⟨v, rfl, hv, hb⟩
  · refine (add_no A n c d r w _ hd (by omega) h rfl hm).mono ?_
    rintro e w' ⟨v, rfl, hv, hb⟩
    rw [addL_no hm, hd]
    exact ⟨v, rfl, hv, hb⟩
theorem chgL_len {d : List Co} {id rt : Int} : (chgL d id rt).length = d.length := by
  unfold chgL; split
  · rw [List.length_set]
  · rfl
theorem chgL_right {d : List Co} {id rt : Int} (hR : rightC d = true) : rightC (chgL d id rt) = true := by
  cases ho : inB rt 1 2147483647
  · rw [(chg_arg ho).1]; exact hR
  · cases hid : idIn d id
    · rw [(chg_none ho hid).1]; exact hR
    · obtain ⟨q, hq, hbef, hat⟩ := firstHitCo hid
      rw [(chg_hit ho hq hbef hat).1]
      exact right_set hR hq ho
theorem change_is (A : Option Addr) (n c : Nat) (d : List Co) (id rt : Int) (w : World) (hd : d.length = n) (hn : n ≤ 1000000) (h : Sl w w.heap.size 6 A n c (flatCo d)) (l : List Co) (hl : chgL d id rt = l) (q : Int) (hq : chgQ d id rt = q) :
    Calls Try.prog 19 #[.slice A n c, .int .i64 id, .int .i64 rt] w fun e w' => ∃ v, e = .returned (.tuple #[v, .int .i64 q]) ∧ w'.ownsRow w.heap.size 28 6 v n (flatCo l) ∧ Below w.heap.size w w' := by
  subst hl
  subst hq
  cases ho : inB rt 1 2147483647
  · rw [(chg_arg ho).1, (chg_arg ho).2]
    exact change_arg A n c d id rt w hd hn h ho
  · cases hid : idIn d id
    · rw [(chg_none ho hid).1, (chg_none ho hid).2]
      exact change_none A n c d id rt w hd hn h ho (fun j hj => noHitCo hid (by omega))
    · obtain ⟨q, hq, hbef, hat⟩ := firstHitCo hid
      rw [(chg_hit ho hq hbef hat).1, (chg_hit ho hq hbef hat).2]
      exact change_yes A n c d id rt w q hd hn h ho (by omega) hbef hat
theorem own_far6 {w w' : World} {base : Nat} {e : TypeId} {size n : Nat} {v : Value} {xs : List Value} {row : Option Nat} (h : w.ownsRow base e size v n xs) (hg : w.grownBy w' row) (hr : ∀ q, row = some q → q < base) : w'.ownsRow base e size v n xs :=
  h.kept hg (by
    cases hq : v.ownBlock with
    | none => exact .inl rfl
    | some q => exact .inr (fun e => by have := hr q e.symm; have := (h.lt q hq).1; omega))
/-- What both answers are, behind an act. -/
def MidT (bp N : Nat) (l2 : List Co) (s14 s16 : Value) (wx : World) : Prop :=
  ∃ (Ap : Option Addr) (np cp : Nat) (Aq : Option Addr) (cq : Nat), s14 = .slice Ap np cp ∧ s16 = .slice Aq np cq ∧ np ≤ N ∧ Hid (l2.length = np) ∧ Hid (rightC l2 = true) ∧ Hid (wx.ownsRow bp 28 6 (.slice Ap np cp) np (flatCo l2)) ∧ Hid (wx.ownsRow bp 28 6 (.slice Aq np cq) np (flatCo l2))
theorem MidT.of {bp N : Nat} {l2 : List Co} {v v' : Value} {wx : World} (h1 : wx.ownsRow bp 28 6 v l2.length (flatCo l2)) (h2 : wx.ownsRow bp 28 6 v' l2.length (flatCo l2)) (hr : rightC l2 = true) (hN : l2.length ≤ N) : MidT bp N l2 v v' wx := by
  obtain ⟨Ap, cp, rfl⟩ := slice_of_own h1
  obtain ⟨Aq, cq, rfl⟩ := slice_of_own h2
  exact ⟨Ap, _, cp, Aq, cq, rfl, rfl, hN, rfl, hr, h1, h2⟩
theorem MidT.up {bp N : Nat} {l2 : List Co} {v v' : Value} {wx wy : World} (h : MidT bp N l2 v v' wx) (hb : Below wx.heap.size wx wy) : MidT bp N l2 v v' wy := by
  obtain ⟨Ap, np, cp, Aq, cq, e1, e2, h1, h2, h3, h4, h5⟩ := h
  exact ⟨Ap, np, cp, Aq, cq, e1, e2, h1, h2, h3, own_below h4.out hb, own_below h5.out hb⟩
def RightT (N : Nat) (s : Value) (wx : World) : Prop :=
  ∃ (A1 : Option Addr) (m1 k1 : Nat) (q : List Co), s = .slice A1 m1 k1 ∧ m1 ≤ N ∧ Hid (q.length = m1) ∧ Hid (rightC q = true) ∧ Hid (Sl wx wx.heap.size 6 A1 m1 k1 (flatCo q))
set_option maxHeartbeats 16000000 in
set_option maxRecDepth 100000 in
theorem ctells_walk (A : Option Addr) (n k : Nat) (d : List Co) (A' : Option Addr) (n' c' : Nat) (t : List Ac) (A3 : Option Addr) (n3 e3 : Nat) (d3 : List Co) (hd : d.length = n) (ht : t.length = n') (hd3 : d3.length = n3) (w : World) (hl : Sl w w.heap.size 6 A n k (flatCo d)) (hl' : Sl w w.heap.size 8 A' n' c' (flatAc t)) (hl3 : Sl w w.heap.size 6 A3 n3 e3 (flatCo d3)) :
    Calls Try.prog 3 #[.slice A n k, .slice A' n' c', .slice A3 n3 e3] w fun e w' => e = .returned (.bool true) ∧ Below w.heap.size w w' := by
  by_cases hn : 50 < n ∨ 50 < n' ∨ 50 < n3
  · have hn' : 50 < n ∨ (n ≤ 50 ∧ 50 < n') ∨ (n ≤ 50 ∧ n' ≤ 50 ∧ 50 < n3) := by omega
    clear hn
    rcases hn' with hn | ⟨hn, hn2⟩ | ⟨hn, hn2, hn3⟩
    all_goals
      go_enter Try.func3, Try.ntmps3
      go_wp2_with fail
      refine (small06 _).mono ?_
      rintro e w1 ⟨rfl, hB⟩
      go_wp2
      go_ret
      exact ⟨rfl, hB⟩
  · have hn1 : n ≤ 50 := by omega
    have hn2 : n' ≤ 50 := by omega
    have hn4 : n3 ≤ 50 := by omega
    clear hn
    have g1 : decide ((n : Int) > 50) = false := by simp; omega
    have g2 : decide ((n' : Int) > 50) = false := by simp; omega
    have g4 : decide ((n3 : Int) > 50) = false := by simp; omega
    obtain ⟨rb, hrb⟩ : ∃ b, rightC d = b := ⟨_, rfl⟩
    obtain ⟨sb, hsb⟩ : ∃ b, decide (d = d3) = b := ⟨_, rfl⟩
    have x1 : (rb != rb) = false := by cases rb <;> rfl
    have x2 : (sb != sb) = false := by cases sb <;> rfl
    have HD := Lib.hid hd
    have HT := Lib.hid ht
    have HD3 := Lib.hid hd3
    have HRB := Lib.hid hrb
    have HSB := Lib.hid hsb
    clear hd ht hd3 hrb hsb
    go_enter Try.func3, Try.ntmps3
    go_wp2_with fail
    refine (small06 _).mono ?_
    rintro e w1 ⟨rfl, hB⟩
    replace hl := hl.below hB
    replace hl' := hl'.below hB
    replace hl3 := hl3.below hB
    have hs := hB.size
    go_wp2_with fail
    refine (right_any A n k d w1 HD.out (by omega) (hl.more hs)).mono ?_
    rw [HRB.out]
    rintro e w2 ⟨rfl, hb⟩
    replace hl := hl.below (hb.mono hs)
    replace hl' := hl'.below (hb.mono hs)
    replace hl3 := hl3.below (hb.mono hs)
    replace hB := hB.trans (hb.mono hs)
    replace hs := hB.size
    clear hb
    go_wp2_with fail
    refine (rright6_any A n k d w2 HD.out (by omega) (hl.more hs) rb HRB.out).mono ?_
    rintro e w3 ⟨rfl, hb⟩
    replace hl := hl.below (hb.mono hs)
    replace hl' := hl'.below (hb.mono hs)
    replace hl3 := hl3.below (hb.mono hs)
    replace hB := hB.trans (hb.mono hs)
    replace hs := hB.size
    clear hb
    go_wp2_with fail
    refine (same_any A A3 n k n3 e3 d d3 w3 HD.out HD3.out (by omega) (by omega) (hl.more hs) (hl3.more hs)).mono ?_
    rw [HSB.out]
    rintro e w4 ⟨rfl, hb⟩
    replace hl := hl.below (hb.mono hs)
    replace hl' := hl'.below (hb.mono hs)
    replace hl3 := hl3.below (hb.mono hs)
    replace hB := hB.trans (hb.mono hs)
    replace hs := hB.size
    clear hb
    go_wp2_with fail
    refine (rsame6_any A A3 n k n3 e3 d d3 w4 HD.out HD3.out (by omega) (hl.more hs) (hl3.more hs)).mono ?_
    rw [HSB.out]
    rintro e w5 ⟨rfl, hb⟩
    replace hl := hl.below (hb.mono hs)
    replace hl' := hl'.below (hb.mono hs)
    replace hl3 := hl3.below (hb.mono hs)
    replace hB := hB.trans (hb.mono hs)
    replace hs := hB.size
    clear hb
    go_wp2_with fail
    refine (rright6_any A n k d w5 HD.out (by omega) (hl.more hs) rb HRB.out).mono ?_
    rintro e w6 ⟨rfl, hb⟩
    replace hl := hl.below (hb.mono hs)
    replace hl' := hl'.below (hb.mono hs)
    replace hl3 := hl3.below (hb.mono hs)
    replace hB := hB.trans (hb.mono hs)
    replace hs := hB.size
    clear hb
    cases rb
    · go_wp2_with fail
      go_ret
      exact ⟨rfl, hB⟩
    · have HL := Lib.hid hl
      have HL' := Lib.hid hl'
      have HB := Lib.hid hB
      clear hl hl' hl3 g1 g2 g4 x1 x2
      go_wp2
      go_loopw [8, 9] (fun lv iv wr => ∃ (i : Nat), RightT (50 + i) lv wr ∧ iv = .int .i64 i ∧ i ≤ n' ∧ Below w.heap.size w wr ∧ Hid (Sl wr w.heap.size 8 A' n' c' (flatAc t))) (fun _ iv _ => n' - (intOf iv).toNat)
      case atStart => exact ⟨0, ⟨A, n, k, d, rfl, by omega, HD, HRB, HL.out.more hs⟩, rfl, by omega, HB.out, HL'.out⟩
      case round =>
        clear HD HRB HL HL' HB hB hs hn1 HSB HD3 hn4
        obtain ⟨i, ⟨A, m, kk, d, rfl, hm, HD, HR, HL⟩, rfl, hi, hB, HL'⟩ := hrel
        have hs := hB.size
        by_cases hin : i < n'
        · obtain ⟨ad, rfl, hab, c0, c1, c2, c3, c4, c5, c6, c7⟩ := HL'.out.lst.atAc HT.out hin
          obtain ⟨y, hy⟩ : ∃ y, gAc t i = y := ⟨_, rfl⟩
          rw [hy] at c0 c1 c2 c3 c4 c5 c6 c7
          obtain ⟨y0, y1, y2, y3, y4, y5, y6, y7⟩ := y
          simp only at c0 c1 c2 c3 c4 c5 c6 c7
          clear hy
          have hX := Blok.new wr 30 #[.int .i64 y0, .int .i64 y1, .int .i64 y2, .int .i64 y3, .int .i64 y4, .int .i64 y5, .int .i64 y6, .int .i64 y7]
          have hb : Below wr.heap.size wr (wr.alloc (.cells #[.int .i64 y0, .int .i64 y1, .int .i64 y2, .int .i64 y3, .int .i64 y4, .int .i64 y5, .int .i64 y6, .int .i64 y7] 30)) := by (repeat (first | exact Below.refl _ _ | refine Below.alloc ?_ (by first | omega | (simp; done) | (simp; omega)) _ | refine Below.setCell ?_ (by first | omega | (simp; done) | (simp; omega)) _ | refine Below.drew ?_))
          go_upto_region 11 with fail
          generalize wr.alloc (.cells #[.int .i64 y0, .int .i64 y1, .int .i64 y2, .int .i64 y3, .int .i64 y4, .int .i64 y5, .int .i64 y6, .int .i64 y7] 30) = w3 at *
          have hl := HL.out.up hb
          replace HL' := HL'.out.below (hb.mono hs)
          replace hB := hB.trans (hb.mono hs)
          replace hs := hB.size
          clear hb c0 c1 c2 c3 c4 c5 c6 c7 HL
          generalize wr.heap.size = bx at *
          obtain ⟨bp, hbp⟩ : ∃ q, w3.heap.size = q := ⟨_, rfl⟩
          have hwb : w.heap.size ≤ bp := by rw [← hbp]; exact hs
          have HM := Lib.hid hm
          go_wp2_with fail
          refine (rcopy6_any A m kk d w3 HD.out (by omega) hl).mono ?_
          rintro e w4 ⟨vw, rfl, hvw, hb⟩
          rw [hbp] at hvw
          replace hl := hl.up hb
          replace HL' := HL'.below (hb.mono hs)
          replace hX := hX.below hb hX.lt
          replace hB := hB.trans (hb.mono hs)
          replace hs := hB.size
          have hz4 := hb.size
          have hbw4 : bp ≤ w4.heap.size := by omega
          clear hb hz4
          obtain ⟨Aw, cw, rfl⟩ := slice_of_own hvw
          have k0 : w4.cell? ⟨bx, 0, none⟩ = some (.int .i64 y0) := hX.cell 0
          have lt_x := hX.lt
          go_upto_block 2 with fail
          clear k0 lt_x
          go_cut [12, 13, 14, 15, 16, 17, 18, 19, 20] (fun s12 s13 s14 s15 s16 s17 s18 s19 s20 wx => ∃ (l2 : List Co) (q : Int), s14 = .int .i64 q ∧ s15 = .int .i64 q ∧ s16 = .bool true ∧ MidT bp (m + 1) l2 s12 s13 wx ∧ Below w4.heap.size w4 wx)
          case first =>
            as_aux_lemma =>
              by_cases hwh : y0 = 1 ∨ y0 = 2 ∨ y0 = 3
              · rcases hwh with rfl | rfl | rfl
                · skip
                  obtain ⟨q, hq⟩ : ∃ q, mayC d (⟨y1, y2, y3, y4, y5, y6⟩ : Co) = q := ⟨_, rfl⟩
                  obtain ⟨l2, hl2⟩ : ∃ l, addL d (⟨y1, y2, y3, y4, y5, y6⟩ : Co) = l := ⟨_, rfl⟩
                  have hr2 : rightC l2 = true := by rw [← hl2]; exact addL_right HR.out
                  have hn5 : l2.length ≤ m + 1 := by rw [← hl2, ← HD.out]; exact addL_len
                  have HQ := Lib.hid hq
                  have HL2 := Lib.hid hl2
                  clear hq hl2
                  have k1 : w4.cell? ⟨bx, 1, none⟩ = some (.int .i64 y1) := hX.cell 1
                  have k2 : w4.cell? ⟨bx, 2, none⟩ = some (.int .i64 y2) := hX.cell 2
                  have k3 : w4.cell? ⟨bx, 3, none⟩ = some (.int .i64 y3) := hX.cell 3
                  have k4 : w4.cell? ⟨bx, 4, none⟩ = some (.int .i64 y4) := hX.cell 4
                  have k5 : w4.cell? ⟨bx, 5, none⟩ = some (.int .i64 y5) := hX.cell 5
                  have k6 : w4.cell? ⟨bx, 6, none⟩ = some (.int .i64 y6) := hX.cell 6
                  have k7 : w4.cell? ⟨bx, 7, none⟩ = some (.int .i64 y7) := hX.cell 7
                  have lt_x := hX.lt
                  go_wp2_with fail
                  refine (add_is A m kk d (⟨y1, y2, y3, y4, y5, y6⟩ : Co) w4 HD.out (by omega) hl HR.out q HQ.out l2 HL2.out).mono ?_
                  rintro e w6 ⟨v, rfl, hv, hb⟩
                  have hl6 := hl.up hb
                  have hX6 := hX.below hb hX.lt
                  clear k1 k2 k3 k4 k5 k6 k7 lt_x
                  have k1 : w6.cell? ⟨bx, 1, none⟩ = some (.int .i64 y1) := hX6.cell 1
                  have k2 : w6.cell? ⟨bx, 2, none⟩ = some (.int .i64 y2) := hX6.cell 2
                  have k3 : w6.cell? ⟨bx, 3, none⟩ = some (.int .i64 y3) := hX6.cell 3
                  have k4 : w6.cell? ⟨bx, 4, none⟩ = some (.int .i64 y4) := hX6.cell 4
                  have k5 : w6.cell? ⟨bx, 5, none⟩ = some (.int .i64 y5) := hX6.cell 5
                  have k6 : w6.cell? ⟨bx, 6, none⟩ = some (.int .i64 y6) := hX6.cell 6
                  have k7 : w6.cell? ⟨bx, 7, none⟩ = some (.int .i64 y7) := hX6.cell 7
                  have lt_x := hX6.lt
                  go_wp2_with fail
                  refine (radd6_any A m kk d (⟨y1, y2, y3, y4, y5, y6⟩ : Co) w6 HD.out (by omega) hl6 q HQ.out l2 HL2.out).mono ?_
                  rintro e w7 ⟨v7, rfl, hv7, hb7⟩
                  have hMT2 : MidT bp (m + 1) l2 v v7 w7 := MidT.of (own_down (own_below hv hb7) hbw4) (own_down hv7 (by have := hb.size; omega)) hr2 hn5
                  clear k1 k2 k3 k4 k5 k6 k7 lt_x
                  go_wp2_with fail
                  go_meet
                  exact ⟨l2, q, rfl, rfl, rfl, hMT2, hb.trans (hb7.mono hb.size)⟩
                · skip
                  obtain ⟨l2, hl2⟩ : ∃ l, keepC d y7 = l := ⟨_, rfl⟩
                  have hr2 : rightC l2 = true := by rw [← hl2]; exact right_filter HR.out _
                  have hn5 : l2.length ≤ m + 1 := by rw [← hl2, ← HD.out]; have := List.length_filter_le (fun x : Co => !(x.id == y7)) d; unfold keepC; omega
                  obtain ⟨q, hq⟩ : ∃ q, delCode l2.length m = q := ⟨_, rfl⟩
                  have hd1 := del_any A m kk d y7 w4 HD.out (by omega) hl
                  change Calls _ _ _ _ (fun e w' => ∃ v, e = .returned (.tuple #[v, .int .i64 (delCode (keepC d y7).length m)]) ∧ w'.ownsRow w4.heap.size 28 6 v (keepC d y7).length (flatCo (keepC d y7)) ∧ Below w4.heap.size w4 w') at hd1
                  rw [hl2, hq] at hd1
                  have HD1 := Lib.hid hd1
                  have hd2 := fun (w6 : World) (hl6 : Sl w6 w6.heap.size 6 A m kk (flatCo d)) => rdel6_any A m kk d y7 w6 HD.out (by omega) hl6
                  rw [hl2, hq] at hd2
                  have HD2 := Lib.hid hd2
                  clear hq hl2 hd1 hd2
                  have k1 : w4.cell? ⟨bx, 1, none⟩ = some (.int .i64 y1) := hX.cell 1
                  have k2 : w4.cell? ⟨bx, 2, none⟩ = some (.int .i64 y2) := hX.cell 2
                  have k3 : w4.cell? ⟨bx, 3, none⟩ = some (.int .i64 y3) := hX.cell 3
                  have k4 : w4.cell? ⟨bx, 4, none⟩ = some (.int .i64 y4) := hX.cell 4
                  have k5 : w4.cell? ⟨bx, 5, none⟩ = some (.int .i64 y5) := hX.cell 5
                  have k6 : w4.cell? ⟨bx, 6, none⟩ = some (.int .i64 y6) := hX.cell 6
                  have k7 : w4.cell? ⟨bx, 7, none⟩ = some (.int .i64 y7) := hX.cell 7
                  have lt_x := hX.lt
                  go_wp2_with fail
                  refine (HD1.out).mono ?_
                  rintro e w6 ⟨v, rfl, hv, hb⟩
                  have hl6 := hl.up hb
                  have hX6 := hX.below hb hX.lt
                  clear k1 k2 k3 k4 k5 k6 k7 lt_x
                  have k1 : w6.cell? ⟨bx, 1, none⟩ = some (.int .i64 y1) := hX6.cell 1
                  have k2 : w6.cell? ⟨bx, 2, none⟩ = some (.int .i64 y2) := hX6.cell 2
                  have k3 : w6.cell? ⟨bx, 3, none⟩ = some (.int .i64 y3) := hX6.cell 3
                  have k4 : w6.cell? ⟨bx, 4, none⟩ = some (.int .i64 y4) := hX6.cell 4
                  have k5 : w6.cell? ⟨bx, 5, none⟩ = some (.int .i64 y5) := hX6.cell 5
                  have k6 : w6.cell? ⟨bx, 6, none⟩ = some (.int .i64 y6) := hX6.cell 6
                  have k7 : w6.cell? ⟨bx, 7, none⟩ = some (.int .i64 y7) := hX6.cell 7
                  have lt_x := hX6.lt
                  go_wp2_with fail
                  refine (HD2.out w6 hl6).mono ?_
                  rintro e w7 ⟨v7, rfl, hv7, hb7⟩
                  have hMT2 : MidT bp (m + 1) l2 v v7 w7 := MidT.of (own_down (own_below hv hb7) hbw4) (own_down hv7 (by have := hb.size; omega)) hr2 hn5
                  clear k1 k2 k3 k4 k5 k6 k7 lt_x
                  go_wp2_with fail
                  go_meet
                  exact ⟨l2, q, rfl, rfl, rfl, hMT2, hb.trans (hb7.mono hb.size)⟩
                · skip
                  obtain ⟨q, hq⟩ : ∃ q, chgQ d y7 y6 = q := ⟨_, rfl⟩
                  obtain ⟨l2, hl2⟩ : ∃ l, chgL d y7 y6 = l := ⟨_, rfl⟩
                  have hr2 : rightC l2 = true := by rw [← hl2]; exact chgL_right HR.out
                  have hlm : l2.length = m := by rw [← hl2, ← HD.out]; exact chgL_len
                  have hn5 : l2.length ≤ m + 1 := by omega
                  have HQ := Lib.hid hq
                  have HL2 := Lib.hid hl2
                  have HLM := Lib.hid hlm
                  clear hq hl2 hlm
                  have k1 : w4.cell? ⟨bx, 1, none⟩ = some (.int .i64 y1) := hX.cell 1
                  have k2 : w4.cell? ⟨bx, 2, none⟩ = some (.int .i64 y2) := hX.cell 2
                  have k3 : w4.cell? ⟨bx, 3, none⟩ = some (.int .i64 y3) := hX.cell 3
                  have k4 : w4.cell? ⟨bx, 4, none⟩ = some (.int .i64 y4) := hX.cell 4
                  have k5 : w4.cell? ⟨bx, 5, none⟩ = some (.int .i64 y5) := hX.cell 5
                  have k6 : w4.cell? ⟨bx, 6, none⟩ = some (.int .i64 y6) := hX.cell 6
                  have k7 : w4.cell? ⟨bx, 7, none⟩ = some (.int .i64 y7) := hX.cell 7
                  have lt_x := hX.lt
                  go_wp2_with fail
                  refine (change_is A m kk d y7 y6 w4 HD.out (by omega) hl l2 HL2.out q HQ.out).mono ?_
                  rintro e w6 ⟨v, rfl, hv, hb⟩
                  have hl6 := hl.up hb
                  have hX6 := hX.below hb hX.lt
                  clear k1 k2 k3 k4 k5 k6 k7 lt_x
                  have k1 : w6.cell? ⟨bx, 1, none⟩ = some (.int .i64 y1) := hX6.cell 1
                  have k2 : w6.cell? ⟨bx, 2, none⟩ = some (.int .i64 y2) := hX6.cell 2
                  have k3 : w6.cell? ⟨bx, 3, none⟩ = some (.int .i64 y3) := hX6.cell 3
                  have k4 : w6.cell? ⟨bx, 4, none⟩ = some (.int .i64 y4) := hX6.cell 4
                  have k5 : w6.cell? ⟨bx, 5, none⟩ = some (.int .i64 y5) := hX6.cell 5
                  have k6 : w6.cell? ⟨bx, 6, none⟩ = some (.int .i64 y6) := hX6.cell 6
                  have k7 : w6.cell? ⟨bx, 7, none⟩ = some (.int .i64 y7) := hX6.cell 7
                  have lt_x := hX6.lt
                  go_wp2_with fail
                  refine (rchange6_any A m kk d y7 y6 w6 HD.out (by omega) hl6 l2 HL2.out q HQ.out).mono ?_
                  rintro e w7 ⟨v7, rfl, hv7, hb7⟩
                  have hMT2 : MidT bp (m + 1) l2 v v7 w7 := MidT.of (own_down (own_below (HLM.out.symm ▸ hv) hb7) hbw4) (own_down (HLM.out.symm ▸ hv7) (by have := hb.size; omega)) hr2 hn5
                  clear k1 k2 k3 k4 k5 k6 k7 lt_x
                  go_wp2_with fail
                  go_meet
                  exact ⟨l2, q, rfl, rfl, rfl, hMT2, hb.trans (hb7.mono hb.size)⟩
              · have h1 : (y0 == 1) = false := by rw [beq_eq_false_iff_ne]; omega
                have h2 : (y0 == 2) = false := by rw [beq_eq_false_iff_ne]; omega
                have h3 : (y0 == 3) = false := by rw [beq_eq_false_iff_ne]; omega
                clear hwh
                obtain ⟨l2, hl2⟩ : ∃ l, leftC d y7 = l := ⟨_, rfl⟩
                obtain ⟨ge, hge⟩ : ∃ ge, goneL d y7 = ge := ⟨_, rfl⟩
                obtain ⟨so, hso⟩ : ∃ so, sortI ge = so := ⟨_, rfl⟩
                have hgl : ge.length ≤ m := by have := left_gone d y7; rw [hl2, hge, HD.out] at this; omega
                have hsl : so.length = ge.length := by rw [← hso, sortI_length]
                have hr2 : rightC l2 = true := by rw [← hl2]; exact right_filter HR.out _
                have hn5 : l2.length ≤ m + 1 := by have := left_gone d y7; rw [hl2, hge, HD.out] at this; omega
                have e1 := expire_any A m kk d y7 w4 HD.out (by omega) hl
                have e2 := fun (w6 : World) (hl6 : Sl w6 w6.heap.size 6 A m kk (flatCo d)) => rexpire6_any A m kk d y7 w6 HD.out (by omega) hl6
                unfold ExpPost at e1 e2
                rw [hl2, hge, hso] at e1 e2
                have HE1 := Lib.hid e1
                have HE2 := Lib.hid e2
                have HSL := Lib.hid hsl
                clear e1 e2 hl2 hge hso hsl
                have k1 : w4.cell? ⟨bx, 1, none⟩ = some (.int .i64 y1) := hX.cell 1
                have k2 : w4.cell? ⟨bx, 2, none⟩ = some (.int .i64 y2) := hX.cell 2
                have k3 : w4.cell? ⟨bx, 3, none⟩ = some (.int .i64 y3) := hX.cell 3
                have k4 : w4.cell? ⟨bx, 4, none⟩ = some (.int .i64 y4) := hX.cell 4
                have k5 : w4.cell? ⟨bx, 5, none⟩ = some (.int .i64 y5) := hX.cell 5
                have k6 : w4.cell? ⟨bx, 6, none⟩ = some (.int .i64 y6) := hX.cell 6
                have k7 : w4.cell? ⟨bx, 7, none⟩ = some (.int .i64 y7) := hX.cell 7
                have lt_x := hX.lt
                go_wp2_with fail
                refine HE1.out.mono ?_
                rintro e w6 ⟨v, u, rfl, hv, hu, hb⟩
                have hl6 := hl.up hb
                have hX6 := hX.below hb hX.lt
                clear k1 k2 k3 k4 k5 k6 k7 lt_x
                have k1 : w6.cell? ⟨bx, 1, none⟩ = some (.int .i64 y1) := hX6.cell 1
                have k2 : w6.cell? ⟨bx, 2, none⟩ = some (.int .i64 y2) := hX6.cell 2
                have k3 : w6.cell? ⟨bx, 3, none⟩ = some (.int .i64 y3) := hX6.cell 3
                have k4 : w6.cell? ⟨bx, 4, none⟩ = some (.int .i64 y4) := hX6.cell 4
                have k5 : w6.cell? ⟨bx, 5, none⟩ = some (.int .i64 y5) := hX6.cell 5
                have k6 : w6.cell? ⟨bx, 6, none⟩ = some (.int .i64 y6) := hX6.cell 6
                have k7 : w6.cell? ⟨bx, 7, none⟩ = some (.int .i64 y7) := hX6.cell 7
                have lt_x := hX6.lt
                go_wp2_with fail
                refine (HE2.out w6 hl6).mono ?_
                rintro e w7 ⟨v7, u7, rfl, hv7, hu7, hb7⟩
                have hMT2 : MidT bp (m + 1) l2 v v7 w7 := MidT.of (own_down (own_below hv hb7) hbw4) (own_down hv7 (by have := hb.size; omega)) hr2 hn5
                have hu6 := own_below hu hb7
                obtain ⟨Au, cu, rfl⟩ := slice_of_own hu6
                obtain ⟨Au7, cu7, rfl⟩ := slice_of_own hu7
                have hbt := hb.trans (hb7.mono hb.size)
                clear hb hb7 hv hv7 hu k1 k2 k3 k4 k5 k6 k7 lt_x
                go_wp2_with fail
                refine (ints_any Au Au7 ge.length cu ge.length cu7 so so w7 HSL.out HSL.out (by omega) (by omega) (Sl.of_own hu6) (Sl.of_own hu7)).mono ?_
                rw [decide_eq_true rfl]
                rintro e w8 ⟨rfl, hb8⟩
                have hMT3 := hMT2.up hb8
                clear hMT2
                go_wp2_with fail
                go_meet
                exact ⟨l2, _, rfl, rfl, rfl, hMT3, hbt.trans (hb8.mono hbt.size)⟩
          case rest =>
            as_aux_lemma =>
              revert wc
              intro w8 hcut
              obtain ⟨l4, b2, rfl, rfl, rfl, ⟨Ap, np, cp, Aq, cq, rfl, rfl, hnp, HN4, HR4, HP, HQ⟩, hb⟩ := hcut
              replace hvw := own_below hvw hb
              replace hl := hl.up hb
              replace HL' := HL'.below (hb.mono hs)
              replace hX := hX.below hb hX.lt
              replace hB := hB.trans (hb.mono hs)
              replace hs := hB.size
              have hbw8 : bp ≤ w8.heap.size := by have := hb.size; omega
              clear hb hbw4
              obtain ⟨z, hz⟩ : ∃ z, foundC l4 y7 = z := ⟨_, rfl⟩
              obtain ⟨zb, hzb⟩ : ∃ z, idIn l4 y7 = z := ⟨_, rfl⟩
              obtain ⟨cv, hcv⟩ : ∃ q, cmpC (⟨y1, y2, y3, y4, y5, y6⟩ : Co) z = q := ⟨_, rfl⟩
              have HZ := Lib.hid hz
              have HZB := Lib.hid hzb
              have HCV := Lib.hid hcv
              clear hz hzb hcv
              have k7 : w8.cell? ⟨bx, 7, none⟩ = some (.int .i64 y7) := hX.cell 7
              have lt_x := hX.lt
              go_wp2_with fail
              clear k7 lt_x
              refine (find_any Ap np cp l4 y7 w8 HN4.out (by omega) (Sl.of_own HP.out) HR4.out z zb HZ.out HZB.out).mono ?_
              rintro e w9 ⟨rfl, hb⟩
              have hb2 : Below w9.heap.size w9 (w9.alloc (.cells #[.int .i64 z.id, .int .i64 z.fr, .int .i64 z.tn, .int .i64 z.st, .int .i64 z.en, .int .i64 z.rt] 28)) := by (repeat (first | exact Below.refl _ _ | refine Below.alloc ?_ (by first | omega | (simp; done) | (simp; omega)) _ | refine Below.setCell ?_ (by first | omega | (simp; done) | (simp; omega)) _ | refine Below.drew ?_))
              have hF := Blok.new w9 28 #[.int .i64 z.id, .int .i64 z.fr, .int .i64 z.tn, .int .i64 z.st, .int .i64 z.en, .int .i64 z.rt]
              replace hX := (hX.below hb hX.lt).alloc (.cells #[.int .i64 z.id, .int .i64 z.fr, .int .i64 z.tn, .int .i64 z.st, .int .i64 z.en, .int .i64 z.rt] 28)
              replace hb := hb.trans (hb2.mono hb.size)
              obtain ⟨f9, hf9⟩ : ∃ q, w9.heap.size = q := ⟨_, rfl⟩
              have k7 : (w9.alloc (.cells #[.int .i64 z.id, .int .i64 z.fr, .int .i64 z.tn, .int .i64 z.st, .int .i64 z.en, .int .i64 z.rt] 28)).cell? ⟨bx, 7, none⟩ = some (.int .i64 y7) := hX.cell 7
              have lt_x := hX.lt
              go_upto_region 33 with fail
              generalize w9.alloc (.cells #[.int .i64 z.id, .int .i64 z.fr, .int .i64 z.tn, .int .i64 z.st, .int .i64 z.en, .int .i64 z.rt] 28) = wa at *
              rw [hf9] at hF
              try rw [hf9]
              have HP9 := Lib.hid (own_below HP.out hb)
              have HQ9 := Lib.hid (own_below HQ.out hb)
              replace hvw := own_below hvw hb
              replace hl := hl.up hb
              replace HL' := HL'.below (hb.mono hs)
              replace hB := hB.trans (hb.mono hs)
              replace hs := hB.size
              have hbwa := Nat.le_trans hbw8 hb.size
              clear hb hb2 HP HQ hbw8 hf9
              go_wp2_with fail
              clear k7 lt_x
              refine (rfind6_any Aq np cq l4 y7 wa HN4.out (by omega) (Sl.of_own HQ9.out) z zb HZ.out HZB.out).mono ?_
              rintro e wb ⟨rfl, hb⟩
              have hb2 : Below wb.heap.size wb (wb.alloc (.cells #[.int .i64 z.id, .int .i64 z.fr, .int .i64 z.tn, .int .i64 z.st, .int .i64 z.en, .int .i64 z.rt] 28)) := by (repeat (first | exact Below.refl _ _ | refine Below.alloc ?_ (by first | omega | (simp; done) | (simp; omega)) _ | refine Below.setCell ?_ (by first | omega | (simp; done) | (simp; omega)) _ | refine Below.drew ?_))
              have hG := Blok.new wb 28 #[.int .i64 z.id, .int .i64 z.fr, .int .i64 z.tn, .int .i64 z.st, .int .i64 z.en, .int .i64 z.rt]
              replace hX := (hX.below hb hX.lt).alloc (.cells #[.int .i64 z.id, .int .i64 z.fr, .int .i64 z.tn, .int .i64 z.st, .int .i64 z.en, .int .i64 z.rt] 28)
              replace hF := (hF.below hb hF.lt).alloc (.cells #[.int .i64 z.id, .int .i64 z.fr, .int .i64 z.tn, .int .i64 z.st, .int .i64 z.en, .int .i64 z.rt] 28)
              replace hb := hb.trans (hb2.mono hb.size)
              obtain ⟨gb, hgb⟩ : ∃ q, wb.heap.size = q := ⟨_, rfl⟩
              go_upto_region 34 with fail
              generalize wb.alloc (.cells #[.int .i64 z.id, .int .i64 z.fr, .int .i64 z.tn, .int .i64 z.st, .int .i64 z.en, .int .i64 z.rt] 28) = w8 at *
              rw [hgb] at hG
              try rw [hgb]
              have HP := Lib.hid (own_below HP9.out hb)
              have HQ := Lib.hid (own_below HQ9.out hb)
              replace hvw := own_below hvw hb
              replace hl := hl.up hb
              replace HL' := HL'.below (hb.mono hs)
              replace hB := hB.trans (hb.mono hs)
              replace hs := hB.size
              have hbw8 := Nat.le_trans hbwa hb.size
              clear hb hb2 HP9 HQ9 hbwa hgb
              have x1 : (b2 != b2) = false := by simp
              have x2 : (zb != zb) = false := by cases zb <;> rfl
              have x3 : (cv != cv) = false := by simp
              have hrun : ∀ w0, (binOp .neq 28 (.agg #[.int .i64 z.id, .int .i64 z.fr, .int .i64 z.tn, .int .i64 z.st, .int .i64 z.en, .int .i64 z.rt]) (.agg #[.int .i64 z.id, .int .i64 z.fr, .int .i64 z.tn, .int .i64 z.st, .int .i64 z.en, .int .i64 z.rt])).run Try.prog w0 = .ok (.bool false) w0 := fun w0 => by
                have := neqCo z z w0
                simpa using this
              have HQP : Hid (∀ dd os, Sl (grow (redrawn w8 dd) os) (grow (redrawn w8 dd) os).heap.size 6 Ap np cp (flatCo l4)) := fun dd os => Sl.of_own (own_below HP.out (below_regrown w8 dd os))
              have HQQ : Hid (∀ dd os, Sl (grow (redrawn w8 dd) os) (grow (redrawn w8 dd) os).heap.size 6 Aq np cq (flatCo l4)) := fun dd os => Sl.of_own (own_below HQ.out (below_regrown w8 dd os))
              have HQX : Hid (∀ dd os, Sl (grow (redrawn w8 dd) os) (grow (redrawn w8 dd) os).heap.size 6 A m kk (flatCo d)) := fun dd os => hl.up (below_regrown w8 dd os)
              have HQW : Hid (∀ dd os, Sl (grow (redrawn w8 dd) os) (grow (redrawn w8 dd) os).heap.size 6 Aw m cw (flatCo d)) := fun dd os => Sl.of_own (own_below hvw (below_regrown w8 dd os))
              have k1 : w8.cell? ⟨bx, 1, none⟩ = some (.int .i64 y1) := hX.cell 1
              have k2 : w8.cell? ⟨bx, 2, none⟩ = some (.int .i64 y2) := hX.cell 2
              have k3 : w8.cell? ⟨bx, 3, none⟩ = some (.int .i64 y3) := hX.cell 3
              have k4 : w8.cell? ⟨bx, 4, none⟩ = some (.int .i64 y4) := hX.cell 4
              have k5 : w8.cell? ⟨bx, 5, none⟩ = some (.int .i64 y5) := hX.cell 5
              have k6 : w8.cell? ⟨bx, 6, none⟩ = some (.int .i64 y6) := hX.cell 6
              have lt_x := hX.lt
              have f0 : w8.cell? ⟨f9, 0, none⟩ = some (.int .i64 z.id) := hF.cell 0
              have f1 : w8.cell? ⟨f9, 1, none⟩ = some (.int .i64 z.fr) := hF.cell 1
              have f2 : w8.cell? ⟨f9, 2, none⟩ = some (.int .i64 z.tn) := hF.cell 2
              have f3 : w8.cell? ⟨f9, 3, none⟩ = some (.int .i64 z.st) := hF.cell 3
              have f4 : w8.cell? ⟨f9, 4, none⟩ = some (.int .i64 z.en) := hF.cell 4
              have f5 : w8.cell? ⟨f9, 5, none⟩ = some (.int .i64 z.rt) := hF.cell 5
              have lt_f := hF.lt
              have h0 : w8.cell? ⟨gb, 0, none⟩ = some (.int .i64 z.id) := hG.cell 0
              have h1 : w8.cell? ⟨gb, 1, none⟩ = some (.int .i64 z.fr) := hG.cell 1
              have h2 : w8.cell? ⟨gb, 2, none⟩ = some (.int .i64 z.tn) := hG.cell 2
              have h3 : w8.cell? ⟨gb, 3, none⟩ = some (.int .i64 z.st) := hG.cell 3
              have h4 : w8.cell? ⟨gb, 4, none⟩ = some (.int .i64 z.en) := hG.cell 4
              have h5 : w8.cell? ⟨gb, 5, none⟩ = some (.int .i64 z.rt) := hG.cell 5
              have lt_g := hG.lt
              go_wp2_with fail
              have q_k1 := fun d os => cell_regrown k1 d os
              have q_k2 := fun d os => cell_regrown k2 d os
              have q_k3 := fun d os => cell_regrown k3 d os
              have q_k4 := fun d os => cell_regrown k4 d os
              have q_k5 := fun d os => cell_regrown k5 d os
              have q_k6 := fun d os => cell_regrown k6 d os
              have q_f0 := fun d os => cell_regrown f0 d os
              have q_f1 := fun d os => cell_regrown f1 d os
              have q_f2 := fun d os => cell_regrown f2 d os
              have q_f3 := fun d os => cell_regrown f3 d os
              have q_f4 := fun d os => cell_regrown f4 d os
              have q_f5 := fun d os => cell_regrown f5 d os
              have q_h0 := fun d os => cell_regrown h0 d os
              have q_h1 := fun d os => cell_regrown h1 d os
              have q_h2 := fun d os => cell_regrown h2 d os
              have q_h3 := fun d os => cell_regrown h3 d os
              have q_h4 := fun d os => cell_regrown h4 d os
              have q_h5 := fun d os => cell_regrown h5 d os
              try simp only [List.append]
              first | refine wp_region_text_below ?_ | refine wp_region_quiet_below (by kernel_rfl) (by kernel_rfl) ?_
              repeat (go_big_quiet_step (((first | (go_at_call 13; with_reducible exact Calls.regrown_of (rsame6_is Ap Aq np cp np cq l4 l4 true (decide_eq_true rfl) _ HN4.out HN4.out (by omega) (HQP.out _ _) (HQQ.out _ _))) | (go_at_call 13; with_reducible exact Calls.regrown_of (rsame6_is Aw A m cw m kk d d true (decide_eq_true rfl) _ HD.out HD.out (by omega) (HQW.out _ _) (HQX.out _ _))) | (go_at_call 26; with_reducible exact Calls.regrown_of (cmp_is (⟨y1, y2, y3, y4, y5, y6⟩ : Co) z cv HCV.out _)) | (go_at_call 27; with_reducible exact Calls.regrown_of (rcompare_any (⟨y1, y2, y3, y4, y5, y6⟩ : Co) z cv HCV.out _))))))
              refine wpQuiet_nil ?_
              intro _ hqw
              obtain ⟨pq, hqw⟩ := hqw
              subst hqw
              clear q_k1 q_k2 q_k3 q_k4 q_k5 q_k6 q_f0 q_f1 q_f2 q_f3 q_f4 q_f5 q_h0 q_h1 q_h2 q_h3 q_h4 q_h5
              have hb := below_regrown w8 pq.d pq.os
              have HP9 := Lib.hid (own_below HP.out hb)
              replace HL' := HL'.below (hb.mono hs)
              replace hB := hB.trans (hb.mono hs)
              replace hs := hB.size
              have hbw9 := Nat.le_trans hbw8 hb.size
              clear hb hl hvw hX HQP HQQ HQX HQW hrun x1 x2 x3 HP HQ hbw8 k1 k2 k3 k4 k5 k6 f0 f1 f2 f3 f4 f5 h0 h1 h2 h3 h4 h5 lt_x lt_f lt_g hF hG
              generalize grow (redrawn w8 pq.d) pq.os = w9 at *
              have hPs := Sl.of_own HP9.out
              go_wp2_with fail
              refine (rcopy6_any Ap np cp l4 w9 HN4.out (by omega) hPs).mono ?_
              rintro e wz ⟨v9, rfl, hv9, hb⟩
              have hpz := own_below HP9.out hb
              replace HL' := HL'.below (hb.mono hs)
              replace hB := hB.trans (hb.mono hs)
              replace hs := hB.size
              obtain ⟨A9, c9, rfl⟩ := slice_of_own hv9
              obtain ⟨bz, hbz⟩ : ∃ q, w9.heap.size = q := ⟨_, rfl⟩
              have hq9 : ∀ q, (Value.slice Ap np cp).ownBlock = some q → bp ≤ q ∧ q < bz := fun q hq => by
                have h1 := HP9.out.lt q hq
                rw [hbz] at h1
                exact h1
              rw [hbz] at hv9
              have HQ9 := Lib.hid hq9
              have hwbp : w.heap.size ≤ bp := hwb
              clear hb HP9 hPs hq9
              have HPZ := Lib.hid hpz
              have HV9 := Lib.hid hv9
              have HBZ := Lib.hid hB
              have HLZ := Lib.hid HL'
              clear hpz hv9 hB HL'
              have hpl : (flatCo l4).length = np * 6 := by rw [flatCo_length, HN4.out]
              have HPL := Lib.hid hpl
              clear hpl
              go_wp2
              go_loopw [25] (fun kv wx => ∃ (k : Nat) (xs : List Value), kv = .int .i64 k ∧ k ≤ np ∧ Hid (xs.length = np * 6) ∧ Hid (wx.ownsRow bp 28 6 (.slice Ap np cp) np xs) ∧ Hid (wx.ownsRow bz 28 6 (.slice A9 np c9) np (flatCo l4)) ∧ Below w.heap.size wz wx) (fun kv _ => np - (intOf kv).toNat)
              case atStart => exact ⟨0, flatCo l4, rfl, by omega, HPL, HPZ, HV9, Below.refl _ _⟩
              case round =>
                obtain ⟨q, xs, rfl, hq, HXL, HPX, HVX, hbx⟩ := hrel
                by_cases hqn : q < np
                · obtain ⟨gb, cur, hae, hgc⟩ : ∃ gb cur, Ap = some ⟨gb, 0, none⟩ ∧ Blok wr gb 28 cur := by
                    rcases HPX.out.2 with ⟨he, _⟩ | ⟨gb, cap, cur, he, _, hh, _⟩
                    · injection he with h1 h2 h3
                      omega
                    · injection he with h1 h2 h3
                      exact ⟨gb, cur, h1, hh⟩
                  subst hae
                  have hlx : q * 6 < xs.length := by rw [HXL.out]; omega
                  have hcell := (HPX.out.cellAt (q * 6) (by omega)).trans (List.getElem?_eq_getElem hlx)
                  obtain ⟨ov, hov⟩ : ∃ ov, xs[q * 6]'hlx = ov := ⟨_, rfl⟩
                  rw [hov] at hcell
                  have hfz : wr.frozen? ⟨gb, q * 6, none⟩ = false := hgc.free (q * 6)
                  obtain ⟨r0, g0⟩ := HPX.out.stored (q * 6) (.int .i64 (-7))
                  obtain ⟨hg1, hg2⟩ := HQ9.out gb rfl
                  have hvN := own_far6 HVX.out g0 (fun q' hq' => by injection hq' with hq'; omega)
                  have hbN : Below w.heap.size wz (wr.setCell ⟨gb, q * 6, none⟩ (.int .i64 (-7))) := Below.setCell hbx (by show w.heap.size ≤ gb; omega) _
                  have R0 := Lib.hid r0
                  have R1 := Lib.hid hvN
                  have R2 := Lib.hid hbN
                  have hXN : Hid ((xs.set (q * 6) (.int .i64 (-7))).length = np * 6) := by show (xs.set _ _).length = _; rw [List.length_set]; exact HXL.out
                  clear r0 g0 hvN hbN hgc hov
                  go_wp2_with fail
                  go_roundw
                  case rel => exact ⟨q + 1, _, by go_num, by omega, hXN, R0, R1, R2.out⟩
                  case measure => simp [intOf]; omega
                · go_wp2_with fail
                  go_roundw
                  case rel => exact ⟨i + 1, ⟨A9, np, c9, l4, rfl, by have := HM.out; omega, HN4, HR4, Sl.of_own HVX.out⟩, by go_num, by omega, HBZ.out.trans hbx, HLZ.out.below hbx⟩
                  case measure => simp [intOf]; omega
        · have hie : i = n' := by omega
          subst hie
          go_wp2_with fail
          go_ret
          exact ⟨rfl, hB⟩
theorem contactsTells_walk (A : Option Addr) (n k : Nat) (ns : List Int) (A' : Option Addr) (n' k' : Nat) (ns' : List Int) (A3 : Option Addr) (n3 e3 : Nat) (ns3 : List Int) (hnl : ns.length = n * 6) (_ : ∀ m ∈ ns, (Lit.int .i64 m).wf = true) (hnl' : ns'.length = n' * 8) (_ : ∀ m ∈ ns', (Lit.int .i64 m).wf = true) (hnl3 : ns3.length = n3 * 6) (_ : ∀ m ∈ ns3, (Lit.int .i64 m).wf = true) (w : World) (hl : Sl w w.heap.size 6 A n k (ns.map (Value.int .i64))) (hl' : Sl w w.heap.size 8 A' n' k' (ns'.map (Value.int .i64))) (hl3 : Sl w w.heap.size 6 A3 n3 e3 (ns3.map (Value.int .i64))) :
    Calls Try.prog 3 #[.slice A n k, .slice A' n' k', .slice A3 n3 e3] w fun e w' => e = .returned (.bool true) ∧ Below w.heap.size w w' := by
  obtain ⟨d, hd, hlf⟩ := rowsCo_of n ns hnl
  obtain ⟨t, ht, hlt⟩ := rowsAc_of n' ns' hnl'
  obtain ⟨d3, hd3, hlf3⟩ := rowsCo_of n3 ns3 hnl3
  rw [hlf] at hl
  rw [hlt] at hl'
  rw [hlf3] at hl3
  exact ctells_walk A n k d A' n' k' t A3 n3 e3 d3 hd ht hd3 w hl hl' hl3
theorem contactsTells_own : ownKnob Try.prog.godebug = none := by kernel_rfl
theorem contactsTells_laidOut : laidOutB Try.prog = true := by kernel_rfl

set_option maxHeartbeats 1000000 in
set_option maxRecDepth 100000 in
theorem contactsTells_lifted (os : Os) (started : os.Started) (H : Type) (enc : TypeId × Value → H) :
    ReturnsInHanded {} Try.checked os 3 .any (Rows.contactsTellsSpec.pre6 enc Try.prog Try.f3 Rows.contactsTellsRow.domain false) (Rows.contactsTellsSpec.post enc Try.prog Try.f3 false true false false) := by
  refine returnsInHanded_of_change (C := Try.checked) contactsTells_own started (by kernel_rfl) Try.func3
    (ChangeSpec.witness6 (enc := enc) (C := Try.checked) false ⟨#[], #[.slice none 0 0, .slice none 0 0, .slice none 0 0], []⟩ 8 (by kernel_rfl) (by kernel_rfl) (by kernel_rfl) (by kernel_rfl)) ?_
  intro W base args ds gs before hval0 hW hcnd _
  have hval : ∀ (j : Nat) t v, Try.f3.params[j]? = some t → args[j]? = some v → Value.okWide Try.prog W .any base t v := hval0
  have hW' := hW
  obtain ⟨p, q, hA0, hV, rfl, hfz, hnd⟩ := hW
  have hA : DataW.TrodAll enc Try.prog W 0 (fun _ => true) true Try.f3.params.toList args.toList ds p := hA0
  rw [Try.params3] at hA hval
  obtain ⟨v0, vs0, d0, ds0, p0, q0, hargs, rfl, rfl, h0, r0⟩ := trodAll_cons hA
  obtain ⟨v1, vs1, d1, ds1, p1, q1, rfl, rfl, rfl, h1, r1⟩ := trodAll_cons r0
  obtain ⟨v2, vs2, d2, ds2, p2, q2, rfl, rfl, rfl, h2, r2⟩ := trodAll_cons r1
  obtain ⟨rfl, rfl, rfl⟩ := trodAll_nil r2
  obtain rfl : args = #[v0, v1, v2] := by cases args; simp_all
  obtain ⟨rfl, rfl⟩ := trodVars_none hV
  obtain ⟨A0, n0, c0, ns0, rfl, hl0, nl0, w0⟩ := open_rowsS 4 (K := 6) Try.underlying22 (by kernel_rfl) (by kernel_rfl) (by omega) (hval 0 22 v0 rfl rfl) h0
  obtain ⟨A1, n1, c1, ns1, rfl, hl1, nl1, w1⟩ := open_rowsS 4 (K := 8) Try.underlying23 (by kernel_rfl) (by kernel_rfl) (by omega) (hval 1 23 v1 rfl rfl) h1
  obtain ⟨A2, n2, c2, ns2, rfl, hl2, nl2, w2⟩ := open_rowsS 4 (K := 6) Try.underlying22 (by kernel_rfl) (by kernel_rfl) (by omega) (hval 2 22 v2 rfl rfl) h2
  clear hA0 hval0
  refine (contactsTells_walk A0 n0 c0 ns0 A1 n1 c1 ns1 A2 n2 c2 ns2 nl0 w0 nl1 w1 nl2 w2 W hl0 hl1 hl2).mono fun e W' ⟨he, bel⟩ => ?_
  subst he
  exact ⟨_, rfl, law_post contactsTells_laidOut (by kernel_rfl) rfl Try.underlying4 rfl rfl hW' bel⟩

theorem contactsTells_proved : Rows.ContactsTellsSaid :=
  OpenClaim.holds_of_wide 3 Try.f3 rfl rfl rfl rfl rfl rfl rfl ⟨rfl, rfl, rfl, rfl, rfl⟩ rfl rfl rfl rfl rfl (by kernel_rfl) Try.func3 (by kernel_rfl)
    (of_decide_eq_true (by kernel_rfl)) (by unfold Func.isWrapper; first | (rw [if_pos (by decide +kernel)]; kernel_rfl) | (rw [if_neg (by decide +kernel)]; exact ⟨rfl, rfl⟩))
    (fun os started H enc _ => contactsTells_lifted os started H enc)
#print axioms contactsTells_proved
end Go.Proofs.Ytojjnbpgdegjiaa
