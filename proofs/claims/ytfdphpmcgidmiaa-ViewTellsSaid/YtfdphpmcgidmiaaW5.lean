/- Contracts and plain facts, several texts of mine in one: View3. No condition. -/
import Derived.Test.YtfdphpmcgidmiaaW4

/- Contract of view.All, the sort's contract being a premise (XView4 lays it). -/
namespace Go.Proofs.Ytfdphpmcgidmiaa
open Go.ChangeShapes Go.WideShapes Go.ChangeAt Go.RowKit Go.Sort
set_option linter.unusedSimpArgs false
set_option linter.unusedVariables false
theorem own_base {w : World} {b b' : Nat} {e : TypeId} {s n : Nat} {v : Value} {xs : List Value} (h : w.ownsRow b e s v n xs) (hb : b' ≤ b) : w.ownsRow b' e s v n xs :=
  ⟨h.1, h.2.imp id fun ⟨g, cap, cur, e, hg, r⟩ => ⟨g, cap, cur, e, Nat.le_trans hb hg, r⟩⟩
theorem take_snocCo {l : List Co} {i : Nat} (h : i < l.length) : l.take (i + 1) = l.take i ++ [gCo l i] := by
  rw [List.take_succ_eq_append_getElem h, gCo_eq h]
/-- The edges of the contacts, in the contacts' order. -/
def allL (rs : List Rg) (bk : List Bk) (cl : Int) (cs : List Co) : List Ed := cs.filterMap fun c => edgeF rs bk c cl
def SortEdC : Prop := ∀ (u : Value) (l : List Ed) (base : Nat) (w : World), l.length ≤ 1000000 → w.ownsRow base 34 8 u l.length (flatEd l) →
    Calls Try.prog 42 #[u, .func (.func 43) #[] #[]] w fun e w' => ∃ m : List Ed, e = .returned (.tuple #[]) ∧ m.Perm l ∧ (∀ i j, i < j → j < m.length → (gEd m i).id ≤ (gEd m j).id) ∧ w'.ownsRow base 34 8 u l.length (flatEd m) ∧ w.grownBy w' u.ownBlock
set_option maxHeartbeats 8000000 in
set_option maxRecDepth 100000 in
theorem vall_of (HSORT : SortEdC) (A1 : Option Addr) (n1 c1 : Nat) (cs : List Co) (A : Option Addr) (n c : Nat) (rs : List Rg) (clk ver : Int) (A2 : Option Addr) (n2 c2 : Nat) (bk : List Bk) (cl : Int) (w : World) (hd1 : cs.length = n1) (hn1 : n1 ≤ 1000000) (hd : rs.length = n) (hn : n ≤ 1000000) (hd2 : bk.length = n2) (hn2 : n2 ≤ 1000000) (h1 : Sl w w.heap.size 6 A1 n1 c1 (flatCo cs)) (h : Sl w w.heap.size 5 A n c (flatRg rs)) (h2 : Sl w w.heap.size 4 A2 n2 c2 (flatBk bk)) (hr : Kr.rightB rs = true) (hr2 : Kb.rightB bk = true) :
    Calls Try.prog 16 #[.agg #[.slice A1 n1 c1, .slice A n c, .int .i64 clk, .int .i64 ver], .slice A2 n2 c2, .int .i64 cl] w fun e w' => ∃ v m, e = .returned v ∧ m.Perm (allL rs bk cl cs) ∧ (∀ i j, i < j → j < m.length → (gEd m i).id ≤ (gEd m j).id) ∧ w'.ownsRow w.heap.size 34 8 v m.length (flatEd m) ∧ Below w.heap.size w w' := by
  obtain ⟨i0, hi0, hz0, hz1, hz2⟩ := info_parts infoEd
  have hB : Below w.heap.size w (w.alloc (.cells #[.slice A1 n1 c1, .slice A n c, .int .i64 clk, .int .i64 ver] 25)) := by (repeat (first | exact Below.refl _ _ | refine Below.alloc ?_ (by first | omega | (simp; done) | (simp; omega)) _ | refine Below.setCell ?_ (by first | omega | (simp; done) | (simp; omega)) _ | refine Below.drew ?_))
  have hP := Blok.new w 25 #[.slice A1 n1 c1, .slice A n c, .int .i64 clk, .int .i64 ver]
  replace h := h.below hB
  replace h1 := h1.below hB
  replace h2 := h2.below hB
  have HD := Lib.hid hd
  have HD1 := Lib.hid hd1
  have HD2 := Lib.hid hd2
  have HR := Lib.hid hr
  have HR2 := Lib.hid hr2
  have HS := Lib.hid HSORT
  clear hd hd1 hd2 hr hr2 HSORT
  have p0 : (w.alloc (.cells #[.slice A1 n1 c1, .slice A n c, .int .i64 clk, .int .i64 ver] 25)).cell? ⟨w.heap.size, 0, none⟩ = some (.slice A1 n1 c1) := hP.cell 0
  have lt_p := hP.lt
  have HP := Lib.hid hP
  have HL := Lib.hid h
  have HL1 := Lib.hid h1
  have HL2 := Lib.hid h2
  have HB := Lib.hid hB
  have hs0 := hB.size
  clear h h1 h2 hB hP
  go_enter Try.func16, Try.ntmps16
  go_upto_region 2 with fail
  generalize w.alloc (.cells #[.slice A1 n1 c1, .slice A n c, .int .i64 clk, .int .i64 ver] 25) = w0 at *
  go_wp2_with fail
  clear p0 lt_p
  go_loopw [7, 15] (fun ev iv wr => ∃ (es : List Ed) (k i : Nat), iv = .int .i64 i ∧ i ≤ n1 ∧ k ≤ i ∧ Hid (es.length = k) ∧ Hid (allL rs bk cl (cs.take i) = es) ∧ wr.ownsRow (w.heap.size + 1) 34 8 ev k (flatEd es) ∧ Below w.heap.size w wr ∧ Hid (Blok wr w.heap.size 25 #[.slice A1 n1 c1, .slice A n c, .int .i64 clk, .int .i64 ver]) ∧ Hid (Sl wr w.heap.size 6 A1 n1 c1 (flatCo cs)) ∧ Hid (Sl wr w.heap.size 5 A n c (flatRg rs)) ∧ Hid (Sl wr w.heap.size 4 A2 n2 c2 (flatBk bk))) (fun ev iv _ => n1 - (intOf iv).toNat)
  case atStart => exact ⟨[], 0, 0, rfl, by omega, by omega, rfl, by simp [Hid, allL], World.ownsRow_nil _ _ _ _, HB.out, HP.out, HL1.out, HL.out, HL2.out⟩
  case round =>
    clear HL HL1 HL2 HP HB hs0
    obtain ⟨es, k, i, rfl, hi, hk, HE, HF, hown, hB, HP, HL1, HL, HL2⟩ := hrel
    have hs := hB.size
    obtain ⟨Ae, ce, rfl⟩ := slice_of_own hown
    have hltp := HP.out.lt
    by_cases hin : i < n1
    · obtain ⟨ad, rfl, hab, c0, c1', c2', c3, c4, c5⟩ := HL1.out.lst.atCo HD1.out hin
      have hin' : i < cs.length := by rw [HD1.out]; exact hin
      have hst := take_snocCo hin'
      obtain ⟨x, hx⟩ : ∃ x, gCo cs i = x := ⟨_, rfl⟩
      rw [hx] at c0 c1' c2' c3 c4 c5 hst
      have HST := Lib.hid hst
      have hX := Blok.new wr 28 #[.int .i64 x.id, .int .i64 x.fr, .int .i64 x.tn, .int .i64 x.st, .int .i64 x.en, .int .i64 x.rt]
      have hBa : Below wr.heap.size wr (wr.alloc (.cells #[.int .i64 x.id, .int .i64 x.fr, .int .i64 x.tn, .int .i64 x.st, .int .i64 x.en, .int .i64 x.rt] 28)) := by (repeat (first | exact Below.refl _ _ | refine Below.alloc ?_ (by first | omega | (simp; done) | (simp; omega)) _ | refine Below.setCell ?_ (by first | omega | (simp; done) | (simp; omega)) _ | refine Below.drew ?_))
      have hB2 := hB.trans (hBa.mono hs)
      have hL2 := HL2.out.below (hBa.mono hs)
      have hL := HL.out.below (hBa.mono hs)
      have hL1 := HL1.out.below (hBa.mono hs)
      have hP2 := HP.out.below hBa HP.out.lt
      have hown2 := own_below hown hBa
      clear hx hst
      go_upto_region 5 with fail
      clear c0 c1' c2' c3 c4 c5 hBa hB hown HL HL1 HL2 HP
      generalize wr.alloc (.cells #[.int .i64 x.id, .int .i64 x.fr, .int .i64 x.tn, .int .i64 x.st, .int .i64 x.en, .int .i64 x.rt] 28) = wx at *
      generalize wr.heap.size = bb at *
      have x0 : wx.cell? ⟨bb, 0, none⟩ = some (.int .i64 x.id) := hX.cell 0
      have x1 : wx.cell? ⟨bb, 1, none⟩ = some (.int .i64 x.fr) := hX.cell 1
      have x2 : wx.cell? ⟨bb, 2, none⟩ = some (.int .i64 x.tn) := hX.cell 2
      have x3 : wx.cell? ⟨bb, 3, none⟩ = some (.int .i64 x.st) := hX.cell 3
      have x4 : wx.cell? ⟨bb, 4, none⟩ = some (.int .i64 x.en) := hX.cell 4
      have x5 : wx.cell? ⟨bb, 5, none⟩ = some (.int .i64 x.rt) := hX.cell 5
      have lt_x := hX.lt
      have p0 : wx.cell? ⟨w.heap.size, 0, none⟩ = some (.slice (some ad) n1 c1) := hP2.cell 0
      have p1 : wx.cell? ⟨w.heap.size, 1, none⟩ = some (.slice A n c) := hP2.cell 1
      have p2 : wx.cell? ⟨w.heap.size, 2, none⟩ = some (.int .i64 clk) := hP2.cell 2
      have p3 : wx.cell? ⟨w.heap.size, 3, none⟩ = some (.int .i64 ver) := hP2.cell 3
      have lt_p := hP2.lt
      have hsx := hB2.size
      obtain ⟨o, ho⟩ : ∃ o, edgeF rs bk x cl = o := ⟨_, rfl⟩
      obtain ⟨y, hy⟩ : ∃ y, o.getD zeroEd = y := ⟨_, rfl⟩
      have HO := Lib.hid ho
      have HY := Lib.hid hy
      have HE5 := Lib.hid (edge_any (some ad) n1 c1 A n c rs clk ver A2 n2 c2 bk x cl wx HD.out hn HD2.out hn2 (hL.more hsx) (hL2.more hsx) HR.out HR2.out o ho y hy)
      clear ho hy
      go_wp2_with fail
      refine HE5.out.mono ?_
      rintro e w4 ⟨rfl, hb⟩
      replace hB2 := hB2.trans (hb.mono hsx)
      have hL2 := hL2.below (hb.mono hsx)
      have hL := hL.below (hb.mono hsx)
      have hL1 := hL1.below (hb.mono hsx)
      have hP2 := hP2.below hb hP2.lt
      have hown2 := own_below hown2 hb
      have hsx4 := hB2.size
      clear hb p0 p1 p2 p3 lt_p x0 x1 x2 x3 x4 x5 lt_x hX HE5 hsx
      have hBe : Below w4.heap.size w4 (w4.alloc (.cells #[.int .i64 y.id, .int .i64 y.fr, .int .i64 y.tn, .int .i64 y.op, .int .i64 y.en, .int .i64 y.ra, .int .i64 y.ow, .int .i64 y.ro] 34)) := by (repeat (first | exact Below.refl _ _ | refine Below.alloc ?_ (by first | omega | (simp; done) | (simp; omega)) _ | refine Below.setCell ?_ (by first | omega | (simp; done) | (simp; omega)) _ | refine Below.drew ?_))
      have hY := Blok.new w4 34 #[.int .i64 y.id, .int .i64 y.fr, .int .i64 y.tn, .int .i64 y.op, .int .i64 y.en, .int .i64 y.ra, .int .i64 y.ow, .int .i64 y.ro]
      have hB2 := hB2.trans (hBe.mono hsx4)
      have hL2 := Lib.hid (hL2.below (hBe.mono hsx4))
      have hL := Lib.hid (hL.below (hBe.mono hsx4))
      have hL1 := Lib.hid (hL1.below (hBe.mono hsx4))
      have hP2 := hP2.below hBe hP2.lt
      have hown2 := own_below hown2 hBe
      cases o with
      | none =>
        have hnx : allL rs bk cl (cs.take (i + 1)) = es := by
          rw [HST.out, ← HF.out]; unfold allL; rw [List.filterMap_append]; simp [HO.out]
        have HNX := Lib.hid hnx
        have HP2 := Lib.hid hP2
        clear hnx hP2 HO HY hY
        go_wp2_with fail
        go_roundw
        case rel => exact ⟨es, k, i + 1, by go_num, by omega, by omega, HE, HNX, hown2, hB2, HP2, hL1, hL, hL2⟩
        case measure => simp [intOf]; omega
      | some y' =>
        obtain rfl : y' = y := HY.out
        have hnx : allL rs bk cl (cs.take (i + 1)) = es ++ [y'] := by
          rw [HST.out, ← HF.out]; unfold allL; rw [List.filterMap_append]; simp [HO.out]
        have HNX := Lib.hid hnx
        clear hnx HO HY hBe
        go_upto_region 6 with fail
        generalize w4.alloc (.cells #[.int .i64 y'.id, .int .i64 y'.fr, .int .i64 y'.tn, .int .i64 y'.op, .int .i64 y'.en, .int .i64 y'.ra, .int .i64 y'.ow, .int .i64 y'.ro] 34) = w5 at *
        generalize w4.heap.size = be at *
        have y0 : w5.cell? ⟨be, 0, none⟩ = some (.int .i64 y'.id) := hY.cell 0
        have y1 : w5.cell? ⟨be, 1, none⟩ = some (.int .i64 y'.fr) := hY.cell 1
        have y2 : w5.cell? ⟨be, 2, none⟩ = some (.int .i64 y'.tn) := hY.cell 2
        have y3 : w5.cell? ⟨be, 3, none⟩ = some (.int .i64 y'.op) := hY.cell 3
        have y4 : w5.cell? ⟨be, 4, none⟩ = some (.int .i64 y'.en) := hY.cell 4
        have y5 : w5.cell? ⟨be, 5, none⟩ = some (.int .i64 y'.ra) := hY.cell 5
        have y6 : w5.cell? ⟨be, 6, none⟩ = some (.int .i64 y'.ow) := hY.cell 6
        have y7 : w5.cell? ⟨be, 7, none⟩ = some (.int .i64 y'.ro) := hY.cell 7
        have lt_y := hY.lt
        have hsx := hB2.size
        have HP2 := Lib.hid hP2
        clear hP2
        go_wp2_with (first | (at_builtin; refine wpList_append_own _ rfl _ _ 29 rfl (w.heap.size + 1) 34 i0 _ 8 64 Try.underlying29 hi0 hz0 hz1 hz2 rfl (by decide) _ _ _ rfl (hown2.alloc _) ⟨w5.heap.size, 0, none⟩ 1 1 [.int .i64 y'.id, .int .i64 y'.fr, .int .i64 y'.tn, .int .i64 y'.op, .int .i64 y'.en, .int .i64 y'.ra, .int .i64 y'.ow, .int .i64 y'.ro] rfl rfl (by exact lit_cells w5 #[.int .i64 y'.id, .int .i64 y'.fr, .int .i64 y'.tn, .int .i64 y'.op, .int .i64 y'.en, .int .i64 y'.ra, .int .i64 y'.ow, .int .i64 y'.ro] _ _ rfl) (by simp [Value.oneCell']) (by unfold maxLen; omega) (by omega) (by simp; omega) ?_; intro v' w3 hown' hgrow3 hnil3; clear hnil3))
        have hbN : Below w.heap.size w w3 := (hB2.alloc hsx _).grown hgrow3 (by simp; omega) (fun q hq => by have := (hown2.lt q hq).1; omega)
        have hgB : Below w5.heap.size w5 (w5.alloc (.cells #[.int .i64 y'.id, .int .i64 y'.fr, .int .i64 y'.tn, .int .i64 y'.op, .int .i64 y'.en, .int .i64 y'.ra, .int .i64 y'.ow, .int .i64 y'.ro] 34)) := by (repeat (first | exact Below.refl _ _ | refine Below.alloc ?_ (by first | omega | (simp; done) | (simp; omega)) _ | refine Below.setCell ?_ (by first | omega | (simp; done) | (simp; omega)) _ | refine Below.drew ?_))
        have hPN := Lib.hid ((HP2.out.alloc (.cells #[.int .i64 y'.id, .int .i64 y'.fr, .int .i64 y'.tn, .int .i64 y'.op, .int .i64 y'.en, .int .i64 y'.ra, .int .i64 y'.ow, .int .i64 y'.ro] 34)).grown hgrow3 (fun e => by have := (hown2.lt w.heap.size e.symm).1; omega))
        have hLN := Lib.hid (hL.out.below (((Below.refl _ _).alloc hsx (.cells #[.int .i64 y'.id, .int .i64 y'.fr, .int .i64 y'.tn, .int .i64 y'.op, .int .i64 y'.en, .int .i64 y'.ra, .int .i64 y'.ow, .int .i64 y'.ro] 34)).grown hgrow3 (by simp; omega) (fun q hq => by have := (hown2.lt q hq).1; omega)))
        have hLN1 := Lib.hid (hL1.out.below (((Below.refl _ _).alloc hsx (.cells #[.int .i64 y'.id, .int .i64 y'.fr, .int .i64 y'.tn, .int .i64 y'.op, .int .i64 y'.en, .int .i64 y'.ra, .int .i64 y'.ow, .int .i64 y'.ro] 34)).grown hgrow3 (by simp; omega) (fun q hq => by have := (hown2.lt q hq).1; omega)))
        have hLN2 := Lib.hid (hL2.out.below (((Below.refl _ _).alloc hsx (.cells #[.int .i64 y'.id, .int .i64 y'.fr, .int .i64 y'.tn, .int .i64 y'.op, .int .i64 y'.en, .int .i64 y'.ra, .int .i64 y'.ow, .int .i64 y'.ro] 34)).grown hgrow3 (by simp; omega) (fun q hq => by have := (hown2.lt q hq).1; omega)))
        clear hgrow3 y0 y1 y2 y3 y4 y5 y6 y7 lt_y hY hgB
        go_roundw
        case rel => exact ⟨es ++ [y'], k + 1, i + 1, by go_num, by omega, by omega, by simp [Hid, HE.out], HNX, (by rw [flatEd_append, flatEd_one_]; exact hown'), hbN, hPN, hLN1, hLN, hLN2⟩
        case measure => simp [intOf]; omega
    · obtain rfl : i = n1 := by omega
      have hme : allL rs bk cl cs = es := by
        rw [← HF.out, List.take_of_length_le (by rw [HD1.out]; omega)]
      have HM := Lib.hid hme
      have hke : es.length = k := HE.out
      subst hke
      have HSE := Lib.hid (HS.out _ es (w.heap.size + 1) wr (by omega) hown)
      clear hme HE hown
      go_wp2_with fail
      refine HSE.out.mono ?_
      rintro e w6 ⟨m, rfl, hpm, hso, hown6, hg⟩
      have hB6 : Below w.heap.size w w6 := hB.grown hg (by omega) (fun q hq => by have := (hown6.lt q hq).1; omega)
      have HPM := Lib.hid hpm
      have HSO := Lib.hid hso
      have hle := hpm.length_eq
      clear hpm hso hg
      go_wp2_with fail
      go_ret
      exact ⟨_, m, rfl, HM.out ▸ HPM.out, HSO.out, by rw [hle]; exact own_base hown6 (by omega), hB6⟩
end Go.Proofs.Ytfdphpmcgidmiaa
