/- Contracts and plain facts, several texts of mine in one: View3, ViewMath, Shelf, SortE, Small11. No condition. -/
import Derived.Test.YtfdphpmcgidmiaaW4
import Derived.Shelf.SlSortCmp.NoneTotal
import Derived.Shelf.SlicesG.Cmp
import Derived.Ground.SlsfProg
import Derived.Ground.SlgcProg
import Derived.Test.YtfdphpmcgidmiaaProg
import Derived.Sort.OwnSorted

/- Contract of view.All, the sort's contract being a premise (XView4 lays it). -/
namespace Go.Proofs.Ytfdphpmcgidmiaa
open Go.ChangeShapes Go.WideShapes Go.ChangeAt Go.RowKit Go.Sort
set_option linter.unusedSimpArgs false
set_option linter.unusedVariables false
theorem own_base {w : World} {b b' : Nat} {e : TypeId} {s n : Nat} {v : Value} {xs : List Value} (h : w.ownsRow b e s v n xs) (hb : b' ≤ b) : w.ownsRow b' e s v n xs :=
  ⟨h.1, h.2.imp id fun ⟨g, cap, cur, e, hg, r⟩ => ⟨g, cap, cur, e, Nat.le_trans hb hg, r⟩⟩
theorem take_snocCo {l : List Co} {i : Nat} (h : i < l.length) : l.take (i + 1) = l.take i ++ [gCo l i] := by
  rw [List.take_succ_eq_append_getElem h, gCo_eq h]
/-- The edges of the contacts, in the contacts' order. -/
def allL (rs : List Rg) (bk : List Bk) (cl : Int) (cs : List Co) : List Ed := cs.filterMap fun c => edgeF rs bk c cl
def SortEdC : Prop := ∀ (u : Value) (l : List Ed) (base : Nat) (w : World), l.length ≤ 1000000 → w.ownsRow base 34 8 u l.length (flatEd l) →
    Calls Try.prog 42 #[u, .func (.func 43) #[] #[]] w fun e w' => ∃ m : List Ed, e = .returned (.tuple #[]) ∧ m.Perm l ∧ (∀ i j, i < j → j < m.length → (gEd m i).id ≤ (gEd m j).id) ∧ w'.ownsRow base 34 8 u l.length (flatEd m) ∧ w.grownBy w' u.ownBlock
set_option maxHeartbeats 8000000 in
set_option maxRecDepth 100000 in
theorem vall_of (HSORT : SortEdC) (A1 : Option Addr) (n1 c1 : Nat) (cs : List Co) (A : Option Addr) (n c : Nat) (rs : List Rg) (clk ver : Int) (A2 : Option Addr) (n2 c2 : Nat) (bk : List Bk) (cl : Int) (w : World) (hd1 : cs.length = n1) (hn1 : n1 ≤ 1000000) (hd : rs.length = n) (hn : n ≤ 1000000) (hd2 : bk.length = n2) (hn2 : n2 ≤ 1000000) (h1 : Sl w w.heap.size 6 A1 n1 c1 (flatCo cs)) (h : Sl w w.heap.size 5 A n c (flatRg rs)) (h2 : Sl w w.heap.size 4 A2 n2 c2 (flatBk bk)) (hr : Kr.rightB rs = true) (hr2 : Kb.rightB bk = true) :
    Calls Try.prog 16 #[.agg #[.slice A1 n1 c1, .slice A n c, .int .i64 clk, .int .i64 ver], .slice A2 n2 c2, .int .i64 cl] w fun e w' => ∃ v m, e = .returned v ∧ m.Perm (allL rs bk cl cs) ∧ (∀ i j, i < j → j < m.length → (gEd m i).id ≤ (gEd m j).id) ∧ w'.ownsRow w.heap.size 34 8 v m.length (flatEd m) ∧ Below w.heap.size w w' := by
  obtain ⟨i0, hi0, hz0, hz1, hz2⟩ := info_parts infoEd
  have hB : Below w.heap.size w (w.alloc (.cells #[.slice A1 n1 c1, .slice A n c, .int .i64 clk, .int .i64 ver] 25)) := by (repeat (first | exact Below.refl _ _ | refine Below.alloc ?_ (by first | omega | (simp; done) | (simp; omega)) _ | refine Below.setCell ?_ (by first | omega | (simp; done) | (simp; omega)) _ | refine Below.drew ?_))
  have hP := Blok.new w 25 #[.slice A1 n1 c1, .slice A n c, .int .i64 clk, .int .i64 ver]
  replace h := h.below hB
  replace h1 := h1.below hB
  replace h2 := h2.below hB
  have HD := Lib.hid hd
  have HD1 := Lib.hid hd1
  have HD2 := Lib.hid hd2
  have HR := Lib.hid hr
  have HR2 := Lib.hid hr2
  have HS := Lib.hid HSORT
  clear hd hd1 hd2 hr hr2 HSORT
  have p0 : (w.alloc (.cells #[.slice A1 n1 c1, .slice A n c, .int .i64 clk, .int .i64 ver] 25)).cell? ⟨w.heap.size, 0, none⟩ = some (.slice A1 n1 c1) := hP.cell 0
  have lt_p := hP.lt
  have HP := Lib.hid hP
  have HL := Lib.hid h
  have HL1 := Lib.hid h1
  have HL2 := Lib.hid h2
  have HB := Lib.hid hB
  have hs0 := hB.size
  clear h h1 h2 hB hP
  go_enter Try.func16, Try.ntmps16
  go_upto_region 2 with fail
  generalize w.alloc (.cells #[.slice A1 n1 c1, .slice A n c, .int .i64 clk, .int .i64 ver] 25) = w0 at *
  go_wp2_with fail
  clear p0 lt_p
  go_loopw [7, 15] (fun ev iv wr => ∃ (es : List Ed) (k i : Nat), iv = .int .i64 i ∧ i ≤ n1 ∧ k ≤ i ∧ Hid (es.length = k) ∧ Hid (allL rs bk cl (cs.take i) = es) ∧ wr.ownsRow (w.heap.size + 1) 34 8 ev k (flatEd es) ∧ Below w.heap.size w wr ∧ Hid (Blok wr w.heap.size 25 #[.slice A1 n1 c1, .slice A n c, .int .i64 clk, .int .i64 ver]) ∧ Hid (Sl wr w.heap.size 6 A1 n1 c1 (flatCo cs)) ∧ Hid (Sl wr w.heap.size 5 A n c (flatRg rs)) ∧ Hid (Sl wr w.heap.size 4 A2 n2 c2 (flatBk bk))) (fun ev iv _ => n1 - (intOf iv).toNat)
  case atStart => exact ⟨[], 0, 0, rfl, by omega, by omega, rfl, by simp [Hid, allL], World.ownsRow_nil _ _ _ _, HB.out, HP.out, HL1.out, HL.out, HL2.out⟩
  case round =>
    clear HL HL1 HL2 HP HB hs0
    obtain ⟨es, k, i, rfl, hi, hk, HE, HF, hown, hB, HP, HL1, HL, HL2⟩ := hrel
    have hs := hB.size
    obtain ⟨Ae, ce, rfl⟩ := slice_of_own hown
    have hltp := HP.out.lt
    by_cases hin : i < n1
    · obtain ⟨ad, rfl, hab, c0, c1', c2', c3, c4, c5⟩ := HL1.out.lst.atCo HD1.out hin
      have hin' : i < cs.length := by rw [HD1.out]; exact hin
      have hst := take_snocCo hin'
      obtain ⟨x, hx⟩ : ∃ x, gCo cs i = x := ⟨_, rfl⟩
      rw [hx] at c0 c1' c2' c3 c4 c5 hst
      have HST := Lib.hid hst
      have hX := Blok.new wr 28 #[.int .i64 x.id, .int .i64 x.fr, .int .i64 x.tn, .int .i64 x.st, .int .i64 x.en, .int .i64 x.rt]
      have hBa : Below wr.heap.size wr (wr.alloc (.cells #[.int .i64 x.id, .int .i64 x.fr, .int .i64 x.tn, .int .i64 x.st, .int .i64 x.en, .int .i64 x.rt] 28)) := by (repeat (first | exact Below.refl _ _ | refine Below.alloc ?_ (by first | omega | (simp; done) | (simp; omega)) _ | refine Below.setCell ?_ (by first | omega | (simp; done) | (simp; omega)) _ | refine Below.drew ?_))
      have hB2 := hB.trans (hBa.mono hs)
      have hL2 := HL2.out.below (hBa.mono hs)
      have hL := HL.out.below (hBa.mono hs)
      have hL1 := HL1.out.below (hBa.mono hs)
      have hP2 := HP.out.below hBa HP.out.lt
      have hown2 := own_below hown hBa
      clear hx hst
      go_upto_region 5 with fail
      clear c0 c1' c2' c3 c4 c5 hBa hB hown HL HL1 HL2 HP
      generalize wr.alloc (.cells #[.int .i64 x.id, .int .i64 x.fr, .int .i64 x.tn, .int .i64 x.st, .int .i64 x.en, .int .i64 x.rt] 28) = wx at *
      generalize wr.heap.size = bb at *
      have x0 : wx.cell? ⟨bb, 0, none⟩ = some (.int .i64 x.id) := hX.cell 0
      have x1 : wx.cell? ⟨bb, 1, none⟩ = some (.int .i64 x.fr) := hX.cell 1
      have x2 : wx.cell? ⟨bb, 2, none⟩ = some (.int .i64 x.tn) := hX.cell 2
      have x3 : wx.cell? ⟨bb, 3, none⟩ = some (.int .i64 x.st) := hX.cell 3
      have x4 : wx.cell? ⟨bb, 4, none⟩ = some (.int .i64 x.en) := hX.cell 4
      have x5 : wx.cell? ⟨bb, 5, none⟩ = some (.int .i64 x.rt) := hX.cell 5
      have lt_x := hX.lt
      have p0 : wx.cell? ⟨w.heap.size, 0, none⟩ = some (.slice (some ad) n1 c1) := hP2.cell 0
      have p1 : wx.cell? ⟨w.heap.size, 1, none⟩ = some (.slice A n c) := hP2.cell 1
      have p2 : wx.cell? ⟨w.heap.size, 2, none⟩ = some (.int .i64 clk) := hP2.cell 2
      have p3 : wx.cell? ⟨w.heap.size, 3, none⟩ = some (.int .i64 ver) := hP2.cell 3
      have lt_p := hP2.lt
      have hsx := hB2.size
      obtain ⟨o, ho⟩ : ∃ o, edgeF rs bk x cl = o := ⟨_, rfl⟩
      obtain ⟨y, hy⟩ : ∃ y, o.getD zeroEd = y := ⟨_, rfl⟩
      have HO := Lib.hid ho
      have HY := Lib.hid hy
      have HE5 := Lib.hid (edge_any (some ad) n1 c1 A n c rs clk ver A2 n2 c2 bk x cl wx HD.out hn HD2.out hn2 (hL.more hsx) (hL2.more hsx) HR.out HR2.out o ho y hy)
      clear ho hy
      go_wp2_with fail
      refine HE5.out.mono ?_
      rintro e w4 ⟨rfl, hb⟩
      replace hB2 := hB2.trans (hb.mono hsx)
      have hL2 := hL2.below (hb.mono hsx)
      have hL := hL.below (hb.mono hsx)
      have hL1 := hL1.below (hb.mono hsx)
      have hP2 := hP2.below hb hP2.lt
      have hown2 := own_below hown2 hb
      have hsx4 := hB2.size
      clear hb p0 p1 p2 p3 lt_p x0 x1 x2 x3 x4 x5 lt_x hX HE5 hsx
      have hBe : Below w4.heap.size w4 (w4.alloc (.cells #[.int .i64 y.id, .int .i64 y.fr, .int .i64 y.tn, .int .i64 y.op, .int .i64 y.en, .int .i64 y.ra, .int .i64 y.ow, .int .i64 y.ro] 34)) := by (repeat (first | exact Below.refl _ _ | refine Below.alloc ?_ (by first | omega | (simp; done) | (simp; omega)) _ | refine Below.setCell ?_ (by first | omega | (simp; done) | (simp; omega)) _ | refine Below.drew ?_))
      have hY := Blok.new w4 34 #[.int .i64 y.id, .int .i64 y.fr, .int .i64 y.tn, .int .i64 y.op, .int .i64 y.en, .int .i64 y.ra, .int .i64 y.ow, .int .i64 y.ro]
      have hB2 := hB2.trans (hBe.mono hsx4)
      have hL2 := Lib.hid (hL2.below (hBe.mono hsx4))
      have hL := Lib.hid (hL.below (hBe.mono hsx4))
      have hL1 := Lib.hid (hL1.below (hBe.mono hsx4))
      have hP2 := hP2.below hBe hP2.lt
      have hown2 := own_below hown2 hBe
      cases o with
      | none =>
        have hnx : allL rs bk cl (cs.take (i + 1)) = es := by
          rw [HST.out, ← HF.out]; unfold allL; rw [List.filterMap_append]; simp [HO.out]
        have HNX := Lib.hid hnx
        have HP2 := Lib.hid hP2
        clear hnx hP2 HO HY hY
        go_wp2_with fail
        go_roundw
        case rel => exact ⟨es, k, i + 1, by go_num, by omega, by omega, HE, HNX, hown2, hB2, HP2, hL1, hL, hL2⟩
        case measure => simp [intOf]; omega
      | some y' =>
        obtain rfl : y' = y := HY.out
        have hnx : allL rs bk cl (cs.take (i + 1)) = es ++ [y'] := by
          rw [HST.out, ← HF.out]; unfold allL; rw [List.filterMap_append]; simp [HO.out]
        have HNX := Lib.hid hnx
        clear hnx HO HY hBe
        go_upto_region 6 with fail
        generalize w4.alloc (.cells #[.int .i64 y'.id, .int .i64 y'.fr, .int .i64 y'.tn, .int .i64 y'.op, .int .i64 y'.en, .int .i64 y'.ra, .int .i64 y'.ow, .int .i64 y'.ro] 34) = w5 at *
        generalize w4.heap.size = be at *
        have y0 : w5.cell? ⟨be, 0, none⟩ = some (.int .i64 y'.id) := hY.cell 0
        have y1 : w5.cell? ⟨be, 1, none⟩ = some (.int .i64 y'.fr) := hY.cell 1
        have y2 : w5.cell? ⟨be, 2, none⟩ = some (.int .i64 y'.tn) := hY.cell 2
        have y3 : w5.cell? ⟨be, 3, none⟩ = some (.int .i64 y'.op) := hY.cell 3
        have y4 : w5.cell? ⟨be, 4, none⟩ = some (.int .i64 y'.en) := hY.cell 4
        have y5 : w5.cell? ⟨be, 5, none⟩ = some (.int .i64 y'.ra) := hY.cell 5
        have y6 : w5.cell? ⟨be, 6, none⟩ = some (.int .i64 y'.ow) := hY.cell 6
        have y7 : w5.cell? ⟨be, 7, none⟩ = some (.int .i64 y'.ro) := hY.cell 7
        have lt_y := hY.lt
        have hsx := hB2.size
        have HP2 := Lib.hid hP2
        clear hP2
        go_wp2_with (first | (at_builtin; refine wpList_append_own _ rfl _ _ 29 rfl (w.heap.size + 1) 34 i0 _ 8 64 Try.underlying29 hi0 hz0 hz1 hz2 rfl (by decide) _ _ _ rfl (hown2.alloc _) ⟨w5.heap.size, 0, none⟩ 1 1 [.int .i64 y'.id, .int .i64 y'.fr, .int .i64 y'.tn, .int .i64 y'.op, .int .i64 y'.en, .int .i64 y'.ra, .int .i64 y'.ow, .int .i64 y'.ro] rfl rfl (by exact lit_cells w5 #[.int .i64 y'.id, .int .i64 y'.fr, .int .i64 y'.tn, .int .i64 y'.op, .int .i64 y'.en, .int .i64 y'.ra, .int .i64 y'.ow, .int .i64 y'.ro] _ _ rfl) (by simp [Value.oneCell']) (by unfold maxLen; omega) (by omega) (by simp; omega) ?_; intro v' w3 hown' hgrow3 hnil3; clear hnil3))
        have hbN : Below w.heap.size w w3 := (hB2.alloc hsx _).grown hgrow3 (by simp; omega) (fun q hq => by have := (hown2.lt q hq).1; omega)
        have hgB : Below w5.heap.size w5 (w5.alloc (.cells #[.int .i64 y'.id, .int .i64 y'.fr, .int .i64 y'.tn, .int .i64 y'.op, .int .i64 y'.en, .int .i64 y'.ra, .int .i64 y'.ow, .int .i64 y'.ro] 34)) := by (repeat (first | exact Below.refl _ _ | refine Below.alloc ?_ (by first | omega | (simp; done) | (simp; omega)) _ | refine Below.setCell ?_ (by first | omega | (simp; done) | (simp; omega)) _ | refine Below.drew ?_))
        have hPN := Lib.hid ((HP2.out.alloc (.cells #[.int .i64 y'.id, .int .i64 y'.fr, .int .i64 y'.tn, .int .i64 y'.op, .int .i64 y'.en, .int .i64 y'.ra, .int .i64 y'.ow, .int .i64 y'.ro] 34)).grown hgrow3 (fun e => by have := (hown2.lt w.heap.size e.symm).1; omega))
        have hLN := Lib.hid (hL.out.below (((Below.refl _ _).alloc hsx (.cells #[.int .i64 y'.id, .int .i64 y'.fr, .int .i64 y'.tn, .int .i64 y'.op, .int .i64 y'.en, .int .i64 y'.ra, .int .i64 y'.ow, .int .i64 y'.ro] 34)).grown hgrow3 (by simp; omega) (fun q hq => by have := (hown2.lt q hq).1; omega)))
        have hLN1 := Lib.hid (hL1.out.below (((Below.refl _ _).alloc hsx (.cells #[.int .i64 y'.id, .int .i64 y'.fr, .int .i64 y'.tn, .int .i64 y'.op, .int .i64 y'.en, .int .i64 y'.ra, .int .i64 y'.ow, .int .i64 y'.ro] 34)).grown hgrow3 (by simp; omega) (fun q hq => by have := (hown2.lt q hq).1; omega)))
        have hLN2 := Lib.hid (hL2.out.below (((Below.refl _ _).alloc hsx (.cells #[.int .i64 y'.id, .int .i64 y'.fr, .int .i64 y'.tn, .int .i64 y'.op, .int .i64 y'.en, .int .i64 y'.ra, .int .i64 y'.ow, .int .i64 y'.ro] 34)).grown hgrow3 (by simp; omega) (fun q hq => by have := (hown2.lt q hq).1; omega)))
        clear hgrow3 y0 y1 y2 y3 y4 y5 y6 y7 lt_y hY hgB
        go_roundw
        case rel => exact ⟨es ++ [y'], k + 1, i + 1, by go_num, by omega, by omega, by simp [Hid, HE.out], HNX, (by rw [flatEd_append, flatEd_one_]; exact hown'), hbN, hPN, hLN1, hLN, hLN2⟩
        case measure => simp [intOf]; omega
    · obtain rfl : i = n1 := by omega
      have hme : allL rs bk cl cs = es := by
        rw [← HF.out, List.take_of_length_le (by rw [HD1.out]; omega)]
      have HM := Lib.hid hme
      have hke : es.length = k := HE.out
      subst hke
      have HSE := Lib.hid (HS.out _ es (w.heap.size + 1) wr (by omega) hown)
      clear hme HE hown
      go_wp2_with fail
      refine HSE.out.mono ?_
      rintro e w6 ⟨m, rfl, hpm, hso, hown6, hg⟩
      have hB6 : Below w.heap.size w w6 := hB.grown hg (by omega) (fun q hq => by have := (hown6.lt q hq).1; omega)
      have HPM := Lib.hid hpm
      have HSO := Lib.hid hso
      have hle := hpm.length_eq
      clear hpm hso hg
      go_wp2_with fail
      go_ret
      exact ⟨_, m, rfl, HM.out ▸ HPM.out, HSO.out, by rw [hle]; exact own_base hown6 (by omega), hB6⟩
end Go.Proofs.Ytfdphpmcgidmiaa

/- Plain facts on the edges of a plan. No condition. -/
namespace Go.Proofs.Ytfdphpmcgidmiaa
open Go.ChangeShapes Go.WideShapes Go.ChangeAt Go.RowKit Go.Sort
set_option linter.unusedSimpArgs false
set_option linter.unusedVariables false
theorem edgeF_some {rs : List Rg} {bk : List Bk} {c : Co} {cl : Int} {e : Ed} (h : edgeF rs bk c cl = some e) : Kc.okC c = true ∧ ∃ o, owltF rs c.fr c.tn c.st c.en = some o ∧ e = ⟨c.id, c.fr, c.tn, min (c.st + cdiv (Kb.backF (Kb.rowB bk c.id) cl) c.rt) 1099511627776, c.en, c.rt, o, Kb.roomF (ctOf c) (Kb.rowB bk c.id) cl⟩ := by
  unfold edgeF at h
  split at h
  · rename_i hok
    rw [Option.map_eq_some_iff] at h
    obtain ⟨o, ho, rfl⟩ := h
    exact ⟨hok, o, ho, rfl⟩
  · cases h
theorem edgeF_id {rs : List Rg} {bk : List Bk} {c : Co} {cl : Int} {e : Ed} (h : edgeF rs bk c cl = some e) : e.id = c.id := by
  obtain ⟨_, o, _, rfl⟩ := edgeF_some h
  rfl
theorem mem_allL {rs : List Rg} {bk : List Bk} {cl : Int} {cs : List Co} {e : Ed} : e ∈ allL rs bk cl cs ↔ ∃ c ∈ cs, edgeF rs bk c cl = some e := by
  unfold allL
  rw [List.mem_filterMap]
theorem ids_apart {cs : List Co} (h : Kc.rightC cs = true) : cs.Pairwise (fun a b => a.id ≠ b.id) := by
  rw [List.pairwise_iff_getElem]
  intro i j hi hj hij
  have := Kc.right_ids h hij hj
  rw [gCo_eq hi, gCo_eq hj] at this
  exact this
theorem allL_apart {rs : List Rg} {bk : List Bk} {cl : Int} {cs : List Co} (h : Kc.rightC cs = true) : (allL rs bk cl cs).Pairwise (fun a b => a.id ≠ b.id) := by
  unfold allL
  rw [List.pairwise_filterMap]
  refine (ids_apart h).imp fun {a b} hab x hx y hy => ?_
  rw [edgeF_id hx, edgeF_id hy]
  exact hab
theorem sorted_of {m : List Ed} (h : ∀ i j, i < j → j < m.length → (gEd m i).id ≤ (gEd m j).id) (hd : m.Pairwise (fun a b => a.id ≠ b.id)) : m.Pairwise (fun a b => a.id < b.id) := by
  rw [List.pairwise_iff_getElem] at hd ⊢
  intro i j hi hj hij
  have h1 := h i j hij hj
  rw [gEd_eq hi, gEd_eq hj] at h1
  have h2 := hd i j hi hj hij
  omega
theorem sorted_ext : ∀ {d e : List Ed}, d.Pairwise (fun a b => a.id < b.id) → e.Pairwise (fun a b => a.id < b.id) → (∀ x, x ∈ d ↔ x ∈ e) → d = e
  | [], [], _, _, _ => rfl
  | [], y :: e, _, _, h => absurd ((h y).2 (by simp)) (by simp)
  | x :: d, [], _, _, h => absurd ((h x).1 (by simp)) (by simp)
  | x :: d, y :: e, hd, he, h => by
    rw [List.pairwise_cons] at hd he
    have hxy : x = y := by
      have h1 := (h x).1 (by simp)
      have h2 := (h y).2 (by simp)
      simp only [List.mem_cons] at h1 h2
      rcases h1 with h1 | h1
      · exact h1
      · rcases h2 with h2 | h2
        · exact h2.symm
        · have := hd.1 y h2
          have := he.1 x h1
          omega
    subst hxy
    congr 1
    refine sorted_ext hd.2 he.2 fun z => ?_
    have := h z
    simp only [List.mem_cons] at this
    constructor
    · intro hz
      rcases this.1 (.inr hz) with rfl | h1
      · exact absurd (hd.1 z hz) (by omega)
      · exact h1
    · intro hz
      rcases this.2 (.inr hz) with rfl | h1
      · exact absurd (he.1 z hz) (by omega)
      · exact h1
/-- What view.All hands back: the edges, by rising IDs. -/
structure AllE (rs : List Rg) (bk : List Bk) (cl : Int) (cs : List Co) (m : List Ed) : Prop where
  mem : ∀ e, e ∈ m ↔ ∃ c ∈ cs, edgeF rs bk c cl = some e
  sorted : m.Pairwise (fun a b => a.id < b.id)
  size : m.length = (allL rs bk cl cs).length
theorem allE_of {rs : List Rg} {bk : List Bk} {cl : Int} {cs : List Co} {m : List Ed} (hr : Kc.rightC cs = true) (hp : m.Perm (allL rs bk cl cs)) (hs : ∀ i j, i < j → j < m.length → (gEd m i).id ≤ (gEd m j).id) : AllE rs bk cl cs m :=
  ⟨fun e => by rw [hp.mem_iff, mem_allL], sorted_of hs ((hp.pairwise_iff (fun h => Ne.symm h)).2 (allL_apart hr)), hp.length_eq⟩
theorem AllE.len {rs : List Rg} {bk : List Bk} {cl : Int} {cs : List Co} {m : List Ed} (h : AllE rs bk cl cs m) : m.length ≤ cs.length := by rw [h.size]; exact List.length_filterMap_le _ _
theorem AllE.one {rs : List Rg} {bk : List Bk} {cl : Int} {cs : List Co} {m m' : List Ed} (h : AllE rs bk cl cs m) (h' : AllE rs bk cl cs m') : m = m' :=
  sorted_ext h.sorted h'.sorted fun x => by rw [h.mem, h'.mem]
theorem AllE.at_ {rs : List Rg} {bk : List Bk} {cl : Int} {cs : List Co} {m : List Ed} (hr : Kc.rightC cs = true) (h : AllE rs bk cl cs m) {i : Nat} (hi : i < m.length) : ∃ c, c ∈ cs ∧ edgeF rs bk c cl = some (gEd m i) ∧ (gEd m i).id = c.id ∧ Kc.idIn cs (gEd m i).id = true ∧ Kc.foundC cs (gEd m i).id = c := by
  obtain ⟨c, hc, he⟩ := (h.mem _).1 (gEd_mem hi)
  have hid := edgeF_id he
  refine ⟨c, hc, he, hid, ?_, ?_⟩
  · rw [hid]; exact Kc.idIn_mem hc
  · rw [hid]; exact Kc.found_of hr hc
theorem backF_none (id cl : Int) : Kb.backF ⟨id, 0, 0, 0⟩ cl = 0 := by
  unfold Kb.backF Kb.capAdd
  dsimp only
  split
  · omega
  · split
    · omega
    · split <;> omega
theorem edgeF_bare {rs : List Rg} {c : Co} {cl : Int} (hcl : inB cl 0 2 = true) (hc : Kc.okC c = true) : edgeF rs [] c cl = (owltF rs c.fr c.tn c.st c.en).map fun o => ⟨c.id, c.fr, c.tn, c.st, c.en, c.rt, o, Kb.volC (ctOf c)⟩ := by
  unfold edgeF
  rw [if_pos hc]
  congr 1
  funext o
  have h1 : Kb.rowB [] c.id = ⟨c.id, 0, 0, 0⟩ := rfl
  have hcb : contactB c.id c.fr c.tn c.st c.en c.rt = true := hc
  obtain ⟨_, _, _, _, j1, j2, j3, k1, k2⟩ := contactB_spec.1 hcb
  rw [h1, backF_none]
  have h2 : cdiv 0 c.rt = 0 := by unfold cdiv; simp
  rw [h2]
  have h3 : Kb.roomF (ctOf c) ⟨c.id, 0, 0, 0⟩ cl = Kb.volC (ctOf c) := by
    unfold Kb.roomF
    rw [if_pos hcl, backF_none]
    have := Kb.volC_ok (ctOf c)
    omega
  rw [h3]
  have h4 : min (c.st + 0) 1099511627776 = c.st := by omega
  rw [h4]
theorem edgeF_isSome {rs : List Rg} {bk : List Bk} {c : Co} {cl : Int} (hc : Kc.okC c = true) : (edgeF rs bk c cl).isSome = (owltF rs c.fr c.tn c.st c.en).isSome := by
  unfold edgeF
  rw [if_pos hc]
  cases owltF rs c.fr c.tn c.st c.en <;> rfl
/-- The edge of e's contact, as another bundle sees it. -/
def reE (rs : List Rg) (bk : List Bk) (cl : Int) (cs : List Co) (e : Ed) : Ed := (edgeF rs bk (Kc.foundC cs e.id) cl).getD zeroEd
theorem reE_of {rs : List Rg} {bk bk' : List Bk} {cl cl' : Int} {cs : List Co} {c : Co} {e : Ed} (hr : Kc.rightC cs = true) (hc : c ∈ cs) (he : edgeF rs bk c cl = some e) : edgeF rs bk' c cl' = some (reE rs bk' cl' cs e) ∧ (reE rs bk' cl' cs e).id = e.id := by
  have hok := Kc.right_ok hr c hc
  have hid := edgeF_id he
  have hf : Kc.foundC cs e.id = c := by rw [hid]; exact Kc.found_of hr hc
  have h1 : (edgeF rs bk' c cl').isSome = true := by rw [edgeF_isSome hok, ← edgeF_isSome (bk := bk) (cl := cl) hok, he]; rfl
  obtain ⟨e', he'⟩ := Option.isSome_iff_exists.1 h1
  have h2 : reE rs bk' cl' cs e = e' := by unfold reE; rw [hf, he']; rfl
  rw [h2]
  exact ⟨he', by rw [edgeF_id he', hid]⟩
theorem sorted_map {f : Ed → Ed} : ∀ {m : List Ed}, (∀ e ∈ m, (f e).id = e.id) → m.Pairwise (fun a b => a.id < b.id) → (m.map f).Pairwise (fun a b => a.id < b.id)
  | [], _, _ => by simp
  | x :: m, hf, h => by
    rw [List.pairwise_cons] at h
    rw [List.map_cons, List.pairwise_cons]
    refine ⟨fun y hy => ?_, sorted_map (fun e he => hf e (by simp [he])) h.2⟩
    obtain ⟨z, hz, rfl⟩ := List.mem_map.1 hy
    rw [hf x (by simp), hf z (by simp [hz])]
    exact h.1 z hz
theorem AllE.map {rs : List Rg} {bk bk' : List Bk} {cl cl' : Int} {cs : List Co} {m m' : List Ed} (hr : Kc.rightC cs = true) (h : AllE rs bk cl cs m) (h' : AllE rs bk' cl' cs m') : m' = m.map (reE rs bk' cl' cs) := by
  have key : ∀ e ∈ m, ∃ c ∈ cs, edgeF rs bk c cl = some e := fun e he => (h.mem e).1 he
  refine sorted_ext h'.sorted (sorted_map (fun e he => ?_) h.sorted) fun x => ?_
  · obtain ⟨c, hc, h1⟩ := key e he
    exact (reE_of hr hc h1).2
  · rw [h'.mem, List.mem_map]
    constructor
    · rintro ⟨c, hc, hx⟩
      obtain ⟨e, he⟩ := Option.isSome_iff_exists.1 (show (edgeF rs bk c cl).isSome = true by rw [edgeF_isSome (Kc.right_ok hr c hc), ← edgeF_isSome (bk := bk') (cl := cl') (Kc.right_ok hr c hc), hx]; rfl)
      refine ⟨e, (h.mem e).2 ⟨c, hc, he⟩, ?_⟩
      have := (reE_of (bk' := bk') (cl' := cl') hr hc he).1
      rw [hx] at this
      exact (Option.some.inj this).symm
    · rintro ⟨e, he, rfl⟩
      obtain ⟨c, hc, h1⟩ := key e he
      exact ⟨c, hc, (reE_of hr hc h1).1⟩
theorem back_mono {x : Bk} (h : Kb.okU x) {cl : Int} (h0 : 0 ≤ cl) (h1 : cl ≤ 1) : Kb.backF x (cl + 1) ≤ Kb.backF x cl := by
  obtain ⟨a0, a1, b0, b1, c0, c1⟩ := h
  have hc : cl = 0 ∨ cl = 1 := by omega
  unfold Kb.backF Kb.capAdd
  rcases hc with rfl | rfl
  · simp only [if_true, show ((0 : Int) + 1 = 0) = False by simp, show ((0 : Int) + 1 = 1) = True by simp, if_false]
    omega
  · simp only [if_true, show ((1 : Int) = 0) = False by simp, show ((1 : Int) + 1 = 0) = False by simp, show ((1 : Int) + 1 = 1) = False by simp, show ((1 : Int) + 1 = 2) = True by simp, if_false]
    omega
/-- At each place: one contact's edge, for both classes and bare. -/
structure Books (x y z : Ed) : Prop where
  ids : x.id = y.id
  same : (⟨x.id, x.fr, x.tn, z.op, x.en, x.ra, x.ow, z.ro⟩ : Ed) = z
  o1 : y.op ≤ x.op
  o2 : z.op ≤ y.op
  r1 : x.ro ≤ y.ro
  r2 : y.ro ≤ z.ro
theorem map_at {m : List Ed} (f : Ed → Ed) {i : Nat} (hi : i < m.length) : gEd (m.map f) i = f (gEd m i) := by
  rw [gEd_eq (by simpa using hi), gEd_eq hi]
  simp
theorem books_at {rs : List Rg} {bk : List Bk} {cl : Int} {cs : List Co} {a b d : List Ed} (hr : Kc.rightC cs = true) (hb : Kb.rightB bk = true) (h0 : 0 ≤ cl) (h1 : cl ≤ 1) (ha : AllE rs bk cl cs a) (hbb : AllE rs bk (cl + 1) cs b) (hd : AllE rs [] 0 cs d) : b.length = a.length ∧ d.length = a.length ∧ ∀ i, i < a.length → Books (gEd a i) (gEd b i) (gEd d i) := by
  have e1 := AllE.map hr ha hbb
  have e2 := AllE.map hr ha hd
  refine ⟨by rw [e1]; simp, by rw [e2]; simp, fun i hi => ?_⟩
  rw [e1, e2, map_at _ hi, map_at _ hi]
  obtain ⟨c, hc, he⟩ := (ha.mem _).1 (gEd_mem hi)
  have hok := Kc.right_ok hr c hc
  obtain ⟨f1, _⟩ := reE_of (bk' := bk) (cl' := cl + 1) hr hc he
  obtain ⟨f2, _⟩ := reE_of (bk' := []) (cl' := 0) hr hc he
  obtain ⟨_, o, ho, g0⟩ := edgeF_some he
  obtain ⟨_, o', ho', g1⟩ := edgeF_some f1
  rw [edgeF_bare (by decide) hok, ho] at f2
  have g2 := Option.some.inj f2
  rw [ho] at ho'
  injection ho' with ho'
  subst ho'
  rw [g1, ← g2, g0]
  have hu := Kb.right_ok hb c.id
  have hm := back_mono hu h0 h1
  have k0 := Kb.backF_ok hu cl
  have k1 := Kb.backF_ok hu (cl + 1)
  have hcb : contactB c.id c.fr c.tn c.st c.en c.rt = true := hok
  obtain ⟨_, _, _, _, j1, j2, j3, k1', k2'⟩ := contactB_spec.1 hcb
  have q1 := cdiv_le k1.1 hm k1'
  have q2 := (cdiv_bounds k1.1 k1').1
  have v := Kb.volC_ok (ctOf c)
  have i1 : inB cl 0 2 = true := by unfold inB; rw [decide_eq_true_eq]; omega
  have i2 : inB (cl + 1) 0 2 = true := by unfold inB; rw [decide_eq_true_eq]; omega
  refine ⟨rfl, rfl, ?_, ?_, ?_, ?_⟩
  · show min _ _ ≤ min _ _
    omega
  · show c.st ≤ min _ _
    omega
  · show Kb.roomF _ _ _ ≤ Kb.roomF _ _ _
    unfold Kb.roomF
    rw [if_pos i1, if_pos i2]
    omega
  · show Kb.roomF _ _ _ ≤ Kb.volC _
    unfold Kb.roomF
    rw [if_pos i2]
    omega
theorem owltF_ok {rs : List Rg} (h : Kr.rightB rs = true) {cf ct cs ce o : Int} (ho : owltF rs cf ct cs ce = some o) : 0 ≤ o ∧ o ≤ 2147483647 := by
  unfold owltF at ho
  rw [Option.map_eq_some_iff] at ho
  obtain ⟨x, hx, rfl⟩ := ho
  have hm := List.mem_of_find?_eq_some hx
  have := Kr.right_ok h x hm
  have h2 := rangeB_spec.1 this
  omega
/-- What view.All hands back is right. -/
theorem all_ok {rs : List Rg} {bk : List Bk} {cl : Int} {cs : List Co} {m : List Ed} (hr : Kc.rightC cs = true) (hg : Kr.rightB rs = true) (hb : Kb.rightB bk = true) (h : AllE rs bk cl cs m) {i : Nat} (hi : i < m.length) :
    ∃ c, Kc.idIn cs (gEd m i).id = true ∧ Kc.foundC cs (gEd m i).id = c ∧ (gEd m i).ok = true ∧ c.fr = (gEd m i).fr ∧ c.tn = (gEd m i).tn ∧ c.en = (gEd m i).en ∧ c.rt = (gEd m i).ra ∧ c.st ≤ (gEd m i).op ∧ (∀ p, i = p + 1 → (gEd m p).id < (gEd m i).id) := by
  obtain ⟨c, hc, he, hid, h1, h2⟩ := h.at_ hr hi
  have hok := Kc.right_ok hr c hc
  obtain ⟨_, o, ho, g0⟩ := edgeF_some he
  have hcb : contactB c.id c.fr c.tn c.st c.en c.rt = true := hok
  obtain ⟨⟨i1, i2⟩, w1, w2, w3, j1, j2, j3, k1', k2'⟩ := contactB_spec.1 hcb
  have hoo := owltF_ok hg ho
  have hu := Kb.right_ok hb c.id
  have k0 := Kb.backF_ok hu cl
  have q2 := cdiv_bounds k0.1 k1'
  have v := Kb.volC_ok (ctOf c)
  have hro : 0 ≤ Kb.roomF (ctOf c) (Kb.rowB bk c.id) cl ∧ Kb.roomF (ctOf c) (Kb.rowB bk c.id) cl ≤ 4611686018427387904 := by
    unfold Kb.roomF
    split <;> omega
  refine ⟨c, h1, h2, ?_, by rw [g0], by rw [g0], by rw [g0], by rw [g0], by rw [g0]; show c.st ≤ min _ _; omega, fun p hp => ?_⟩
  · rw [g0, Ed.ok_spec]
    refine ⟨⟨i1, i2⟩, w1, w2, w3, ⟨?_, ?_⟩, ⟨by show 1 ≤ c.en; omega, by show c.en ≤ 2147483647; omega⟩, ⟨k1', k2'⟩, hoo, hro⟩
    · show 0 ≤ min _ _
      omega
    · show min _ _ ≤ _
      omega
  · have := (List.pairwise_iff_getElem.1 h.sorted) p i (by omega) hi (by omega)
    rw [gEd_eq (by omega), gEd_eq hi]
    exact this
def edgedN (rs : List Rg) (cs : List Co) (i : Nat) : Nat := ((cs.take i).filter (fun c => (owltF rs c.fr c.tn c.st c.en).isSome)).length
theorem edged_next {rs : List Rg} {cs : List Co} {i : Nat} (hi : i < cs.length) : edgedN rs cs (i + 1) = edgedN rs cs i + if (owltF rs (gCo cs i).fr (gCo cs i).tn (gCo cs i).st (gCo cs i).en).isSome = true then 1 else 0 := by
  unfold edgedN
  rw [take_snocCo hi, List.filter_append, List.length_append, List.filter_cons]
  split <;> simp [*]
theorem edged_all {rs : List Rg} {bk : List Bk} {cl : Int} {cs : List Co} {m : List Ed} (hr : Kc.rightC cs = true) (h : AllE rs bk cl cs m) {n : Nat} (hn : cs.length = n) : edgedN rs cs n = m.length := by
  rw [h.size]
  unfold edgedN allL
  rw [List.take_of_length_le (by omega)]
  have hok := Kc.right_ok hr
  clear hn hr h
  induction cs with
  | nil => rfl
  | cons c cs ih =>
    have h1 := edgeF_isSome (rs := rs) (bk := bk) (cl := cl) (hok c (by simp))
    have h2 := ih (fun x hx => hok x (by simp [hx]))
    cases he : edgeF rs bk c cl with
    | none =>
      rw [he] at h1
      rw [List.filterMap_cons, List.filter_cons]
      simp only [he, ← h1]
      simpa using h2
    | some e =>
      rw [he] at h1
      rw [List.filterMap_cons, List.filter_cons]
      simp only [he, ← h1]
      simpa using h2
/-- A contact has an edge just if it has a range. -/
theorem found_edge {rs : List Rg} {bk : List Bk} {cl : Int} {cs : List Co} {m : List Ed} (hr : Kc.rightC cs = true) (h : AllE rs bk cl cs m) {c : Co} (hc : c ∈ cs) : (findE m c.id).isSome = (owltF rs c.fr c.tn c.st c.en).isSome := by
  rw [← edgeF_isSome (bk := bk) (cl := cl) (Kc.right_ok hr c hc)]
  cases he : edgeF rs bk c cl with
  | some e =>
    cases hf : findE m c.id with
    | some _ => rfl
    | none =>
      obtain ⟨i, hi, hg⟩ := mem_gEd ((h.mem e).2 ⟨c, hc, he⟩)
      exact absurd (by rw [hg]; exact edgeF_id he) (findE_no hf hi)
  | none =>
    cases hf : findE m c.id with
    | none => rfl
    | some e =>
      obtain ⟨h1, h2⟩ := findE_some hf
      obtain ⟨c', hc', he'⟩ := (h.mem e).1 h1
      have h3 : c'.id = c.id := by rw [← edgeF_id he', h2]
      have h4 : c' = c := by rw [← Kc.found_of hr hc', ← Kc.found_of hr hc, h3]
      rw [h4, he] at he'
      cases he'
theorem owlt_eq (A : Option Addr) (n c : Nat) (d : List Rg) (x : Co) (w : World) (hd : d.length = n) (hn : n ≤ 1000000) (h : Sl w w.heap.size 5 A n c (flatRg d)) (hr : Kr.rightB d = true) (hx : x.st < x.en) (o : Option Int) (ho : owltF d x.fr x.tn x.st x.en = o) :
    Calls Try.prog 28 #[.slice A n c, .agg #[.int .i64 x.id, .int .i64 x.fr, .int .i64 x.tn, .int .i64 x.st, .int .i64 x.en, .int .i64 x.rt]] w fun e w' => e = .returned (.tuple #[.int .i64 (o.getD 0), .bool o.isSome]) ∧ Below w.heap.size w w' := by
  refine (Kr.owlt_any A n c d x.id x.fr x.tn x.st x.en x.rt w hd hn h).mono ?_
  rintro e w' ⟨i, v, b, rfl, ha, hw, hb⟩
  have ht := Kr.tells_of (Kr.sort_of_right hr) hd hx ha hw
  have h1 := owltF_of (Kr.sort_of_right hr) hx ht
  rw [ho] at h1
  subst h1
  refine ⟨?_, hb⟩
  rcases ht with ⟨rfl, _⟩ | ⟨rfl, rfl, _⟩
  · rfl
  · rfl
end Go.Proofs.Ytfdphpmcgidmiaa
/- slices.SortFunc and cmp.Compare, laid over this seat's translation by the kit's command, in plain words. -/
namespace Go.Proofs
open Go.Shelf
def Try.sortEd_ren : Go.Shelf.Ren := ⟨fun | 6 => 42 | 15 => 73 | 14 => 72 | 28 => 93 | 29 => 94 | 20 => 85 | 21 => 86 | 22 => 87 | 23 => 88 | 24 => 89 | 25 => 90 | 26 => 91 | 27 => 92 | 46 => 97 | 47 => 98 | 48 => 99 | 49 => 100 | 50 => 101 | 57 => 102 | n => n, fun | 22 => 29 | 24 => 34 | 25 => 66 | 3 => 3 | 39 => 84 | 0 => 0 | 53 => 98 | 55 => 100 | 4 => 4 | 46 => 92 | 45 => 91 | 50 => 46 | 5 => 5 | 9 => 9 | 66 => 103 | 70 => 107 | 76 => 109 | 77 => 110 | n => n, fun | n => n⟩
theorem Try.sortEd : Go.Proofs.SlLaysF0.n6 Try.prog Try.sortEd_ren := {
  mixed := by kernel_rfl
  f6 := ⟨Try.f42.name, by decide, Try.func42.trans (congrArg some (by kernel_rfl))⟩
  f14 := ⟨Try.f72.name, by decide, Try.func72.trans (congrArg some (by kernel_rfl))⟩
  f15 := Try.func73.trans (congrArg some (by kernel_rfl))
  f20 := ⟨Try.f85.name, by decide, Try.func85.trans (congrArg some (by kernel_rfl))⟩
  f21 := ⟨Try.f86.name, by decide, Try.func86.trans (congrArg some (by kernel_rfl))⟩
  f22 := ⟨Try.f87.name, by decide, Try.func87.trans (congrArg some (by kernel_rfl))⟩
  f23 := ⟨Try.f88.name, by decide, Try.func88.trans (congrArg some (by kernel_rfl))⟩
  f24 := ⟨Try.f89.name, by decide, Try.func89.trans (congrArg some (by kernel_rfl))⟩
  f25 := ⟨Try.f90.name, by decide, Try.func90.trans (congrArg some (by kernel_rfl))⟩
  f26 := ⟨Try.f91.name, by decide, Try.func91.trans (congrArg some (by kernel_rfl))⟩
  f27 := ⟨Try.f92.name, by decide, Try.func92.trans (congrArg some (by kernel_rfl))⟩
  f28 := Try.func93.trans (congrArg some (by kernel_rfl))
  f29 := Try.func94.trans (congrArg some (by kernel_rfl))
  f46 := ⟨Try.f97.name, by decide, Try.func97.trans (congrArg some (by kernel_rfl))⟩
  f47 := Try.func98.trans (congrArg some (by kernel_rfl))
  f48 := Try.func99.trans (congrArg some (by kernel_rfl))
  f49 := ⟨Try.f100.name, by decide, Try.func100.trans (congrArg some (by kernel_rfl))⟩
  f50 := ⟨Try.f101.name, by decide, Try.func101.trans (congrArg some (by kernel_rfl))⟩
  f57 := ⟨Try.f102.name, by decide, Try.func102.trans (congrArg some (by kernel_rfl))⟩
  t0 := Try.underlying0
  a0 := Try.isAgg0
  z0 := Try.sizeOf0
  v0 := Try.zeroValue0
  t3 := Try.underlying3
  a3 := Try.isAgg3
  z3 := Try.sizeOf3
  v3 := Try.zeroValue3
  t4 := Try.underlying4
  a4 := Try.isAgg4
  z4 := Try.sizeOf4
  v4 := Try.zeroValue4
  t5 := Try.underlying5
  a5 := Try.isAgg5
  z5 := Try.sizeOf5
  v5 := Try.zeroValue5
  t9 := Try.underlying9
  a9 := Try.isAgg9
  z9 := Try.sizeOf9
  v9 := Try.zeroValue9
  t22 := Try.underlying29
  a22 := Try.isAgg29
  z22 := Try.sizeOf29
  v22 := Try.zeroValue29
  t25 := Try.underlying66
  a25 := Try.isAgg66
  z25 := Try.sizeOf66
  v25 := Try.zeroValue66
  t39 := Try.underlying84
  a39 := Try.isAgg84
  z39 := Try.sizeOf84
  v39 := Try.zeroValue84
  t45 := Try.underlying91
  a45 := Try.isAgg91
  z45 := Try.sizeOf91
  v45 := Try.zeroValue91
  t46 := Try.underlying92
  a46 := Try.isAgg92
  z46 := Try.sizeOf92
  v46 := Try.zeroValue92
  t50 := Try.underlying46
  a50 := Try.isAgg46
  z50 := Try.sizeOf46
  v50 := Try.zeroValue46
  t53 := Try.underlying98
  a53 := Try.isAgg98
  z53 := Try.sizeOf98
  v53 := Try.zeroValue98
  t55 := Try.underlying100
  a55 := Try.isAgg100
  z55 := Try.sizeOf100
  v55 := Try.zeroValue100
  t66 := Try.underlying103
  a66 := Try.isAgg103
  z66 := Try.sizeOf103
  v66 := Try.zeroValue103
  t70 := Try.underlying107
  a70 := Try.isAgg107
  z70 := Try.sizeOf107
  v70 := Try.zeroValue107
  t76 := Try.underlying109
  a76 := Try.isAgg109
  z76 := Try.sizeOf109
  v76 := Try.zeroValue109
  t77 := Try.underlying110
  a77 := Try.isAgg110
  z77 := Try.sizeOf110
  v77 := Try.zeroValue110 }
def Try.cmpIntEd_ren : Go.Shelf.Ren := ⟨fun | 5 => 44 | 7 => 74 | n => n, fun | 22 => 3 | 3 => 3 | 4 => 4 | n => n, fun | n => n⟩
theorem Try.cmpIntEd : Go.Proofs.SlLaysC2.n5 Try.prog Try.cmpIntEd_ren := {
  mixed := by kernel_rfl
  f5 := ⟨Try.f44.name, by decide, Try.func44.trans (congrArg some (by kernel_rfl))⟩
  f7 := ⟨Try.f74.name, by decide, Try.func74.trans (congrArg some (by kernel_rfl))⟩
  t3 := Try.underlying3
  a3 := Try.isAgg3
  z3 := Try.sizeOf3
  v3 := Try.zeroValue3
  t4 := Try.underlying4
  a4 := Try.isAgg4
  z4 := Try.sizeOf4
  v4 := Try.zeroValue4
  t22 := Try.underlying3
  a22 := Try.isAgg3
  z22 := Try.sizeOf3
  v22 := Try.zeroValue3 }
end Go.Proofs

/- slices.SortFunc at edges, by their IDs, a row of the call's own. No condition. -/
namespace Go.Proofs.Ytfdphpmcgidmiaa
open Go.ChangeShapes Go.WideShapes Go.ChangeAt Go.RowKit Go.Sort
set_option linter.unusedSimpArgs false
set_option linter.unusedVariables false
instance inhEd : Inhabited Ed := ⟨zeroEd⟩
theorem flatEd_bang (l : List Ed) : ∀ t, t < l.length * 8 → (flatEd l)[t]? = (Ed.cs (l.toArray[t / 8]!))[t % 8]? := by
  induction l with
  | nil => intro t h; simp at h
  | cons p d ih =>
    intro t h
    have hc : flatEd (p :: d) = Ed.cs p ++ flatEd d := rfl
    rw [hc]
    by_cases h8 : t < 8
    · rw [List.getElem?_append_left (by exact h8)]
      have h1 : t / 8 = 0 := by omega
      have h2 : t % 8 = t := by omega
      rw [h1, h2]; simp
    · obtain ⟨s, rfl⟩ : ∃ s, t = s + 8 := ⟨t - 8, by omega⟩
      rw [List.getElem?_append_right (by show 8 ≤ s + 8; omega)]
      show (flatEd d)[s + 8 - 8]? = _
      rw [Nat.add_sub_cancel, ih s (by simp at h; omega)]
      have h1 : (s + 8) / 8 = s / 8 + 1 := by omega
      have h2 : (s + 8) % 8 = s % 8 := by omega
      rw [h1, h2]
      have h3 : d.toArray[s / 8]! = (p :: d).toArray[s / 8 + 1]! := by simp
      rw [h3]
theorem flatK_Ed (l : List Ed) : flatK Ed.cs 8 l.toArray = (flatEd l).toArray := by
  refine ext_get! (by simp [flatEd_length]) fun t ht => ?_
  have ht' : t < l.length * 8 := by simpa using ht
  rw [get_flatK _ _ _ _ (by simpa using ht'), List.getElem!_eq_getElem?_getD, ← flatEd_bang l t ht']
  simp
theorem holds_of_blockV {w : World} {g : Nat} {cur : Array Value} {e : TypeId} {ss : List Value} (hb : w.heap[g]? = some (.cells cur e (0, 0))) (ht : cur.toList.take ss.length = ss) : Holds id w g 0 ss.toArray := by
  intro j hj
  have hj' : j < ss.length := by simpa using hj
  refine ⟨?_, by simp [World.frozen?, hb]⟩
  have h1 : (cur.toList.take ss.length)[j]? = ss[j]? := by rw [ht]
  rw [List.getElem?_take_of_lt hj'] at h1
  simp only [World.cell?, hb, Nat.zero_add]
  simp only [Option.isSome_none, Bool.false_eq_true, if_false]
  rw [← Array.getElem?_toList, h1]
  simp [hj']
theorem heap_sortedV {w : World} {g n : Nat} {os : Array Obj} {cur : Array Value} {e : TypeId} {fr : Nat × Nat} (d : Array Value) (hb : w.heap[g]? = some (.cells cur e fr)) :
    (grow (putRow id (Sort.ahead w n) g 0 d) os).heap[g]? = some (.cells (putCells id 0 d cur) e fr) := by
  have hg : g < w.heap.size := (Array.getElem?_eq_some_iff.1 hb).1
  rw [heap_grow_old _ _ (by simpa using hg)]
  simp [putRow, mapBlock, Sort.ahead, Array.getElem?_modify, hb, onCells]
theorem grownBy_sortedV {w : World} {g n : Nat} {os : Array Obj} (d : Array Value) : w.grownBy (grow (putRow id (Sort.ahead w n) g 0 d) os) (some g) := by
  refine ⟨rfl, rfl, rfl, by simp, fun k hk hne => ?_⟩
  rw [heap_grow_old _ _ (by simpa using hk)]
  have : g ≠ k := fun e => hne (by rw [e])
  simp [putRow, mapBlock, Sort.ahead, Array.getElem?_modify, this]
theorem take_putCellsV (cur : Array Value) (ts : List Value) (h : ts.length ≤ cur.size) : (putCells id 0 ts.toArray cur).toList.take ts.length = ts := by
  apply List.ext_getElem?
  intro j
  by_cases hj : j < ts.length
  · rw [List.getElem?_take_of_lt hj, Array.getElem?_toList]
    simp [putCells, hj, show j < cur.size by omega]
  · rw [List.getElem?_take_eq_none (by omega), List.getElem?_eq_none (by omega)]
theorem ownsRow_sortedV {w : World} {base g cap n k m : Nat} {e : TypeId} {os : Array Obj} {cur : Array Value} {ts : List Value} (hl : ts.length = n * k) (hbase : base ≤ g) (hb : w.heap[g]? = some (.cells cur e (0, 0)))
    (h1 : n ≤ cap) (h2 : cap ≤ maxLen) (h3 : cur.size = cap * k) :
    (grow (putRow id (Sort.ahead w m) g 0 ts.toArray) os).ownsRow base e k (.slice (some ⟨g, 0, none⟩) n cap) n ts :=
  ⟨hl, .inr ⟨g, cap, _, rfl, hbase, heap_sortedV _ hb, h1, h2, by simp [putCells, h3], by rw [← hl]; exact take_putCellsV cur ts (by rw [h3, hl]; exact Nat.mul_le_mul_right k h1)⟩⟩
def cfEd (x y : Ed) : Int := Lib.compareInt x.id y.id
theorem ltEd (x y : Ed) : ltOf cfEd x y = decide (x.id < y.id) := by
  unfold ltOf cfEd Lib.compareInt
  by_cases h1 : x.id < y.id
  · simp [h1]
  · by_cases h2 : y.id < x.id <;> simp [h1, h2]
theorem swoEd : SWO (ltOf cfEd) :=
  ⟨fun x => by rw [ltEd]; simp, fun x y z h1 h2 => by rw [ltEd] at *; simp at *; omega, fun x y z h1 h2 => by rw [ltEd] at *; simp at *; omega⟩
set_option maxHeartbeats 1000000 in
theorem closureEd (x y : Ed) (W : World) : Calls Try.prog 43 #[.agg #[.int .i64 x.id, .int .i64 x.fr, .int .i64 x.tn, .int .i64 x.op, .int .i64 x.en, .int .i64 x.ra, .int .i64 x.ow, .int .i64 x.ro], .agg #[.int .i64 y.id, .int .i64 y.fr, .int .i64 y.tn, .int .i64 y.op, .int .i64 y.en, .int .i64 y.ra, .int .i64 y.ow, .int .i64 y.ro]] W fun e w' => e = .returned (.int .i64 (cfEd x y)) ∧ ∃ q os', w' = grow (W.drewN q) os' := by
  have hcon := fun W' => AnyG.cmp_Compare_int Try.cmpIntEd x.id y.id W'
  change ∀ W', Calls Try.prog 44 _ _ _ at hcon
  unfold cfEd
  generalize Lib.compareInt x.id y.id = r at hcon ⊢
  go_enter Try.func43, Try.ntmps43
  go_wp2_with (go_at_call 44; refine (hcon _).mono ?_; rintro e w' ⟨rfl, rfl⟩)
  go_ret
  exact ⟨rfl, 0, _, by rw [alloc_eq_grow, alloc_eq_grow, grow_grow]; rfl⟩
theorem sortEd_any (u : Value) (l : List Ed) (base : Nat) (w : World) (hl : l.length ≤ 1000000) (hown : w.ownsRow base 34 8 u l.length (flatEd l)) :
    Calls Try.prog 42 #[u, .func (.func 43) #[] #[]] w fun e w' => ∃ m : List Ed, e = .returned (.tuple #[]) ∧ m.Perm l ∧ (∀ i j, i < j → j < m.length → (gEd m i).id ≤ (gEd m j).id) ∧ w'.ownsRow base 34 8 u l.length (flatEd m) ∧ w.grownBy w' u.ownBlock := by
  rcases hown.2 with ⟨rfl, h0⟩ | ⟨g, cap, cur, rfl, hbase, hb, h1, h2, h3, h4⟩
  · have hl0 : l = [] := by
      have h := flatEd_length l
      rw [h0] at h
      exact List.eq_nil_of_length_eq_zero (by simp at h; omega)
    subst hl0
    have hcon := AnyF.slices_SortFunc_none Try.sortEd none 0 (.func (.func 43) #[] #[]) w
    change Calls Try.prog 42 _ _ _ at hcon
    refine hcon.mono ?_
    rintro e w' ⟨rfl, rfl⟩
    exact ⟨[], rfl, List.Perm.refl _, (fun i j _ hj => by simp at hj), hown, grown_refl _ _⟩
  · have hH : HoldsK Ed.cs 8 w g 0 l.toArray := by
      unfold HoldsK
      rw [flatK_Ed]
      exact holds_of_blockV hb (by rw [flatEd_length]; exact h4)
    have hgl : g < w.heap.size := (Array.getElem?_eq_some_iff.1 hb).1
    have eg : ∀ args w, (callFunc 43 args).run Try.prog w = .ok (.enter 43 args) w := enters_of Try.func43 (by kernel_rfl) rfl
    have hcon := AnyQ.slices_SortFunc Try.sortEd 8 Try.isAgg34 Try.sizeOf34 Ed.cs (fun _ => rfl) (fun x v hv => by simp [Ed.cs] at hv; rcases hv with rfl | rfl | rfl | rfl | rfl | rfl | rfl | rfl <;> rfl) cfEd swoEd 43 #[] g 0 cap l.toArray w eg (fun _ _ _ _ x y => closureEd x y _) hH hgl (by simp; omega)
    change Calls Try.prog 42 _ _ _ at hcon
    simp only [List.size_toArray] at hcon
    refine hcon.mono ?_
    rintro e w' ⟨rfl, d', n, os, hp, hs, rfl⟩
    obtain ⟨hsz, _, hpm⟩ := hp
    have hz : d'.size = l.length := by simpa using hsz
    have hpm2 : d'.toList.Perm l := by
      have e1 : (d'.extract 0 l.length) = d' := by rw [← hz]; simp
      have e2 : (l.toArray.extract 0 l.length) = l.toArray := by simp
      rw [e1, e2] at hpm
      simpa using hpm
    have hlen : d'.toList.length = l.length := by simpa using hz
    refine ⟨d'.toList, rfl, hpm2, fun i j hij hj => ?_, ?_, ?_⟩
    · have h := hs i j (by omega) hij (by omega)
      rw [ltEd] at h
      have g1 : ∀ k, k < d'.size → d'[k]! = gEd d'.toList k := fun k hk => by
        rw [gEd_eq (by simpa using hk)]; simp [hk]
      rw [g1 j (by simpa using hj), g1 i (by simp at hj; omega)] at h
      simpa using h
    · have e1 : sortWorldK Ed.cs 8 w g 0 n d' os = grow (putRow id (Sort.ahead w n) g 0 (flatEd d'.toList).toArray) os := by
        unfold sortWorldK putRowK
        rw [show d' = d'.toList.toArray by simp, flatK_Ed]
      rw [e1]
      exact ownsRow_sortedV (by rw [flatEd_length, hlen]) hbase hb h1 h2 h3
    · exact grownBy_sortedV _
end Go.Proofs.Ytfdphpmcgidmiaa

/- Layer 11's small case comes out right, the sort's contract being a premise. -/
namespace Go.Proofs.Ytfdphpmcgidmiaa
open Go.ChangeShapes Go.WideShapes Go.ChangeAt Go.RowKit Go.Sort
set_option linter.unusedSimpArgs false
set_option linter.unusedVariables false
def baseC : List Co := [⟨7, 1, 2, 10, 20, 3⟩, ⟨5, 2, 1, 10, 20, 3⟩]
def baseR : List Rg := [⟨1, 2, 0, 20, 4⟩]
set_option maxHeartbeats 2000000 in
set_option maxRecDepth 100000 in
theorem base_any (w : World) :
    Calls Try.prog 30 #[] w fun e w' => ∃ A1 A, e = .returned (.agg #[.slice (some A1) 2 2, .slice (some A) 1 1, .int .i64 0, .int .i64 0]) ∧ w'.ownsRow (w.heap.size + 1) 28 6 (.slice (some A1) 2 2) 2 (flatCo baseC) ∧ w'.ownsRow (w.heap.size + 1) 59 5 (.slice (some A) 1 1) 1 (flatRg baseR) ∧ Below w.heap.size w w' := by
  have hX := Blok.new w 25 #[.slice none 0 0, .slice none 0 0, .int .i64 0, .int .i64 0]
  have hB : Below w.heap.size w (w.alloc (.cells #[.slice none 0 0, .slice none 0 0, .int .i64 0, .int .i64 0] 25)) := by (repeat (first | exact Below.refl _ _ | refine Below.alloc ?_ (by first | omega | (simp; done) | (simp; omega)) _ | refine Below.setCell ?_ (by first | omega | (simp; done) | (simp; omega)) _ | refine Below.drew ?_))
  have hs := hB.size
  have hsz : (w.alloc (.cells #[.slice none 0 0, .slice none 0 0, .int .i64 0, .int .i64 0] 25)).heap.size = w.heap.size + 1 := by simp
  go_enter Try.func30, Try.ntmps30
  go_upto_region 1 with fail
  generalize w.alloc (.cells #[.slice none 0 0, .slice none 0 0, .int .i64 0, .int .i64 0] 25) = w0 at *
  have r0 : w0.cell? ⟨w.heap.size, 0, none⟩ = some (.slice none 0 0) := hX.cell 0
  have f_0 := hX.free 0
  have r1 : w0.cell? ⟨w.heap.size, 1, none⟩ = some (.slice none 0 0) := hX.cell 1
  have f_1 := hX.free 1
  have r2 : w0.cell? ⟨w.heap.size, 2, none⟩ = some (.int .i64 0) := hX.cell 2
  have f_2 := hX.free 2
  have r3 : w0.cell? ⟨w.heap.size, 3, none⟩ = some (.int .i64 0) := hX.cell 3
  have f_3 := hX.free 3
  have lt_x := hX.lt
  have HX := Lib.hid hX
  clear hX
  go_wp2_with fail
  have hX := HX.out
  clear r0 r1 r2 r3
  have hF4 : ((((w0.setCell ⟨w.heap.size, 0, none⟩ (.slice (some ⟨w.heap.size + 1, 0, none⟩) 2 2)).setCell ⟨w.heap.size, 1, none⟩ (.slice (some ⟨w.heap.size + 1 + 1, 0, none⟩) 1 1)).setCell ⟨w.heap.size, 2, none⟩ (.int .i64 0)).setCell ⟨w.heap.size, 3, none⟩ (.int .i64 0)).heap.size = w.heap.size + 1 := by simp [hsz]
  have hF : Blok ((((w0.setCell ⟨w.heap.size, 0, none⟩ (.slice (some ⟨w.heap.size + 1, 0, none⟩) 2 2)).setCell ⟨w.heap.size, 1, none⟩ (.slice (some ⟨w.heap.size + 1 + 1, 0, none⟩) 1 1)).setCell ⟨w.heap.size, 2, none⟩ (.int .i64 0)).setCell ⟨w.heap.size, 3, none⟩ (.int .i64 0)) w.heap.size 25 #[.slice (some ⟨w.heap.size + 1, 0, none⟩) 2 2, .slice (some ⟨w.heap.size + 1 + 1, 0, none⟩) 1 1, .int .i64 0, .int .i64 0] := by have h := ((((hX.set_ 0 (.slice (some ⟨w.heap.size + 1, 0, none⟩) 2 2)).set_ 1 (.slice (some ⟨w.heap.size + 1 + 1, 0, none⟩) 1 1)).set_ 2 (.int .i64 0)).set_ 3 (.int .i64 0)); simpa using h
  have hle0 : w.heap.size ≤ w.heap.size := by first | exact Nat.le_refl _ | omega
  have hWf : Below w.heap.size w ((((w0.setCell ⟨w.heap.size, 0, none⟩ (.slice (some ⟨w.heap.size + 1, 0, none⟩) 2 2)).setCell ⟨w.heap.size, 1, none⟩ (.slice (some ⟨w.heap.size + 1 + 1, 0, none⟩) 1 1)).setCell ⟨w.heap.size, 2, none⟩ (.int .i64 0)).setCell ⟨w.heap.size, 3, none⟩ (.int .i64 0)) := ((((hB.setCell (p := ⟨w.heap.size, 0, none⟩) hle0 (.slice (some ⟨w.heap.size + 1, 0, none⟩) 2 2)).setCell (p := ⟨w.heap.size, 1, none⟩) hle0 (.slice (some ⟨w.heap.size + 1 + 1, 0, none⟩) 1 1)).setCell (p := ⟨w.heap.size, 2, none⟩) hle0 (.int .i64 0)).setCell (p := ⟨w.heap.size, 3, none⟩) hle0 (.int .i64 0))
  have hlF := hF.lt
  have hgw : w0.grownBy ((((w0.setCell ⟨w.heap.size, 0, none⟩ (.slice (some ⟨w.heap.size + 1, 0, none⟩) 2 2)).setCell ⟨w.heap.size, 1, none⟩ (.slice (some ⟨w.heap.size + 1 + 1, 0, none⟩) 1 1)).setCell ⟨w.heap.size, 2, none⟩ (.int .i64 0)).setCell ⟨w.heap.size, 3, none⟩ (.int .i64 0)) (some w.heap.size) := grown_trans (grown_trans (grown_trans (grown_set _ _ _) (grown_set _ _ _)) (grown_set _ _ _)) (grown_set _ _ _)
  generalize ((((w0.setCell ⟨w.heap.size, 0, none⟩ (.slice (some ⟨w.heap.size + 1, 0, none⟩) 2 2)).setCell ⟨w.heap.size, 1, none⟩ (.slice (some ⟨w.heap.size + 1 + 1, 0, none⟩) 1 1)).setCell ⟨w.heap.size, 2, none⟩ (.int .i64 0)).setCell ⟨w.heap.size, 3, none⟩ (.int .i64 0)) = wf at *
  have r0 : wf.cell? ⟨w.heap.size, 0, none⟩ = some (.slice (some ⟨w.heap.size + 1, 0, none⟩) 2 2) := hF.cell 0
  have r1 : wf.cell? ⟨w.heap.size, 1, none⟩ = some (.slice (some ⟨w.heap.size + 1 + 1, 0, none⟩) 1 1) := hF.cell 1
  have r2 : wf.cell? ⟨w.heap.size, 2, none⟩ = some (.int .i64 0) := hF.cell 2
  have r3 : wf.cell? ⟨w.heap.size, 3, none⟩ = some (.int .i64 0) := hF.cell 3
  refine bodyPost_ret (v := .agg #[.slice (some ⟨w.heap.size + 1, 0, none⟩) 2 2, .slice (some ⟨w.heap.size + 1 + 1, 0, none⟩) 1 1, .int .i64 0, .int .i64 0]) (by simp [results, Try.results30, go_sem, r0, r1, r2, r3, hlF]) rfl ?_
  have h1 := own_lit wf (w.heap.size + 1) 28 6 2 #[.int .i64 7, .int .i64 1, .int .i64 2, .int .i64 10, .int .i64 20, .int .i64 3, .int .i64 5, .int .i64 2, .int .i64 1, .int .i64 10, .int .i64 20, .int .i64 3] (by omega) rfl (by simp [maxLen])
  have h2 := own_lit (wf.alloc (.cells #[.int .i64 7, .int .i64 1, .int .i64 2, .int .i64 10, .int .i64 20, .int .i64 3, .int .i64 5, .int .i64 2, .int .i64 1, .int .i64 10, .int .i64 20, .int .i64 3] 28)) (w.heap.size + 1) 59 5 1 #[.int .i64 1, .int .i64 2, .int .i64 0, .int .i64 20, .int .i64 4] (by simp; omega) rfl (by simp [maxLen])
  replace h1 := h1.alloc (.cells #[.int .i64 1, .int .i64 2, .int .i64 0, .int .i64 20, .int .i64 4] 59)
  rw [hF4] at h1
  rw [World.size_alloc, hF4] at h2
  have hB9 := (hWf.alloc (by omega) (.cells #[.int .i64 7, .int .i64 1, .int .i64 2, .int .i64 10, .int .i64 20, .int .i64 3, .int .i64 5, .int .i64 2, .int .i64 1, .int .i64 10, .int .i64 20, .int .i64 3] 28)).alloc (by simp; omega) (.cells #[.int .i64 1, .int .i64 2, .int .i64 0, .int .i64 20, .int .i64 4] 59)
  exact ⟨_, _, rfl, h1, h2, hB9⟩
set_option maxHeartbeats 4000000 in
set_option maxRecDepth 100000 in
theorem vbare_of (HSORT : SortEdC) (A1 : Option Addr) (n1 c1 : Nat) (cs : List Co) (A : Option Addr) (n c : Nat) (rs : List Rg) (clk ver : Int) (w : World) (hd1 : cs.length = n1) (hn1 : n1 ≤ 1000000) (hd : rs.length = n) (hn : n ≤ 1000000) (h1 : Sl w w.heap.size 6 A1 n1 c1 (flatCo cs)) (h : Sl w w.heap.size 5 A n c (flatRg rs)) (hr : Kr.rightB rs = true) :
    Calls Try.prog 19 #[.agg #[.slice A1 n1 c1, .slice A n c, .int .i64 clk, .int .i64 ver]] w fun e w' => ∃ v m, e = .returned v ∧ m.Perm (allL rs [] 0 cs) ∧ (∀ i j, i < j → j < m.length → (gEd m i).id ≤ (gEd m j).id) ∧ w'.ownsRow w.heap.size 34 8 v m.length (flatEd m) ∧ Below w.heap.size w w' := by
  have hB : Below w.heap.size w (w.alloc (.cells #[.slice A1 n1 c1, .slice A n c, .int .i64 clk, .int .i64 ver] 25)) := by (repeat (first | exact Below.refl _ _ | refine Below.alloc ?_ (by first | omega | (simp; done) | (simp; omega)) _ | refine Below.setCell ?_ (by first | omega | (simp; done) | (simp; omega)) _ | refine Below.drew ?_))
  have HV := Lib.hid (fun w2 (hB : Below w.heap.size w w2) => vall_of HSORT A1 n1 c1 cs A n c rs clk ver none 0 0 [] 0 w2 hd1 hn1 hd hn rfl (by omega) (h1.up hB) (h.up hB) (Sl.nil0 _ _ _) hr (by decide +kernel))
  clear hd hd1 hr h h1
  go_enter Try.func19, Try.ntmps19
  go_wp2_with fail
  refine (HV.out _ hB).mono ?_
  rintro e w2 ⟨v, m, rfl, hp, hso, hown, hb⟩
  go_wp2_with fail
  go_ret
  exact ⟨v, m, rfl, hp, hso, own_base hown hB.size, hB.trans (hb.mono hB.size)⟩
def edA : Ed := ⟨7, 1, 2, 14, 20, 3, 4, 20⟩
def edF : Ed := ⟨7, 1, 2, 10, 20, 3, 4, 30⟩
def bkS : List Bk := [⟨7, 0, 10, 0⟩]
theorem all_a : allL baseR bkS 0 baseC = [edA] := by decide +kernel
theorem all_b : allL baseR [] 0 baseC = [edF] := by decide +kernel
theorem all_c : allL baseR bkS 2 baseC = [edF] := by decide +kernel
theorem baseR_right : Kr.rightB baseR = true := by decide +kernel
theorem bkS_right : Kb.rightB bkS = true := by decide +kernel
theorem one_len (x : Ed) : [x].length = 1 := rfl
theorem edge_no : edgeF baseR bkS ⟨5, 2, 1, 10, 20, 3⟩ 0 = none := by decide +kernel
set_option maxHeartbeats 8000000 in
set_option maxRecDepth 100000 in
theorem small11_of (HSORT : SortEdC) (w : World) :
    Calls Try.prog 8 #[] w fun e w' => e = .returned (.bool true) ∧ Below w.heap.size w w' := by
  have HS := Lib.hid HSORT
  clear HSORT
  go_enter Try.func8, Try.ntmps8
  go_wp2_with fail
  refine (base_any w).mono ?_
  rintro e w1 ⟨A1, A, rfl, hC, hR, hB⟩
  have hs := hB.size
  obtain ⟨g1, rfl⟩ : ∃ g1, A1 = ⟨g1, 0, none⟩ := by
    rcases hC.2 with ⟨h0, _⟩ | ⟨g', cap, cur, h0, _⟩
    · cases h0
    · injection h0 with e1
      injection e1 with e1
      exact ⟨g', e1⟩
  go_upto_region 2 with fail
  have hs_ := hB.size
  have hXp := Blok.new w1 25 #[.slice (some ⟨g1, 0, none⟩) 2 2, .slice (some A) 1 1, .int .i64 0, .int .i64 0]
  replace hC := hC.alloc (.cells #[.slice (some ⟨g1, 0, none⟩) 2 2, .slice (some A) 1 1, .int .i64 0, .int .i64 0] 25)
  replace hR := hR.alloc (.cells #[.slice (some ⟨g1, 0, none⟩) 2 2, .slice (some A) 1 1, .int .i64 0, .int .i64 0] 25)
  replace hB := hB.alloc hs (.cells #[.slice (some ⟨g1, 0, none⟩) 2 2, .slice (some A) 1 1, .int .i64 0, .int .i64 0] 25)
  replace hs := hB.size
  clear hs_
  obtain ⟨bw2, hbw2⟩ : ∃ q, w1.heap.size = q := ⟨_, rfl⟩
  rw [hbw2] at hXp
  try rw [hbw2]
  generalize w1.alloc (.cells #[.slice (some ⟨g1, 0, none⟩) 2 2, .slice (some A) 1 1, .int .i64 0, .int .i64 0] 25) = w2 at *
  go_upto_region 3 with fail
  have hs_ := hB.size
  have hL := own_lit w2 0 55 4 1 #[.int .i64 7, .int .i64 0, .int .i64 10, .int .i64 0] (by omega) rfl (by simp [maxLen])
  replace hC := hC.alloc (.cells #[.int .i64 7, .int .i64 0, .int .i64 10, .int .i64 0] 55)
  replace hR := hR.alloc (.cells #[.int .i64 7, .int .i64 0, .int .i64 10, .int .i64 0] 55)
  replace hXp := hXp.alloc (.cells #[.int .i64 7, .int .i64 0, .int .i64 10, .int .i64 0] 55)
  replace hB := hB.alloc hs (.cells #[.int .i64 7, .int .i64 0, .int .i64 10, .int .i64 0] 55)
  replace hs := hB.size
  clear hs_
  obtain ⟨bw3, hbw3⟩ : ∃ q, w2.heap.size = q := ⟨_, rfl⟩
  rw [hbw3] at hL
  try rw [hbw3]
  generalize w2.alloc (.cells #[.int .i64 7, .int .i64 0, .int .i64 10, .int .i64 0] 55) = w3 at *
  have p0 : w3.cell? ⟨bw2, 0, none⟩ = some (.slice (some ⟨g1, 0, none⟩) 2 2) := hXp.cell 0
  have p1 : w3.cell? ⟨bw2, 1, none⟩ = some (.slice (some A) 1 1) := hXp.cell 1
  have p2 : w3.cell? ⟨bw2, 2, none⟩ = some (.int .i64 0) := hXp.cell 2
  have p3 : w3.cell? ⟨bw2, 3, none⟩ = some (.int .i64 0) := hXp.cell 3
  have lt_p := hXp.lt
  go_wp2_with fail
  refine (vall_of HS.out (some ⟨g1, 0, none⟩) 2 2 baseC (some A) 1 1 baseR 0 0 (some ⟨bw3, 0, none⟩) 1 1 bkS 0 w3 rfl (by omega) rfl (by omega) rfl (by omega) (Sl.of_own hC) (Sl.of_own hR) (Sl.of_own hL) baseR_right bkS_right).mono ?_
  rintro e w4 ⟨va, m, rfl, hp, hso, hva, hb⟩
  rw [all_a] at hp
  have hm1 : m = [edA] := List.perm_singleton.1 hp
  subst hm1
  clear hp hso
  replace hva : w4.ownsRow 0 34 8 va 1 (flatEd [edA]) := own_base hva (Nat.zero_le _)
  clear p0 p1 p2 p3 lt_p
  replace hC := own_below hC hb
  replace hR := own_below hR hb
  replace hL := own_below hL hb
  replace hXp := hXp.below hb hXp.lt
  replace hB := hB.trans (hb.mono hs)
  replace hs := hB.size
  clear hb
  obtain ⟨Ava, cva, rfl⟩ := slice_of_own hva
  have p0 : w4.cell? ⟨bw2, 0, none⟩ = some (.slice (some ⟨g1, 0, none⟩) 2 2) := hXp.cell 0
  have p1 : w4.cell? ⟨bw2, 1, none⟩ = some (.slice (some A) 1 1) := hXp.cell 1
  have p2 : w4.cell? ⟨bw2, 2, none⟩ = some (.int .i64 0) := hXp.cell 2
  have p3 : w4.cell? ⟨bw2, 3, none⟩ = some (.int .i64 0) := hXp.cell 3
  have lt_p := hXp.lt
  go_wp2_with fail
  refine (vbare_of HS.out (some ⟨g1, 0, none⟩) 2 2 baseC (some A) 1 1 baseR 0 0 w4 rfl (by omega) rfl (by omega) (Sl.of_own hC) (Sl.of_own hR) baseR_right).mono ?_
  rintro e w5 ⟨vb, m, rfl, hp, hso, hvb, hb⟩
  rw [all_b] at hp
  have hm1 : m = [edF] := List.perm_singleton.1 hp
  subst hm1
  clear hp hso
  replace hvb : w5.ownsRow 0 34 8 vb 1 (flatEd [edF]) := own_base hvb (Nat.zero_le _)
  clear p0 p1 p2 p3 lt_p
  replace hC := own_below hC hb
  replace hR := own_below hR hb
  replace hL := own_below hL hb
  replace hva := own_below hva hb
  replace hXp := hXp.below hb hXp.lt
  replace hB := hB.trans (hb.mono hs)
  replace hs := hB.size
  clear hb
  obtain ⟨Avb, cvb, rfl⟩ := slice_of_own hvb
  have p0 : w5.cell? ⟨bw2, 0, none⟩ = some (.slice (some ⟨g1, 0, none⟩) 2 2) := hXp.cell 0
  have p1 : w5.cell? ⟨bw2, 1, none⟩ = some (.slice (some A) 1 1) := hXp.cell 1
  have p2 : w5.cell? ⟨bw2, 2, none⟩ = some (.int .i64 0) := hXp.cell 2
  have p3 : w5.cell? ⟨bw2, 3, none⟩ = some (.int .i64 0) := hXp.cell 3
  have lt_p := hXp.lt
  go_wp2_with fail
  refine (vall_of HS.out (some ⟨g1, 0, none⟩) 2 2 baseC (some A) 1 1 baseR 0 0 (some ⟨bw3, 0, none⟩) 1 1 bkS 2 w5 rfl (by omega) rfl (by omega) rfl (by omega) (Sl.of_own hC) (Sl.of_own hR) (Sl.of_own hL) baseR_right bkS_right).mono ?_
  rintro e w6 ⟨vc, m, rfl, hp, hso, hvc, hb⟩
  rw [all_c] at hp
  have hm1 : m = [edF] := List.perm_singleton.1 hp
  subst hm1
  clear hp hso
  replace hvc : w6.ownsRow 0 34 8 vc 1 (flatEd [edF]) := own_base hvc (Nat.zero_le _)
  clear p0 p1 p2 p3 lt_p
  replace hC := own_below hC hb
  replace hR := own_below hR hb
  replace hL := own_below hL hb
  replace hva := own_below hva hb
  replace hvb := own_below hvb hb
  replace hXp := hXp.below hb hXp.lt
  replace hB := hB.trans (hb.mono hs)
  replace hs := hB.size
  clear hb
  obtain ⟨Avc, cvc, rfl⟩ := slice_of_own hvc
  go_upto_region 7 with fail
  have hs_ := hB.size
  have hXe := Blok.new w6 34 #[.int .i64 7, .int .i64 1, .int .i64 2, .int .i64 14, .int .i64 20, .int .i64 3, .int .i64 4, .int .i64 20]
  replace hC := hC.alloc (.cells #[.int .i64 7, .int .i64 1, .int .i64 2, .int .i64 14, .int .i64 20, .int .i64 3, .int .i64 4, .int .i64 20] 34)
  replace hR := hR.alloc (.cells #[.int .i64 7, .int .i64 1, .int .i64 2, .int .i64 14, .int .i64 20, .int .i64 3, .int .i64 4, .int .i64 20] 34)
  replace hL := hL.alloc (.cells #[.int .i64 7, .int .i64 1, .int .i64 2, .int .i64 14, .int .i64 20, .int .i64 3, .int .i64 4, .int .i64 20] 34)
  replace hva := hva.alloc (.cells #[.int .i64 7, .int .i64 1, .int .i64 2, .int .i64 14, .int .i64 20, .int .i64 3, .int .i64 4, .int .i64 20] 34)
  replace hvb := hvb.alloc (.cells #[.int .i64 7, .int .i64 1, .int .i64 2, .int .i64 14, .int .i64 20, .int .i64 3, .int .i64 4, .int .i64 20] 34)
  replace hvc := hvc.alloc (.cells #[.int .i64 7, .int .i64 1, .int .i64 2, .int .i64 14, .int .i64 20, .int .i64 3, .int .i64 4, .int .i64 20] 34)
  replace hXp := hXp.alloc (.cells #[.int .i64 7, .int .i64 1, .int .i64 2, .int .i64 14, .int .i64 20, .int .i64 3, .int .i64 4, .int .i64 20] 34)
  replace hB := hB.alloc hs (.cells #[.int .i64 7, .int .i64 1, .int .i64 2, .int .i64 14, .int .i64 20, .int .i64 3, .int .i64 4, .int .i64 20] 34)
  replace hs := hB.size
  clear hs_
  obtain ⟨bw7, hbw7⟩ : ∃ q, w6.heap.size = q := ⟨_, rfl⟩
  rw [hbw7] at hXe
  try rw [hbw7]
  generalize w6.alloc (.cells #[.int .i64 7, .int .i64 1, .int .i64 2, .int .i64 14, .int .i64 20, .int .i64 3, .int .i64 4, .int .i64 20] 34) = w7 at *
  go_upto_region 8 with fail
  have hs_ := hB.size
  have hXf := Blok.new w7 34 #[.int .i64 7, .int .i64 1, .int .i64 2, .int .i64 10, .int .i64 20, .int .i64 3, .int .i64 4, .int .i64 30]
  replace hC := hC.alloc (.cells #[.int .i64 7, .int .i64 1, .int .i64 2, .int .i64 10, .int .i64 20, .int .i64 3, .int .i64 4, .int .i64 30] 34)
  replace hR := hR.alloc (.cells #[.int .i64 7, .int .i64 1, .int .i64 2, .int .i64 10, .int .i64 20, .int .i64 3, .int .i64 4, .int .i64 30] 34)
  replace hL := hL.alloc (.cells #[.int .i64 7, .int .i64 1, .int .i64 2, .int .i64 10, .int .i64 20, .int .i64 3, .int .i64 4, .int .i64 30] 34)
  replace hva := hva.alloc (.cells #[.int .i64 7, .int .i64 1, .int .i64 2, .int .i64 10, .int .i64 20, .int .i64 3, .int .i64 4, .int .i64 30] 34)
  replace hvb := hvb.alloc (.cells #[.int .i64 7, .int .i64 1, .int .i64 2, .int .i64 10, .int .i64 20, .int .i64 3, .int .i64 4, .int .i64 30] 34)
  replace hvc := hvc.alloc (.cells #[.int .i64 7, .int .i64 1, .int .i64 2, .int .i64 10, .int .i64 20, .int .i64 3, .int .i64 4, .int .i64 30] 34)
  replace hXp := hXp.alloc (.cells #[.int .i64 7, .int .i64 1, .int .i64 2, .int .i64 10, .int .i64 20, .int .i64 3, .int .i64 4, .int .i64 30] 34)
  replace hXe := hXe.alloc (.cells #[.int .i64 7, .int .i64 1, .int .i64 2, .int .i64 10, .int .i64 20, .int .i64 3, .int .i64 4, .int .i64 30] 34)
  replace hB := hB.alloc hs (.cells #[.int .i64 7, .int .i64 1, .int .i64 2, .int .i64 10, .int .i64 20, .int .i64 3, .int .i64 4, .int .i64 30] 34)
  replace hs := hB.size
  clear hs_
  obtain ⟨bw8, hbw8⟩ : ∃ q, w7.heap.size = q := ⟨_, rfl⟩
  rw [hbw8] at hXf
  try rw [hbw8]
  generalize w7.alloc (.cells #[.int .i64 7, .int .i64 1, .int .i64 2, .int .i64 10, .int .i64 20, .int .i64 3, .int .i64 4, .int .i64 30] 34) = w8 at *
  go_wp2_with fail
  refine (vfind_any Avb 1 cvb [edF] 7 w8 rfl (by omega) (Sl.of_own hvb) edF true (by decide +kernel) (by decide +kernel)).mono ?_
  rintro e w9 ⟨rfl, hb⟩
  replace hC := own_below hC hb
  replace hR := own_below hR hb
  replace hL := own_below hL hb
  replace hva := own_below hva hb
  replace hvb := own_below hvb hb
  replace hvc := own_below hvc hb
  replace hXp := hXp.below hb hXp.lt
  replace hXe := hXe.below hb hXe.lt
  replace hXf := hXf.below hb hXf.lt
  replace hB := hB.trans (hb.mono hs)
  replace hs := hB.size
  clear hb
  go_upto_region 9 with fail
  have hs_ := hB.size
  have hXg := Blok.new w9 34 #[.int .i64 edF.id, .int .i64 edF.fr, .int .i64 edF.tn, .int .i64 edF.op, .int .i64 edF.en, .int .i64 edF.ra, .int .i64 edF.ow, .int .i64 edF.ro]
  replace hC := hC.alloc (.cells #[.int .i64 edF.id, .int .i64 edF.fr, .int .i64 edF.tn, .int .i64 edF.op, .int .i64 edF.en, .int .i64 edF.ra, .int .i64 edF.ow, .int .i64 edF.ro] 34)
  replace hR := hR.alloc (.cells #[.int .i64 edF.id, .int .i64 edF.fr, .int .i64 edF.tn, .int .i64 edF.op, .int .i64 edF.en, .int .i64 edF.ra, .int .i64 edF.ow, .int .i64 edF.ro] 34)
  replace hL := hL.alloc (.cells #[.int .i64 edF.id, .int .i64 edF.fr, .int .i64 edF.tn, .int .i64 edF.op, .int .i64 edF.en, .int .i64 edF.ra, .int .i64 edF.ow, .int .i64 edF.ro] 34)
  replace hva := hva.alloc (.cells #[.int .i64 edF.id, .int .i64 edF.fr, .int .i64 edF.tn, .int .i64 edF.op, .int .i64 edF.en, .int .i64 edF.ra, .int .i64 edF.ow, .int .i64 edF.ro] 34)
  replace hvb := hvb.alloc (.cells #[.int .i64 edF.id, .int .i64 edF.fr, .int .i64 edF.tn, .int .i64 edF.op, .int .i64 edF.en, .int .i64 edF.ra, .int .i64 edF.ow, .int .i64 edF.ro] 34)
  replace hvc := hvc.alloc (.cells #[.int .i64 edF.id, .int .i64 edF.fr, .int .i64 edF.tn, .int .i64 edF.op, .int .i64 edF.en, .int .i64 edF.ra, .int .i64 edF.ow, .int .i64 edF.ro] 34)
  replace hXp := hXp.alloc (.cells #[.int .i64 edF.id, .int .i64 edF.fr, .int .i64 edF.tn, .int .i64 edF.op, .int .i64 edF.en, .int .i64 edF.ra, .int .i64 edF.ow, .int .i64 edF.ro] 34)
  replace hXe := hXe.alloc (.cells #[.int .i64 edF.id, .int .i64 edF.fr, .int .i64 edF.tn, .int .i64 edF.op, .int .i64 edF.en, .int .i64 edF.ra, .int .i64 edF.ow, .int .i64 edF.ro] 34)
  replace hXf := hXf.alloc (.cells #[.int .i64 edF.id, .int .i64 edF.fr, .int .i64 edF.tn, .int .i64 edF.op, .int .i64 edF.en, .int .i64 edF.ra, .int .i64 edF.ow, .int .i64 edF.ro] 34)
  replace hB := hB.alloc hs (.cells #[.int .i64 edF.id, .int .i64 edF.fr, .int .i64 edF.tn, .int .i64 edF.op, .int .i64 edF.en, .int .i64 edF.ra, .int .i64 edF.ow, .int .i64 edF.ro] 34)
  replace hs := hB.size
  clear hs_
  obtain ⟨bw10, hbw10⟩ : ∃ q, w9.heap.size = q := ⟨_, rfl⟩
  rw [hbw10] at hXg
  try rw [hbw10]
  generalize w9.alloc (.cells #[.int .i64 edF.id, .int .i64 edF.fr, .int .i64 edF.tn, .int .i64 edF.op, .int .i64 edF.en, .int .i64 edF.ra, .int .i64 edF.ow, .int .i64 edF.ro] 34) = w10 at *
  go_wp2_with fail
  refine (vfind_any Avb 1 cvb [edF] 5 w10 rfl (by omega) (Sl.of_own hvb) zeroEd false (by decide +kernel) (by decide +kernel)).mono ?_
  rintro e w11 ⟨rfl, hb⟩
  replace hC := own_below hC hb
  replace hR := own_below hR hb
  replace hL := own_below hL hb
  replace hva := own_below hva hb
  replace hvb := own_below hvb hb
  replace hvc := own_below hvc hb
  replace hXp := hXp.below hb hXp.lt
  replace hXe := hXe.below hb hXe.lt
  replace hXf := hXf.below hb hXf.lt
  replace hXg := hXg.below hb hXg.lt
  replace hB := hB.trans (hb.mono hs)
  replace hs := hB.size
  clear hb
  go_upto_region 10 with fail
  have hs_ := hB.size
  have hXn := Blok.new w11 34 #[.int .i64 zeroEd.id, .int .i64 zeroEd.fr, .int .i64 zeroEd.tn, .int .i64 zeroEd.op, .int .i64 zeroEd.en, .int .i64 zeroEd.ra, .int .i64 zeroEd.ow, .int .i64 zeroEd.ro]
  replace hC := hC.alloc (.cells #[.int .i64 zeroEd.id, .int .i64 zeroEd.fr, .int .i64 zeroEd.tn, .int .i64 zeroEd.op, .int .i64 zeroEd.en, .int .i64 zeroEd.ra, .int .i64 zeroEd.ow, .int .i64 zeroEd.ro] 34)
  replace hR := hR.alloc (.cells #[.int .i64 zeroEd.id, .int .i64 zeroEd.fr, .int .i64 zeroEd.tn, .int .i64 zeroEd.op, .int .i64 zeroEd.en, .int .i64 zeroEd.ra, .int .i64 zeroEd.ow, .int .i64 zeroEd.ro] 34)
  replace hL := hL.alloc (.cells #[.int .i64 zeroEd.id, .int .i64 zeroEd.fr, .int .i64 zeroEd.tn, .int .i64 zeroEd.op, .int .i64 zeroEd.en, .int .i64 zeroEd.ra, .int .i64 zeroEd.ow, .int .i64 zeroEd.ro] 34)
  replace hva := hva.alloc (.cells #[.int .i64 zeroEd.id, .int .i64 zeroEd.fr, .int .i64 zeroEd.tn, .int .i64 zeroEd.op, .int .i64 zeroEd.en, .int .i64 zeroEd.ra, .int .i64 zeroEd.ow, .int .i64 zeroEd.ro] 34)
  replace hvb := hvb.alloc (.cells #[.int .i64 zeroEd.id, .int .i64 zeroEd.fr, .int .i64 zeroEd.tn, .int .i64 zeroEd.op, .int .i64 zeroEd.en, .int .i64 zeroEd.ra, .int .i64 zeroEd.ow, .int .i64 zeroEd.ro] 34)
  replace hvc := hvc.alloc (.cells #[.int .i64 zeroEd.id, .int .i64 zeroEd.fr, .int .i64 zeroEd.tn, .int .i64 zeroEd.op, .int .i64 zeroEd.en, .int .i64 zeroEd.ra, .int .i64 zeroEd.ow, .int .i64 zeroEd.ro] 34)
  replace hXp := hXp.alloc (.cells #[.int .i64 zeroEd.id, .int .i64 zeroEd.fr, .int .i64 zeroEd.tn, .int .i64 zeroEd.op, .int .i64 zeroEd.en, .int .i64 zeroEd.ra, .int .i64 zeroEd.ow, .int .i64 zeroEd.ro] 34)
  replace hXe := hXe.alloc (.cells #[.int .i64 zeroEd.id, .int .i64 zeroEd.fr, .int .i64 zeroEd.tn, .int .i64 zeroEd.op, .int .i64 zeroEd.en, .int .i64 zeroEd.ra, .int .i64 zeroEd.ow, .int .i64 zeroEd.ro] 34)
  replace hXf := hXf.alloc (.cells #[.int .i64 zeroEd.id, .int .i64 zeroEd.fr, .int .i64 zeroEd.tn, .int .i64 zeroEd.op, .int .i64 zeroEd.en, .int .i64 zeroEd.ra, .int .i64 zeroEd.ow, .int .i64 zeroEd.ro] 34)
  replace hXg := hXg.alloc (.cells #[.int .i64 zeroEd.id, .int .i64 zeroEd.fr, .int .i64 zeroEd.tn, .int .i64 zeroEd.op, .int .i64 zeroEd.en, .int .i64 zeroEd.ra, .int .i64 zeroEd.ow, .int .i64 zeroEd.ro] 34)
  replace hB := hB.alloc hs (.cells #[.int .i64 zeroEd.id, .int .i64 zeroEd.fr, .int .i64 zeroEd.tn, .int .i64 zeroEd.op, .int .i64 zeroEd.en, .int .i64 zeroEd.ra, .int .i64 zeroEd.ow, .int .i64 zeroEd.ro] 34)
  replace hs := hB.size
  clear hs_
  obtain ⟨bw12, hbw12⟩ : ∃ q, w11.heap.size = q := ⟨_, rfl⟩
  rw [hbw12] at hXn
  try rw [hbw12]
  generalize w11.alloc (.cells #[.int .i64 zeroEd.id, .int .i64 zeroEd.fr, .int .i64 zeroEd.tn, .int .i64 zeroEd.op, .int .i64 zeroEd.en, .int .i64 zeroEd.ra, .int .i64 zeroEd.ow, .int .i64 zeroEd.ro] 34) = w12 at *
  have p0 : w12.cell? ⟨bw2, 0, none⟩ = some (.slice (some ⟨g1, 0, none⟩) 2 2) := hXp.cell 0
  have p1 : w12.cell? ⟨bw2, 1, none⟩ = some (.slice (some A) 1 1) := hXp.cell 1
  have p2 : w12.cell? ⟨bw2, 2, none⟩ = some (.int .i64 0) := hXp.cell 2
  have p3 : w12.cell? ⟨bw2, 3, none⟩ = some (.int .i64 0) := hXp.cell 3
  have lt_p := hXp.lt
  have c0 : w12.cell? ⟨g1, 6, none⟩ = some (.int .i64 5) := by rw [hC.cellAt 6 (by decide)]; rfl
  have c1 : w12.cell? ⟨g1, 7, none⟩ = some (.int .i64 2) := by rw [hC.cellAt 7 (by decide)]; rfl
  have c2 : w12.cell? ⟨g1, 8, none⟩ = some (.int .i64 1) := by rw [hC.cellAt 8 (by decide)]; rfl
  have c3 : w12.cell? ⟨g1, 9, none⟩ = some (.int .i64 10) := by rw [hC.cellAt 9 (by decide)]; rfl
  have c4 : w12.cell? ⟨g1, 10, none⟩ = some (.int .i64 20) := by rw [hC.cellAt 10 (by decide)]; rfl
  have c5 : w12.cell? ⟨g1, 11, none⟩ = some (.int .i64 3) := by rw [hC.cellAt 11 (by decide)]; rfl
  have HEG := Lib.hid (fun (w' : World) (hb : Below w12.heap.size w12 w') => edge_any (some ⟨g1, 0, none⟩) 2 2 (some A) 1 1 baseR 0 0 (some ⟨bw3, 0, none⟩) 1 1 bkS ⟨5, 2, 1, 10, 20, 3⟩ 0 w' rfl (by omega) rfl (by omega) (Sl.of_own (own_below hR hb)) (Sl.of_own (own_below hL hb)) baseR_right bkS_right none edge_no zeroEd rfl)
  go_wp2_with fail
  try simp only [List.append]
  refine wp_region_newvar (m := 10) (s := 11) (dm := 12) (dv := 46) (T := 34) (zs := #[.int .i64 0, .int .i64 0, .int .i64 0, .int .i64 0, .int .i64 0, .int .i64 0, .int .i64 0, .int .i64 0]) (cs := #[.int .i64 zeroEd.id, .int .i64 zeroEd.fr, .int .i64 zeroEd.tn, .int .i64 zeroEd.op, .int .i64 zeroEd.en, .int .i64 zeroEd.ra, .int .i64 zeroEd.ow, .int .i64 zeroEd.ro]) [0, 1, 2, 3, 4, 5, 6, 7, 8, 9, 12] (by kernel_rfl) (NewVar.of rfl rfl rfl (by kernel_rfl)) (by kernel_rfl) rfl (fun a w => by simp [execOp, go_sem]) rfl (by kernel_rfl) (by kernel_rfl) ?_
  apply Exists.intro
  refine ⟨?_, ?_, ?_, ?_, ?_⟩
  · intro wb hwb
    have q_p0 := cell_up p0 hwb
    have q_p1 := cell_up p1 hwb
    have q_p2 := cell_up p2 hwb
    have q_p3 := cell_up p3 hwb
    have q_c0 := cell_up c0 hwb
    have q_c1 := cell_up c1 hwb
    have q_c2 := cell_up c2 hwb
    have q_c3 := cell_up c3 hwb
    have q_c4 := cell_up c4 hwb
    have q_c5 := cell_up c5 hwb
    simp only [pickL, List.flatMap_cons, List.flatMap_nil, List.drop_succ_cons, List.drop_zero, List.take_succ_cons, List.take_zero, List.append_nil, List.cons_append, List.nil_append]
    repeat (go_big_quiet_step (((go_at_call 12; with_reducible exact Calls.regrown_of (HEG.out _ (up_below hwb _ _))))))
    exact wpQuiet_nil rfl
  · rfl
  · simp
  · rfl
  intro bX wX hX
  go_simp
  obtain ⟨_, _, hb⟩ := hX
  clear p0 p1 p2 p3 lt_p
  clear c0 c1 c2 c3 c4 c5 HEG
  replace hva := own_below hva hb
  replace hvb := own_below hvb hb
  replace hvc := own_below hvc hb
  replace hXe := hXe.below hb hXe.lt
  replace hXf := hXf.below hb hXf.lt
  replace hXg := hXg.below hb hXg.lt
  replace hB := hB.trans (hb.mono hs)
  replace hs := hB.size
  clear hb
  clear hXn hXp hC hR hL
  have e0 : wX.cell? ⟨bw7, 0, none⟩ = some (.int .i64 7) := hXe.cell 0
  have e1 : wX.cell? ⟨bw7, 1, none⟩ = some (.int .i64 1) := hXe.cell 1
  have e2 : wX.cell? ⟨bw7, 2, none⟩ = some (.int .i64 2) := hXe.cell 2
  have e3 : wX.cell? ⟨bw7, 3, none⟩ = some (.int .i64 14) := hXe.cell 3
  have e4 : wX.cell? ⟨bw7, 4, none⟩ = some (.int .i64 20) := hXe.cell 4
  have e5 : wX.cell? ⟨bw7, 5, none⟩ = some (.int .i64 3) := hXe.cell 5
  have e6 : wX.cell? ⟨bw7, 6, none⟩ = some (.int .i64 4) := hXe.cell 6
  have e7 : wX.cell? ⟨bw7, 7, none⟩ = some (.int .i64 20) := hXe.cell 7
  have lt_e := hXe.lt
  go_wp2_with fail
  clear e0 e1 e2 e3 e4 e5 e6 e7 lt_e
  have hs_ := hB.size
  have hs1 := own_lit wX 0 34 8 1 #[.int .i64 7, .int .i64 1, .int .i64 2, .int .i64 14, .int .i64 20, .int .i64 3, .int .i64 4, .int .i64 20] (by omega) rfl (by simp [maxLen])
  replace hva := hva.alloc (.cells #[.int .i64 7, .int .i64 1, .int .i64 2, .int .i64 14, .int .i64 20, .int .i64 3, .int .i64 4, .int .i64 20] 34)
  replace hvb := hvb.alloc (.cells #[.int .i64 7, .int .i64 1, .int .i64 2, .int .i64 14, .int .i64 20, .int .i64 3, .int .i64 4, .int .i64 20] 34)
  replace hvc := hvc.alloc (.cells #[.int .i64 7, .int .i64 1, .int .i64 2, .int .i64 14, .int .i64 20, .int .i64 3, .int .i64 4, .int .i64 20] 34)
  replace hXe := hXe.alloc (.cells #[.int .i64 7, .int .i64 1, .int .i64 2, .int .i64 14, .int .i64 20, .int .i64 3, .int .i64 4, .int .i64 20] 34)
  replace hXf := hXf.alloc (.cells #[.int .i64 7, .int .i64 1, .int .i64 2, .int .i64 14, .int .i64 20, .int .i64 3, .int .i64 4, .int .i64 20] 34)
  replace hXg := hXg.alloc (.cells #[.int .i64 7, .int .i64 1, .int .i64 2, .int .i64 14, .int .i64 20, .int .i64 3, .int .i64 4, .int .i64 20] 34)
  replace hB := hB.alloc hs (.cells #[.int .i64 7, .int .i64 1, .int .i64 2, .int .i64 14, .int .i64 20, .int .i64 3, .int .i64 4, .int .i64 20] 34)
  replace hs := hB.size
  clear hs_
  obtain ⟨bw15, hbw15⟩ : ∃ q, wX.heap.size = q := ⟨_, rfl⟩
  rw [hbw15] at hs1
  try rw [hbw15]
  generalize wX.alloc (.cells #[.int .i64 7, .int .i64 1, .int .i64 2, .int .i64 14, .int .i64 20, .int .i64 3, .int .i64 4, .int .i64 20] 34) = w15 at *
  refine (vsame_any Ava (some ⟨bw15, 0, none⟩) 1 cva 1 1 [edA] [edA] w15 rfl rfl (by omega) (by omega) (Sl.of_own hva) (Sl.of_own hs1) true (by decide +kernel)).mono ?_
  rintro e w16 ⟨rfl, hb⟩
  replace hva := own_below hva hb
  replace hvb := own_below hvb hb
  replace hvc := own_below hvc hb
  replace hs1 := own_below hs1 hb
  replace hXe := hXe.below hb hXe.lt
  replace hXf := hXf.below hb hXf.lt
  replace hXg := hXg.below hb hXg.lt
  replace hB := hB.trans (hb.mono hs)
  replace hs := hB.size
  clear hb
  clear hs1
  have f0 : w16.cell? ⟨bw8, 0, none⟩ = some (.int .i64 7) := hXf.cell 0
  have f1 : w16.cell? ⟨bw8, 1, none⟩ = some (.int .i64 1) := hXf.cell 1
  have f2 : w16.cell? ⟨bw8, 2, none⟩ = some (.int .i64 2) := hXf.cell 2
  have f3 : w16.cell? ⟨bw8, 3, none⟩ = some (.int .i64 10) := hXf.cell 3
  have f4 : w16.cell? ⟨bw8, 4, none⟩ = some (.int .i64 20) := hXf.cell 4
  have f5 : w16.cell? ⟨bw8, 5, none⟩ = some (.int .i64 3) := hXf.cell 5
  have f6 : w16.cell? ⟨bw8, 6, none⟩ = some (.int .i64 4) := hXf.cell 6
  have f7 : w16.cell? ⟨bw8, 7, none⟩ = some (.int .i64 30) := hXf.cell 7
  have lt_f := hXf.lt
  go_wp2_with fail
  clear f0 f1 f2 f3 f4 f5 f6 f7 lt_f
  have hs_ := hB.size
  have hs2 := own_lit w16 0 34 8 1 #[.int .i64 7, .int .i64 1, .int .i64 2, .int .i64 10, .int .i64 20, .int .i64 3, .int .i64 4, .int .i64 30] (by omega) rfl (by simp [maxLen])
  replace hva := hva.alloc (.cells #[.int .i64 7, .int .i64 1, .int .i64 2, .int .i64 10, .int .i64 20, .int .i64 3, .int .i64 4, .int .i64 30] 34)
  replace hvb := hvb.alloc (.cells #[.int .i64 7, .int .i64 1, .int .i64 2, .int .i64 10, .int .i64 20, .int .i64 3, .int .i64 4, .int .i64 30] 34)
  replace hvc := hvc.alloc (.cells #[.int .i64 7, .int .i64 1, .int .i64 2, .int .i64 10, .int .i64 20, .int .i64 3, .int .i64 4, .int .i64 30] 34)
  replace hXe := hXe.alloc (.cells #[.int .i64 7, .int .i64 1, .int .i64 2, .int .i64 10, .int .i64 20, .int .i64 3, .int .i64 4, .int .i64 30] 34)
  replace hXf := hXf.alloc (.cells #[.int .i64 7, .int .i64 1, .int .i64 2, .int .i64 10, .int .i64 20, .int .i64 3, .int .i64 4, .int .i64 30] 34)
  replace hXg := hXg.alloc (.cells #[.int .i64 7, .int .i64 1, .int .i64 2, .int .i64 10, .int .i64 20, .int .i64 3, .int .i64 4, .int .i64 30] 34)
  replace hB := hB.alloc hs (.cells #[.int .i64 7, .int .i64 1, .int .i64 2, .int .i64 10, .int .i64 20, .int .i64 3, .int .i64 4, .int .i64 30] 34)
  replace hs := hB.size
  clear hs_
  obtain ⟨bw17, hbw17⟩ : ∃ q, w16.heap.size = q := ⟨_, rfl⟩
  rw [hbw17] at hs2
  try rw [hbw17]
  generalize w16.alloc (.cells #[.int .i64 7, .int .i64 1, .int .i64 2, .int .i64 10, .int .i64 20, .int .i64 3, .int .i64 4, .int .i64 30] 34) = w17 at *
  refine (vsame_any Avb (some ⟨bw17, 0, none⟩) 1 cvb 1 1 [edF] [edF] w17 rfl rfl (by omega) (by omega) (Sl.of_own hvb) (Sl.of_own hs2) true (by decide +kernel)).mono ?_
  rintro e w18 ⟨rfl, hb⟩
  replace hva := own_below hva hb
  replace hvb := own_below hvb hb
  replace hvc := own_below hvc hb
  replace hs2 := own_below hs2 hb
  replace hXe := hXe.below hb hXe.lt
  replace hXf := hXf.below hb hXf.lt
  replace hXg := hXg.below hb hXg.lt
  replace hB := hB.trans (hb.mono hs)
  replace hs := hB.size
  clear hb
  clear hs2
  go_wp2_with fail
  refine (vsame_any Avc Avb 1 cvc 1 cvb [edF] [edF] w18 rfl rfl (by omega) (by omega) (Sl.of_own hvc) (Sl.of_own hvb) true (by decide +kernel)).mono ?_
  rintro e w19 ⟨rfl, hb⟩
  replace hva := own_below hva hb
  replace hvb := own_below hvb hb
  replace hvc := own_below hvc hb
  replace hXe := hXe.below hb hXe.lt
  replace hXf := hXf.below hb hXf.lt
  replace hXg := hXg.below hb hXg.lt
  replace hB := hB.trans (hb.mono hs)
  replace hs := hB.size
  clear hb
  have f0 : w19.cell? ⟨bw8, 0, none⟩ = some (.int .i64 7) := hXf.cell 0
  have f1 : w19.cell? ⟨bw8, 1, none⟩ = some (.int .i64 1) := hXf.cell 1
  have f2 : w19.cell? ⟨bw8, 2, none⟩ = some (.int .i64 2) := hXf.cell 2
  have f3 : w19.cell? ⟨bw8, 3, none⟩ = some (.int .i64 10) := hXf.cell 3
  have f4 : w19.cell? ⟨bw8, 4, none⟩ = some (.int .i64 20) := hXf.cell 4
  have f5 : w19.cell? ⟨bw8, 5, none⟩ = some (.int .i64 3) := hXf.cell 5
  have f6 : w19.cell? ⟨bw8, 6, none⟩ = some (.int .i64 4) := hXf.cell 6
  have f7 : w19.cell? ⟨bw8, 7, none⟩ = some (.int .i64 30) := hXf.cell 7
  have lt_f := hXf.lt
  have g0 : w19.cell? ⟨bw10, 0, none⟩ = some (.int .i64 7) := hXg.cell 0
  have g1 : w19.cell? ⟨bw10, 1, none⟩ = some (.int .i64 1) := hXg.cell 1
  have g2 : w19.cell? ⟨bw10, 2, none⟩ = some (.int .i64 2) := hXg.cell 2
  have g3 : w19.cell? ⟨bw10, 3, none⟩ = some (.int .i64 10) := hXg.cell 3
  have g4 : w19.cell? ⟨bw10, 4, none⟩ = some (.int .i64 20) := hXg.cell 4
  have g5 : w19.cell? ⟨bw10, 5, none⟩ = some (.int .i64 3) := hXg.cell 5
  have g6 : w19.cell? ⟨bw10, 6, none⟩ = some (.int .i64 4) := hXg.cell 6
  have g7 : w19.cell? ⟨bw10, 7, none⟩ = some (.int .i64 30) := hXg.cell 7
  have lt_g := hXg.lt
  go_wp2_with fail
  clear f0 f1 f2 f3 f4 f5 f6 f7 lt_f
  clear g0 g1 g2 g3 g4 g5 g6 g7 lt_g
  refine (vfrom_any Avb 1 cvb [edF] 1 w19 rfl (by omega) (Sl.of_own hvb) [edF] (by decide +kernel)).mono ?_
  rintro e w20 ⟨vf, rfl, hvf, hb⟩
  replace hva := own_below hva hb
  replace hvb := own_below hvb hb
  replace hvc := own_below hvc hb
  replace hXe := hXe.below hb hXe.lt
  replace hXf := hXf.below hb hXf.lt
  replace hXg := hXg.below hb hXg.lt
  replace hB := hB.trans (hb.mono hs)
  replace hs := hB.size
  clear hb
  replace hvf : w20.ownsRow _ 34 8 vf 1 (flatEd [edF]) := hvf
  obtain ⟨Avf, cvf, rfl⟩ := slice_of_own hvf
  clear hvf
  go_wp2_with fail
  refine (vfrom_any Avb 1 cvb [edF] 2 w20 rfl (by omega) (Sl.of_own hvb) [] (by decide +kernel)).mono ?_
  rintro e w21 ⟨vg, rfl, hvg, hb⟩
  replace hva := own_below hva hb
  replace hvb := own_below hvb hb
  replace hvc := own_below hvc hb
  replace hXe := hXe.below hb hXe.lt
  replace hXf := hXf.below hb hXf.lt
  replace hXg := hXg.below hb hXg.lt
  replace hB := hB.trans (hb.mono hs)
  replace hs := hB.size
  clear hb
  replace hvg : w21.ownsRow _ 34 8 vg 0 (flatEd []) := hvg
  obtain ⟨Avg, cvg, rfl⟩ := slice_of_own hvg
  clear hvg
  go_wp2_with fail
  refine (vsame_any Ava Avb 1 cva 1 cvb [edA] [edF] w21 rfl rfl (by omega) (by omega) (Sl.of_own hva) (Sl.of_own hvb) false (by decide +kernel)).mono ?_
  rintro e w22 ⟨rfl, hb⟩
  replace hva := own_below hva hb
  replace hvb := own_below hvb hb
  replace hvc := own_below hvc hb
  replace hXe := hXe.below hb hXe.lt
  replace hXf := hXf.below hb hXf.lt
  replace hXg := hXg.below hb hXg.lt
  replace hB := hB.trans (hb.mono hs)
  replace hs := hB.size
  clear hb
  go_wp2_with fail
  go_ret
  exact ⟨rfl, hB⟩
end Go.Proofs.Ytfdphpmcgidmiaa
