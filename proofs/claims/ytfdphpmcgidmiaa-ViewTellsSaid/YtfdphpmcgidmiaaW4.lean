/- Contracts and plain facts, several texts of mine in one: View2. No condition. -/
import Derived.Test.YtfdphpmcgidmiaaW3
import Derived.Test.YtfdphpmcgidmiaaAppl

/- Contracts of package view: Find, From, Same. -/
namespace Go.Proofs.Ytfdphpmcgidmiaa
open Go.ChangeShapes Go.WideShapes Go.ChangeAt Go.RowKit Go.Sort
set_option linter.unusedSimpArgs false
set_option linter.unusedVariables false
theorem own_below {w w' : World} {base : Nat} {e : TypeId} {size n : Nat} {v : Value} {xs : List Value} (h : w.ownsRow base e size v n xs) (hb : Below w.heap.size w w') : w'.ownsRow base e size v n xs :=
  h.kept (grown_of_below (row := some w.heap.size) hb) (.inr (fun e => by have := (h.lt _ e).2; omega))
theorem flatEd_one_ (y : Ed) : flatEd [y] = [.int .i64 y.id, .int .i64 y.fr, .int .i64 y.tn, .int .i64 y.op, .int .i64 y.en, .int .i64 y.ra, .int .i64 y.ow, .int .i64 y.ro] := rfl
theorem take_snocEd {l : List Ed} {i : Nat} (h : i < l.length) : l.take (i + 1) = l.take i ++ [gEd l i] := by
  rw [List.take_succ_eq_append_getElem h, gEd_eq h]
def stepE (l : List Ed) (i : Nat) : Bool := (gEd l i).ok && (i == 0 || decide ((gEd l (i - 1)).id < (gEd l i).id))
/-- All edges are right, their IDs rise. -/
def rightE (l : List Ed) : Bool := (List.range l.length).all (stepE l)
theorem rightE_true {l : List Ed} : rightE l = true ↔ ∀ i, i < l.length → stepE l i = true := by simp [rightE, List.all_eq_true]
theorem rightE_false {l : List Ed} {i : Nat} (hi : i < l.length) (h : stepE l i = false) : rightE l = false := by
  rw [Bool.eq_false_iff]; intro e
  have := rightE_true.1 e i hi
  rw [h] at this; cases this
theorem rightE_at {l : List Ed} (h : rightE l = true) {i : Nat} (hi : i < l.length) : (gEd l i).ok = true ∧ (i ≠ 0 → (gEd l (i - 1)).id < (gEd l i).id) := by
  have := rightE_true.1 h i hi
  unfold stepE at this
  simp only [Bool.and_eq_true, Bool.or_eq_true, beq_iff_eq, decide_eq_true_eq] at this
  exact ⟨this.1, fun h0 => this.2.resolve_left h0⟩
theorem rightE_lt {l : List Ed} (h : rightE l = true) : ∀ (j i : Nat), i < j → j < l.length → (gEd l i).id < (gEd l j).id
  | 0, i, h1, _ => by omega
  | j + 1, i, h1, h2 => by
    have hs := (rightE_at h h2).2 (by omega)
    rw [Nat.add_sub_cancel] at hs
    by_cases e : i = j
    · rw [e]; exact hs
    · have := rightE_lt h j i (by omega) (by omega); omega
theorem mem_gEd {l : List Ed} {e : Ed} (h : e ∈ l) : ∃ i, i < l.length ∧ gEd l i = e := by
  obtain ⟨i, hi, rfl⟩ := List.getElem_of_mem h
  exact ⟨i, hi, gEd_eq hi⟩
theorem rightE_ok {l : List Ed} (h : rightE l = true) {e : Ed} (he : e ∈ l) : e.ok = true := by
  obtain ⟨i, hi, rfl⟩ := mem_gEd he
  exact (rightE_at h hi).1
def findE (l : List Ed) (id : Int) : Option Ed := l.find? (fun e => e.id == id)
theorem findE_some {l : List Ed} {id : Int} {e : Ed} (h : findE l id = some e) : e ∈ l ∧ e.id = id :=
  ⟨List.mem_of_find?_eq_some h, by simpa using List.find?_some h⟩
theorem findE_at {l : List Ed} {id : Int} {i : Nat} (hi : i < l.length) (he : (gEd l i).id = id) (hn : ∀ j, j < i → (gEd l j).id ≠ id) : findE l id = some (gEd l i) := by
  unfold findE
  rw [List.find?_eq_some_iff_getElem]
  refine ⟨by simpa using he, i, hi, (gEd_eq hi).symm, fun j hj => ?_⟩
  have := hn j hj
  rw [gEd_eq (by omega : j < l.length)] at this
  simpa using this
theorem findE_right {l : List Ed} (h : rightE l = true) {i : Nat} (hi : i < l.length) : findE l (gEd l i).id = some (gEd l i) :=
  findE_at hi rfl fun j hj => by have := rightE_lt h i j hj hi; omega
theorem findE_none {l : List Ed} {id : Int} (hn : ∀ j, j < l.length → (gEd l j).id ≠ id) : findE l id = none := by
  unfold findE
  rw [List.find?_eq_none]
  intro x hx
  obtain ⟨j, hj, rfl⟩ := mem_gEd hx
  simpa using hn j hj
theorem findE_no {l : List Ed} {id : Int} (h : findE l id = none) {j : Nat} (hj : j < l.length) : (gEd l j).id ≠ id := by
  unfold findE at h
  rw [List.find?_eq_none] at h
  simpa using h _ (gEd_mem hj)
set_option maxHeartbeats 2000000 in
set_option maxRecDepth 100000 in
theorem vfind_any (A : Option Addr) (n c : Nat) (d : List Ed) (id : Int) (w : World) (hd : d.length = n) (hn : n ≤ 1000000) (h : Sl w w.heap.size 8 A n c (flatEd d)) (x : Ed) (b : Bool) (hx : (findE d id).getD zeroEd = x) (hb : (findE d id).isSome = b) :
    Calls Try.prog 14 #[.slice A n c, .int .i64 id] w fun e w' => e = .returned (.tuple #[.agg #[.int .i64 x.id, .int .i64 x.fr, .int .i64 x.tn, .int .i64 x.op, .int .i64 x.en, .int .i64 x.ra, .int .i64 x.ow, .int .i64 x.ro], .bool b]) ∧ Below w.heap.size w w' := by
  have hBa : Below w.heap.size w (w.alloc (.cells #[.int .i64 0, .int .i64 0, .int .i64 0, .int .i64 0, .int .i64 0, .int .i64 0, .int .i64 0, .int .i64 0] 34)) := by (repeat (first | exact Below.refl _ _ | refine Below.alloc ?_ (by first | omega | (simp; done) | (simp; omega)) _ | refine Below.setCell ?_ (by first | omega | (simp; done) | (simp; omega)) _ | refine Below.drew ?_))
  have hX := Blok.new w 34 #[.int .i64 0, .int .i64 0, .int .i64 0, .int .i64 0, .int .i64 0, .int .i64 0, .int .i64 0, .int .i64 0]
  have hl := h.below hBa
  have HD := Lib.hid hd
  have HXX := Lib.hid hx
  have HBX := Lib.hid hb
  clear h hd hx hb
  go_enter Try.func14, Try.ntmps14
  go_wp2
  generalize w.alloc (.cells #[.int .i64 0, .int .i64 0, .int .i64 0, .int .i64 0, .int .i64 0, .int .i64 0, .int .i64 0, .int .i64 0] 34) = w2 at *
  have HL := Lib.hid hl
  have HX := Lib.hid hX
  have HB := Lib.hid hBa
  clear hl hX hBa
  go_loopw [10] (fun iv wr => ∃ (i : Nat), iv = .int .i64 i ∧ i ≤ n ∧ Hid (∀ j, j < i → (gEd d j).id ≠ id) ∧ Hid (Sl wr w.heap.size 8 A n c (flatEd d)) ∧ Hid (Blok wr w.heap.size 34 #[.int .i64 0, .int .i64 0, .int .i64 0, .int .i64 0, .int .i64 0, .int .i64 0, .int .i64 0, .int .i64 0]) ∧ Below w.heap.size w wr) (fun iv _ => n - (intOf iv).toNat)
  case atStart => exact ⟨0, rfl, by omega, (fun j hj => by omega), HL.out, HX.out, HB.out⟩
  case round =>
    clear HL HX HB
    obtain ⟨i, rfl, hi, HN, HL, HX, hB⟩ := hrel
    have hs := hB.size
    by_cases hin : i < n
    · obtain ⟨ad, rfl, hab, c0, c1, c2, c3, c4, c5, c6, c7⟩ := HL.out.lst.atEd HD.out hin
      have hin' : i < d.length := by rw [HD.out]; exact hin
      obtain ⟨y, hy⟩ : ∃ y, gEd d i = y := ⟨_, rfl⟩
      rw [hy] at c0 c1 c2 c3 c4 c5 c6 c7
      have HY := Lib.hid hy
      have hYb := Blok.new wr 34 #[.int .i64 y.id, .int .i64 y.fr, .int .i64 y.tn, .int .i64 y.op, .int .i64 y.en, .int .i64 y.ra, .int .i64 y.ow, .int .i64 y.ro]
      have hBa : Below wr.heap.size wr (wr.alloc (.cells #[.int .i64 y.id, .int .i64 y.fr, .int .i64 y.tn, .int .i64 y.op, .int .i64 y.en, .int .i64 y.ra, .int .i64 y.ow, .int .i64 y.ro] 34)) := by (repeat (first | exact Below.refl _ _ | refine Below.alloc ?_ (by first | omega | (simp; done) | (simp; omega)) _ | refine Below.setCell ?_ (by first | omega | (simp; done) | (simp; omega)) _ | refine Below.drew ?_))
      have hX := HX.out.below hBa HX.out.lt
      have hB2 := hB.trans (hBa.mono hs)
      have hL2 := Lib.hid (HL.out.below (hBa.mono hs))
      clear hy
      go_upto_region 4 with fail
      clear c0 c1 c2 c3 c4 c5 c6 c7 hBa hB HL HX
      generalize wr.alloc (.cells #[.int .i64 y.id, .int .i64 y.fr, .int .i64 y.tn, .int .i64 y.op, .int .i64 y.en, .int .i64 y.ra, .int .i64 y.ow, .int .i64 y.ro] 34) = wx at *
      generalize wr.heap.size = bb at *
      have y0 : wx.cell? ⟨bb, 0, none⟩ = some (.int .i64 y.id) := hYb.cell 0
      have y1 : wx.cell? ⟨bb, 1, none⟩ = some (.int .i64 y.fr) := hYb.cell 1
      have y2 : wx.cell? ⟨bb, 2, none⟩ = some (.int .i64 y.tn) := hYb.cell 2
      have y3 : wx.cell? ⟨bb, 3, none⟩ = some (.int .i64 y.op) := hYb.cell 3
      have y4 : wx.cell? ⟨bb, 4, none⟩ = some (.int .i64 y.en) := hYb.cell 4
      have y5 : wx.cell? ⟨bb, 5, none⟩ = some (.int .i64 y.ra) := hYb.cell 5
      have y6 : wx.cell? ⟨bb, 6, none⟩ = some (.int .i64 y.ow) := hYb.cell 6
      have y7 : wx.cell? ⟨bb, 7, none⟩ = some (.int .i64 y.ro) := hYb.cell 7
      have lt_y := hYb.lt
      by_cases he : y.id = id
      · have hf := findE_at hin' (by rw [HY.out]; exact he) HN.out
        rw [HY.out] at hf
        have hxy : y = x := by rw [← HXX.out, hf]; rfl
        have hbt : b = true := by rw [← HBX.out, hf]; rfl
        subst hbt
        subst hxy
        have hq : (y.id == id) = true := beq_iff_eq.2 he
        have HXB := Lib.hid hX
        have r0 : wx.cell? ⟨w.heap.size, 0, none⟩ = some (.int .i64 0) := hX.cell 0
        have f_0 := hX.free 0
        have r1 : wx.cell? ⟨w.heap.size, 1, none⟩ = some (.int .i64 0) := hX.cell 1
        have f_1 := hX.free 1
        have r2 : wx.cell? ⟨w.heap.size, 2, none⟩ = some (.int .i64 0) := hX.cell 2
        have f_2 := hX.free 2
        have r3 : wx.cell? ⟨w.heap.size, 3, none⟩ = some (.int .i64 0) := hX.cell 3
        have f_3 := hX.free 3
        have r4 : wx.cell? ⟨w.heap.size, 4, none⟩ = some (.int .i64 0) := hX.cell 4
        have f_4 := hX.free 4
        have r5 : wx.cell? ⟨w.heap.size, 5, none⟩ = some (.int .i64 0) := hX.cell 5
        have f_5 := hX.free 5
        have r6 : wx.cell? ⟨w.heap.size, 6, none⟩ = some (.int .i64 0) := hX.cell 6
        have f_6 := hX.free 6
        have r7 : wx.cell? ⟨w.heap.size, 7, none⟩ = some (.int .i64 0) := hX.cell 7
        have f_7 := hX.free 7
        have lt_x := hX.lt
        clear hX hf he
        go_wp2
        have hX := HXB.out
        clear r0 r1 r2 r3 r4 r5 r6 r7
        have hF : Blok ((((((((wx.setCell ⟨w.heap.size, 0, none⟩ (.int .i64 y.id)).setCell ⟨w.heap.size, 1, none⟩ (.int .i64 y.fr)).setCell ⟨w.heap.size, 2, none⟩ (.int .i64 y.tn)).setCell ⟨w.heap.size, 3, none⟩ (.int .i64 y.op)).setCell ⟨w.heap.size, 4, none⟩ (.int .i64 y.en)).setCell ⟨w.heap.size, 5, none⟩ (.int .i64 y.ra)).setCell ⟨w.heap.size, 6, none⟩ (.int .i64 y.ow)).setCell ⟨w.heap.size, 7, none⟩ (.int .i64 y.ro)) w.heap.size 34 #[.int .i64 y.id, .int .i64 y.fr, .int .i64 y.tn, .int .i64 y.op, .int .i64 y.en, .int .i64 y.ra, .int .i64 y.ow, .int .i64 y.ro] := by have h := ((((((((hX.set_ 0 (.int .i64 y.id)).set_ 1 (.int .i64 y.fr)).set_ 2 (.int .i64 y.tn)).set_ 3 (.int .i64 y.op)).set_ 4 (.int .i64 y.en)).set_ 5 (.int .i64 y.ra)).set_ 6 (.int .i64 y.ow)).set_ 7 (.int .i64 y.ro)); simpa using h
        have hle0 : w.heap.size ≤ w.heap.size := by first | exact Nat.le_refl _ | omega
        have hWf : Below w.heap.size w ((((((((wx.setCell ⟨w.heap.size, 0, none⟩ (.int .i64 y.id)).setCell ⟨w.heap.size, 1, none⟩ (.int .i64 y.fr)).setCell ⟨w.heap.size, 2, none⟩ (.int .i64 y.tn)).setCell ⟨w.heap.size, 3, none⟩ (.int .i64 y.op)).setCell ⟨w.heap.size, 4, none⟩ (.int .i64 y.en)).setCell ⟨w.heap.size, 5, none⟩ (.int .i64 y.ra)).setCell ⟨w.heap.size, 6, none⟩ (.int .i64 y.ow)).setCell ⟨w.heap.size, 7, none⟩ (.int .i64 y.ro)) := ((((((((hB2.setCell (p := ⟨w.heap.size, 0, none⟩) hle0 (.int .i64 y.id)).setCell (p := ⟨w.heap.size, 1, none⟩) hle0 (.int .i64 y.fr)).setCell (p := ⟨w.heap.size, 2, none⟩) hle0 (.int .i64 y.tn)).setCell (p := ⟨w.heap.size, 3, none⟩) hle0 (.int .i64 y.op)).setCell (p := ⟨w.heap.size, 4, none⟩) hle0 (.int .i64 y.en)).setCell (p := ⟨w.heap.size, 5, none⟩) hle0 (.int .i64 y.ra)).setCell (p := ⟨w.heap.size, 6, none⟩) hle0 (.int .i64 y.ow)).setCell (p := ⟨w.heap.size, 7, none⟩) hle0 (.int .i64 y.ro))
        have hlF := hF.lt
        generalize ((((((((wx.setCell ⟨w.heap.size, 0, none⟩ (.int .i64 y.id)).setCell ⟨w.heap.size, 1, none⟩ (.int .i64 y.fr)).setCell ⟨w.heap.size, 2, none⟩ (.int .i64 y.tn)).setCell ⟨w.heap.size, 3, none⟩ (.int .i64 y.op)).setCell ⟨w.heap.size, 4, none⟩ (.int .i64 y.en)).setCell ⟨w.heap.size, 5, none⟩ (.int .i64 y.ra)).setCell ⟨w.heap.size, 6, none⟩ (.int .i64 y.ow)).setCell ⟨w.heap.size, 7, none⟩ (.int .i64 y.ro)) = wf at *
        have r0 : wf.cell? ⟨w.heap.size, 0, none⟩ = some (.int .i64 y.id) := hF.cell 0
        have r1 : wf.cell? ⟨w.heap.size, 1, none⟩ = some (.int .i64 y.fr) := hF.cell 1
        have r2 : wf.cell? ⟨w.heap.size, 2, none⟩ = some (.int .i64 y.tn) := hF.cell 2
        have r3 : wf.cell? ⟨w.heap.size, 3, none⟩ = some (.int .i64 y.op) := hF.cell 3
        have r4 : wf.cell? ⟨w.heap.size, 4, none⟩ = some (.int .i64 y.en) := hF.cell 4
        have r5 : wf.cell? ⟨w.heap.size, 5, none⟩ = some (.int .i64 y.ra) := hF.cell 5
        have r6 : wf.cell? ⟨w.heap.size, 6, none⟩ = some (.int .i64 y.ow) := hF.cell 6
        have r7 : wf.cell? ⟨w.heap.size, 7, none⟩ = some (.int .i64 y.ro) := hF.cell 7
        refine bodyPost_ret (v := .tuple #[.agg #[.int .i64 y.id, .int .i64 y.fr, .int .i64 y.tn, .int .i64 y.op, .int .i64 y.en, .int .i64 y.ra, .int .i64 y.ow, .int .i64 y.ro], .bool true]) (by simp [results, Try.results14, go_sem, r0, r1, r2, r3, r4, r5, r6, r7, hlF]) rfl ?_
        exact ⟨rfl, hWf⟩
      · have hq : (y.id == id) = false := beq_eq_false_iff_ne.2 he
        have HN2 : Hid (∀ j, j < i + 1 → (gEd d j).id ≠ id) := fun j hj => by
          by_cases e : j = i
          · subst e; rw [HY.out]; exact he
          · exact HN.out j (by omega)
        have HX := Lib.hid hX
        clear he hX
        go_wp2_with fail
        go_roundw
        case rel => exact ⟨i + 1, by go_num, by omega, HN2, hL2, HX, hB2⟩
        case measure => simp [intOf]; omega
    · have hf := findE_none (l := d) (id := id) (fun j hj => HN.out j (by rw [HD.out] at hj; omega))
      have hx0 : x = zeroEd := by rw [← HXX.out, hf]; rfl
      have hbt : b = false := by rw [← HBX.out, hf]; rfl
      subst hbt
      subst hx0
      have hX := HX.out
      have HXB := Lib.hid hX
      have r0 : wr.cell? ⟨w.heap.size, 0, none⟩ = some (.int .i64 0) := hX.cell 0
      have f_0 := hX.free 0
      have r1 : wr.cell? ⟨w.heap.size, 1, none⟩ = some (.int .i64 0) := hX.cell 1
      have f_1 := hX.free 1
      have r2 : wr.cell? ⟨w.heap.size, 2, none⟩ = some (.int .i64 0) := hX.cell 2
      have f_2 := hX.free 2
      have r3 : wr.cell? ⟨w.heap.size, 3, none⟩ = some (.int .i64 0) := hX.cell 3
      have f_3 := hX.free 3
      have r4 : wr.cell? ⟨w.heap.size, 4, none⟩ = some (.int .i64 0) := hX.cell 4
      have f_4 := hX.free 4
      have r5 : wr.cell? ⟨w.heap.size, 5, none⟩ = some (.int .i64 0) := hX.cell 5
      have f_5 := hX.free 5
      have r6 : wr.cell? ⟨w.heap.size, 6, none⟩ = some (.int .i64 0) := hX.cell 6
      have f_6 := hX.free 6
      have r7 : wr.cell? ⟨w.heap.size, 7, none⟩ = some (.int .i64 0) := hX.cell 7
      have f_7 := hX.free 7
      have lt_x := hX.lt
      clear hX hf HN HX
      go_wp2
      have hX := HXB.out
      clear r0 r1 r2 r3 r4 r5 r6 r7
      have hF : Blok ((((((((wr.setCell ⟨w.heap.size, 0, none⟩ (.int .i64 0)).setCell ⟨w.heap.size, 1, none⟩ (.int .i64 0)).setCell ⟨w.heap.size, 2, none⟩ (.int .i64 0)).setCell ⟨w.heap.size, 3, none⟩ (.int .i64 0)).setCell ⟨w.heap.size, 4, none⟩ (.int .i64 0)).setCell ⟨w.heap.size, 5, none⟩ (.int .i64 0)).setCell ⟨w.heap.size, 6, none⟩ (.int .i64 0)).setCell ⟨w.heap.size, 7, none⟩ (.int .i64 0)) w.heap.size 34 #[.int .i64 0, .int .i64 0, .int .i64 0, .int .i64 0, .int .i64 0, .int .i64 0, .int .i64 0, .int .i64 0] := by have h := ((((((((hX.set_ 0 (.int .i64 0)).set_ 1 (.int .i64 0)).set_ 2 (.int .i64 0)).set_ 3 (.int .i64 0)).set_ 4 (.int .i64 0)).set_ 5 (.int .i64 0)).set_ 6 (.int .i64 0)).set_ 7 (.int .i64 0)); simpa using h
      have hle0 : w.heap.size ≤ w.heap.size := by first | exact Nat.le_refl _ | omega
      have hWf : Below w.heap.size w ((((((((wr.setCell ⟨w.heap.size, 0, none⟩ (.int .i64 0)).setCell ⟨w.heap.size, 1, none⟩ (.int .i64 0)).setCell ⟨w.heap.size, 2, none⟩ (.int .i64 0)).setCell ⟨w.heap.size, 3, none⟩ (.int .i64 0)).setCell ⟨w.heap.size, 4, none⟩ (.int .i64 0)).setCell ⟨w.heap.size, 5, none⟩ (.int .i64 0)).setCell ⟨w.heap.size, 6, none⟩ (.int .i64 0)).setCell ⟨w.heap.size, 7, none⟩ (.int .i64 0)) := ((((((((hB.setCell (p := ⟨w.heap.size, 0, none⟩) hle0 (.int .i64 0)).setCell (p := ⟨w.heap.size, 1, none⟩) hle0 (.int .i64 0)).setCell (p := ⟨w.heap.size, 2, none⟩) hle0 (.int .i64 0)).setCell (p := ⟨w.heap.size, 3, none⟩) hle0 (.int .i64 0)).setCell (p := ⟨w.heap.size, 4, none⟩) hle0 (.int .i64 0)).setCell (p := ⟨w.heap.size, 5, none⟩) hle0 (.int .i64 0)).setCell (p := ⟨w.heap.size, 6, none⟩) hle0 (.int .i64 0)).setCell (p := ⟨w.heap.size, 7, none⟩) hle0 (.int .i64 0))
      have hlF := hF.lt
      generalize ((((((((wr.setCell ⟨w.heap.size, 0, none⟩ (.int .i64 0)).setCell ⟨w.heap.size, 1, none⟩ (.int .i64 0)).setCell ⟨w.heap.size, 2, none⟩ (.int .i64 0)).setCell ⟨w.heap.size, 3, none⟩ (.int .i64 0)).setCell ⟨w.heap.size, 4, none⟩ (.int .i64 0)).setCell ⟨w.heap.size, 5, none⟩ (.int .i64 0)).setCell ⟨w.heap.size, 6, none⟩ (.int .i64 0)).setCell ⟨w.heap.size, 7, none⟩ (.int .i64 0)) = wf at *
      have r0 : wf.cell? ⟨w.heap.size, 0, none⟩ = some (.int .i64 0) := hF.cell 0
      have r1 : wf.cell? ⟨w.heap.size, 1, none⟩ = some (.int .i64 0) := hF.cell 1
      have r2 : wf.cell? ⟨w.heap.size, 2, none⟩ = some (.int .i64 0) := hF.cell 2
      have r3 : wf.cell? ⟨w.heap.size, 3, none⟩ = some (.int .i64 0) := hF.cell 3
      have r4 : wf.cell? ⟨w.heap.size, 4, none⟩ = some (.int .i64 0) := hF.cell 4
      have r5 : wf.cell? ⟨w.heap.size, 5, none⟩ = some (.int .i64 0) := hF.cell 5
      have r6 : wf.cell? ⟨w.heap.size, 6, none⟩ = some (.int .i64 0) := hF.cell 6
      have r7 : wf.cell? ⟨w.heap.size, 7, none⟩ = some (.int .i64 0) := hF.cell 7
      refine bodyPost_ret (v := .tuple #[.agg #[.int .i64 0, .int .i64 0, .int .i64 0, .int .i64 0, .int .i64 0, .int .i64 0, .int .i64 0, .int .i64 0], .bool false]) (by simp [results, Try.results14, go_sem, r0, r1, r2, r3, r4, r5, r6, r7, hlF]) rfl ?_
      exact ⟨rfl, hWf⟩
set_option maxHeartbeats 4000000 in
set_option maxRecDepth 100000 in
theorem vfrom_any (A : Option Addr) (n c : Nat) (d : List Ed) (q : Int) (w : World) (hd : d.length = n) (hn : n ≤ 1000000) (h : Sl w w.heap.size 8 A n c (flatEd d)) (m : List Ed) (hm : d.filter (fun e => e.fr == q) = m) :
    Calls Try.prog 21 #[.slice A n c, .int .i64 q] w fun e w' => ∃ v, e = .returned v ∧ w'.ownsRow w.heap.size 34 8 v m.length (flatEd m) ∧ Below w.heap.size w w' := by
  obtain ⟨i0, hi0, hz0, hz1, hz2⟩ := info_parts infoEd
  have HD := Lib.hid hd
  have HM := Lib.hid hm
  have HL := Lib.hid h
  clear hd h hm
  go_enter Try.func21, Try.ntmps21
  go_wp2
  go_loopw [5, 10] (fun ev iv wr => ∃ (es : List Ed) (k i : Nat), iv = .int .i64 i ∧ i ≤ n ∧ k ≤ i ∧ Hid (es.length = k) ∧ Hid ((d.take i).filter (fun e => e.fr == q) = es) ∧ wr.ownsRow w.heap.size 34 8 ev k (flatEd es) ∧ Below w.heap.size w wr ∧ Hid (Sl wr w.heap.size 8 A n c (flatEd d))) (fun ev iv _ => n - (intOf iv).toNat)
  case atStart => exact ⟨[], 0, 0, rfl, by omega, by omega, rfl, by simp [Hid], World.ownsRow_nil _ _ _ _, Below.refl _ _, HL.out⟩
  case round =>
    clear HL
    obtain ⟨es, k, i, rfl, hi, hk, HE, HF, hown, hB, HL⟩ := hrel
    have hs := hB.size
    obtain ⟨Ae, ce, rfl⟩ := slice_of_own hown
    by_cases hin : i < n
    · obtain ⟨ad, rfl, hab, c0, c1, c2, c3, c4, c5, c6, c7⟩ := HL.out.lst.atEd HD.out hin
      have hin' : i < d.length := by rw [HD.out]; exact hin
      have hst := take_snocEd hin'
      obtain ⟨x, hx⟩ : ∃ x, gEd d i = x := ⟨_, rfl⟩
      rw [hx] at c0 c1 c2 c3 c4 c5 c6 c7 hst
      have HST := Lib.hid hst
      have hX := Blok.new wr 34 #[.int .i64 x.id, .int .i64 x.fr, .int .i64 x.tn, .int .i64 x.op, .int .i64 x.en, .int .i64 x.ra, .int .i64 x.ow, .int .i64 x.ro]
      have hBa : Below wr.heap.size wr (wr.alloc (.cells #[.int .i64 x.id, .int .i64 x.fr, .int .i64 x.tn, .int .i64 x.op, .int .i64 x.en, .int .i64 x.ra, .int .i64 x.ow, .int .i64 x.ro] 34)) := by (repeat (first | exact Below.refl _ _ | refine Below.alloc ?_ (by first | omega | (simp; done) | (simp; omega)) _ | refine Below.setCell ?_ (by first | omega | (simp; done) | (simp; omega)) _ | refine Below.drew ?_))
      have hB2 := hB.trans (hBa.mono hs)
      have hL2 := Lib.hid (HL.out.below (hBa.mono hs))
      have hown2 := own_below hown hBa
      have hqb : ∀ q, (Value.slice Ae k ce).ownBlock = some q → q < wr.heap.size := fun q hq => (hown.lt q hq).2
      clear hx hst
      go_upto_region 5 with fail
      have HQB := Lib.hid hqb
      have hsa := hBa.size
      clear c0 c1 c2 c3 c4 c5 c6 c7 hBa hB HL hown hqb
      generalize wr.alloc (.cells #[.int .i64 x.id, .int .i64 x.fr, .int .i64 x.tn, .int .i64 x.op, .int .i64 x.en, .int .i64 x.ra, .int .i64 x.ow, .int .i64 x.ro] 34) = wx at *
      generalize wr.heap.size = bb at *
      have x0 : wx.cell? ⟨bb, 0, none⟩ = some (.int .i64 x.id) := hX.cell 0
      have x1 : wx.cell? ⟨bb, 1, none⟩ = some (.int .i64 x.fr) := hX.cell 1
      have x2 : wx.cell? ⟨bb, 2, none⟩ = some (.int .i64 x.tn) := hX.cell 2
      have x3 : wx.cell? ⟨bb, 3, none⟩ = some (.int .i64 x.op) := hX.cell 3
      have x4 : wx.cell? ⟨bb, 4, none⟩ = some (.int .i64 x.en) := hX.cell 4
      have x5 : wx.cell? ⟨bb, 5, none⟩ = some (.int .i64 x.ra) := hX.cell 5
      have x6 : wx.cell? ⟨bb, 6, none⟩ = some (.int .i64 x.ow) := hX.cell 6
      have x7 : wx.cell? ⟨bb, 7, none⟩ = some (.int .i64 x.ro) := hX.cell 7
      have lt_x := hX.lt
      have hsx := hB2.size
      by_cases hfr : x.fr = q
      · have hF2 : (d.take (i + 1)).filter (fun e => e.fr == q) = es ++ [x] := by
          rw [HST.out, List.filter_append, HF.out]; simp [hfr]
        have HF2 := Lib.hid hF2
        have g1 : (x.fr == q) = true := by simp [hfr]
        clear hF2 hfr
        go_wp2_with (first | (at_builtin; refine wpList_append_own _ rfl _ _ 29 rfl w.heap.size 34 i0 _ 8 64 Try.underlying29 hi0 hz0 hz1 hz2 rfl (by decide) _ _ _ rfl (hown2.alloc _) ⟨wx.heap.size, 0, none⟩ 1 1 [.int .i64 x.id, .int .i64 x.fr, .int .i64 x.tn, .int .i64 x.op, .int .i64 x.en, .int .i64 x.ra, .int .i64 x.ow, .int .i64 x.ro] rfl rfl (by exact lit_cells wx #[.int .i64 x.id, .int .i64 x.fr, .int .i64 x.tn, .int .i64 x.op, .int .i64 x.en, .int .i64 x.ra, .int .i64 x.ow, .int .i64 x.ro] _ _ rfl) (by simp [Value.oneCell']) (by unfold maxLen; omega) (by omega) (by simp; omega) ?_; intro v' w3 hown' hgrow3 hnil3; clear hnil3))
        have hbN : Below w.heap.size w w3 := (hB2.alloc hsx _).grown hgrow3 (by simp; omega) (fun q hq => by have := (hown2.lt q hq).1; omega)
        have hLN := Lib.hid (hL2.out.below (((Below.refl _ _).alloc hsx (.cells #[.int .i64 x.id, .int .i64 x.fr, .int .i64 x.tn, .int .i64 x.op, .int .i64 x.en, .int .i64 x.ra, .int .i64 x.ow, .int .i64 x.ro] 34)).grown hgrow3 (by simp; omega) (fun q hq => by have := (hown2.lt q hq).1; omega)))
        clear hgrow3 x0 x1 x2 x3 x4 x5 x6 x7 lt_x hX
        go_roundw
        case rel => exact ⟨es ++ [x], k + 1, i + 1, by go_num, by omega, by omega, by simp [Hid, HE.out], HF2, (by rw [flatEd_append, flatEd_one_]; exact hown'), hbN, hLN⟩
        case measure => simp [intOf]; omega
      · have hF2 : (d.take (i + 1)).filter (fun e => e.fr == q) = es := by
          rw [HST.out, List.filter_append, HF.out]; simp [hfr]
        have HF2 := Lib.hid hF2
        have g1 : (x.fr == q) = false := by simp [hfr]
        clear hF2 hfr
        go_wp2_with fail
        go_roundw
        case rel => exact ⟨es, k, i + 1, by go_num, by omega, by omega, HE, HF2, hown2, hB2, hL2⟩
        case measure => simp [intOf]; omega
    · obtain rfl : i = n := by omega
      have hme : m = es := by
        rw [← HM.out, ← HF.out, List.take_of_length_le (by rw [HD.out]; omega)]
      subst hme
      go_wp2_with fail
      go_ret
      exact ⟨_, rfl, by rw [HE.out]; exact hown, hB⟩
set_option maxRecDepth 100000 in
theorem vsame_any (A A' : Option Addr) (n c n' c' : Nat) (d d' : List Ed) (w : World) (hd : d.length = n) (hd' : d'.length = n') (hn : n ≤ 1000000) (hn' : n' ≤ 1000000) (h : Sl w w.heap.size 8 A n c (flatEd d)) (h' : Sl w w.heap.size 8 A' n' c' (flatEd d')) (b : Bool) (hb : decide (d = d') = b) :
    Calls Try.prog 23 #[.slice A n c, .slice A' n' c'] w fun e w' => e = .returned (.bool b) ∧ Below w.heap.size w w' := by
  have HE := Lib.hid (hb ▸ equalEd A A' n c n' c' d d' w hd hd' hn hn' h h')
  clear hd hd' h h' hb
  go_enter Try.func23, Try.ntmps23
  go_wp2_with fail
  refine HE.out.mono ?_
  rintro e w3 ⟨rfl, hb⟩
  go_wp2_with fail
  go_ret
  exact ⟨rfl, hb⟩
end Go.Proofs.Ytfdphpmcgidmiaa
