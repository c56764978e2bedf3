/- Package ranges: Change, Right. -/
import Derived.Test.YtglhembdlipccaaRanges3
namespace Go.Proofs.Ytglhembdlipccaa
open Go.ChangeShapes Go.WideShapes Go.ChangeAt Go.RowKit Go.Sort
set_option linter.unusedSimpArgs false
set_option linter.unusedVariables false
def withOw (p : Rg) (x : Int) : Rg := ⟨p.fr, p.tn, p.st, p.en, x⟩
theorem flatRg_ow : ∀ (d : List Rg) (i : Nat) (x : Int), i < d.length → (flatRg d).set (i * 5 + 4) (.int .i64 x) = flatRg (d.set i (withOw (gRg d i) x))
  | p :: d, 0, x, _ => rfl
  | p :: d, i + 1, x, h => by
    rw [flatRg_cons, show (i + 1) * 5 + 4 = i * 5 + 4 + 1 + 1 + 1 + 1 + 1 from by omega]
    simp only [List.set_cons_succ]
    rw [flatRg_ow d i x (by simpa using h)]
    rfl
set_option maxHeartbeats 2000000 in
set_option maxRecDepth 100000 in
theorem change_arg (A : Option Addr) (n c : Nat) (d : List Rg) (r : Rg) (w : World) (hd : d.length = n) (hn : n ≤ 1000000) (h : Sl w w.heap.size 5 A n c (flatRg d)) (ho : inB r.ow 0 2147483647 = false) :
    Calls Try.prog 11 #[.slice A n c, .agg #[.int .i64 r.fr, .int .i64 r.tn, .int .i64 r.st, .int .i64 r.en, .int .i64 r.ow]] w fun e w' => ∃ v, e = .returned (.tuple #[v, .int .i64 1]) ∧ w'.ownsRow w.heap.size 27 5 v n (flatRg d) ∧ Below w.heap.size w w' := by
  have hBa : Below w.heap.size w (w.alloc (.cells #[.int .i64 r.fr, .int .i64 r.tn, .int .i64 r.st, .int .i64 r.en, .int .i64 r.ow] 27)) := by (repeat (first | exact Below.refl _ _ | refine Below.alloc ?_ (by first | omega | (simp; done) | (simp; omega)) _ | refine Below.setCell ?_ (by first | omega | (simp; done) | (simp; omega)) _ | refine Below.drew ?_))
  have hX := Blok.new w 27 #[.int .i64 r.fr, .int .i64 r.tn, .int .i64 r.st, .int .i64 r.en, .int .i64 r.ow]
  have hs := h.up hBa
  have HD := Lib.hid hd
  have HO := Lib.hid ho
  have hsz : w.heap.size < (w.alloc (.cells #[.int .i64 r.fr, .int .i64 r.tn, .int .i64 r.st, .int .i64 r.en, .int .i64 r.ow] 27)).heap.size := by simp
  clear h hd ho
  go_enter Try.func11, Try.ntmps11
  go_wp2_with fail
  generalize w.alloc (.cells #[.int .i64 r.fr, .int .i64 r.tn, .int .i64 r.st, .int .i64 r.en, .int .i64 r.ow] 27) = w2 at *
  refine (cloneRg A n c d w2 HD.out hn hs).mono ?_
  rintro e w3 ⟨v, rfl, hown, hb3⟩
  replace hX := hX.below hb3 hX.lt
  have hown5 := own_down (base' := w.heap.size) hown hBa.size
  replace hBa := hBa.trans (hb3.mono hBa.size)
  have hx0 : w3.cell? ⟨w.heap.size, 0, none⟩ = some (.int .i64 r.fr) := hX.cell 0
  have hx1 : w3.cell? ⟨w.heap.size, 1, none⟩ = some (.int .i64 r.tn) := hX.cell 1
  have hx2 : w3.cell? ⟨w.heap.size, 2, none⟩ = some (.int .i64 r.st) := hX.cell 2
  have hx3 : w3.cell? ⟨w.heap.size, 3, none⟩ = some (.int .i64 r.en) := hX.cell 3
  have hx4 : w3.cell? ⟨w.heap.size, 4, none⟩ = some (.int .i64 r.ow) := hX.cell 4
  clear hown hb3 hs hX
  obtain ⟨A5, c5, rfl⟩ := slice_of_own hown5
  go_wp2_with fail
  refine (in_is false HO.out w3).mono ?_
  rintro e w4 ⟨rfl, rfl⟩
  go_wp2
  go_ret2
  exact ⟨_, rfl, hown5, hBa⟩
set_option maxHeartbeats 2000000 in
set_option maxRecDepth 100000 in
theorem change_none (A : Option Addr) (n c : Nat) (d : List Rg) (r : Rg) (w : World) (hd : d.length = n) (hn : n ≤ 1000000) (h : Sl w w.heap.size 5 A n c (flatRg d)) (ho : inB r.ow 0 2147483647 = true) (hq : ∀ j, j < n → sameR (gRg d j) r = false) :
    Calls Try.prog 11 #[.slice A n c, .agg #[.int .i64 r.fr, .int .i64 r.tn, .int .i64 r.st, .int .i64 r.en, .int .i64 r.ow]] w fun e w' => ∃ v, e = .returned (.tuple #[v, .int .i64 6]) ∧ w'.ownsRow w.heap.size 27 5 v n (flatRg d) ∧ Below w.heap.size w w' := by
  have hBa : Below w.heap.size w (w.alloc (.cells #[.int .i64 r.fr, .int .i64 r.tn, .int .i64 r.st, .int .i64 r.en, .int .i64 r.ow] 27)) := by (repeat (first | exact Below.refl _ _ | refine Below.alloc ?_ (by first | omega | (simp; done) | (simp; omega)) _ | refine Below.setCell ?_ (by first | omega | (simp; done) | (simp; omega)) _ | refine Below.drew ?_))
  have hX := Blok.new w 27 #[.int .i64 r.fr, .int .i64 r.tn, .int .i64 r.st, .int .i64 r.en, .int .i64 r.ow]
  have hs := h.up hBa
  have HD := Lib.hid hd
  have HO := Lib.hid ho
  have HQ := Lib.hid hq
  have hsz : w.heap.size < (w.alloc (.cells #[.int .i64 r.fr, .int .i64 r.tn, .int .i64 r.st, .int .i64 r.en, .int .i64 r.ow] 27)).heap.size := by simp
  clear h hd ho hq
  go_enter Try.func11, Try.ntmps11
  go_wp2_with fail
  generalize w.alloc (.cells #[.int .i64 r.fr, .int .i64 r.tn, .int .i64 r.st, .int .i64 r.en, .int .i64 r.ow] 27) = w2 at *
  refine (cloneRg A n c d w2 HD.out hn hs).mono ?_
  rintro e w3 ⟨v, rfl, hown, hb3⟩
  replace hX := hX.below hb3 hX.lt
  have hown5 := own_down (base' := w.heap.size) hown hBa.size
  replace hBa := hBa.trans (hb3.mono hBa.size)
  have hx0 : w3.cell? ⟨w.heap.size, 0, none⟩ = some (.int .i64 r.fr) := hX.cell 0
  have hx1 : w3.cell? ⟨w.heap.size, 1, none⟩ = some (.int .i64 r.tn) := hX.cell 1
  have hx2 : w3.cell? ⟨w.heap.size, 2, none⟩ = some (.int .i64 r.st) := hX.cell 2
  have hx3 : w3.cell? ⟨w.heap.size, 3, none⟩ = some (.int .i64 r.en) := hX.cell 3
  have hx4 : w3.cell? ⟨w.heap.size, 4, none⟩ = some (.int .i64 r.ow) := hX.cell 4
  clear hown hb3 hs
  obtain ⟨A5, c5, rfl⟩ := slice_of_own hown5
  go_wp2_with fail
  refine (in_is true HO.out w3).mono ?_
  rintro e w4 ⟨rfl, rfl⟩
  go_wp2_with fail
  clear hx0 hx1 hx2 hx3 hx4
  refine (begins_any r w3).mono ?_
  rintro e w4 ⟨g, rfl, hG, hg0, hbb⟩
  have hown6 := hown5.kept (grown_of_below (row := some w3.heap.size) hbb) (.inr (fun e => by have := (hown5.lt _ e).2; omega))
  replace hBa := hBa.trans (hbb.mono hBa.size)
  go_wp2_with fail
  refine (indexRg A5 n c5 d _ _ none _ w4 HD.out hn (Sl.of_own hown6) (pred_begins r g none w4 hG (by simp)) n (Nat.le_refl _) HQ.out (fun h => by omega)).mono ?_
  rintro e w5 ⟨rfl, hb5⟩
  rw [idxOf_no (by omega : ¬ n < n)]
  have hown7 := hown6.kept (grown_of_below (row := some w4.heap.size) hb5) (.inr (fun e => by have := (hown6.lt _ e).2; omega))
  replace hBa := hBa.trans (hb5.mono hBa.size)
  clear hown5 hown6 hb5 hbb hG hX
  go_wp2
  go_ret2
  exact ⟨_, rfl, hown7, hBa⟩
set_option maxHeartbeats 2000000 in
set_option maxRecDepth 100000 in
theorem change_yes (A : Option Addr) (n c : Nat) (d : List Rg) (r : Rg) (w : World) (q : Nat) (hd : d.length = n) (hn : n ≤ 1000000) (h : Sl w w.heap.size 5 A n c (flatRg d)) (ho : inB r.ow 0 2147483647 = true) (hqn : q < n) (hq : ∀ j, j < q → sameR (gRg d j) r = false) (hh : sameR (gRg d q) r = true) :
    Calls Try.prog 11 #[.slice A n c, .agg #[.int .i64 r.fr, .int .i64 r.tn, .int .i64 r.st, .int .i64 r.en, .int .i64 r.ow]] w fun e w' => ∃ v, e = .returned (.tuple #[v, .int .i64 0]) ∧ w'.ownsRow w.heap.size 27 5 v n (flatRg (d.set q (withOw (gRg d q) r.ow))) ∧ Below w.heap.size w w' := by
  have hBa : Below w.heap.size w (w.alloc (.cells #[.int .i64 r.fr, .int .i64 r.tn, .int .i64 r.st, .int .i64 r.en, .int .i64 r.ow] 27)) := by (repeat (first | exact Below.refl _ _ | refine Below.alloc ?_ (by first | omega | (simp; done) | (simp; omega)) _ | refine Below.setCell ?_ (by first | omega | (simp; done) | (simp; omega)) _ | refine Below.drew ?_))
  have hX := Blok.new w 27 #[.int .i64 r.fr, .int .i64 r.tn, .int .i64 r.st, .int .i64 r.en, .int .i64 r.ow]
  have hs := h.up hBa
  have HD := Lib.hid hd
  have HO := Lib.hid ho
  have HQ := Lib.hid hq
  have HH := Lib.hid hh
  have hsz : w.heap.size < (w.alloc (.cells #[.int .i64 r.fr, .int .i64 r.tn, .int .i64 r.st, .int .i64 r.en, .int .i64 r.ow] 27)).heap.size := by simp
  clear h hd ho hq hh
  go_enter Try.func11, Try.ntmps11
  go_wp2_with fail
  generalize w.alloc (.cells #[.int .i64 r.fr, .int .i64 r.tn, .int .i64 r.st, .int .i64 r.en, .int .i64 r.ow] 27) = w2 at *
  refine (cloneRg A n c d w2 HD.out hn hs).mono ?_
  rintro e w3 ⟨v, rfl, hown, hb3⟩
  replace hX := hX.below hb3 hX.lt
  have hown5 := own_down (base' := w.heap.size) hown hBa.size
  have hgR : v.ownBlock ≠ some w.heap.size := fun e => by have := (hown.lt _ e).1; omega
  replace hBa := hBa.trans (hb3.mono hBa.size)
  have hx0 : w3.cell? ⟨w.heap.size, 0, none⟩ = some (.int .i64 r.fr) := hX.cell 0
  have hx1 : w3.cell? ⟨w.heap.size, 1, none⟩ = some (.int .i64 r.tn) := hX.cell 1
  have hx2 : w3.cell? ⟨w.heap.size, 2, none⟩ = some (.int .i64 r.st) := hX.cell 2
  have hx3 : w3.cell? ⟨w.heap.size, 3, none⟩ = some (.int .i64 r.en) := hX.cell 3
  have hx4 : w3.cell? ⟨w.heap.size, 4, none⟩ = some (.int .i64 r.ow) := hX.cell 4
  clear hown hb3 hs
  obtain ⟨g5, c5, rfl, hnc5, hcm5, hgb5, hgl5⟩ := own_at hown5 (by omega)
  unfold maxLen at hcm5
  go_wp2_with fail
  refine (in_is true HO.out w3).mono ?_
  rintro e w4 ⟨rfl, rfl⟩
  go_wp2_with fail
  clear hx0 hx1 hx2 hx3 hx4
  refine (begins_any r w3).mono ?_
  rintro e w4 ⟨g, rfl, hG, hg0, hbb⟩
  have hown6 := hown5.kept (grown_of_below (row := some w3.heap.size) hbb) (.inr (fun e => by have := (hown5.lt _ e).2; omega))
  replace hX := hX.below hbb hX.lt
  replace hBa := hBa.trans (hbb.mono hBa.size)
  go_wp2_with fail
  refine (indexRg _ n c5 d _ _ none _ w4 HD.out hn (Sl.of_own hown6) (pred_begins r g none w4 hG (by simp)) q (by omega) HQ.out (fun _ => HH.out)).mono ?_
  rintro e w5 ⟨rfl, hb5⟩
  rw [idxOf_yes hqn]
  have hown7 := hown6.kept (grown_of_below (row := some w4.heap.size) hb5) (.inr (fun e => by have := (hown6.lt _ e).2; omega))
  replace hX := hX.below hb5 hX.lt
  replace hBa := hBa.trans (hb5.mono hBa.size)
  clear hown5 hown6 hb5 hbb hG
  have hqi : (0 : Int) ≤ (q : Int) := by omega
  have hqnI : (q : Int) < (n : Int) := by omega
  have hx4 : w5.cell? ⟨w.heap.size, 4, none⟩ = some (.int .i64 r.ow) := hX.cell 4
  have hc4 := (ownRg_at hown7 HD.out hqn).2.2.2.2
  have hf4 := hown7.frozenAt (q * 5 + 4)
  obtain ⟨hst, hgr⟩ := hown7.stored (q * 5 + 4) (.int .i64 r.ow)
  rw [flatRg_ow d q r.ow (by have := HD.out; omega)] at hst
  clear hown7 hX
  go_wp2
  go_ret2
  exact ⟨_, rfl, hst, Below.grown hBa hgr hBa.size (fun k hk => by simp at hk; omega)⟩
end Go.Proofs.Ytglhembdlipccaa
