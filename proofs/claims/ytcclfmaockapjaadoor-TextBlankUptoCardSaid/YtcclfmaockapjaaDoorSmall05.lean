
/- Layer 5's small case comes out right. It reads a table of the library's. -/
import Derived.Test.YtcclfmaockapjaaDoorTx2
import Derived.Test.YtcclfmaockapjaaDoorTx4
import Derived.Test.YtcclfmaockapjaaDoorTx5
import Derived.Test.YtcclfmaockapjaaDoorTyFt
namespace Go.Proofs.YtcclfmaockapjaaDoor
open Go.ChangeShapes Go.WideShapes Go.ChangeAt Go.RowKit Go.Sort
set_option linter.unusedSimpArgs false
set_option linter.unusedVariables false
def s05_m : List Dr := [⟨1, 2, 0, 0, 0, 0, 0, 0, 1, 2, 0, 9, 4⟩, ⟨2, 1, 7, 0, 0, 0, 0, 0, 0, 0, 0, 0, 0⟩]
theorem s05_t0 : textF (linesL [35, 32, 120, 10, 10, 97, 32, 114, 97, 110, 103, 101, 32, 49, 32, 50, 32, 48, 32, 57, 32, 52, 32, 35, 32, 121, 10, 32, 100, 32, 32, 99, 111, 110, 116, 97, 99, 116, 32, 55, 13, 10]) 1 = ([⟨1, 2, 0, 0, 0, 0, 0, 0, 1, 2, 0, 9, 4⟩, ⟨2, 1, 7, 0, 0, 0, 0, 0, 0, 0, 0, 0, 0⟩], 0, 0) := by decide +kernel
theorem s05_n0 : (linesL [35, 32, 120, 10, 10, 97, 32, 114, 97, 110, 103, 101, 32, 49, 32, 50, 32, 48, 32, 57, 32, 52, 32, 35, 32, 121, 10, 32, 100, 32, 32, 99, 111, 110, 116, 97, 99, 116, 32, 55, 13, 10]).length = 4 := by decide +kernel
theorem s05_c0 (w : World) (hm : MaxAt w) : Calls Tryd.prog 10 #[.string ⟨#[35, 32, 120, 10, 10, 97, 32, 114, 97, 110, 103, 101, 32, 49, 32, 50, 32, 48, 32, 57, 32, 52, 32, 35, 32, 121, 10, 32, 100, 32, 32, 99, 111, 110, 116, 97, 99, 116, 32, 55, 13, 10]⟩] w fun e w' => ∃ A c, e = .returned (.tuple #[.slice A 2 c, .agg #[.int .i64 0, .int .i64 0]]) ∧ w'.ownsRow w.heap.size 32 13 (.slice A 2 c) 2 (flatDr s05_m) ∧ Below w.heap.size w w' := by
  refine (tparse_any ⟨#[35, 32, 120, 10, 10, 97, 32, 114, 97, 110, 103, 101, 32, 49, 32, 50, 32, 48, 32, 57, 32, 52, 32, 35, 32, 121, 10, 32, 100, 32, 32, 99, 111, 110, 116, 97, 99, 116, 32, 55, 13, 10]⟩ (linesL [35, 32, 120, 10, 10, 97, 32, 114, 97, 110, 103, 101, 32, 49, 32, 50, 32, 48, 32, 57, 32, 52, 32, 35, 32, 121, 10, 32, 100, 32, 32, 99, 111, 110, 116, 97, 99, 116, 32, 55, 13, 10]) 4 rfl s05_n0 w hm (by decide) _ _ _ s05_t0).mono ?_
  rintro e w1 ⟨v, rfl, hv, hb⟩
  obtain ⟨A, c, rfl⟩ := slice_of_own hv
  exact ⟨A, c, rfl, hv, hb⟩
theorem s05_t1 : textF (linesL [10, 100, 32, 99, 111, 110, 116, 97, 99, 116, 32, 55, 10, 120, 10]) 1 = ([], 3, 2) := by decide +kernel
theorem s05_n1 : (linesL [10, 100, 32, 99, 111, 110, 116, 97, 99, 116, 32, 55, 10, 120, 10]).length = 3 := by decide +kernel
theorem s05_c1 (w : World) (hm : MaxAt w) : Calls Tryd.prog 10 #[.string ⟨#[10, 100, 32, 99, 111, 110, 116, 97, 99, 116, 32, 55, 10, 120, 10]⟩] w fun e w' => ∃ A c, e = .returned (.tuple #[.slice A 0 c, .agg #[.int .i64 3, .int .i64 2]]) ∧ w'.ownsRow w.heap.size 32 13 (.slice A 0 c) 0 (flatDr []) ∧ Below w.heap.size w w' := by
  refine (tparse_any ⟨#[10, 100, 32, 99, 111, 110, 116, 97, 99, 116, 32, 55, 10, 120, 10]⟩ (linesL [10, 100, 32, 99, 111, 110, 116, 97, 99, 116, 32, 55, 10, 120, 10]) 3 rfl s05_n1 w hm (by decide) _ _ _ s05_t1).mono ?_
  rintro e w1 ⟨v, rfl, hv, hb⟩
  obtain ⟨A, c, rfl⟩ := slice_of_own hv
  exact ⟨A, c, rfl, hv, hb⟩
theorem s05_t2 : textF (linesL [100, 32, 99, 111, 110, 116, 97, 99, 116, 32, 48]) 1 = ([], 1, 1) := by decide +kernel
theorem s05_n2 : (linesL [100, 32, 99, 111, 110, 116, 97, 99, 116, 32, 48]).length = 1 := by decide +kernel
theorem s05_c2 (w : World) (hm : MaxAt w) : Calls Tryd.prog 10 #[.string ⟨#[100, 32, 99, 111, 110, 116, 97, 99, 116, 32, 48]⟩] w fun e w' => ∃ A c, e = .returned (.tuple #[.slice A 0 c, .agg #[.int .i64 1, .int .i64 1]]) ∧ w'.ownsRow w.heap.size 32 13 (.slice A 0 c) 0 (flatDr []) ∧ Below w.heap.size w w' := by
  refine (tparse_any ⟨#[100, 32, 99, 111, 110, 116, 97, 99, 116, 32, 48]⟩ (linesL [100, 32, 99, 111, 110, 116, 97, 99, 116, 32, 48]) 1 rfl s05_n2 w hm (by decide) _ _ _ s05_t2).mono ?_
  rintro e w1 ⟨v, rfl, hv, hb⟩
  obtain ⟨A, c, rfl⟩ := slice_of_own hv
  exact ⟨A, c, rfl, hv, hb⟩
theorem s05_p0 : printF s05_m = some [97, 32, 114, 97, 110, 103, 101, 32, 49, 32, 50, 32, 48, 32, 57, 32, 52, 10, 100, 32, 99, 111, 110, 116, 97, 99, 116, 32, 55, 10] := by decide +kernel
theorem s05_p1 : printF [zeroDr] = none := by decide +kernel
theorem s05_l : lnoF (linesL [97, 10, 32, 35, 10, 98]) 1 = [1, 3] := by decide +kernel
theorem s05_ln : (linesL [97, 10, 32, 35, 10, 98]).length = 3 := by decide +kernel
theorem s05_lc (w : World) (hm : MaxAt w) : Calls Tryd.prog 13 #[.string ⟨#[97, 10, 32, 35, 10, 98]⟩] w fun e w' => ∃ A c, e = .returned (.slice A 2 c) ∧ w'.ownsRow w.heap.size 3 1 (.slice A 2 c) 2 ([1, 3].map (Value.int .i64)) ∧ Below w.heap.size w w' := by
  refine (tlines_any ⟨#[97, 10, 32, 35, 10, 98]⟩ (linesL [97, 10, 32, 35, 10, 98]) 3 rfl s05_ln w hm (by decide)).mono ?_
  rw [s05_l]
  rintro e w1 ⟨v, rfl, hv, hb⟩
  obtain ⟨A, c, rfl⟩ := slice_of_own hv
  exact ⟨A, c, rfl, hv, hb⟩
theorem fints_is (A A' : Option Addr) (n c n' c' : Nat) (d d' : List Int) (b : Bool) (hb : decide (d = d') = b) (w : World) (hd : d.length = n) (hd' : d'.length = n') (hn : n ≤ 100000) (h : Sl w w.heap.size 1 A n c (d.map (Value.int .i64))) (h' : Sl w w.heap.size 1 A' n' c' (d'.map (Value.int .i64))) :
    Calls Tryd.prog 16 #[.slice A n c, .slice A' n' c'] w fun e w' => e = .returned (.bool b) ∧ Below w.heap.size w w' := by
  subst hb; exact fints_any A A' n c n' c' d d' w hd hd' hn h h'
theorem fsame_is (A A' : Option Addr) (n c n' c' : Nat) (d d' : List Dr) (b : Bool) (hb : decide (d = d') = b) (w : World) (hd : d.length = n) (hd' : d'.length = n') (hn : n ≤ 100000) (h : Sl w w.heap.size 13 A n c (flatDr d)) (h' : Sl w w.heap.size 13 A' n' c' (flatDr d')) :
    Calls Tryd.prog 11 #[.slice A n c, .slice A' n' c'] w fun e w' => e = .returned (.bool b) ∧ Below w.heap.size w w' := by
  subst hb; exact fsame_any A A' n c n' c' d d' w hd hd' hn h h'

set_option maxHeartbeats 16000000 in
set_option maxRecDepth 100000 in
theorem small05_any (w : World) (ht : TenTab w) (hm : MaxAt w) : Calls Tryd.prog 7 #[] w fun e w' => e = .returned (.bool true) ∧ Below w.heap.size w w' := by
  have q1 : ∀ w0 : World, (binOp .eql 35 (.agg #[.int .i64 0, .int .i64 0]) (.agg #[.int .i64 0, .int .i64 0])).run Tryd.prog w0 = .ok (.bool true) w0 := fun w0 => by have h := eqlFt 0 0 0 0 w0; simpa using h
  have q2 : ∀ w0 : World, (binOp .eql 35 (.agg #[.int .i64 3, .int .i64 2]) (.agg #[.int .i64 3, .int .i64 2])).run Tryd.prog w0 = .ok (.bool true) w0 := fun w0 => by have h := eqlFt 3 2 3 2 w0; simpa using h
  have q3 : ∀ w0 : World, (binOp .eql 35 (.agg #[.int .i64 1, .int .i64 1]) (.agg #[.int .i64 1, .int .i64 1])).run Tryd.prog w0 = .ok (.bool true) w0 := fun w0 => by have h := eqlFt 1 1 1 1 w0; simpa using h
  have HT := Lib.hid (fun w' (hb : Below w.heap.size w w') => ht.below hb)
  have HM := Lib.hid (fun w' (hb : Below w.heap.size w w') => hm.below hb)
  have hB := Below.refl w.heap.size w
  have hs := Nat.le_refl w.heap.size
  clear ht hm
  go_enter Tryd.func7, Tryd.ntmps7
  go_wp2_with fail
  refine (s05_c0 w (HM.out w hB)).mono ?_
  rintro e y0 ⟨A1, c1, rfl, h1, hb⟩
  have l1 := Sl.of_own h1
  clear h1
  replace hB := hB.trans (hb.mono hs)
  replace hs := hB.size
  clear hb
  go_upto_region 2 with fail
  have hf := Blok.new y0 35 #[.int .i64 0, .int .i64 0]
  have hb : Below y0.heap.size y0 (y0.alloc (.cells #[.int .i64 0, .int .i64 0] 35)) := by (repeat (first | exact Below.refl _ _ | refine Below.alloc ?_ (by first | omega | (simp; done) | (simp; omega)) _ | refine Below.setCell ?_ (by first | omega | (simp; done) | (simp; omega)) _ | refine Below.drew ?_))
  replace l1 := l1.up hb
  replace hB := hB.trans (hb.mono hs)
  replace hs := hB.size
  clear hb
  generalize y0.alloc (.cells #[.int .i64 0, .int .i64 0] 35) = y1 at *
  generalize hzz : y0.heap.size = bf at *
  clear hzz
  go_wp2_with fail
  have hom := own_lit y1 0 32 13 2 #[.int .i64 1, .int .i64 2, .int .i64 0, .int .i64 0, .int .i64 0, .int .i64 0, .int .i64 0, .int .i64 0, .int .i64 1, .int .i64 2, .int .i64 0, .int .i64 9, .int .i64 4, .int .i64 2, .int .i64 1, .int .i64 7, .int .i64 0, .int .i64 0, .int .i64 0, .int .i64 0, .int .i64 0, .int .i64 0, .int .i64 0, .int .i64 0, .int .i64 0, .int .i64 0] (Nat.zero_le _) rfl (by simp [maxLen])
  have lm : Sl (y1.alloc (.cells #[.int .i64 1, .int .i64 2, .int .i64 0, .int .i64 0, .int .i64 0, .int .i64 0, .int .i64 0, .int .i64 0, .int .i64 1, .int .i64 2, .int .i64 0, .int .i64 9, .int .i64 4, .int .i64 2, .int .i64 1, .int .i64 7, .int .i64 0, .int .i64 0, .int .i64 0, .int .i64 0, .int .i64 0, .int .i64 0, .int .i64 0, .int .i64 0, .int .i64 0, .int .i64 0] 32)) (y1.alloc (.cells #[.int .i64 1, .int .i64 2, .int .i64 0, .int .i64 0, .int .i64 0, .int .i64 0, .int .i64 0, .int .i64 0, .int .i64 1, .int .i64 2, .int .i64 0, .int .i64 9, .int .i64 4, .int .i64 2, .int .i64 1, .int .i64 7, .int .i64 0, .int .i64 0, .int .i64 0, .int .i64 0, .int .i64 0, .int .i64 0, .int .i64 0, .int .i64 0, .int .i64 0, .int .i64 0] 32)).heap.size 13 (some ⟨y1.heap.size, 0, none⟩) 2 2 (flatDr s05_m) := Sl.of_own hom
  have hb : Below y1.heap.size y1 (y1.alloc (.cells #[.int .i64 1, .int .i64 2, .int .i64 0, .int .i64 0, .int .i64 0, .int .i64 0, .int .i64 0, .int .i64 0, .int .i64 1, .int .i64 2, .int .i64 0, .int .i64 9, .int .i64 4, .int .i64 2, .int .i64 1, .int .i64 7, .int .i64 0, .int .i64 0, .int .i64 0, .int .i64 0, .int .i64 0, .int .i64 0, .int .i64 0, .int .i64 0, .int .i64 0, .int .i64 0] 32)) := by (repeat (first | exact Below.refl _ _ | refine Below.alloc ?_ (by first | omega | (simp; done) | (simp; omega)) _ | refine Below.setCell ?_ (by first | omega | (simp; done) | (simp; omega)) _ | refine Below.drew ?_))
  clear hom
  replace l1 := l1.up hb
  replace hf := hf.below hb hf.lt
  replace hB := hB.trans (hb.mono hs)
  replace hs := hB.size
  clear hb
  generalize y1.alloc (.cells #[.int .i64 1, .int .i64 2, .int .i64 0, .int .i64 0, .int .i64 0, .int .i64 0, .int .i64 0, .int .i64 0, .int .i64 1, .int .i64 2, .int .i64 0, .int .i64 9, .int .i64 4, .int .i64 2, .int .i64 1, .int .i64 7, .int .i64 0, .int .i64 0, .int .i64 0, .int .i64 0, .int .i64 0, .int .i64 0, .int .i64 0, .int .i64 0, .int .i64 0, .int .i64 0] 32) = y2 at *
  generalize hzz : y1.heap.size = bm at *
  clear hzz
  refine (s05_c1 y2 (HM.out y2 hB)).mono ?_
  rintro e y3 ⟨A3, c3, rfl, h3, hb⟩
  clear h3
  replace l1 := l1.up hb
  replace lm := lm.up hb
  replace hf := hf.below hb hf.lt
  replace hB := hB.trans (hb.mono hs)
  replace hs := hB.size
  clear hb
  go_upto_region 4 with fail
  have hg := Blok.new y3 35 #[.int .i64 3, .int .i64 2]
  have hb : Below y3.heap.size y3 (y3.alloc (.cells #[.int .i64 3, .int .i64 2] 35)) := by (repeat (first | exact Below.refl _ _ | refine Below.alloc ?_ (by first | omega | (simp; done) | (simp; omega)) _ | refine Below.setCell ?_ (by first | omega | (simp; done) | (simp; omega)) _ | refine Below.drew ?_))
  replace l1 := l1.up hb
  replace lm := lm.up hb
  replace hf := hf.below hb hf.lt
  replace hB := hB.trans (hb.mono hs)
  replace hs := hB.size
  clear hb
  generalize y3.alloc (.cells #[.int .i64 3, .int .i64 2] 35) = y4 at *
  generalize hzz : y3.heap.size = bg at *
  clear hzz
  go_wp2_with fail
  refine (s05_c2 y4 (HM.out y4 hB)).mono ?_
  rintro e y5 ⟨A5, c5, rfl, h5, hb⟩
  clear h5
  replace l1 := l1.up hb
  replace lm := lm.up hb
  replace hf := hf.below hb hf.lt
  replace hg := hg.below hb hg.lt
  replace hB := hB.trans (hb.mono hs)
  replace hs := hB.size
  clear hb
  go_upto_region 5 with fail
  have hh := Blok.new y5 35 #[.int .i64 1, .int .i64 1]
  have hb : Below y5.heap.size y5 (y5.alloc (.cells #[.int .i64 1, .int .i64 1] 35)) := by (repeat (first | exact Below.refl _ _ | refine Below.alloc ?_ (by first | omega | (simp; done) | (simp; omega)) _ | refine Below.setCell ?_ (by first | omega | (simp; done) | (simp; omega)) _ | refine Below.drew ?_))
  replace l1 := l1.up hb
  replace lm := lm.up hb
  replace hf := hf.below hb hf.lt
  replace hg := hg.below hb hg.lt
  replace hB := hB.trans (hb.mono hs)
  replace hs := hB.size
  clear hb
  generalize y5.alloc (.cells #[.int .i64 1, .int .i64 1] 35) = y6 at *
  generalize hzz : y5.heap.size = bh at *
  clear hzz
  go_wp2_with fail
  refine (tprint_any (some ⟨bm, 0, none⟩) 2 2 s05_m rfl (by omega) (by decide) y6 (HT.out y6 hB) lm _ s05_p0).mono ?_
  rintro e y7 ⟨rfl, hb⟩
  replace l1 := l1.up hb
  replace lm := lm.up hb
  replace hf := hf.below hb hf.lt
  replace hg := hg.below hb hg.lt
  replace hh := hh.below hb hh.lt
  replace hB := hB.trans (hb.mono hs)
  replace hs := hB.size
  clear hb
  dsimp only [printV]
  rw [show bs [97, 32, 114, 97, 110, 103, 101, 32, 49, 32, 50, 32, 48, 32, 57, 32, 52, 10, 100, 32, 99, 111, 110, 116, 97, 99, 116, 32, 55, 10] = (⟨#[97, 32, 114, 97, 110, 103, 101, 32, 49, 32, 50, 32, 48, 32, 57, 32, 52, 10, 100, 32, 99, 111, 110, 116, 97, 99, 116, 32, 55, 10]⟩ : ByteArray) from rfl]
  go_wp2_with fail
  have hoz := own_lit y7 0 32 13 1 #[.int .i64 0, .int .i64 0, .int .i64 0, .int .i64 0, .int .i64 0, .int .i64 0, .int .i64 0, .int .i64 0, .int .i64 0, .int .i64 0, .int .i64 0, .int .i64 0, .int .i64 0] (Nat.zero_le _) rfl (by simp [maxLen])
  have lz : Sl (y7.alloc (.cells #[.int .i64 0, .int .i64 0, .int .i64 0, .int .i64 0, .int .i64 0, .int .i64 0, .int .i64 0, .int .i64 0, .int .i64 0, .int .i64 0, .int .i64 0, .int .i64 0, .int .i64 0] 32)) (y7.alloc (.cells #[.int .i64 0, .int .i64 0, .int .i64 0, .int .i64 0, .int .i64 0, .int .i64 0, .int .i64 0, .int .i64 0, .int .i64 0, .int .i64 0, .int .i64 0, .int .i64 0, .int .i64 0] 32)).heap.size 13 (some ⟨y7.heap.size, 0, none⟩) 1 1 (flatDr [zeroDr]) := Sl.of_own hoz
  have hb : Below y7.heap.size y7 (y7.alloc (.cells #[.int .i64 0, .int .i64 0, .int .i64 0, .int .i64 0, .int .i64 0, .int .i64 0, .int .i64 0, .int .i64 0, .int .i64 0, .int .i64 0, .int .i64 0, .int .i64 0, .int .i64 0] 32)) := by (repeat (first | exact Below.refl _ _ | refine Below.alloc ?_ (by first | omega | (simp; done) | (simp; omega)) _ | refine Below.setCell ?_ (by first | omega | (simp; done) | (simp; omega)) _ | refine Below.drew ?_))
  clear hoz
  replace l1 := l1.up hb
  replace lm := lm.up hb
  replace hf := hf.below hb hf.lt
  replace hg := hg.below hb hg.lt
  replace hh := hh.below hb hh.lt
  replace hB := hB.trans (hb.mono hs)
  replace hs := hB.size
  clear hb
  generalize y7.alloc (.cells #[.int .i64 0, .int .i64 0, .int .i64 0, .int .i64 0, .int .i64 0, .int .i64 0, .int .i64 0, .int .i64 0, .int .i64 0, .int .i64 0, .int .i64 0, .int .i64 0, .int .i64 0] 32) = y8 at *
  refine (tprint_any (some ⟨y7.heap.size, 0, none⟩) 1 1 [zeroDr] rfl (by omega) (by decide) y8 (HT.out y8 hB) lz _ s05_p1).mono ?_
  rintro e y9 ⟨rfl, hb⟩
  clear lz
  replace l1 := l1.up hb
  replace lm := lm.up hb
  replace hf := hf.below hb hf.lt
  replace hg := hg.below hb hg.lt
  replace hh := hh.below hb hh.lt
  replace hB := hB.trans (hb.mono hs)
  replace hs := hB.size
  clear hb
  dsimp only [printV]
  go_wp2_with fail
  refine (fsame_is A1 (some ⟨bm, 0, none⟩) 2 c1 2 2 s05_m s05_m true (decide_eq_true rfl) y9 rfl rfl (by omega) l1 lm).mono ?_
  rintro e u0 ⟨rfl, hb⟩
  clear l1 lm
  replace hf := hf.below hb hf.lt
  replace hg := hg.below hb hg.lt
  replace hh := hh.below hb hh.lt
  replace hB := hB.trans (hb.mono hs)
  replace hs := hB.size
  clear hb
  have kf0 : u0.cell? ⟨bf, 0, none⟩ = some (.int .i64 0) := hf.cell 0
  have kf1 : u0.cell? ⟨bf, 1, none⟩ = some (.int .i64 0) := hf.cell 1
  have lt_f := hf.lt
  have kg0 : u0.cell? ⟨bg, 0, none⟩ = some (.int .i64 3) := hg.cell 0
  have kg1 : u0.cell? ⟨bg, 1, none⟩ = some (.int .i64 2) := hg.cell 1
  have lt_g := hg.lt
  have kh0 : u0.cell? ⟨bh, 0, none⟩ = some (.int .i64 1) := hh.cell 0
  have kh1 : u0.cell? ⟨bh, 1, none⟩ = some (.int .i64 1) := hh.cell 1
  have lt_h := hh.lt
  clear hf hg hh
  go_wp2_with fail
  clear kf0 kf1 kg0 kg1 kh0 kh1 lt_f lt_g lt_h
  refine (s05_lc u0 (HM.out u0 hB)).mono ?_
  rintro e u1 ⟨A6, c6, rfl, h6, hb⟩
  have l6 := Sl.of_own h6
  clear h6
  replace hB := hB.trans (hb.mono hs)
  replace hs := hB.size
  clear hb
  go_wp2_with fail
  have hoi := own_lit u1 0 3 1 2 #[.int .i64 1, .int .i64 3] (Nat.zero_le _) rfl (by simp [maxLen])
  have li : Sl (u1.alloc (.cells #[.int .i64 1, .int .i64 3] 3)) (u1.alloc (.cells #[.int .i64 1, .int .i64 3] 3)).heap.size 1 (some ⟨u1.heap.size, 0, none⟩) 2 2 ([1, 3].map (Value.int .i64)) := Sl.of_own hoi
  have hb : Below u1.heap.size u1 (u1.alloc (.cells #[.int .i64 1, .int .i64 3] 3)) := by (repeat (first | exact Below.refl _ _ | refine Below.alloc ?_ (by first | omega | (simp; done) | (simp; omega)) _ | refine Below.setCell ?_ (by first | omega | (simp; done) | (simp; omega)) _ | refine Below.drew ?_))
  clear hoi
  replace l6 := l6.up hb
  replace hB := hB.trans (hb.mono hs)
  replace hs := hB.size
  clear hb
  refine (fints_is A6 (some ⟨u1.heap.size, 0, none⟩) 2 c6 2 2 [1, 3] [1, 3] true (decide_eq_true rfl) _ rfl rfl (by omega) l6 li).mono ?_
  rintro e u2 ⟨rfl, hb⟩
  clear l6 li
  replace hB := hB.trans (hb.mono hs)
  replace hs := hB.size
  clear hb
  go_wp2_with fail
  go_ret
  exact ⟨rfl, hB⟩
end Go.Proofs.YtcclfmaockapjaaDoor
