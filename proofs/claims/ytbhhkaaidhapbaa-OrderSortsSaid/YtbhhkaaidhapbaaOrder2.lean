/- Contracts of package order: Compare, Less. No condition but on sizes. -/
import Derived.Test.YtbhhkaaidhapbaaOrder
namespace Go.Proofs.Ytbhhkaaidhapbaa
open Go.ChangeShapes Go.WideShapes Go.ChangeAt Go.RowKit Go.Sort
set_option linter.unusedSimpArgs false
set_option linter.unusedVariables false
theorem cmpI_ne {a b : Int} (h : a ≠ b) : (cmpI a b != 0) = true := by
  have : cmpI a b ≠ 0 := fun e => h (cmpI_zero.1 e)
  simpa using this
set_option maxHeartbeats 2000000 in
set_option maxRecDepth 100000 in
theorem ocmp_grow (A A' : Option Addr) (n c n' c' : Nat) (d d' : List Hp) (t t' : Int) (w : World) (hd : d.length = n) (hd' : d'.length = n') (hn : n ≤ 1000000) (hn' : n' ≤ 1000000) (h : Sl w w.heap.size 3 A n c (flatHp d)) (h' : Sl w w.heap.size 3 A' n' c' (flatHp d')) (z : Int) (hz : cmpR t d t' d' = z) :
    Calls Try.prog 17 #[.agg #[.slice A n c, .int .i64 t], .agg #[.slice A' n' c', .int .i64 t']] w fun e w' => e = .returned (.int .i64 z) ∧ UpG w w' := by
  have HZ := Lib.hid hz
  clear hz
  by_cases h1 : t = t'
  · subst h1
    have b1 : (cmpI t t != 0) = false := by rw [cmpI_eq]; rfl
    by_cases h2 : n = n'
    · subst h2
      have b2 : (cmpI (n : Int) (n : Int) != 0) = false := by rw [cmpI_eq]; rfl
      have HF : Hid (cmpH d d' = z) := by
        have := HZ.out
        unfold cmpR at this
        rw [if_pos (cmpI_eq t), hd, hd', if_pos (cmpI_eq _)] at this
        exact this
      clear HZ
      go_enter Try.func17, Try.ntmps17
      go_wp2_with (go_at_call 30; refine (cmp_any _ _ _).mono ?_; rintro e w' ⟨rfl, rfl⟩)
      have hUa : UpG w ((w.alloc (.cells #[.slice A n c, .int .i64 t] 25)).alloc (.cells #[.slice A' n c', .int .i64 t] 25)) := ((UpG.refl w).alloc _).alloc _
      have hBa : Below w.heap.size w ((w.alloc (.cells #[.slice A n c, .int .i64 t] 25)).alloc (.cells #[.slice A' n c', .int .i64 t] 25)) := by (repeat (first | exact Below.refl _ _ | refine Below.alloc ?_ (by first | omega | (simp; done) | (simp; omega)) _ | refine Below.setCell ?_ (by first | omega | (simp; done) | (simp; omega)) _ | refine Below.drew ?_))
      refine (cmpHops_any A A' n c n c' d d' _ hd hd' hn hn (h.up hBa) (h'.up hBa)).mono ?_
      rintro e w4 ⟨rfl, hb4⟩
      have hU4 := hUa.trans hb4
      clear hb4
      go_wp2
      go_ret
      exact ⟨by rw [HF.out]; rfl, hU4⟩
    · have b2 : (cmpI (n : Int) (n' : Int) != 0) = true := cmpI_ne (by omega)
      have HF : Hid (cmpI (n : Int) (n' : Int) = z) := by
        have := HZ.out
        unfold cmpR at this
        rw [if_pos (cmpI_eq t), hd, hd', if_neg (by simpa using b2)] at this
        exact this
      clear HZ
      go_enter Try.func17, Try.ntmps17
      go_wp2_with (go_at_call 30; refine (cmp_any _ _ _).mono ?_; rintro e w' ⟨rfl, rfl⟩)
      go_ret
      exact ⟨by rw [← HF.out]; rfl, ((UpG.refl w).alloc _).alloc _⟩
  · have b1 : (cmpI t t' != 0) = true := cmpI_ne h1
    have HF : Hid (cmpI t t' = z) := by
      have := HZ.out
      unfold cmpR at this
      rw [if_neg (by simpa using b1)] at this
      exact this
    clear HZ
    go_enter Try.func17, Try.ntmps17
    go_wp2_with (go_at_call 30; refine (cmp_any _ _ _).mono ?_; rintro e w' ⟨rfl, rfl⟩)
    go_ret
    exact ⟨by rw [← HF.out]; rfl, ((UpG.refl w).alloc _).alloc _⟩
theorem ocmp_any (A A' : Option Addr) (n c n' c' : Nat) (d d' : List Hp) (t t' : Int) (w : World) (hd : d.length = n) (hd' : d'.length = n') (hn : n ≤ 1000000) (hn' : n' ≤ 1000000) (h : Sl w w.heap.size 3 A n c (flatHp d)) (h' : Sl w w.heap.size 3 A' n' c' (flatHp d')) (z : Int) (hz : cmpR t d t' d' = z) :
    Calls Try.prog 17 #[.agg #[.slice A n c, .int .i64 t], .agg #[.slice A' n' c', .int .i64 t']] w fun e w' => e = .returned (.int .i64 z) ∧ Below w.heap.size w w' := (ocmp_grow A A' n c n' c' d d' t t' w hd hd' hn hn' h h' z hz).mono fun e w' k => ⟨k.1, k.2.below⟩
set_option maxHeartbeats 2000000 in
set_option maxRecDepth 100000 in
theorem oless_any (A A' : Option Addr) (n c n' c' : Nat) (d d' : List Hp) (t t' : Int) (w : World) (hd : d.length = n) (hd' : d'.length = n') (hn : n ≤ 1000000) (hn' : n' ≤ 1000000) (h : Sl w w.heap.size 3 A n c (flatHp d)) (h' : Sl w w.heap.size 3 A' n' c' (flatHp d')) (b : Bool) (hb : decide (cmpR t d t' d' < 0) = b) :
    Calls Try.prog 19 #[.agg #[.slice A n c, .int .i64 t], .agg #[.slice A' n' c', .int .i64 t']] w fun e w' => e = .returned (.bool b) ∧ Below w.heap.size w w' := by
  obtain ⟨z, hz⟩ : ∃ z, cmpR t d t' d' = z := ⟨_, rfl⟩
  have HB : Hid (decide (z < 0) = b) := by rw [← hz]; exact hb
  clear hb
  have hBa : Below w.heap.size w ((w.alloc (.cells #[.slice A n c, .int .i64 t] 25)).alloc (.cells #[.slice A' n' c', .int .i64 t'] 25)) := by (repeat (first | exact Below.refl _ _ | refine Below.alloc ?_ (by first | omega | (simp; done) | (simp; omega)) _ | refine Below.setCell ?_ (by first | omega | (simp; done) | (simp; omega)) _ | refine Below.drew ?_))
  have HZ := Lib.hid hz
  clear hz
  go_enter Try.func19, Try.ntmps19
  go_wp2_with fail
  refine (ocmp_any A A' n c n' c' d d' t t' _ hd hd' hn hn' (h.up hBa) (h'.up hBa) z HZ.out).mono ?_
  rintro e w4 ⟨rfl, hb4⟩
  have hB4 := hBa.trans (hb4.mono hBa.size)
  clear hb4
  go_wp2
  all_goals go_ret
  all_goals exact ⟨by rw [← HB.out]; rfl, hB4⟩
end Go.Proofs.Ytbhhkaaidhapbaa
