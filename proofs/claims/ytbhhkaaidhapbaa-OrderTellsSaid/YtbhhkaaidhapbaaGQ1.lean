/- Several texts of mine in one: Cmp, Order. No condition. -/
import Derived.Test.YtbhhkaaidhapbaaChecked
import Derived.Test.YtbhhkaaidhapbaaSlLib
import Derived.Test.YtbhhkaaidhapbaaSlHp
import Derived.Test.YtbhhkaaidhapbaaGQ0
import Derived.Test.YtbhhkaaidhapbaaQTail
namespace Go.Proofs.Ytbhhkaaidhapbaa
open Go.ChangeShapes Go.WideShapes Go.ChangeAt Go.RowKit Go.Sort
set_option linter.unusedSimpArgs false
set_option linter.unusedVariables false
def cmpI (a b : Int) : Int := if a < b then -1 else if b < a then 1 else 0
theorem cmpI_lt {a b : Int} (h : a < b) : cmpI a b = -1 := if_pos h
theorem cmpI_gt {a b : Int} (h : b < a) : cmpI a b = 1 := by unfold cmpI; rw [if_neg (by omega), if_pos h]
theorem cmpI_eq (a : Int) : cmpI a a = 0 := by unfold cmpI; rw [if_neg (by omega), if_neg (by omega)]
theorem cmpI_zero {a b : Int} : cmpI a b = 0 ↔ a = b := by
  unfold cmpI; constructor
  · intro h; split at h
    · omega
    · split at h <;> omega
  · rintro rfl; rw [if_neg (by omega), if_neg (by omega)]
def orF : List Int → Int
  | [] => 0
  | x :: l => if x = 0 then orF l else x
theorem nan_any (a : Int) (w : World) : Calls Try.prog 38 #[.int .i64 a] w fun e w' => e = .returned (.bool false) ∧ w = w' := by
  have hz : (a != a) = false := by simp
  go_enter Try.func38, Try.ntmps38
  go_wp2
  go_ret
  exact ⟨rfl, rfl⟩
theorem cmp_any (a b : Int) (w : World) : Calls Try.prog 30 #[.int .i64 a, .int .i64 b] w fun e w' => e = .returned (.int .i64 (cmpI a b)) ∧ w = w' := by
  by_cases h1 : a < b
  · rw [cmpI_lt h1]
    go_enter Try.func30, Try.ntmps30
    go_wp2_with (go_at_call 38; refine (nan_any _ _).mono ?_; rintro e w' ⟨rfl, rfl⟩)
    go_ret
    exact ⟨rfl, rfl⟩
  · by_cases h2 : b < a
    · rw [cmpI_gt h2]
      go_enter Try.func30, Try.ntmps30
      go_wp2_with (go_at_call 38; refine (nan_any _ _).mono ?_; rintro e w' ⟨rfl, rfl⟩)
      go_ret
      exact ⟨rfl, rfl⟩
    · have h0 : cmpI a b = 0 := cmpI_zero.2 (by omega)
      rw [h0]
      go_enter Try.func30, Try.ntmps30
      go_wp2_with (go_at_call 38; refine (nan_any _ _).mono ?_; rintro e w' ⟨rfl, rfl⟩)
      go_ret
      exact ⟨rfl, rfl⟩
/-- New blocks alone, no draw. -/
def UpG (w w' : World) : Prop := ∃ os, w' = grow w os
theorem UpG.refl (w : World) : UpG w w := ⟨#[], (grow_empty w).symm⟩
theorem UpG.alloc {w w' : World} (h : UpG w w') (o : Obj) : UpG w (w'.alloc o) := by
  obtain ⟨os, rfl⟩ := h
  exact ⟨_, by rw [alloc_eq_grow, grow_grow]⟩
theorem UpG.trans {w w' w'' : World} (h : UpG w w') (k : UpG w' w'') : UpG w w'' := by
  obtain ⟨os, rfl⟩ := h
  obtain ⟨os', rfl⟩ := k
  exact ⟨_, by rw [grow_grow]⟩
theorem UpG.below {w w' : World} (h : UpG w w') : Below w.heap.size w w' := by
  obtain ⟨os, rfl⟩ := h
  exact below_regrown w w.drawn os
/-- Of hops, by their IDs; the shorter one ahead. -/
def cmpH : List Hp → List Hp → Int
  | [], [] => 0
  | [], _ :: _ => -1
  | _ :: _, [] => 1
  | a :: t, b :: u => if cmpI a.id b.id = 0 then cmpH t u else cmpI a.id b.id
theorem cmpH_at {d d' : List Hp} {k : Nat} (h1 : k < d.length) (h2 : k < d'.length) : cmpH (d.drop k) (d'.drop k) = if cmpI (gHp d k).id (gHp d' k).id = 0 then cmpH (d.drop (k + 1)) (d'.drop (k + 1)) else cmpI (gHp d k).id (gHp d' k).id := by
  rw [List.drop_eq_getElem_cons h1, List.drop_eq_getElem_cons h2, gHp_eq h1, gHp_eq h2, cmpH]
theorem cmpH_long {d d' : List Hp} {k : Nat} (h1 : k < d.length) (h2 : d'.length ≤ k) : cmpH (d.drop k) (d'.drop k) = 1 := by
  rw [List.drop_eq_getElem_cons h1, List.drop_of_length_le h2, cmpH]
theorem cmpH_short {d d' : List Hp} (h : d.length < d'.length) : cmpH (d.drop d.length) (d'.drop d.length) = -1 := by
  rw [List.drop_eq_getElem_cons h, List.drop_of_length_le (Nat.le_refl _), cmpH]
theorem cmpH_end {d d' : List Hp} {k : Nat} (h1 : d.length ≤ k) (h2 : d'.length ≤ k) : cmpH (d.drop k) (d'.drop k) = 0 := by
  rw [List.drop_of_length_le h1, List.drop_of_length_le h2, cmpH]
/-- Of routes: who is there earlier, has fewer hops, lesser IDs. -/
def cmpR (t : Int) (d : List Hp) (t' : Int) (d' : List Hp) : Int :=
  if cmpI t t' = 0 then if cmpI d.length d'.length = 0 then cmpH d d' else cmpI d.length d'.length else cmpI t t'
theorem cmp1_any (x y : Hp) (w : World) :
    Calls Try.prog 32 #[.agg #[.int .i64 x.id, .int .i64 x.se, .int .i64 x.ar], .agg #[.int .i64 y.id, .int .i64 y.se, .int .i64 y.ar]] w fun e w' => e = .returned (.int .i64 (cmpI x.id y.id)) ∧ UpG w w' := by
  go_enter Try.func32, Try.ntmps32
  go_wp2_with (go_at_call 30; refine (cmp_any _ _ _).mono ?_; rintro e w' ⟨rfl, rfl⟩)
  go_ret
  exact ⟨rfl, ((UpG.refl w).alloc _).alloc _⟩
set_option maxHeartbeats 2000000 in
set_option maxRecDepth 100000 in
theorem cmpHops_any (A A' : Option Addr) (n c n' c' : Nat) (d d' : List Hp) (w : World) (hd : d.length = n) (hd' : d'.length = n') (hn : n ≤ 1000000) (hn' : n' ≤ 1000000) (h : Sl w w.heap.size 3 A n c (flatHp d)) (h' : Sl w w.heap.size 3 A' n' c' (flatHp d')) :
    Calls Try.prog 31 #[.slice A n c, .slice A' n' c', .func (.func 32) #[] #[]] w fun e w' => e = .returned (.int .i64 (cmpH d d')) ∧ UpG w w' := by
  obtain ⟨z, hz⟩ : ∃ z, cmpH d d' = z := ⟨_, rfl⟩
  have HZ := Lib.hid hz
  rw [hz]
  clear hz
  go_enter Try.func31, Try.ntmps31
  go_wp2
  go_loopw [13] (fun i wr => ∃ k : Nat, k ≤ n ∧ i = .int .i64 k ∧ Hid (cmpH (d.drop k) (d'.drop k) = z) ∧ UpG w wr) (fun i _ => n - (intOf i).toNat)
  case atStart => exact ⟨0, by omega, rfl, (show cmpH (d.drop 0) (d'.drop 0) = z by simpa using HZ.out), UpG.refl _⟩
  case round =>
    clear HZ
    obtain ⟨k, hk, rfl, HQ, hU⟩ := hrel
    have hB := hU.below
    have hs := hB.size
    by_cases hkn : k < n
    · obtain ⟨ad, rfl, hab, c0, c1, c2⟩ := (h.below hB).lst.atHp hd hkn
      by_cases hk2 : k < n'
      · have HA := Lib.hid (cmpH_at (d := d) (d' := d') (k := k) (by omega) (by omega))
        generalize hx : gHp d k = x at *
        clear hx
        have hg2 : ¬ ((n' : Int) ≤ (k : Int)) := by omega
        have hUa : UpG w (wr.alloc (.cells #[.int .i64 x.id, .int .i64 x.se, .int .i64 x.ar] 34)) := hU.alloc _
        have hBa : Below w.heap.size w (wr.alloc (.cells #[.int .i64 x.id, .int .i64 x.se, .int .i64 x.ar] 34)) := hB.alloc hs _
        have hX := Blok.new wr 34 #[.int .i64 x.id, .int .i64 x.se, .int .i64 x.ar]
        have hlx := hX.lt
        go_upto_region 4 with fail
        clear c0 c1 c2
        generalize wr.alloc (.cells #[.int .i64 x.id, .int .i64 x.se, .int .i64 x.ar] 34) = wx at *
        generalize wr.heap.size = bx at *
        obtain ⟨ad', rfl, hab', e0, e1, e2⟩ := (h'.below hBa).lst.atHp hd' hk2
        generalize hy : gHp d' k = y at *
        clear hy
        have x0 : wx.cell? ⟨bx, 0, none⟩ = some (.int .i64 x.id) := hX.cell 0
        have x1 : wx.cell? ⟨bx, 1, none⟩ = some (.int .i64 x.se) := hX.cell 1
        have x2 : wx.cell? ⟨bx, 2, none⟩ = some (.int .i64 x.ar) := hX.cell 2
        have hsx := hBa.size
        go_wp2_with fail
        refine (cmp1_any x y _).mono ?_
        rintro e w4 ⟨rfl, hb4⟩
        have hU4 : UpG w w4 := (hUa.alloc _).trans hb4
        clear hb4 e0 e1 e2 x0 x1 x2
        by_cases hc : cmpI x.id y.id = 0
        · have hb : (cmpI x.id y.id != 0) = false := by rw [hc]; rfl
          have HQ2 : Hid (cmpH (d.drop (k + 1)) (d'.drop (k + 1)) = z) := by
            have := HA.out; rw [if_pos hc] at this; exact this.symm.trans HQ.out
          clear hc
          go_wp2
          go_roundw
          case rel => exact ⟨k + 1, by omega, by go_num, HQ2, hU4⟩
          case measure => simp [intOf]; omega
        · have hb : (cmpI x.id y.id != 0) = true := by simpa using hc
          have HQ2 : Hid (cmpI x.id y.id = z) := by
            have := HA.out; rw [if_neg hc] at this; exact this.symm.trans HQ.out
          clear hc
          go_wp2
          go_ret
          exact ⟨by rw [HQ2.out]; rfl, hU4⟩
      · have HQ2 : Hid ((1 : Int) = z) := by
          have := cmpH_long (d := d) (d' := d') (k := k) (by omega) (by omega)
          exact this.symm.trans HQ.out
        have hg2 : (n' : Int) ≤ (k : Int) := by omega
        go_wp2
        go_ret
        exact ⟨by rw [← HQ2.out]; rfl, by first | exact hU | exact hU.alloc _⟩
    · obtain rfl : k = n := by omega
      by_cases hk2 : k < n'
      · have HQ2 : Hid ((-1 : Int) = z) := by
          have := cmpH_short (d := d) (d' := d') (by omega)
          rw [hd] at this
          exact this.symm.trans HQ.out
        go_wp2
        go_ret
        exact ⟨by rw [← HQ2.out]; rfl, by first | exact hU | exact hU.alloc _⟩
      · have HQ2 : Hid ((0 : Int) = z) := by
          have := cmpH_end (d := d) (d' := d') (k := k) (by omega) (by omega)
          exact this.symm.trans HQ.out
        have hg2 : ¬ ((k : Int) < (n' : Int)) := by omega
        go_wp2
        go_ret
        exact ⟨by rw [← HQ2.out]; rfl, by first | exact hU | exact hU.alloc _⟩
end Go.Proofs.Ytbhhkaaidhapbaa
