/- Several texts of mine in one: Cmp, Order, Order2, OrderMath, TyBr. No condition. -/
import Derived.Test.YtkonkhblipbjcaaGreatChecked
import Derived.Test.YtkonkhblipbjcaaGreatGQ29
import Derived.Test.YtkonkhblipbjcaaGreatGQ26
import Derived.Test.YtkonkhblipbjcaaGreatGQ7
import Derived.Test.YtkonkhblipbjcaaGreatQTail

/- cmp.Compare and cmp.Or at int. No condition. -/
namespace Go.Proofs.YtkonkhblipbjcaaGreat
open Go.ChangeShapes Go.WideShapes Go.ChangeAt Go.RowKit Go.Sort
set_option linter.unusedSimpArgs false
set_option linter.unusedVariables false
def cmpI (a b : Int) : Int := if a < b then -1 else if b < a then 1 else 0
theorem cmpI_lt {a b : Int} (h : a < b) : cmpI a b = -1 := if_pos h
theorem cmpI_gt {a b : Int} (h : b < a) : cmpI a b = 1 := by unfold cmpI; rw [if_neg (by omega), if_pos h]
theorem cmpI_eq (a : Int) : cmpI a a = 0 := by unfold cmpI; rw [if_neg (by omega), if_neg (by omega)]
theorem cmpI_zero {a b : Int} : cmpI a b = 0 ↔ a = b := by
  unfold cmpI; constructor
  · intro h; split at h
    · omega
    · split at h <;> omega
  · rintro rfl; rw [if_neg (by omega), if_neg (by omega)]
def orF : List Int → Int
  | [] => 0
  | x :: l => if x = 0 then orF l else x
theorem nan_any (a : Int) (w : World) : Calls Tryz.prog 61 #[.int .i64 a] w fun e w' => e = .returned (.bool false) ∧ w = w' := by
  have hz : (a != a) = false := by simp
  go_enter Tryz.func61, Tryz.ntmps61
  go_wp2
  go_ret
  exact ⟨rfl, rfl⟩
theorem cmp_any (a b : Int) (w : World) : Calls Tryz.prog 35 #[.int .i64 a, .int .i64 b] w fun e w' => e = .returned (.int .i64 (cmpI a b)) ∧ w = w' := by
  by_cases h1 : a < b
  · rw [cmpI_lt h1]
    go_enter Tryz.func35, Tryz.ntmps35
    go_wp2_with (go_at_call 61; refine (nan_any _ _).mono ?_; rintro e w' ⟨rfl, rfl⟩)
    go_ret
    exact ⟨rfl, rfl⟩
  · by_cases h2 : b < a
    · rw [cmpI_gt h2]
      go_enter Tryz.func35, Tryz.ntmps35
      go_wp2_with (go_at_call 61; refine (nan_any _ _).mono ?_; rintro e w' ⟨rfl, rfl⟩)
      go_ret
      exact ⟨rfl, rfl⟩
    · have h0 : cmpI a b = 0 := cmpI_zero.2 (by omega)
      rw [h0]
      go_enter Tryz.func35, Tryz.ntmps35
      go_wp2_with (go_at_call 61; refine (nan_any _ _).mono ?_; rintro e w' ⟨rfl, rfl⟩)
      go_ret
      exact ⟨rfl, rfl⟩
end Go.Proofs.YtkonkhblipbjcaaGreat

/- Contracts of package order: Compare, Less; the order of routes. No condition but on sizes. -/
namespace Go.Proofs.YtkonkhblipbjcaaGreat
open Go.ChangeShapes Go.WideShapes Go.ChangeAt Go.RowKit Go.Sort
set_option linter.unusedSimpArgs false
set_option linter.unusedVariables false
/-- New blocks alone, no draw. -/
def UpG (w w' : World) : Prop := ∃ os, w' = grow w os
theorem UpG.refl (w : World) : UpG w w := ⟨#[], (grow_empty w).symm⟩
theorem UpG.alloc {w w' : World} (h : UpG w w') (o : Obj) : UpG w (w'.alloc o) := by
  obtain ⟨os, rfl⟩ := h
  exact ⟨_, by rw [alloc_eq_grow, grow_grow]⟩
theorem UpG.trans {w w' w'' : World} (h : UpG w w') (k : UpG w' w'') : UpG w w'' := by
  obtain ⟨os, rfl⟩ := h
  obtain ⟨os', rfl⟩ := k
  exact ⟨_, by rw [grow_grow]⟩
theorem UpG.below {w w' : World} (h : UpG w w') : Below w.heap.size w w' := by
  obtain ⟨os, rfl⟩ := h
  exact below_regrown w w.drawn os
/-- Of hops, by their IDs; the shorter one ahead. -/
def cmpH : List Hp → List Hp → Int
  | [], [] => 0
  | [], _ :: _ => -1
  | _ :: _, [] => 1
  | a :: t, b :: u => if cmpI a.id b.id = 0 then cmpH t u else cmpI a.id b.id
theorem cmpH_at {d d' : List Hp} {k : Nat} (h1 : k < d.length) (h2 : k < d'.length) : cmpH (d.drop k) (d'.drop k) = if cmpI (gHp d k).id (gHp d' k).id = 0 then cmpH (d.drop (k + 1)) (d'.drop (k + 1)) else cmpI (gHp d k).id (gHp d' k).id := by
  rw [List.drop_eq_getElem_cons h1, List.drop_eq_getElem_cons h2, gHp_eq h1, gHp_eq h2, cmpH]
theorem cmpH_long {d d' : List Hp} {k : Nat} (h1 : k < d.length) (h2 : d'.length ≤ k) : cmpH (d.drop k) (d'.drop k) = 1 := by
  rw [List.drop_eq_getElem_cons h1, List.drop_of_length_le h2, cmpH]
theorem cmpH_short {d d' : List Hp} (h : d.length < d'.length) : cmpH (d.drop d.length) (d'.drop d.length) = -1 := by
  rw [List.drop_eq_getElem_cons h, List.drop_of_length_le (Nat.le_refl _), cmpH]
theorem cmpH_end {d d' : List Hp} {k : Nat} (h1 : d.length ≤ k) (h2 : d'.length ≤ k) : cmpH (d.drop k) (d'.drop k) = 0 := by
  rw [List.drop_of_length_le h1, List.drop_of_length_le h2, cmpH]
/-- Of routes: who is there earlier, has fewer hops, lesser IDs. -/
def cmpR (t : Int) (d : List Hp) (t' : Int) (d' : List Hp) : Int :=
  if cmpI t t' = 0 then if cmpI d.length d'.length = 0 then cmpH d d' else cmpI d.length d'.length else cmpI t t'
theorem cmp1_any (x y : Hp) (w : World) :
    Calls Tryz.prog 37 #[.agg #[.int .i64 x.id, .int .i64 x.se, .int .i64 x.ar], .agg #[.int .i64 y.id, .int .i64 y.se, .int .i64 y.ar]] w fun e w' => e = .returned (.int .i64 (cmpI x.id y.id)) ∧ UpG w w' := by
  go_enter Tryz.func37, Tryz.ntmps37
  go_wp2_with (go_at_call 35; refine (cmp_any _ _ _).mono ?_; rintro e w' ⟨rfl, rfl⟩)
  go_ret
  exact ⟨rfl, ((UpG.refl w).alloc _).alloc _⟩
set_option maxHeartbeats 2000000 in
set_option maxRecDepth 100000 in
theorem cmpHops_any (A A' : Option Addr) (n c n' c' : Nat) (d d' : List Hp) (w : World) (hd : d.length = n) (hd' : d'.length = n') (hn : n ≤ 1000000) (hn' : n' ≤ 1000000) (h : Sl w w.heap.size 3 A n c (flatHp d)) (h' : Sl w w.heap.size 3 A' n' c' (flatHp d')) :
    Calls Tryz.prog 36 #[.slice A n c, .slice A' n' c', .func (.func 37) #[] #[]] w fun e w' => e = .returned (.int .i64 (cmpH d d')) ∧ UpG w w' := by
  obtain ⟨z, hz⟩ : ∃ z, cmpH d d' = z := ⟨_, rfl⟩
  have HZ := Lib.hid hz
  rw [hz]
  clear hz
  go_enter Tryz.func36, Tryz.ntmps36
  go_wp2
  go_loopw [13] (fun i wr => ∃ k : Nat, k ≤ n ∧ i = .int .i64 k ∧ Hid (cmpH (d.drop k) (d'.drop k) = z) ∧ UpG w wr) (fun i _ => n - (intOf i).toNat)
  case atStart => exact ⟨0, by omega, rfl, (show cmpH (d.drop 0) (d'.drop 0) = z by simpa using HZ.out), UpG.refl _⟩
  case round =>
    clear HZ
    obtain ⟨k, hk, rfl, HQ, hU⟩ := hrel
    have hB := hU.below
    have hs := hB.size
    by_cases hkn : k < n
    · obtain ⟨ad, rfl, hab, c0, c1, c2⟩ := (h.below hB).lst.atHp hd hkn
      by_cases hk2 : k < n'
      · have HA := Lib.hid (cmpH_at (d := d) (d' := d') (k := k) (by omega) (by omega))
        generalize hx : gHp d k = x at *
        clear hx
        have hg2 : ¬ ((n' : Int) ≤ (k : Int)) := by omega
        have hUa : UpG w (wr.alloc (.cells #[.int .i64 x.id, .int .i64 x.se, .int .i64 x.ar] 62)) := hU.alloc _
        have hBa : Below w.heap.size w (wr.alloc (.cells #[.int .i64 x.id, .int .i64 x.se, .int .i64 x.ar] 62)) := hB.alloc hs _
        have hX := Blok.new wr 62 #[.int .i64 x.id, .int .i64 x.se, .int .i64 x.ar]
        have hlx := hX.lt
        go_upto_region 4 with fail
        clear c0 c1 c2
        generalize wr.alloc (.cells #[.int .i64 x.id, .int .i64 x.se, .int .i64 x.ar] 62) = wx at *
        generalize wr.heap.size = bx at *
        obtain ⟨ad', rfl, hab', e0, e1, e2⟩ := (h'.below hBa).lst.atHp hd' hk2
        generalize hy : gHp d' k = y at *
        clear hy
        have x0 : wx.cell? ⟨bx, 0, none⟩ = some (.int .i64 x.id) := hX.cell 0
        have x1 : wx.cell? ⟨bx, 1, none⟩ = some (.int .i64 x.se) := hX.cell 1
        have x2 : wx.cell? ⟨bx, 2, none⟩ = some (.int .i64 x.ar) := hX.cell 2
        have hsx := hBa.size
        go_wp2_with fail
        refine (cmp1_any x y _).mono ?_
        rintro e w4 ⟨rfl, hb4⟩
        have hU4 : UpG w w4 := (hUa.alloc _).trans hb4
        clear hb4 e0 e1 e2 x0 x1 x2
        by_cases hc : cmpI x.id y.id = 0
        · have hb : (cmpI x.id y.id != 0) = false := by rw [hc]; rfl
          have HQ2 : Hid (cmpH (d.drop (k + 1)) (d'.drop (k + 1)) = z) := by
            have := HA.out; rw [if_pos hc] at this; exact this.symm.trans HQ.out
          clear hc
          go_wp2
          go_roundw
          case rel => exact ⟨k + 1, by omega, by go_num, HQ2, hU4⟩
          case measure => simp [intOf]; omega
        · have hb : (cmpI x.id y.id != 0) = true := by simpa using hc
          have HQ2 : Hid (cmpI x.id y.id = z) := by
            have := HA.out; rw [if_neg hc] at this; exact this.symm.trans HQ.out
          clear hc
          go_wp2
          go_ret
          exact ⟨by rw [HQ2.out]; rfl, hU4⟩
      · have HQ2 : Hid ((1 : Int) = z) := by
          have := cmpH_long (d := d) (d' := d') (k := k) (by omega) (by omega)
          exact this.symm.trans HQ.out
        have hg2 : (n' : Int) ≤ (k : Int) := by omega
        go_wp2
        go_ret
        exact ⟨by rw [← HQ2.out]; rfl, by first | exact hU | exact hU.alloc _⟩
    · obtain rfl : k = n := by omega
      by_cases hk2 : k < n'
      · have HQ2 : Hid ((-1 : Int) = z) := by
          have := cmpH_short (d := d) (d' := d') (by omega)
          rw [hd] at this
          exact this.symm.trans HQ.out
        go_wp2
        go_ret
        exact ⟨by rw [← HQ2.out]; rfl, by first | exact hU | exact hU.alloc _⟩
      · have HQ2 : Hid ((0 : Int) = z) := by
          have := cmpH_end (d := d) (d' := d') (k := k) (by omega) (by omega)
          exact this.symm.trans HQ.out
        have hg2 : ¬ ((k : Int) < (n' : Int)) := by omega
        go_wp2
        go_ret
        exact ⟨by rw [← HQ2.out]; rfl, by first | exact hU | exact hU.alloc _⟩
end Go.Proofs.YtkonkhblipbjcaaGreat

/- Contracts of package order: Compare, Less. No condition but on sizes. -/
namespace Go.Proofs.YtkonkhblipbjcaaGreat
open Go.ChangeShapes Go.WideShapes Go.ChangeAt Go.RowKit Go.Sort
set_option linter.unusedSimpArgs false
set_option linter.unusedVariables false
theorem cmpI_ne {a b : Int} (h : a ≠ b) : (cmpI a b != 0) = true := by
  have : cmpI a b ≠ 0 := fun e => h (cmpI_zero.1 e)
  simpa using this
set_option maxHeartbeats 2000000 in
set_option maxRecDepth 100000 in
theorem ocmp_grow (A A' : Option Addr) (n c n' c' : Nat) (d d' : List Hp) (t t' : Int) (w : World) (hd : d.length = n) (hd' : d'.length = n') (hn : n ≤ 1000000) (hn' : n' ≤ 1000000) (h : Sl w w.heap.size 3 A n c (flatHp d)) (h' : Sl w w.heap.size 3 A' n' c' (flatHp d')) (z : Int) (hz : cmpR t d t' d' = z) :
    Calls Tryz.prog 15 #[.agg #[.slice A n c, .int .i64 t], .agg #[.slice A' n' c', .int .i64 t']] w fun e w' => e = .returned (.int .i64 z) ∧ UpG w w' := by
  have HZ := Lib.hid hz
  clear hz
  by_cases h1 : t = t'
  · subst h1
    have b1 : (cmpI t t != 0) = false := by rw [cmpI_eq]; rfl
    by_cases h2 : n = n'
    · subst h2
      have b2 : (cmpI (n : Int) (n : Int) != 0) = false := by rw [cmpI_eq]; rfl
      have HF : Hid (cmpH d d' = z) := by
        have := HZ.out
        unfold cmpR at this
        rw [if_pos (cmpI_eq t), hd, hd', if_pos (cmpI_eq _)] at this
        exact this
      clear HZ
      go_enter Tryz.func15, Tryz.ntmps15
      go_wp2_with (go_at_call 35; refine (cmp_any _ _ _).mono ?_; rintro e w' ⟨rfl, rfl⟩)
      have hUa : UpG w ((w.alloc (.cells #[.slice A n c, .int .i64 t] 30)).alloc (.cells #[.slice A' n c', .int .i64 t] 30)) := ((UpG.refl w).alloc _).alloc _
      have hBa : Below w.heap.size w ((w.alloc (.cells #[.slice A n c, .int .i64 t] 30)).alloc (.cells #[.slice A' n c', .int .i64 t] 30)) := by (repeat (first | exact Below.refl _ _ | refine Below.alloc ?_ (by first | omega | (simp; done) | (simp; omega)) _ | refine Below.setCell ?_ (by first | omega | (simp; done) | (simp; omega)) _ | refine Below.drew ?_))
      refine (cmpHops_any A A' n c n c' d d' _ hd hd' hn hn (h.up hBa) (h'.up hBa)).mono ?_
      rintro e w4 ⟨rfl, hb4⟩
      have hU4 := hUa.trans hb4
      clear hb4
      go_wp2
      go_ret
      exact ⟨by rw [HF.out]; rfl, hU4⟩
    · have b2 : (cmpI (n : Int) (n' : Int) != 0) = true := cmpI_ne (by omega)
      have HF : Hid (cmpI (n : Int) (n' : Int) = z) := by
        have := HZ.out
        unfold cmpR at this
        rw [if_pos (cmpI_eq t), hd, hd', if_neg (by simpa using b2)] at this
        exact this
      clear HZ
      go_enter Tryz.func15, Tryz.ntmps15
      go_wp2_with (go_at_call 35; refine (cmp_any _ _ _).mono ?_; rintro e w' ⟨rfl, rfl⟩)
      go_ret
      exact ⟨by rw [← HF.out]; rfl, ((UpG.refl w).alloc _).alloc _⟩
  · have b1 : (cmpI t t' != 0) = true := cmpI_ne h1
    have HF : Hid (cmpI t t' = z) := by
      have := HZ.out
      unfold cmpR at this
      rw [if_neg (by simpa using b1)] at this
      exact this
    clear HZ
    go_enter Tryz.func15, Tryz.ntmps15
    go_wp2_with (go_at_call 35; refine (cmp_any _ _ _).mono ?_; rintro e w' ⟨rfl, rfl⟩)
    go_ret
    exact ⟨by rw [← HF.out]; rfl, ((UpG.refl w).alloc _).alloc _⟩
theorem ocmp_any (A A' : Option Addr) (n c n' c' : Nat) (d d' : List Hp) (t t' : Int) (w : World) (hd : d.length = n) (hd' : d'.length = n') (hn : n ≤ 1000000) (hn' : n' ≤ 1000000) (h : Sl w w.heap.size 3 A n c (flatHp d)) (h' : Sl w w.heap.size 3 A' n' c' (flatHp d')) (z : Int) (hz : cmpR t d t' d' = z) :
    Calls Tryz.prog 15 #[.agg #[.slice A n c, .int .i64 t], .agg #[.slice A' n' c', .int .i64 t']] w fun e w' => e = .returned (.int .i64 z) ∧ Below w.heap.size w w' := (ocmp_grow A A' n c n' c' d d' t t' w hd hd' hn hn' h h' z hz).mono fun e w' k => ⟨k.1, k.2.below⟩
set_option maxHeartbeats 2000000 in
set_option maxRecDepth 100000 in
theorem oless_any (A A' : Option Addr) (n c n' c' : Nat) (d d' : List Hp) (t t' : Int) (w : World) (hd : d.length = n) (hd' : d'.length = n') (hn : n ≤ 1000000) (hn' : n' ≤ 1000000) (h : Sl w w.heap.size 3 A n c (flatHp d)) (h' : Sl w w.heap.size 3 A' n' c' (flatHp d')) (b : Bool) (hb : decide (cmpR t d t' d' < 0) = b) :
    Calls Tryz.prog 148 #[.agg #[.slice A n c, .int .i64 t], .agg #[.slice A' n' c', .int .i64 t']] w fun e w' => e = .returned (.bool b) ∧ Below w.heap.size w w' := by
  obtain ⟨z, hz⟩ : ∃ z, cmpR t d t' d' = z := ⟨_, rfl⟩
  have HB : Hid (decide (z < 0) = b) := by rw [← hz]; exact hb
  clear hb
  have hBa : Below w.heap.size w ((w.alloc (.cells #[.slice A n c, .int .i64 t] 30)).alloc (.cells #[.slice A' n' c', .int .i64 t'] 30)) := by (repeat (first | exact Below.refl _ _ | refine Below.alloc ?_ (by first | omega | (simp; done) | (simp; omega)) _ | refine Below.setCell ?_ (by first | omega | (simp; done) | (simp; omega)) _ | refine Below.drew ?_))
  have HZ := Lib.hid hz
  clear hz
  go_enter Tryz.func148, Tryz.ntmps148
  go_wp2_with fail
  refine (ocmp_any A A' n c n' c' d d' t t' _ hd hd' hn hn' (h.up hBa) (h'.up hBa) z HZ.out).mono ?_
  rintro e w4 ⟨rfl, hb4⟩
  have hB4 := hBa.trans (hb4.mono hBa.size)
  clear hb4
  go_wp2
  all_goals go_ret
  all_goals exact ⟨by rw [← HB.out]; rfl, hB4⟩
end Go.Proofs.YtkonkhblipbjcaaGreat

/- The order of routes is one. No condition. -/
namespace Go.Proofs.YtkonkhblipbjcaaGreat
open Go.ChangeShapes Go.WideShapes Go.ChangeAt Go.RowKit Go.Sort
set_option linter.unusedSimpArgs false
set_option linter.unusedVariables false
def cmpL : List Int → List Int → Int
  | [], [] => 0
  | [], _ :: _ => -1
  | _ :: _, [] => 1
  | a :: t, b :: u => if cmpI a b = 0 then cmpL t u else cmpI a b
theorem cmpI_anti (a b : Int) : cmpI a b = - cmpI b a := by unfold cmpI; repeat' split
                                                            all_goals omega
theorem cmpI_range (a b : Int) : -1 ≤ cmpI a b ∧ cmpI a b ≤ 1 := by unfold cmpI; repeat' split
                                                                    all_goals omega
theorem cmpI_neg {a b : Int} : cmpI a b < 0 ↔ a < b := by unfold cmpI; repeat' split
                                                          all_goals omega
theorem cmpL_self : ∀ a, cmpL a a = 0
  | [] => rfl
  | x :: a => by rw [cmpL, if_pos (cmpI_eq x)]; exact cmpL_self a
theorem cmpL_zero : ∀ {a b}, cmpL a b = 0 → a = b
  | [], [], _ => rfl
  | [], _ :: _, h => by simp [cmpL] at h
  | _ :: _, [], h => by simp [cmpL] at h
  | x :: a, y :: b, h => by
    rw [cmpL] at h
    by_cases e : cmpI x y = 0
    · rw [if_pos e] at h
      rw [cmpI_zero.1 e, cmpL_zero h]
    · rw [if_neg e] at h; exact absurd h e
theorem cmpL_anti : ∀ a b, cmpL a b = - cmpL b a
  | [], [] => rfl
  | [], _ :: _ => rfl
  | _ :: _, [] => rfl
  | x :: a, y :: b => by
    rw [cmpL, cmpL]
    have h := cmpI_anti x y
    by_cases e : cmpI x y = 0
    · rw [if_pos e, if_pos (by omega)]; exact cmpL_anti a b
    · rw [if_neg e, if_neg (by omega)]; exact h
theorem cmpL_range : ∀ a b, -1 ≤ cmpL a b ∧ cmpL a b ≤ 1
  | [], [] => by simp [cmpL]
  | [], _ :: _ => by simp [cmpL]
  | _ :: _, [] => by simp [cmpL]
  | x :: a, y :: b => by
    rw [cmpL]
    split
    · exact cmpL_range a b
    · exact cmpI_range x y
theorem cmpL_trans : ∀ {a b c}, cmpL a b ≤ 0 → cmpL b c ≤ 0 → cmpL a c ≤ 0
  | [], _, [], _, _ => by simp [cmpL]
  | [], _, _ :: _, _, _ => by simp [cmpL]
  | _ :: _, [], _, h, _ => by simp [cmpL] at h
  | _ :: _, _ :: _, [], _, h => by simp [cmpL] at h
  | x :: a, y :: b, z :: c, h1, h2 => by
    rw [cmpL] at h1 h2 ⊢
    by_cases e1 : cmpI x y = 0
    · rw [if_pos e1] at h1
      rw [cmpI_zero.1 e1]
      by_cases e2 : cmpI y z = 0
      · rw [if_pos e2] at h2 ⊢; exact cmpL_trans h1 h2
      · rw [if_neg e2] at h2 ⊢; exact h2
    · rw [if_neg e1] at h1
      have l1 : x < y := cmpI_neg.1 (by omega)
      by_cases e2 : cmpI y z = 0
      · rw [← cmpI_zero.1 e2, if_neg e1]; exact h1
      · rw [if_neg e2] at h2
        have l2 : y < z := cmpI_neg.1 (by omega)
        have l3 : cmpI x z < 0 := cmpI_neg.2 (by omega)
        rw [if_neg (by omega)]; omega
/-- When it is there, how many hops, their IDs. -/
def keyR (t : Int) (d : List Hp) : List Int := t :: (d.length : Int) :: d.map Hp.id
theorem cmpH_key : ∀ (d d' : List Hp), cmpH d d' = cmpL (d.map Hp.id) (d'.map Hp.id)
  | [], [] => rfl
  | [], _ :: _ => rfl
  | _ :: _, [] => rfl
  | x :: d, y :: d' => by rw [cmpH, List.map_cons, List.map_cons, cmpL, cmpH_key d d']
theorem cmpR_key (t : Int) (d : List Hp) (t' : Int) (d' : List Hp) : cmpR t d t' d' = cmpL (keyR t d) (keyR t' d') := by
  unfold cmpR keyR
  rw [cmpL, cmpL, cmpH_key]
/-- Who goes on, or is there later, is behind. -/
theorem cmpR_longer (t u : Int) (d e : List Hp) (hu : 0 ≤ u) : cmpR t d (t + u) (d ++ e) = if u = 0 ∧ e = [] then 0 else -1 := by
  rw [cmpR_key]
  unfold keyR
  rw [cmpL, cmpL]
  by_cases h0 : u = 0
  · subst h0
    rw [if_pos (by rw [Int.add_zero]; exact cmpI_eq t)]
    cases e with
    | nil =>
      rw [List.append_nil, if_pos (cmpI_eq _), cmpL_self, if_pos ⟨rfl, rfl⟩]
    | cons y e =>
      have hl : (d.length : Int) < ((d ++ y :: e).length : Int) := by simp only [List.length_append, List.length_cons]; omega
      rw [if_neg (by have := cmpI_neg.2 hl; omega), cmpI_lt hl, if_neg (by simp)]
  · have hl : t < t + u := by omega
    rw [if_neg (by have := cmpI_neg.2 hl; omega), cmpI_lt hl, if_neg (fun h => h0 h.1)]
end Go.Proofs.YtkonkhblipbjcaaGreat

/- best.branch: its head in memory, its route, its bans; rows of them. No condition. -/
namespace Go.Proofs.YtkonkhblipbjcaaGreat
open Go.ChangeShapes Go.WideShapes Go.ChangeAt Go.RowKit Go.Sort
set_option linter.unusedSimpArgs false
set_option linter.unusedVariables false
structure Bx where
  A : Option Addr
  n : Nat
  c : Nat
  t : Int
  r : Nat
  Ab : Option Addr
  nb : Nat
  cb : Nat
  H : List Hp
  bans : List Int
instance : Inhabited Bx := ⟨⟨none, 0, 0, 0, 0, none, 0, 0, [], []⟩⟩
def Bx.cs (x : Bx) : List Value := [.slice x.A x.n x.c, .int .i64 x.t, .int .i64 (x.r : Int), .slice x.Ab x.nb x.cb]
def flatBx (d : List Bx) : List Value := d.flatMap Bx.cs
theorem flatBx_nil : flatBx [] = [] := rfl
theorem flatBx_cons (x : Bx) (d : List Bx) : flatBx (x :: d) = x.cs ++ flatBx d := rfl
theorem flatBx_append (d e : List Bx) : flatBx (d ++ e) = flatBx d ++ flatBx e := List.flatMap_append
theorem flatBx_one (x : Bx) : flatBx [x] = x.cs := by simp [flatBx]
theorem flatBx_length : ∀ d : List Bx, (flatBx d).length = d.length * 4
  | [] => rfl
  | x :: d => by rw [flatBx_cons, List.length_append, flatBx_length d, List.length_cons]; show 4 + _ = _; omega
theorem flatBx_at : ∀ (d : List Bx) (k j : Nat), k < d.length → j < 4 → (flatBx d)[k * 4 + j]? = (d.getD k default).cs[j]?
  | [], k, j, hk, _ => by simp at hk
  | x :: d, 0, j, _, hj => by
    rw [flatBx_cons, List.getElem?_append_left (by show 0 * 4 + j < 4; omega)]
    simp
  | x :: d, k + 1, j, hk, hj => by
    rw [flatBx_cons, List.getElem?_append_right (by show 4 ≤ _; omega), List.getD_cons_succ, ← flatBx_at d k j (by simp at hk; omega) hj]
    congr 1
    show (k + 1) * 4 + j - 4 = _
    omega
theorem flatBx_take (d : List Bx) : ∀ n, (flatBx d).take (n * 4) = flatBx (d.take n) := by
  induction d with
  | nil => intro n; simp [flatBx]
  | cons x d ih =>
    intro n
    cases n with
    | zero => simp [flatBx]
    | succ n =>
      rw [flatBx_cons, List.take_succ_cons, flatBx_cons, List.take_append, ← ih n]
      have h1 : x.cs.length = 4 := rfl
      rw [List.take_of_length_le (by rw [h1]; omega), h1, show (n + 1) * 4 - 4 = n * 4 by omega]
theorem flatBx_set : ∀ (d : List Bx) (k : Nat) (x : Bx), k < d.length → flatBx (d.set k x) = (((((flatBx d).set (k * 4) (.slice x.A x.n x.c)).set (k * 4 + 1) (.int .i64 x.t)).set (k * 4 + 2) (.int .i64 (x.r : Int))).set (k * 4 + 3) (.slice x.Ab x.nb x.cb))
  | [], k, x, h => by simp at h
  | y :: d, 0, x, _ => rfl
  | y :: d, k + 1, x, h => by
    rw [List.set_cons_succ, flatBx_cons, flatBx_set d k x (by simp at h; omega), flatBx_cons]
    have e : ∀ (l : List Value) (j : Nat) (v : Value), y.cs ++ l.set j v = (y.cs ++ l).set (j + 4) v := fun l j v => by
      rw [List.set_append_right _ _ (by show 4 ≤ _; omega)]
      congr 2
    rw [e, e, e, e]
    congr 1 <;> first | omega | skip
    congr 1 <;> first | omega | skip
    congr 1 <;> first | omega | skip
    congr 1 <;> first | omega | skip
theorem infoBr : (Tryz.prog.info? 47).map (fun i => (i.zero, i.size, i.bytes)) = some (some (.agg #[.slice none 0 0, .int .i64 0, .int .i64 0, .slice none 0 0]), 4, 64) := by kernel_rfl
structure Bx.ok (w : World) (x : Bx) : Prop where
  hl : x.H.length = x.n
  hn : x.n ≤ 1000
  hs : Sl w w.heap.size 3 x.A x.n x.c (flatHp x.H)
  bl : x.bans.length = x.nb
  bs : Sl w w.heap.size 1 x.Ab x.nb x.cb (x.bans.map (Value.int .i64))
/-- Neither its hops nor its bans lie in block g. -/
def Bx.off (g : Nat) (x : Bx) : Prop := (0 < x.n → ∀ ad, x.A = some ad → ad.block ≠ g) ∧ (0 < x.nb → ∀ ad, x.Ab = some ad → ad.block ≠ g)
theorem Sl.onB {w w' : World} {B B' k n c : Nat} {A : Option Addr} {xs : List Value} (h : Sl w B k A n c xs) (hk : 0 < n → ∀ ad, A = some ad → ad.block < B → w'.heap[ad.block]? = w.heap[ad.block]? ∧ ad.block < B') : Sl w' B' k A n c xs :=
  ⟨⟨h.lst.len, fun hn => by
    obtain ⟨ad, e, hb, hc⟩ := h.lst.at_ hn
    obtain ⟨h1, h2⟩ := hk hn ad e hb
    exact ⟨ad, e, h2, fun j u hu => (World.cell?_of_block (by rw [add_block]; exact h1)).trans (hc j u hu)⟩⟩, h.cap, h.max, h.nil⟩
theorem Sl.onK {S : Nat → Prop} {w w' : World} {k n c : Nat} {A : Option Addr} {xs : List Value} (h : Sl w w.heap.size k A n c xs) (hk : Kept S w w') (ho : 0 < n → ∀ ad, A = some ad → ¬ S ad.block) : Sl w' w'.heap.size k A n c xs :=
  h.onB fun hn ad e hb => ⟨hk.block _ hb (ho hn ad e), Nat.lt_of_lt_of_le hb hk.size⟩
theorem Bx.ok.kept {S : Nat → Prop} {w w' : World} {x : Bx} (h : x.ok w) (hk : Kept S w w') (ho : ∀ g, S g → x.off g) : x.ok w' :=
  ⟨h.hl, h.hn, h.hs.onK hk (fun hn ad e hS => (ho _ hS).1 hn ad e rfl), h.bl, h.bs.onK hk (fun hn ad e hS => (ho _ hS).2 hn ad e rfl)⟩
theorem Bx.ok.below {w w' : World} {x : Bx} (h : x.ok w) (hb : Below w.heap.size w w') : x.ok w' := ⟨h.hl, h.hn, h.hs.up hb, h.bl, h.bs.up hb⟩
theorem Sl.off_new {w : World} {B k n c : Nat} {A : Option Addr} {xs : List Value} (h : Sl w B k A n c xs) (hn : 0 < n) {ad : Addr} (e : A = some ad) : ad.block < B := by
  obtain ⟨ad', e', hb, _⟩ := h.lst.at_ hn
  rw [e] at e'; simp only [Option.some.injEq] at e'; subst e'; exact hb
theorem Bx.ok.off_new {w : World} {x : Bx} (h : x.ok w) {g : Nat} (hg : w.heap.size ≤ g) : x.off g :=
  ⟨fun hn ad e => by have := h.hs.off_new hn e; omega, fun hn ad e => by have := h.bs.off_new hn e; omega⟩
end Go.Proofs.YtkonkhblipbjcaaGreat
