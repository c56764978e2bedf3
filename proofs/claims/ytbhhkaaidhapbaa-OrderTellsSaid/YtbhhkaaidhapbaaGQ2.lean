/- Several texts of mine in one: Order2, Order3. No condition. -/
import Derived.Test.YtbhhkaaidhapbaaGQ1
import Derived.Test.YtbhhkaaidhapbaaShelfIns
namespace Go.Proofs.Ytbhhkaaidhapbaa
open Go.ChangeShapes Go.WideShapes Go.ChangeAt Go.RowKit Go.Sort
set_option linter.unusedSimpArgs false
set_option linter.unusedVariables false
theorem cmpI_ne {a b : Int} (h : a ≠ b) : (cmpI a b != 0) = true := by
  have : cmpI a b ≠ 0 := fun e => h (cmpI_zero.1 e)
  simpa using this
set_option maxHeartbeats 2000000 in
set_option maxRecDepth 100000 in
theorem ocmp_grow (A A' : Option Addr) (n c n' c' : Nat) (d d' : List Hp) (t t' : Int) (w : World) (hd : d.length = n) (hd' : d'.length = n') (hn : n ≤ 1000000) (hn' : n' ≤ 1000000) (h : Sl w w.heap.size 3 A n c (flatHp d)) (h' : Sl w w.heap.size 3 A' n' c' (flatHp d')) (z : Int) (hz : cmpR t d t' d' = z) :
    Calls Try.prog 17 #[.agg #[.slice A n c, .int .i64 t], .agg #[.slice A' n' c', .int .i64 t']] w fun e w' => e = .returned (.int .i64 z) ∧ UpG w w' := by
  have HZ := Lib.hid hz
  clear hz
  by_cases h1 : t = t'
  · subst h1
    have b1 : (cmpI t t != 0) = false := by rw [cmpI_eq]; rfl
    by_cases h2 : n = n'
    · subst h2
      have b2 : (cmpI (n : Int) (n : Int) != 0) = false := by rw [cmpI_eq]; rfl
      have HF : Hid (cmpH d d' = z) := by
        have := HZ.out
        unfold cmpR at this
        rw [if_pos (cmpI_eq t), hd, hd', if_pos (cmpI_eq _)] at this
        exact this
      clear HZ
      go_enter Try.func17, Try.ntmps17
      go_wp2_with (go_at_call 30; refine (cmp_any _ _ _).mono ?_; rintro e w' ⟨rfl, rfl⟩)
      have hUa : UpG w ((w.alloc (.cells #[.slice A n c, .int .i64 t] 25)).alloc (.cells #[.slice A' n c', .int .i64 t] 25)) := ((UpG.refl w).alloc _).alloc _
      have hBa : Below w.heap.size w ((w.alloc (.cells #[.slice A n c, .int .i64 t] 25)).alloc (.cells #[.slice A' n c', .int .i64 t] 25)) := by (repeat (first | exact Below.refl _ _ | refine Below.alloc ?_ (by first | omega | (simp; done) | (simp; omega)) _ | refine Below.setCell ?_ (by first | omega | (simp; done) | (simp; omega)) _ | refine Below.drew ?_))
      refine (cmpHops_any A A' n c n c' d d' _ hd hd' hn hn (h.up hBa) (h'.up hBa)).mono ?_
      rintro e w4 ⟨rfl, hb4⟩
      have hU4 := hUa.trans hb4
      clear hb4
      go_wp2
      go_ret
      exact ⟨by rw [HF.out]; rfl, hU4⟩
    · have b2 : (cmpI (n : Int) (n' : Int) != 0) = true := cmpI_ne (by omega)
      have HF : Hid (cmpI (n : Int) (n' : Int) = z) := by
        have := HZ.out
        unfold cmpR at this
        rw [if_pos (cmpI_eq t), hd, hd', if_neg (by simpa using b2)] at this
        exact this
      clear HZ
      go_enter Try.func17, Try.ntmps17
      go_wp2_with (go_at_call 30; refine (cmp_any _ _ _).mono ?_; rintro e w' ⟨rfl, rfl⟩)
      go_ret
      exact ⟨by rw [← HF.out]; rfl, ((UpG.refl w).alloc _).alloc _⟩
  · have b1 : (cmpI t t' != 0) = true := cmpI_ne h1
    have HF : Hid (cmpI t t' = z) := by
      have := HZ.out
      unfold cmpR at this
      rw [if_neg (by simpa using b1)] at this
      exact this
    clear HZ
    go_enter Try.func17, Try.ntmps17
    go_wp2_with (go_at_call 30; refine (cmp_any _ _ _).mono ?_; rintro e w' ⟨rfl, rfl⟩)
    go_ret
    exact ⟨by rw [← HF.out]; rfl, ((UpG.refl w).alloc _).alloc _⟩
theorem ocmp_any (A A' : Option Addr) (n c n' c' : Nat) (d d' : List Hp) (t t' : Int) (w : World) (hd : d.length = n) (hd' : d'.length = n') (hn : n ≤ 1000000) (hn' : n' ≤ 1000000) (h : Sl w w.heap.size 3 A n c (flatHp d)) (h' : Sl w w.heap.size 3 A' n' c' (flatHp d')) (z : Int) (hz : cmpR t d t' d' = z) :
    Calls Try.prog 17 #[.agg #[.slice A n c, .int .i64 t], .agg #[.slice A' n' c', .int .i64 t']] w fun e w' => e = .returned (.int .i64 z) ∧ Below w.heap.size w w' := (ocmp_grow A A' n c n' c' d d' t t' w hd hd' hn hn' h h' z hz).mono fun e w' k => ⟨k.1, k.2.below⟩
set_option maxHeartbeats 2000000 in
set_option maxRecDepth 100000 in
theorem oless_any (A A' : Option Addr) (n c n' c' : Nat) (d d' : List Hp) (t t' : Int) (w : World) (hd : d.length = n) (hd' : d'.length = n') (hn : n ≤ 1000000) (hn' : n' ≤ 1000000) (h : Sl w w.heap.size 3 A n c (flatHp d)) (h' : Sl w w.heap.size 3 A' n' c' (flatHp d')) (b : Bool) (hb : decide (cmpR t d t' d' < 0) = b) :
    Calls Try.prog 19 #[.agg #[.slice A n c, .int .i64 t], .agg #[.slice A' n' c', .int .i64 t']] w fun e w' => e = .returned (.bool b) ∧ Below w.heap.size w w' := by
  obtain ⟨z, hz⟩ : ∃ z, cmpR t d t' d' = z := ⟨_, rfl⟩
  have HB : Hid (decide (z < 0) = b) := by rw [← hz]; exact hb
  clear hb
  have hBa : Below w.heap.size w ((w.alloc (.cells #[.slice A n c, .int .i64 t] 25)).alloc (.cells #[.slice A' n' c', .int .i64 t'] 25)) := by (repeat (first | exact Below.refl _ _ | refine Below.alloc ?_ (by first | omega | (simp; done) | (simp; omega)) _ | refine Below.setCell ?_ (by first | omega | (simp; done) | (simp; omega)) _ | refine Below.drew ?_))
  have HZ := Lib.hid hz
  clear hz
  go_enter Try.func19, Try.ntmps19
  go_wp2_with fail
  refine (ocmp_any A A' n c n' c' d d' t t' _ hd hd' hn hn' (h.up hBa) (h'.up hBa) z HZ.out).mono ?_
  rintro e w4 ⟨rfl, hb4⟩
  have hB4 := hBa.trans (hb4.mono hBa.size)
  clear hb4
  go_wp2
  all_goals go_ret
  all_goals exact ⟨by rw [← HB.out]; rfl, hB4⟩
end Go.Proofs.Ytbhhkaaidhapbaa
namespace Go.Proofs.Ytbhhkaaidhapbaa
open Go.ChangeShapes Go.WideShapes Go.ChangeAt Go.RowKit Go.Sort
set_option linter.unusedSimpArgs false
set_option linter.unusedVariables false
section
variable {α : Type} [Inhabited α]
set_option maxHeartbeats 2000000 in
set_option maxRecDepth 100000 in
theorem stable_any (enc : α → List Value) (hk : ∀ x, (enc x).length = 2) (h1 : ∀ x, ∀ v ∈ enc x, v.oneCell' = true) (cf : α → α → Int) (g : Nat) (cb : Array Value) (blk off cap : Nat) (d : Array α) (w : World)
    (eg : ∀ args w, (callFunc g args).run Try.prog w = .ok (.enter g args) w) (hcmp : CmpLays Try.prog g cb enc 2 cf blk off d.size w) (hH : HoldsK enc 2 w blk off d) (hblk : blk < w.heap.size) (hsz : d.size < 20) :
    Calls Try.prog 36 #[.slice (some ⟨blk, off, none⟩) d.size cap, .int .i64 d.size, .func (.func g) #[] cb] w fun e w' => e = .returned (.tuple #[]) ∧ ∃ n os, w' = sortWorldK enc 2 w blk off n (Sort.insertionSort (ltOf cf) d 0 d.size) os := by
  have hcon := AnyQ.insertionSortCmpFunc Try.insRt 2 Try.isAgg25 Try.sizeOf25 enc hk h1 cf g cb blk off cap 0 d.size d w eg hcmp hH hblk (by omega) (by omega) (by omega)
  change Calls Try.prog 39 _ _ _ at hcon
  have HC := Lib.hid hcon
  generalize hz : d.size = z at *
  clear hcon hcmp hH hk h1 eg
  have hz1 : ¬ ((20 : Int) ≤ (z : Int)) := by omega
  have hz2 : ¬ ((20 : Int) < (z : Int)) := by omega
  go_enter Try.func36, Try.ntmps36
  go_wp2
  go_loopw [7, 8] (fun a b wr => a = .int .i64 0 ∧ b = .int .i64 20 ∧ wr = w) (fun _ _ _ => 0)
  case atStart => exact ⟨rfl, rfl, rfl⟩
  case round =>
    obtain ⟨rfl, rfl, rfl⟩ := hrel
    go_wp2_with fail
    refine HC.out.mono ?_
    rintro e w1 ⟨rfl, hw⟩
    clear HC
    go_wp2
    go_loopw [6] (fun s wr => s = .int .i64 20 ∧ wr = w1) (fun _ _ => 0)
    case atStart => exact ⟨rfl, rfl⟩
    case round =>
      obtain ⟨rfl, rfl⟩ := hrel
      go_wp2_with fail
      exact bodyPost_end (results_none (by rfl) _ _ _) rfl ⟨rfl, hw⟩
set_option maxHeartbeats 2000000 in
set_option maxRecDepth 100000 in
theorem sortStable_any (enc : α → List Value) (hk : ∀ x, (enc x).length = 2) (h1 : ∀ x, ∀ v ∈ enc x, v.oneCell' = true) (cf : α → α → Int) (g : Nat) (cb : Array Value) (blk off cap : Nat) (d : Array α) (w : World)
    (eg : ∀ args w, (callFunc g args).run Try.prog w = .ok (.enter g args) w) (hcmp : CmpLays Try.prog g cb enc 2 cf blk off d.size w) (hH : HoldsK enc 2 w blk off d) (hblk : blk < w.heap.size) (hsz : d.size < 20) :
    Calls Try.prog 24 #[.slice (some ⟨blk, off, none⟩) d.size cap, .func (.func g) #[] cb] w fun e w' => e = .returned (.tuple #[]) ∧ ∃ n os, w' = sortWorldK enc 2 w blk off n (Sort.insertionSort (ltOf cf) d 0 d.size) os := by
  have HC := Lib.hid (stable_any enc hk h1 cf g cb blk off cap d w eg hcmp hH hblk hsz)
  generalize hz : d.size = z at *
  clear hcmp hH hk h1 eg
  go_enter Try.func24, Try.ntmps24
  go_wp2_with fail
  refine HC.out.mono ?_
  rintro e w1 ⟨rfl, hw⟩
  clear HC
  go_wp2_with fail
  exact bodyPost_end (results_none (by rfl) _ _ _) rfl ⟨rfl, hw⟩
end
end Go.Proofs.Ytbhhkaaidhapbaa
