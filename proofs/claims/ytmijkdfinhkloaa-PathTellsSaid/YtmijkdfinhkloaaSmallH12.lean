/- For layer 12's small case. No condition. -/
import Derived.Test.YtmijkdfinhkloaaPath5
import Derived.Deep.RegionHeld3
namespace Go.Proofs.Ytmijkdfinhkloaa
open Go.ChangeShapes Go.WideShapes Go.ChangeAt Go.RowKit Go.Sort
set_option linter.unusedSimpArgs false
set_option linter.unusedVariables false
theorem proute_yes (A : Option Addr) (n c : Nat) (d : List Ed) (A' : Option Addr) (m c' : Nat) (ids : List Int) (q tt now size : Int) (w : World) (hd : d.length = n) (hn : n ≤ 1000000) (hi : ids.length = m) (hm : m ≤ 1000000 - 1) (hwf : ∀ q, q < m → (Lit.int .i64 (ids.getD q 0)).wf = true) (h : Sl w w.heap.size 8 A n c (flatEd d)) (h' : Sl w w.heap.size 1 A' m c' (ids.map (Value.int .i64))) (hs : List Hp) (ar : Int) (ho : routeE d ids q tt now size = some (hs, ar)) :
    Calls Try.prog 14 #[.slice A n c, .slice A' m c', .int .i64 q, .int .i64 tt, .int .i64 now, .int .i64 size] w fun e w' => ∃ v, e = .returned (.tuple #[.agg #[v, .int .i64 ar], .bool true]) ∧ w'.ownsRow w.heap.size 47 3 v hs.length (flatHp hs) ∧ Below w.heap.size w w' :=
  proute_any A n c d A' m c' ids q tt now size w hd hn hi hm hwf h h' _ ho hs rfl ar rfl
theorem proute_no (A : Option Addr) (n c : Nat) (d : List Ed) (A' : Option Addr) (m c' : Nat) (ids : List Int) (q tt now size : Int) (w : World) (hd : d.length = n) (hn : n ≤ 1000000) (hi : ids.length = m) (hm : m ≤ 1000000 - 1) (hwf : ∀ q, q < m → (Lit.int .i64 (ids.getD q 0)).wf = true) (h : Sl w w.heap.size 8 A n c (flatEd d)) (h' : Sl w w.heap.size 1 A' m c' (ids.map (Value.int .i64))) (ho : routeE d ids q tt now size = none) :
    Calls Try.prog 14 #[.slice A n c, .slice A' m c', .int .i64 q, .int .i64 tt, .int .i64 now, .int .i64 size] w fun e w' => ∃ v, e = .returned (.tuple #[.agg #[v, .int .i64 0], .bool false]) ∧ w'.ownsRow w.heap.size 47 3 v 0 [] ∧ Below w.heap.size w w' :=
  proute_any A n c d A' m c' ids q tt now size w hd hn hi hm hwf h h' _ ho [] rfl 0 rfl
theorem pwalk_yes (A : Option Addr) (n c : Nat) (d : List Ed) (A' : Option Addr) (m c' : Nat) (ids : List Int) (q now size : Int) (w : World) (hd : d.length = n) (hn : n ≤ 1000000) (hi : ids.length = m) (hm : m ≤ 1000000) (hwf : ∀ q, q < m → (Lit.int .i64 (ids.getD q 0)).wf = true) (h : Sl w w.heap.size 8 A n c (flatEd d)) (h' : Sl w w.heap.size 1 A' m c' (ids.map (Value.int .i64))) (hs : List Hp) (ho : walkE d ids q now size = some hs) :
    Calls Try.prog 10 #[.slice A n c, .slice A' m c', .int .i64 q, .int .i64 now, .int .i64 size] w fun e w' => ∃ v, e = .returned (.tuple #[v, .bool true]) ∧ w'.ownsRow w.heap.size 47 3 v hs.length (flatHp hs) ∧ Below w.heap.size w w' :=
  pwalk_any A n c d A' m c' ids q now size w hd hn hi hm hwf h h' _ ho
theorem pwalk_no (A : Option Addr) (n c : Nat) (d : List Ed) (A' : Option Addr) (m c' : Nat) (ids : List Int) (q now size : Int) (w : World) (hd : d.length = n) (hn : n ≤ 1000000) (hi : ids.length = m) (hm : m ≤ 1000000) (hwf : ∀ q, q < m → (Lit.int .i64 (ids.getD q 0)).wf = true) (h : Sl w w.heap.size 8 A n c (flatEd d)) (h' : Sl w w.heap.size 1 A' m c' (ids.map (Value.int .i64))) (ho : walkE d ids q now size = none) :
    Calls Try.prog 10 #[.slice A n c, .slice A' m c', .int .i64 q, .int .i64 now, .int .i64 size] w fun e w' => ∃ v, e = .returned (.tuple #[v, .bool false]) ∧ w'.ownsRow w.heap.size 47 3 v 0 [] ∧ Below w.heap.size w w' :=
  pwalk_any A n c d A' m c' ids q now size w hd hn hi hm hwf h h' _ ho
theorem pEnds_yes (A : Option Addr) (n c : Nat) (d : List Ed) (A' : Option Addr) (m c' : Nat) (ids : List Int) (q : Int) (w : World) (hd : d.length = n) (hn : n ≤ 1000000) (hi : ids.length = m) (hm : m ≤ 1000000) (hwf : ∀ q, q < m → (Lit.int .i64 (ids.getD q 0)).wf = true) (h : Sl w w.heap.size 8 A n c (flatEd d)) (h' : Sl w w.heap.size 1 A' m c' (ids.map (Value.int .i64))) (ns : List Int) (ho : endsE d ids q = some ns) :
    Calls Try.prog 12 #[.slice A n c, .slice A' m c', .int .i64 q] w fun e w' => ∃ v, e = .returned (.tuple #[v, .bool true]) ∧ w'.ownsRow w.heap.size 3 1 v ns.length (ns.map (Value.int .i64)) ∧ Below w.heap.size w w' :=
  pEnds_any A n c d A' m c' ids q w hd hn hi hm hwf h h' _ ho
theorem pEnds_no (A : Option Addr) (n c : Nat) (d : List Ed) (A' : Option Addr) (m c' : Nat) (ids : List Int) (q : Int) (w : World) (hd : d.length = n) (hn : n ≤ 1000000) (hi : ids.length = m) (hm : m ≤ 1000000) (hwf : ∀ q, q < m → (Lit.int .i64 (ids.getD q 0)).wf = true) (h : Sl w w.heap.size 8 A n c (flatEd d)) (h' : Sl w w.heap.size 1 A' m c' (ids.map (Value.int .i64))) (ho : endsE d ids q = none) :
    Calls Try.prog 12 #[.slice A n c, .slice A' m c', .int .i64 q] w fun e w' => ∃ v, e = .returned (.tuple #[v, .bool false]) ∧ w'.ownsRow w.heap.size 3 1 v 0 [] ∧ Below w.heap.size w w' :=
  pEnds_any A n c d A' m c' ids q w hd hn hi hm hwf h h' _ ho
theorem ints_is (A A' : Option Addr) (n c n' c' : Nat) (d d' : List Int) (w : World) (hd : d.length = n) (hd' : d'.length = n') (hn : n ≤ 1000000) (hn' : n' ≤ 1000000) (h : Sl w w.heap.size 1 A n c (d.map (Value.int .i64))) (h' : Sl w w.heap.size 1 A' n' c' (d'.map (Value.int .i64))) (b : Bool) (hb : decide (d = d') = b) :
    Calls Try.prog 19 #[.slice A n c, .slice A' n' c'] w fun e w' => e = .returned (.bool b) ∧ Below w.heap.size w w' := by
  subst hb; exact ints_any A A' n c n' c' d d' w hd hd' hn hn' h h'
def netL : List Ed := [⟨1, 1, 2, 10, 20, 3, 4, 30⟩, ⟨2, 2, 3, 0, 30, 1, 1, 30⟩, ⟨3, 1, 3, 40, 50, 9, 0, 90⟩, ⟨4, 2, 1, 0, 50, 9, 0, 90⟩]
def netX : List Ed := [⟨2, 2, 3, 0, 30, 1, 1, 30⟩, ⟨1, 1, 2, 10, 20, 3, 4, 30⟩]
def hopA : List Hp := [⟨1, 10, 17⟩, ⟨2, 17, 25⟩]
theorem netL_right : rightE netL = true := by decide +kernel
theorem netX_right : rightE netX = false := by decide +kernel
theorem netL_len : netL.length = 4 := rfl
theorem netX_len : netX.length = 2 := rfl
theorem hopA_len : hopA.length = 2 := rfl
theorem nil_len : ([] : List Hp).length = 0 := rfl
theorem i3_len : ([1, 2, 3] : List Int).length = 3 := rfl
theorem i2_len : ([1, 2] : List Int).length = 2 := rfl
theorem nil_sl (w0 : World) : Sl w0 w0.heap.size 3 none 0 0 (flatHp []) := Sl.nil0 _ _ _
theorem psame_refl (A A' : Option Addr) (n c c' : Nat) (d : List Hp) (t : Int) (w : World) (hd : d.length = n) (hn : n ≤ 1000000) (h : Sl w w.heap.size 3 A n c (flatHp d)) (h' : Sl w w.heap.size 3 A' n c' (flatHp d)) :
    Calls Try.prog 23 #[.agg #[.slice A n c, .int .i64 t], .agg #[.slice A' n c', .int .i64 t]] w fun e w' => e = .returned (.bool true) ∧ Below w.heap.size w w' :=
  psame_any A A' n c n c' d d t t w hd hd hn hn h h' true (by simp)
theorem ints_refl (A A' : Option Addr) (n c c' : Nat) (d : List Int) (w : World) (hd : d.length = n) (hn : n ≤ 1000000) (h : Sl w w.heap.size 1 A n c (d.map (Value.int .i64))) (h' : Sl w w.heap.size 1 A' n c' (d.map (Value.int .i64))) :
    Calls Try.prog 19 #[.slice A n c, .slice A' n c'] w fun e w' => e = .returned (.bool true) ∧ Below w.heap.size w w' :=
  ints_is A A' n c n c' d d w hd hd hn hn h h' true (decide_eq_true rfl)
theorem i3_lit (w0 : World) : Sl (w0.alloc (.cells #[.int .i64 1, .int .i64 2, .int .i64 3] 3)) (w0.alloc (.cells #[.int .i64 1, .int .i64 2, .int .i64 3] 3)).heap.size 1 (some ⟨w0.heap.size, 0, none⟩) 3 3 ([1, 2, 3].map (Value.int .i64)) := Sl.of_own (own_lit w0 0 3 1 3 #[.int .i64 1, .int .i64 2, .int .i64 3] (Nat.zero_le _) rfl (by simp [maxLen]))
theorem i2_lit (w0 : World) : Sl (w0.alloc (.cells #[.int .i64 1, .int .i64 2] 3)) (w0.alloc (.cells #[.int .i64 1, .int .i64 2] 3)).heap.size 1 (some ⟨w0.heap.size, 0, none⟩) 2 2 ([1, 2].map (Value.int .i64)) := Sl.of_own (own_lit w0 0 3 1 2 #[.int .i64 1, .int .i64 2] (Nat.zero_le _) rfl (by simp [maxLen]))
theorem netX_lit (w0 : World) : Sl (w0.alloc (.cells #[.int .i64 2, .int .i64 2, .int .i64 3, .int .i64 0, .int .i64 30, .int .i64 1, .int .i64 1, .int .i64 30, .int .i64 1, .int .i64 1, .int .i64 2, .int .i64 10, .int .i64 20, .int .i64 3, .int .i64 4, .int .i64 30] 41)) (w0.alloc (.cells #[.int .i64 2, .int .i64 2, .int .i64 3, .int .i64 0, .int .i64 30, .int .i64 1, .int .i64 1, .int .i64 30, .int .i64 1, .int .i64 1, .int .i64 2, .int .i64 10, .int .i64 20, .int .i64 3, .int .i64 4, .int .i64 30] 41)).heap.size 8 (some ⟨w0.heap.size, 0, none⟩) 2 2 (flatEd netX) := Sl.of_own (own_lit w0 0 41 8 2 #[.int .i64 2, .int .i64 2, .int .i64 3, .int .i64 0, .int .i64 30, .int .i64 1, .int .i64 1, .int .i64 30, .int .i64 1, .int .i64 1, .int .i64 2, .int .i64 10, .int .i64 20, .int .i64 3, .int .i64 4, .int .i64 30] (Nat.zero_le _) rfl (by simp [maxLen]))
theorem net_any (w : World) :
    Calls Try.prog 26 #[] w fun e w' => e = .returned (.slice (some ⟨w.heap.size, 0, none⟩) 4 4) ∧ w' = w.alloc (.cells #[.int .i64 1, .int .i64 1, .int .i64 2, .int .i64 10, .int .i64 20, .int .i64 3, .int .i64 4, .int .i64 30, .int .i64 2, .int .i64 2, .int .i64 3, .int .i64 0, .int .i64 30, .int .i64 1, .int .i64 1, .int .i64 30, .int .i64 3, .int .i64 1, .int .i64 3, .int .i64 40, .int .i64 50, .int .i64 9, .int .i64 0, .int .i64 90, .int .i64 4, .int .i64 2, .int .i64 1, .int .i64 0, .int .i64 50, .int .i64 9, .int .i64 0, .int .i64 90] 41) := by
  go_enter Try.func26, Try.ntmps26
  go_wp2
  go_ret
  exact ⟨rfl, rfl⟩
end Go.Proofs.Ytmijkdfinhkloaa
