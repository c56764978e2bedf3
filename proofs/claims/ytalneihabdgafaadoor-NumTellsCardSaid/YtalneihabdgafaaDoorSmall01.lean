/- Layer 1's small case comes out right, where the library's table of the powers of ten lies as its text lays it. -/
import Derived.Test.YtalneihabdgafaaDoorCeil
import Derived.Test.YtalneihabdgafaaDoorNumMath
import Derived.Test.YtalneihabdgafaaDoorClamp
namespace Go.Proofs.YtalneihabdgafaaDoor
open Go.ChangeShapes Go.WideShapes Go.ChangeAt Go.RowKit Go.Sort
set_option linter.unusedSimpArgs false
set_option linter.unusedVariables false

theorem parse_yes {s : ByteArray} {high n : Int} (hs : s.size ≤ maxLen) (h : parseF s.data.toList high = some n) (w : World) :
    Calls Tryd.prog 17 #[.string s, .int .i64 high] w fun e w' => e = .returned (.tuple #[.int .i64 n, .bool true]) ∧ Below w.heap.size w w' := by
  have := parse_any s high hs w
  rw [h] at this
  exact this
theorem parse_no {s : ByteArray} {high : Int} (hs : s.size ≤ maxLen) (h : parseF s.data.toList high = none) (w : World) :
    Calls Tryd.prog 17 #[.string s, .int .i64 high] w fun e w' => e = .returned (.tuple #[.int .i64 0, .bool false]) ∧ Below w.heap.size w w' := by
  have := parse_any s high hs w
  rw [h] at this
  exact this
theorem ceil_is {a b n : Int} (ha : 0 ≤ a) (ha2 : a ≤ 9223372036854775807) (hb : 1 ≤ b) (h : cdiv a b = n) (w : World) :
    Calls Tryd.prog 15 #[.int .i64 a, .int .i64 b] w fun e w' => e = .returned (.tuple #[.int .i64 n, .bool true]) ∧ w = w' := h ▸ ceil_yes ha ha2 hb w

theorem text_is {n : Int} (v : ByteArray) (h0 : -9223372036854775808 ≤ n) (h1 : n ≤ 9223372036854775807) (h : bs (Lib.itoa n) = v) (w : World) (ht : TenTab w) :
    Calls Tryd.prog 23 #[.int .i64 n] w fun e w' => e = .returned (.string v) ∧ Below w.heap.size w w' := h ▸ text_any h0 h1 w ht
theorem text305 : bs (Lib.itoa (-305)) = ⟨#[45, 51, 48, 53]⟩ := by
  have : Lib.decDigits 305 = [51, 48, 53] := by
    rw [Lib.decDigits, dif_neg (by omega), Lib.decDigits, dif_neg (by omega), Lib.decDigits, dif_pos (by omega)]
    decide
  unfold Lib.itoa
  rw [if_pos (by omega), show (-305 : Int).natAbs = 305 from rfl, this]
  rfl

set_option maxHeartbeats 1000000 in
set_option maxRecDepth 100000 in
theorem small01 (w : World) (ht : TenTab w) :
    Calls Tryd.prog 14 #[] w fun e w' => e = .returned (.bool true) ∧ Below w.heap.size w w' := by
  have HT := Lib.hid ht
  clear ht
  go_enter Tryd.func14, Tryd.ntmps14
  go_wp2_with (first | (go_at_call 15; (with_reducible refine Calls.mono (ceil_is (n := 3) (by omega) (by omega) (by omega) (by decide +kernel) _) ?_); rintro e w1 ⟨rfl, rfl⟩) | (go_at_call 15; (with_reducible refine Calls.mono (ceil_is (n := 2) (by omega) (by omega) (by omega) (by decide +kernel) _) ?_); rintro e w1 ⟨rfl, rfl⟩) | (go_at_call 15; (with_reducible refine Calls.mono (ceil_no (by decide +kernel) _) ?_); rintro e w1 ⟨rfl, rfl⟩))
  ((with_reducible refine Calls.mono (parse_yes (n := 42) (by decide +kernel) (by decide +kernel) _) ?_); rintro e w1 ⟨rfl, hB⟩; obtain ⟨hc, hf⟩ := bcell hB)
  go_wp2_with (first | (go_at_call 17; (with_reducible refine Calls.mono (parse_yes (n := 0) (by decide +kernel) (by decide +kernel) _) ?_); rintro e w1 ⟨rfl, hb⟩; replace hB := hB.trans (hb.mono hB.size); clear hb hc hf; obtain ⟨hc, hf⟩ := bcell hB) | (go_at_call 17; (with_reducible refine Calls.mono (parse_no (by decide +kernel) (by decide +kernel) _) ?_); rintro e w1 ⟨rfl, hb⟩; replace hB := hB.trans (hb.mono hB.size); clear hb hc hf; obtain ⟨hc, hf⟩ := bcell hB) | (go_at_call 23; (with_reducible refine Calls.mono (text_is _ (by omega) (by omega) text305 _ (HT.out.below hB)) ?_); rintro e w1 ⟨rfl, hb⟩; replace hB := hB.trans (hb.mono hB.size); clear hb hc hf; obtain ⟨hc, hf⟩ := bcell hB) | (go_at_call 19; (with_reducible refine Calls.mono (in_is true (by decide +kernel) _) ?_); rintro e w1 ⟨rfl, rfl⟩) | (go_at_call 19; (with_reducible refine Calls.mono (in_is false (by decide +kernel) _) ?_); rintro e w1 ⟨rfl, rfl⟩) | (go_at_call 21; (with_reducible refine Calls.mono (clamp_is 5 (by decide +kernel) _) ?_); rintro e w1 ⟨rfl, rfl⟩) | (go_at_call 21; (with_reducible refine Calls.mono (clamp_is 1 (by decide +kernel) _) ?_); rintro e w1 ⟨rfl, rfl⟩))
  go_ret
  exact ⟨rfl, by (repeat (first | exact Below.refl _ _ | exact hB | refine Below.alloc ?_ (by first | omega | (simp; done) | (simp; omega)) _ | refine Below.setCell ?_ (by first | omega | (simp; done) | (simp; omega)) _ | refine Below.drew ?_ | refine Below.trans ?_ (hB.mono (by first | omega | (simp; done) | (simp; omega)))))⟩
end Go.Proofs.YtalneihabdgafaaDoor
