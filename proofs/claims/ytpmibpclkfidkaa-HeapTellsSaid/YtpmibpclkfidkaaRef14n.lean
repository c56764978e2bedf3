/- The document's own heap: New. -/
import Derived.Test.YtpmibpclkfidkaaRef14p
namespace Go.Proofs.Ytpmibpclkfidkaa
open Go.ChangeShapes Go.WideShapes Go.ChangeAt Go.RowKit Go.Sort Hp
set_option linter.unusedSimpArgs false
set_option linter.unusedVariables false
theorem RefB.empty (w : World) : RefB (w.alloc (.cells #[.slice none 0 0] 44)) w.heap.size w.heap.size none 0 0 [] :=
  ⟨Blok.new _ _ _, ⟨by simp [flat2], (fun h => by omega)⟩, rfl, Nat.le_refl _, (by unfold maxLen; omega), Nat.le_refl _, (fun ad e => by cases e), (fun ad e => by cases e), List.Pairwise.nil⟩
set_option maxHeartbeats 2000000 in
set_option maxRecDepth 100000 in
theorem rnew_any (A : Option Addr) (n c : Nat) (l : List (Int × Int)) (w : World) (hl : l.length = n) (hn : n ≤ 1000) (hA : Lst w w.heap.size 2 A n (flat2 l)) :
    Calls Try.prog 9 #[.slice A n c] w fun e w' => ∃ gb A' c' s, e = .returned (.pointer (some ⟨gb, 0, none⟩)) ∧ RefB w' w.heap.size gb A' n c' s ∧ s.Perm l ∧ Below w.heap.size w w' ∧ (∀ ad, A' = some ad → ad.block < w'.heap.size) := by
  go_enter Try.func9, Try.ntmps9
  go_wp2
  go_loopw [4] (fun i wr => ∃ (k : Nat), k ≤ n ∧ i = .int .i64 k ∧ Hid (∃ A' c' s, RefB wr w.heap.size w.heap.size A' k c' s ∧ s.Perm (l.take k) ∧ (∀ ad, A' = some ad → ad.block < wr.heap.size)) ∧ Below w.heap.size w wr) (fun i _ => n - (intOf i).toNat)
  case atStart => exact ⟨0, by omega, rfl, ⟨none, 0, [], RefB.empty w, by simp, fun ad e => by cases e⟩, by (repeat (first | exact Below.refl _ _ | refine Below.alloc ?_ (by first | omega | (simp; done) | (simp; omega)) _ | refine Below.setCell ?_ (by first | omega | (simp; done) | (simp; omega)) _ | refine Below.drew ?_))⟩
  case round =>
    obtain ⟨k, hk, rfl, HJ, hB⟩ := hrel
    have hs := hB.size
    by_cases hkn : k < n
    · obtain ⟨A', c', s, hR, hp, ha⟩ := HJ.out
      obtain ⟨ad, rfl, hab, c0, c1⟩ := (hA.below hB).fst2 hl hkn
      clear HJ
      go_wp2_with fail
      refine (rpush_any (gt l k) hR (by omega) hs).mono ?_
      rintro e w4 ⟨rfl, g', c2, s2, hR2, hp2, hg, hK⟩
      have hB2 := hK.below_of hB hs (fun i hi h => by omega)
      have hp3 := hp2.trans (hp.append_right [gt l k])
      rw [← take_next (by omega)] at hp3
      have HJ2 : Hid (∃ A' c' s, RefB w4 w.heap.size w.heap.size A' (k + 1) c' s ∧ s.Perm (l.take (k + 1)) ∧ (∀ ad, A' = some ad → ad.block < w4.heap.size)) := ⟨_, c2, s2, hR2, hp3, fun ad e => by
        obtain ⟨ad2, e2, hlt, _⟩ := hR2.lst.at_ (by omega)
        rw [e] at e2; injection e2 with e2; subst e2; exact hlt⟩
      clear hR hR2 hK hp hp2 hp3 c0 c1
      go_wp2
      go_roundw
      case rel => exact ⟨k + 1, by omega, by go_num, HJ2, hB2⟩
      case measure => simp [intOf]; omega
    · obtain rfl : k = n := by omega
      have HL : Hid (l.take k = l) := List.take_of_length_le (by omega)
      clear hA
      go_wp2
      go_ret
      obtain ⟨A', c', s, hR, hp, ha⟩ := HJ.out
      rw [HL.out] at hp
      exact ⟨_, A', c', s, rfl, hR, hp, hB, ha⟩
end Go.Proofs.Ytpmibpclkfidkaa
