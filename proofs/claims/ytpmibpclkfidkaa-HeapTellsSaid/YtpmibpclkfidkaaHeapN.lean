/- Package heap: New, and what a heap tells, whatever its slice is. -/
import Derived.Test.YtpmibpclkfidkaaHeapQ
import Derived.Test.YtpmibpclkfidkaaOpen
namespace Go.Proofs.Ytpmibpclkfidkaa
open Go.ChangeShapes Go.WideShapes Go.ChangeAt Go.RowKit Go.Sort Hp
set_option linter.unusedSimpArgs false
set_option linter.unusedVariables false
/-- The heap at hb holds l; all its blocks are B, or behind. -/
structure HeapB (w : World) (B hb : Nat) (v : Value) (d : List (Int × Int)) (l : List (Int × Int)) : Prop where
  at_ : HeapV w hb v d
  heap : isHeap d
  perm : d.Perm l
  hb : B ≤ hb
  own : ∀ k, v.ownBlock = some k → B ≤ k
theorem take_next {l : List (Int × Int)} {k : Nat} (h : k < l.length) : l.take (k + 1) = l.take k ++ [gt l k] := by
  rw [List.take_succ_eq_append_getElem h]
  congr 2
  unfold gt
  rw [List.getD_eq_getElem?_getD, List.getElem?_eq_getElem h]
  rfl
theorem add_next (ad : Addr) (j m : Nat) (hm : 0 < m) : (⟨(ad.add j).block, (ad.add j).off + m, none⟩ : Addr) = ad.add (j + m) := by
  unfold Addr.add
  by_cases hj : j = 0
  · subst hj; simp; omega
  · simp [hj]; omega
theorem Lst.fst2 {w : World} {B : Nat} {A : Option Addr} {n : Nat} {l : List (Int × Int)} (h : Lst w B 2 A n (flat2 l)) (hl : l.length = n) {k : Nat} (hk : k < n) : ∃ ad, A = some ad ∧ ad.block < B ∧ w.cell? (ad.add (k * 2)) = some (.int .i64 (gt l k).1) ∧ w.cell? ⟨(ad.add (k * 2)).block, (ad.add (k * 2)).off + 1, none⟩ = some (.int .i64 (gt l k).2) := by
  obtain ⟨ad, e, hb, hc⟩ := h.at_ (by omega)
  exact ⟨ad, e, hb, hc _ _ (by rw [flat2_fst l k (by omega)]; rfl), by rw [add_next _ _ _ (by omega)]; exact hc _ _ (by rw [flat2_snd l k (by omega)]; rfl)⟩
theorem Kept.below_of {S : Nat → Prop} {B : Nat} {w w1 w2 : World} (hk : Kept S w1 w2) (hB : Below B w w1) (hs : B ≤ w1.heap.size) (hS : ∀ k, k < B → ¬ S k) : Below B w w2 :=
  ⟨hk.os.trans hB.os, hk.tape.trans hB.tape, hk.output.trans hB.output, Nat.le_trans hB.size hk.size, fun k h => (hk.block k (by omega) (hS k h)).trans (hB.block k h)⟩
theorem HeapV.below {w w' : World} {hb : Nat} {v : Value} {d : List (Int × Int)} (h : HeapV w hb v d) (hB : Below w.heap.size w w') : HeapV w' hb v d :=
  ⟨h.head.below hB h.head.lt, h.row.kept (grown_of_below (row := some w.heap.size) hB) (.inr (fun e => by have := (h.row.lt _ e).2; omega))⟩
theorem HeapB.below {w w' : World} {B hb : Nat} {v : Value} {d l : List (Int × Int)} (h : HeapB w B hb v d l) (hB : Below w.heap.size w w') : HeapB w' B hb v d l := ⟨h.at_.below hB, h.heap, h.perm, h.hb, h.own⟩
set_option maxHeartbeats 2000000 in
set_option maxRecDepth 100000 in
theorem new_any (A : Option Addr) (n c : Nat) (l : List (Int × Int)) (w : World) (hl : l.length = n) (hn : n ≤ 1000000) (hA : Lst w w.heap.size 2 A n (flat2 l)) :
    Calls Try.prog 8 #[.slice A n c] w fun e w' => ∃ hb v d, e = .returned (.pointer (some ⟨hb, 0, none⟩)) ∧ HeapB w' w.heap.size hb v d l ∧ Below w.heap.size w w' := by
  go_enter Try.func8, Try.ntmps8
  go_wp2
  go_loopw [10] (fun i wr => ∃ (k : Nat) (v : Value) (d : List (Int × Int)), k ≤ n ∧ i = .int .i64 k ∧ HeapB wr w.heap.size w.heap.size v d (l.take k) ∧ Below w.heap.size w wr) (fun i _ => n - (intOf i).toNat)
  case atStart => 
    refine ⟨0, .slice none 0 0, [], by omega, rfl, ⟨⟨Blok.new _ _ _, World.ownsRow_nil _ _ _ _⟩, ?_, List.Perm.refl _, Nat.le_refl _, by simp [Value.ownBlock]⟩, by (repeat (first | exact Below.refl _ _ | refine Below.alloc ?_ (by first | omega | (simp; done) | (simp; omega)) _ | refine Below.setCell ?_ (by first | omega | (simp; done) | (simp; omega)) _ | refine Below.drew ?_))⟩
    intro j h0 h1
    simp at h1
  case round =>
    obtain ⟨k, v, d, hk, rfl, hH, hB⟩ := hrel
    by_cases hlt : k < n
    · obtain ⟨ad, rfl, hab, c0, c1⟩ := (hA.below hB).fst2 hl hlt
      have habw : ad.block < wr.heap.size := by have := hB.size; omega
      go_wp2_with fail
      have hBa : Below wr.heap.size wr (wr.alloc (.cells #[.int .i64 (gt l k).1, .int .i64 (gt l k).2] 30)) := (Below.refl _ _).alloc (Nat.le_refl _) _
      have hH2 := hH.below hBa
      have hdl : d.length < 1000000 := by
        have := hH.perm.length_eq
        rw [List.length_take] at this
        omega
      refine (push_any _ v d (gt l k) _ hdl hH2.at_ hH2.heap).mono ?_
      rintro e w1 ⟨rfl, v1, d1, k1, k2, k3, k4, k5⟩
      have hB2 : Below w.heap.size w w1 := k4.below_of (hB.trans (hBa.mono hB.size)) (by have := hB.size; simp; omega) (fun i hi => by
        rintro (e | e)
        · omega
        · have := hH.own i e; omega)
      have hP : HeapB w1 w.heap.size w.heap.size v1 d1 (l.take (k + 1)) := by
        refine ⟨k3, k2, ?_, Nat.le_refl _, ?_⟩
        · rw [take_next (by omega)]
          exact k1.trans (hH.perm.append_right _)
        · intro i hi
          rcases k5 with e | ⟨j, hj, e⟩
          · exact hH.own i (by rw [← e]; exact hi)
          · rw [e] at hi
            have := hB.size
            simp at hj hi
            omega
      clear k1 k2 k3 k4 k5 c0 c1 hBa hH2
      go_wp2
      go_roundw
      case rel => exact ⟨k + 1, v1, d1, by omega, by go_num, hP, hB2⟩
      case measure => simp [intOf]; omega
    · go_wp2
      go_ret
      obtain rfl : k = n := by omega
      refine ⟨_, v, d, rfl, ?_, hB⟩
      rw [List.take_of_length_le (by omega)] at hH
      exact hH
end Go.Proofs.Ytpmibpclkfidkaa
