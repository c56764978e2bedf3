/- Package heap: what a heap of l tells: its least one. -/
import Derived.Test.YtpmibpclkfidkaaHeapN
namespace Go.Proofs.Ytpmibpclkfidkaa
open Go.ChangeShapes Go.WideShapes Go.ChangeAt Go.RowKit Go.Sort Hp
set_option linter.unusedSimpArgs false
set_option linter.unusedVariables false
namespace Hp
def IsLeast (m : Rd) (l : List Rd) : Prop := m ∈ l ∧ ∀ x ∈ l, ahd x m = false
theorem least_one {m k : Rd} {l : List Rd} (h : IsLeast m l) (h' : IsLeast k l) : m = k := ahd_antisymm (h.2 k h'.1) (h'.2 m h.1)
theorem least_ex : ∀ (l : List Rd), l ≠ [] → ∃ m, IsLeast m l
  | [], h => absurd rfl h
  | [a], _ => ⟨a, by simp, by simp [ahd_irr]⟩
  | a :: b :: l, _ => by
    obtain ⟨m, h1, h2⟩ := least_ex (b :: l) (by simp)
    cases ha : ahd a m
    · refine ⟨m, List.mem_cons_of_mem _ h1, fun x hx => ?_⟩
      rcases List.mem_cons.1 hx with rfl | hx
      · exact ha
      · exact h2 x hx
    · refine ⟨a, by simp, fun x hx => ?_⟩
      rcases List.mem_cons.1 hx with rfl | hx
      · exact ahd_irr _
      · exact nle_trans (nle_of_ahd ha) (h2 x hx)
theorem least_perm {m : Rd} {l l' : List Rd} (h : IsLeast m l) (hp : l.Perm l') : IsLeast m l' := ⟨hp.mem_iff.1 h.1, fun x hx => h.2 x (hp.mem_iff.2 hx)⟩
theorem least_head {d : List Rd} (h : isHeap d) (hd : 0 < d.length) : IsLeast (gt d 0) d := ⟨gt_mem hd, fun x hx => heap_least h hx⟩
end Hp
theorem HeapB.some_ {w : World} {B hb : Nat} {v : Value} {d l : List (Int × Int)} (h : HeapB w B hb v d l) (hd : 0 < d.length) : ∃ g cap, v = .slice (some ⟨g, 0, none⟩) d.length cap ∧ d.length ≤ cap ∧ HeapAt w hb g cap d := by
  obtain ⟨g, c, rfl, hc⟩ := own_pos h.at_.row hd
  exact ⟨g, c, rfl, hc, h.at_.at_⟩
theorem lenC {w : World} {B hb : Nat} {v : Value} {d l : List (Int × Int)} (h : HeapB w B hb v d l) :
    Calls Try.prog 16 #[.pointer (some ⟨hb, 0, none⟩)] w fun e w' => e = .returned (.int .i64 l.length) ∧ w = w' := by
  have := len_any hb v d w h.at_
  rw [h.perm.length_eq] at this
  exact this
theorem peekC {w : World} {B hb : Nat} {v : Value} {d l : List (Int × Int)} (h : HeapB w B hb v d l) {m : Int × Int} (hm : IsLeast m l) :
    Calls Try.prog 14 #[.pointer (some ⟨hb, 0, none⟩)] w fun e w' => e = .returned (.tuple #[.agg #[.int .i64 m.1, .int .i64 m.2], .bool true]) ∧ Below w.heap.size w w' := by
  have hd : 0 < d.length := by rw [h.perm.length_eq]; exact List.length_pos_of_mem hm.1
  obtain ⟨g, cap, rfl, _, hA⟩ := h.some_ hd
  have e := least_one hm (least_perm (least_head h.heap hd) h.perm)
  rw [e]
  exact peek_some hb g cap d w hA hd
theorem HeapB.nil_ {w : World} {B hb : Nat} {v : Value} {d : List (Int × Int)} (h : HeapB w B hb v d []) : HeapV w hb v [] := by
  have := h.perm.length_eq
  have e : d = [] := List.eq_nil_of_length_eq_zero (by simpa using this)
  rw [← e]; exact h.at_
theorem popC {w : World} {B hb : Nat} {v : Value} {d l : List (Int × Int)} (h : HeapB w B hb v d l) {m : Int × Int} (hm : IsLeast m l) (hn : l.length ≤ 1000000) :
    Calls Try.prog 12 #[.pointer (some ⟨hb, 0, none⟩)] w fun e w' => e = .returned (.tuple #[.agg #[.int .i64 m.1, .int .i64 m.2], .bool true]) ∧
      ∃ v' d', HeapB w' B hb v' d' (l.erase m) ∧ v'.ownBlock = v.ownBlock ∧ Kept (fun k => k = hb ∨ v.ownBlock = some k) w w' := by
  have hlen := h.perm.length_eq
  have hd : 0 < d.length := by rw [hlen]; exact List.length_pos_of_mem hm.1
  obtain ⟨g, cap, rfl, hc, hA⟩ := h.some_ hd
  have e := least_one hm (least_perm (least_head h.heap hd) h.perm)
  rw [e]
  refine (pop_some hb g cap d w hc (by omega) hA h.heap hd).mono ?_
  rintro e' w' ⟨rfl, d', k1, k2, k3, k4⟩
  refine ⟨rfl, _, d', ⟨k3.v, k2, ?_, h.hb, fun k hk => h.own k hk⟩, rfl, ?_⟩
  · have hp := (k1.trans h.perm).erase (gt d 0)
    simpa using hp
  · exact Kept.trans (Kept.refl _ _) k4 (fun i _ hi => by simpa [Value.ownBlock, eq_comm] using hi)
theorem pushC {w : World} {B hb : Nat} {v : Value} {d l : List (Int × Int)} (h : HeapB w B hb v d l) (hB : B ≤ w.heap.size) (r : Int × Int) (hn : l.length < 1000000) :
    Calls Try.prog 10 #[.pointer (some ⟨hb, 0, none⟩), .agg #[.int .i64 r.1, .int .i64 r.2]] w fun e w' => e = .returned (.tuple #[]) ∧
      ∃ v' d', HeapB w' B hb v' d' (l ++ [r]) ∧ (v'.ownBlock = v.ownBlock ∨ ∃ k, w.heap.size ≤ k ∧ v'.ownBlock = some k) ∧ Kept (fun k => k = hb ∨ v.ownBlock = some k) w w' := by
  have hlen := h.perm.length_eq
  refine (push_any hb v d r w (by omega) h.at_ h.heap).mono ?_
  rintro e w' ⟨rfl, v', d', k1, k2, k3, k4, k5⟩
  refine ⟨rfl, v', d', ⟨k3, k2, k1.trans (h.perm.append_right _), h.hb, fun k hk => ?_⟩, k5, k4⟩
  rcases k5 with e | ⟨j, hj, e⟩
  · exact h.own k (by rw [← e]; exact hk)
  · rw [e] at hk
    simp at hk
    omega
end Go.Proofs.Ytpmibpclkfidkaa
