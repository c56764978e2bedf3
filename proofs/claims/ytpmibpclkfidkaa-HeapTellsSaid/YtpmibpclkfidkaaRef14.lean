/- The document's own heap: a list in order: Less, Len, Peek, Pop, Push, New. -/
import Derived.Test.YtpmibpclkfidkaaHeapOrder
import Derived.Deep.RegionHeld3
namespace Go.Proofs.Ytpmibpclkfidkaa
open Go.ChangeShapes Go.WideShapes Go.ChangeAt Go.RowKit Go.Sort Hp
set_option linter.unusedSimpArgs false
set_option linter.unusedVariables false
namespace Hp
def sorted (s : List Rd) : Prop := s.Pairwise fun a b => ahd b a = false
theorem sorted_least {m : Rd} {t : List Rd} (h : sorted (m :: t)) : IsLeast m (m :: t) := by
  refine ⟨by simp, fun x hx => ?_⟩
  rcases List.mem_cons.1 hx with rfl | hx
  · exact ahd_irr _
  · exact (List.pairwise_cons.1 h).1 x hx
theorem sorted_ins {s : List Rd} {r : Rd} {k : Nat} (h : sorted s) (hk : k ≤ s.length) (h1 : ∀ i, i < k → ahd (gt s i) r = true) (h2 : k < s.length → ahd (gt s k) r = false) : sorted (s.take k ++ [r] ++ s.drop k) := by
  have hs : (s.take k ++ s.drop k).Pairwise fun a b => ahd b a = false := by rw [List.take_append_drop]; exact h
  rw [List.pairwise_append] at hs
  obtain ⟨p1, p2, p3⟩ := hs
  have q1 : ∀ x ∈ s.take k, ahd r x = false := fun x hx => by
    obtain ⟨i, hi, rfl⟩ := List.getElem_of_mem hx
    rw [List.length_take] at hi
    have := h1 i (by omega)
    unfold gt at this
    rw [List.getD_eq_getElem?_getD, List.getElem?_eq_getElem (by omega)] at this
    rw [List.getElem_take]
    exact nle_of_ahd this
  have q2 : ∀ x ∈ s.drop k, ahd x r = false := fun x hx => by
    have hkl : k < s.length := by
      rcases Nat.lt_or_ge k s.length with h | h
      · exact h
      · rw [List.drop_of_length_le h] at hx; simp at hx
    have hk2 := h2 hkl
    have e : s.drop k = gt s k :: s.drop (k + 1) := by
      rw [List.drop_eq_getElem_cons hkl]
      unfold gt
      rw [List.getD_eq_getElem?_getD, List.getElem?_eq_getElem hkl]; rfl
    rw [e] at hx p2
    rcases List.mem_cons.1 hx with rfl | hx
    · exact hk2
    · exact nle_trans hk2 ((List.pairwise_cons.1 p2).1 x hx)
  unfold sorted
  rw [List.append_assoc, List.pairwise_append]
  refine ⟨p1, ?_, ?_⟩
  · rw [List.singleton_append, List.pairwise_cons]
    exact ⟨q2, p2⟩
  · intro a ha b hb
    rw [List.singleton_append] at hb
    rcases List.mem_cons.1 hb with rfl | hb
    · exact q1 a ha
    · exact p3 a ha b hb
theorem ins_perm (s : List Rd) (r : Rd) (k : Nat) : (s.take k ++ [r] ++ s.drop k).Perm (s ++ [r]) := by
  have h : (s.take k ++ [r] ++ s.drop k).Perm (s.take k ++ s.drop k ++ [r]) := by
    rw [List.append_assoc, List.append_assoc]
    exact List.Perm.append_left _ List.perm_append_comm
  rw [List.take_append_drop] at h
  exact h
end Hp
theorem rless_any (a b : Int × Int) (w : World) :
    Calls Try.prog 19 #[.agg #[.int .i64 a.1, .int .i64 a.2], .agg #[.int .i64 b.1, .int .i64 b.2]] w fun e w' => e = .returned (.bool (ahd a b)) ∧ Below w.heap.size w w' := by
  obtain ⟨an, aa⟩ := a
  obtain ⟨bn, ba⟩ := b
  by_cases h1 : aa < ba
  · go_enter Try.func19, Try.ntmps19
    go_wp2
    all_goals go_ret
    all_goals exact ⟨by simp [ahd, h1], by (repeat (first | exact Below.refl _ _ | refine Below.alloc ?_ (by first | omega | (simp; done) | (simp; omega)) _ | refine Below.setCell ?_ (by first | omega | (simp; done) | (simp; omega)) _ | refine Below.drew ?_))⟩
  · by_cases h2 : aa = ba
    · subst h2
      by_cases h3 : an < bn
      all_goals
        go_enter Try.func19, Try.ntmps19
        go_wp2
        all_goals go_ret
        all_goals exact ⟨by simp [ahd, h3], by (repeat (first | exact Below.refl _ _ | refine Below.alloc ?_ (by first | omega | (simp; done) | (simp; omega)) _ | refine Below.setCell ?_ (by first | omega | (simp; done) | (simp; omega)) _ | refine Below.drew ?_))⟩
    · have h2' : (aa == ba) = false := by simpa using h2
      go_enter Try.func19, Try.ntmps19
      go_wp2
      all_goals go_ret
      all_goals exact ⟨by simp [ahd, h1, h2], by (repeat (first | exact Below.refl _ _ | refine Below.alloc ?_ (by first | omega | (simp; done) | (simp; omega)) _ | refine Below.setCell ?_ (by first | omega | (simp; done) | (simp; omega)) _ | refine Below.drew ?_))⟩
/-- The document's heap at gb, whose slice reads as s, in order. -/
structure RefB (w : World) (B gb : Nat) (A : Option Addr) (n c : Nat) (s : List (Int × Int)) : Prop where
  head : Blok w gb 44 #[.slice A n c]
  lst : Lst w w.heap.size 2 A n (flat2 s)
  len : s.length = n
  cap : n ≤ c
  max : c ≤ maxLen
  gbB : B ≤ gb
  own : ∀ ad, A = some ad → B ≤ ad.block
  sep : ∀ ad, A = some ad → ad.block ≠ gb
  ord : sorted s
set_option maxRecDepth 100000 in
theorem rlen_any {w : World} {B gb : Nat} {A : Option Addr} {n c : Nat} {s : List (Int × Int)} (h : RefB w B gb A n c s) :
    Calls Try.prog 17 #[.pointer (some ⟨gb, 0, none⟩)] w fun e w' => e = .returned (.int .i64 s.length) ∧ w = w' := by
  rw [h.len]
  have cb : w.cell? ⟨gb, 0, none⟩ = some (.slice A n c) := h.head.cell 0
  clear h
  go_enter Try.func17, Try.ntmps17
  go_wp2
  go_ret
  exact ⟨rfl, rfl⟩
set_option maxRecDepth 100000 in
theorem rpeek_none {w : World} {B gb : Nat} {A : Option Addr} {n c : Nat} (h : RefB w B gb A n c []) :
    Calls Try.prog 15 #[.pointer (some ⟨gb, 0, none⟩)] w fun e w' => e = .returned (.tuple #[.agg #[.int .i64 0, .int .i64 0], .bool false]) ∧ Below w.heap.size w w' := by
  obtain rfl : n = 0 := h.len.symm
  have cb : w.cell? ⟨gb, 0, none⟩ = some (.slice A 0 c) := h.head.cell 0
  have hl := h.head.lt
  clear h
  go_enter Try.func15, Try.ntmps15
  go_wp2
  exact bodyPost_ret (v := .tuple #[.agg #[.int .i64 0, .int .i64 0], .bool false]) (by simp [results, Try.results15, go_sem]) rfl ⟨rfl, by (repeat (first | exact Below.refl _ _ | refine Below.alloc ?_ (by first | omega | (simp; done) | (simp; omega)) _ | refine Below.setCell ?_ (by first | omega | (simp; done) | (simp; omega)) _ | refine Below.drew ?_))⟩
set_option maxHeartbeats 1000000 in
set_option maxRecDepth 100000 in
theorem rpeek_some {w : World} {B gb : Nat} {A : Option Addr} {n c : Nat} {m : Int × Int} {t : List (Int × Int)} (h : RefB w B gb A n c (m :: t)) (hn : n ≤ 1000000) :
    Calls Try.prog 15 #[.pointer (some ⟨gb, 0, none⟩)] w fun e w' => e = .returned (.tuple #[.agg #[.int .i64 m.1, .int .i64 m.2], .bool true]) ∧ Below w.heap.size w w' := by
  have hl := h.len
  simp only [List.length_cons] at hl
  obtain ⟨ad, rfl, hab, c0, c1⟩ := h.lst.fst2 h.len (k := 0) (by omega)
  rw [Nat.zero_mul, add_zero_] at c0 c1
  replace c0 : w.cell? ad = some (.int .i64 m.1) := c0
  replace c1 : w.cell? ⟨ad.block, ad.off + 1, none⟩ = some (.int .i64 m.2) := c1
  have cb : w.cell? ⟨gb, 0, none⟩ = some (.slice (some ad) n c) := h.head.cell 0
  have hgl := h.head.lt
  have hz : ((n : Int) == 0) = false := beq_eq_false_iff_ne.2 (by omega)
  have hn0 : 0 < n := by omega
  clear h hl
  go_enter Try.func15, Try.ntmps15
  go_wp2
  exact bodyPost_ret (v := .tuple #[.agg #[.int .i64 m.1, .int .i64 m.2], .bool true]) (by simp [results, Try.results15, go_sem]) rfl ⟨rfl, by (repeat (first | exact Below.refl _ _ | refine Below.alloc ?_ (by first | omega | (simp; done) | (simp; omega)) _ | refine Below.setCell ?_ (by first | omega | (simp; done) | (simp; omega)) _ | refine Below.drew ?_))⟩
end Go.Proofs.Ytpmibpclkfidkaa
