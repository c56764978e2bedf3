/- A small case of lines and words. -/
import Derived.Test.YtokheconenkcpaaDoorWLine
import Derived.Test.YtokheconenkcpaaDoorWWords
namespace Go.Proofs.YtokheconenkcpaaDoor
open Go.ChangeShapes Go.WideShapes Go.ChangeAt Go.RowKit Go.Sort
set_option linter.unusedSimpArgs false
set_option linter.unusedVariables false
theorem is_of_own {w w' : World} {base : Nat} {v : Value} {d : List Bytes} (h : w.ownsRow base 9 1 v d.length (vs d)) : ∃ A c, v = .slice A d.length c := by
  obtain ⟨A, c, e⟩ := slice_of_own h
  exact ⟨A, c, e⟩
theorem lines_is (s0 : ByteArray) (d : List Bytes) (n : Nat) (h : linesL s0.data.toList = d) (hn : d.length = n) (w : World) (hm : MaxAt w) (hs : s0.data.toList.length ≤ 100000) :
    Calls Tryd.prog 10 #[.string s0] w fun e w' => ∃ A c, e = .returned (.slice A n c) ∧ w'.ownsRow w.heap.size 9 1 (.slice A n c) n (vs d) ∧ Below w.heap.size w w' := by
  subst h hn
  refine (lines_any s0 _ rfl w hm hs).mono ?_
  rintro e w1 ⟨v, rfl, hv, hb⟩
  obtain ⟨A, c, rfl⟩ := slice_of_own hv
  exact ⟨A, c, rfl, hv, hb⟩
theorem words_is (s0 : ByteArray) (d : List Bytes) (n : Nat) (h : wordsL s0.data.toList = d) (hn : d.length = n) (w : World) (hm : MaxAt w) (hs : s0.data.toList.length ≤ 100000) :
    Calls Tryd.prog 12 #[.string s0] w fun e w' => ∃ A c, e = .returned (.slice A n c) ∧ w'.ownsRow w.heap.size 9 1 (.slice A n c) n (vs d) ∧ Below w.heap.size w w' := by
  subst h hn
  refine (words_any s0 _ rfl w hm hs).mono ?_
  rintro e w1 ⟨v, rfl, hv, hb⟩
  obtain ⟨A, c, rfl⟩ := slice_of_own hv
  exact ⟨A, c, rfl, hv, hb⟩
theorem rlines_is (s0 : ByteArray) (d : List Bytes) (n : Nat) (h : linesL s0.data.toList = d) (hn : d.length = n) (w : World) (hs : s0.data.toList.length ≤ 100000) :
    Calls Tryd.prog 11 #[.string s0] w fun e w' => ∃ A c, e = .returned (.slice A n c) ∧ w'.ownsRow w.heap.size 9 1 (.slice A n c) n (vs d) ∧ Below w.heap.size w w' := by
  subst h hn
  refine (rlines_any s0 _ rfl w hs).mono ?_
  rintro e w1 ⟨v, rfl, hv, hb⟩
  obtain ⟨A, c, rfl⟩ := slice_of_own hv
  exact ⟨A, c, rfl, hv, hb⟩
theorem rwords_is (s0 : ByteArray) (d : List Bytes) (n : Nat) (h : wordsL s0.data.toList = d) (hn : d.length = n) (w : World) (hs : s0.data.toList.length ≤ 100000) :
    Calls Tryd.prog 13 #[.string s0] w fun e w' => ∃ A c, e = .returned (.slice A n c) ∧ w'.ownsRow w.heap.size 9 1 (.slice A n c) n (vs d) ∧ Below w.heap.size w w' := by
  subst h hn
  refine (rwords_any s0 _ rfl w hs).mono ?_
  rintro e w1 ⟨v, rfl, hv, hb⟩
  obtain ⟨A, c, rfl⟩ := slice_of_own hv
  exact ⟨A, c, rfl, hv, hb⟩
theorem line_is (A : Option Addr) (n c : Nat) (d : List Bytes) (r : ByteArray) (hr : bs (lineL d) = r) (w : World) (hd : d.length = n) (hn : n ≤ 1000) (hb : ∀ x ∈ d, x.length ≤ 1000) (h : Sl w w.heap.size 1 A n c (vs d)) :
    Calls Tryd.prog 14 #[.slice A n c] w fun e w' => e = .returned (.string r) ∧ Below w.heap.size w w' := by
  subst hr; exact line_any A n c d w hd hn hb h
theorem rsame_is (A A' : Option Addr) (n c n' c' : Nat) (d d' : List Bytes) (b : Bool) (hb : decide (d = d') = b) (w : World) (hd : d.length = n) (hd' : d'.length = n') (hn : n ≤ 100000) (h : Sl w w.heap.size 1 A n c (vs d)) (h' : Sl w w.heap.size 1 A' n' c' (vs d')) :
    Calls Tryd.prog 9 #[.slice A n c, .slice A' n' c'] w fun e w' => e = .returned (.bool b) ∧ Below w.heap.size w w' := by
  subst hb; exact rsame_any A A' n c n' c' d d' w hd hd' hn h h'
theorem rline_is (A : Option Addr) (n c : Nat) (d : List Bytes) (r : ByteArray) (hr : bs (lineL d) = r) (w : World) (hd : d.length = n) (hn : n ≤ 1000) (hb : ∀ x ∈ d, x.length ≤ 1000) (h : Sl w w.heap.size 1 A n c (vs d)) :
    Calls Tryd.prog 15 #[.slice A n c] w fun e w' => e = .returned (.string r) ∧ Below w.heap.size w w' := by
  subst hr; exact rline_any A n c d w hd hn hb h
theorem fin_len (st : Pcs) : (finS st).length ≤ st.1.length + 1 := by unfold finS; split <;> simp
theorem foldL_len : ∀ (s : Bytes) (o : List Bytes) (cur : Bytes), (s.foldl stL (o, cur)).1.length ≤ o.length + s.length
  | [], o, cur => by simp
  | c :: r, o, cur => by
    rw [List.foldl_cons]
    by_cases h : c = 10
    · subst h; rw [stL_ten]; have := foldL_len r (o ++ [cur]) []; simp at this ⊢; omega
    · rw [stL_other h]; have := foldL_len r o (cur ++ [c]); simp at this ⊢; omega
theorem lines_len (s : Bytes) : (linesL s).length ≤ s.length + 1 := by
  unfold linesL
  have h1 := fin_len (s.foldl stL ([], []))
  have h2 := foldL_len s [] []
  simp at h2
  omega
theorem foldW_len : ∀ (s : Bytes) (o : List Bytes) (cur : Bytes), (s.foldl stW (o, cur)).1.length ≤ o.length + s.length
  | [], o, cur => by simp
  | c :: r, o, cur => by
    rw [List.foldl_cons]
    cases h : blankC c with
    | true =>
      rw [stW_blank h]
      split
      · have := foldW_len r o []; simp at this ⊢; omega
      · have := foldW_len r (o ++ [cur]) []; simp at this ⊢; omega
    | false => rw [stW_other h]; have := foldW_len r o (cur ++ [c]); simp at this ⊢; omega
theorem words_len (s : Bytes) : (wordsL s).length ≤ s.length + 1 := by
  unfold wordsL
  have h1 := fin_len ((hashL s).foldl stW ([], []))
  have h2 := foldW_len (hashL s) [] []
  have h3 := hash_le s
  simp at h2
  omega
set_option maxHeartbeats 4000000 in
set_option maxRecDepth 100000 in
theorem small02 (w : World) (hm : MaxAt w) : Calls Tryd.prog 8 #[] w fun e w' => e = .returned (.bool true) ∧ Below w.heap.size w w' := by
  have hB := Below.refl w.heap.size w
  have hs := Nat.le_refl w.heap.size
  go_enter Tryd.func8, Tryd.ntmps8
  go_wp2_with fail
  refine (lines_is ⟨#[97, 10, 10, 98]⟩ [[97], [], [98]] 3 (by decide) rfl _ hm (by decide)).mono ?_
  rintro e w1 ⟨A1, c1, rfl, h1, hb⟩
  replace hm := hm.below hb
  replace hB := hB.trans (hb.mono hs)
  replace hs := hB.size
  clear hb
  go_wp2_with fail
  have hO := own_lit w1 0 9 1 3 #[.string ⟨#[97]⟩, .string ⟨#[]⟩, .string ⟨#[98]⟩] (by omega) rfl (by simp [maxLen])
  replace h1 := h1.alloc (.cells #[.string ⟨#[97]⟩, .string ⟨#[]⟩, .string ⟨#[98]⟩] 9)
  have hbA : Below w1.heap.size w1 (w1.alloc (.cells #[.string ⟨#[97]⟩, .string ⟨#[]⟩, .string ⟨#[98]⟩] 9)) := by (repeat (first | exact Below.refl _ _ | refine Below.alloc ?_ (by first | omega | (simp; done) | (simp; omega)) _ | refine Below.setCell ?_ (by first | omega | (simp; done) | (simp; omega)) _ | refine Below.drew ?_))
  replace hm := hm.below hbA
  replace hB := hB.trans (hbA.mono hs)
  replace hs := hB.size
  clear hbA
  generalize hW : w1.alloc (.cells #[.string ⟨#[97]⟩, .string ⟨#[]⟩, .string ⟨#[98]⟩] 9) = w2 at *
  clear hW
  refine (rsame_is A1 (some ⟨w1.heap.size, 0, none⟩) 3 c1 3 3 [[97], [], [98]] [[97], [], [98]] true (by decide) w2 rfl rfl (by omega) (Sl.of_own h1) (Sl.of_own hO)).mono ?_
  rintro e w3 ⟨rfl, hb⟩
  replace hm := hm.below hb
  replace hB := hB.trans (hb.mono hs)
  replace hs := hB.size
  clear hb h1 hO
  go_wp2_with fail
  refine (lines_is ⟨#[]⟩ [] 0 (by decide) rfl _ hm (by decide)).mono ?_
  rintro e w4 ⟨A1, c1, rfl, h1, hb⟩
  replace hm := hm.below hb
  replace hB := hB.trans (hb.mono hs)
  replace hs := hB.size
  clear hb
  go_wp2_with fail
  refine (lines_is ⟨#[10]⟩ [[]] 1 (by decide) rfl _ hm (by decide)).mono ?_
  rintro e w5 ⟨A1, c1, rfl, h1, hb⟩
  replace hm := hm.below hb
  replace hB := hB.trans (hb.mono hs)
  replace hs := hB.size
  clear hb
  go_wp2_with fail
  have hO := own_lit w5 0 9 1 1 #[.string ⟨#[]⟩] (by omega) rfl (by simp [maxLen])
  replace h1 := h1.alloc (.cells #[.string ⟨#[]⟩] 9)
  have hbA : Below w5.heap.size w5 (w5.alloc (.cells #[.string ⟨#[]⟩] 9)) := by (repeat (first | exact Below.refl _ _ | refine Below.alloc ?_ (by first | omega | (simp; done) | (simp; omega)) _ | refine Below.setCell ?_ (by first | omega | (simp; done) | (simp; omega)) _ | refine Below.drew ?_))
  replace hm := hm.below hbA
  replace hB := hB.trans (hbA.mono hs)
  replace hs := hB.size
  clear hbA
  generalize hW : w5.alloc (.cells #[.string ⟨#[]⟩] 9) = w6 at *
  clear hW
  refine (rsame_is A1 (some ⟨w5.heap.size, 0, none⟩) 1 c1 1 1 [[]] [[]] true (by decide) w6 rfl rfl (by omega) (Sl.of_own h1) (Sl.of_own hO)).mono ?_
  rintro e w7 ⟨rfl, hb⟩
  replace hm := hm.below hb
  replace hB := hB.trans (hb.mono hs)
  replace hs := hB.size
  clear hb h1 hO
  go_wp2_with fail
  refine (words_is ⟨#[9, 97, 32, 32, 99, 111, 110, 116, 97, 99, 116, 13, 35, 32, 120, 32, 35, 32, 121]⟩ [[97], [99, 111, 110, 116, 97, 99, 116]] 2 (by decide) rfl _ hm (by decide)).mono ?_
  rintro e w8 ⟨A1, c1, rfl, h1, hb⟩
  replace hm := hm.below hb
  replace hB := hB.trans (hb.mono hs)
  replace hs := hB.size
  clear hb
  go_wp2_with fail
  have hO := own_lit w8 0 9 1 2 #[.string ⟨#[97]⟩, .string ⟨#[99, 111, 110, 116, 97, 99, 116]⟩] (by omega) rfl (by simp [maxLen])
  replace h1 := h1.alloc (.cells #[.string ⟨#[97]⟩, .string ⟨#[99, 111, 110, 116, 97, 99, 116]⟩] 9)
  have hbA : Below w8.heap.size w8 (w8.alloc (.cells #[.string ⟨#[97]⟩, .string ⟨#[99, 111, 110, 116, 97, 99, 116]⟩] 9)) := by (repeat (first | exact Below.refl _ _ | refine Below.alloc ?_ (by first | omega | (simp; done) | (simp; omega)) _ | refine Below.setCell ?_ (by first | omega | (simp; done) | (simp; omega)) _ | refine Below.drew ?_))
  replace hm := hm.below hbA
  replace hB := hB.trans (hbA.mono hs)
  replace hs := hB.size
  clear hbA
  generalize hW : w8.alloc (.cells #[.string ⟨#[97]⟩, .string ⟨#[99, 111, 110, 116, 97, 99, 116]⟩] 9) = w9 at *
  clear hW
  refine (rsame_is A1 (some ⟨w8.heap.size, 0, none⟩) 2 c1 2 2 [[97], [99, 111, 110, 116, 97, 99, 116]] [[97], [99, 111, 110, 116, 97, 99, 116]] true (by decide) w9 rfl rfl (by omega) (Sl.of_own h1) (Sl.of_own hO)).mono ?_
  rintro e w10 ⟨rfl, hb⟩
  replace hm := hm.below hb
  replace hB := hB.trans (hb.mono hs)
  replace hs := hB.size
  clear hb h1 hO
  go_wp2_with fail
  refine (words_is ⟨#[35, 32, 97]⟩ [] 0 (by decide) rfl _ hm (by decide)).mono ?_
  rintro e w11 ⟨A1, c1, rfl, h1, hb⟩
  replace hm := hm.below hb
  replace hB := hB.trans (hb.mono hs)
  replace hs := hB.size
  clear hb
  go_wp2_with fail
  have hO := own_lit w11 0 9 1 2 #[.string ⟨#[97]⟩, .string ⟨#[98]⟩] (by omega) rfl (by simp [maxLen])
  have hbA : Below w11.heap.size w11 (w11.alloc (.cells #[.string ⟨#[97]⟩, .string ⟨#[98]⟩] 9)) := by (repeat (first | exact Below.refl _ _ | refine Below.alloc ?_ (by first | omega | (simp; done) | (simp; omega)) _ | refine Below.setCell ?_ (by first | omega | (simp; done) | (simp; omega)) _ | refine Below.drew ?_))
  replace hm := hm.below hbA
  replace hB := hB.trans (hbA.mono hs)
  replace hs := hB.size
  clear hbA
  generalize hW : w11.alloc (.cells #[.string ⟨#[97]⟩, .string ⟨#[98]⟩] 9) = wl at *
  clear hW
  refine (line_is (some ⟨w11.heap.size, 0, none⟩) 2 2 [[97], [98]] ⟨#[97, 32, 98, 10]⟩ rfl wl rfl (by omega) (by decide) (Sl.of_own hO)).mono ?_
  rintro e wm ⟨rfl, hb⟩
  replace hm := hm.below hb
  replace hB := hB.trans (hb.mono hs)
  replace hs := hB.size
  clear hb hO
  go_wp2_with fail
  refine (line_is none 0 0 [] ⟨#[10]⟩ rfl wm rfl (by omega) (by simp) (Sl.nil0 _ _ _)).mono ?_
  rintro e wn ⟨rfl, hb⟩
  replace hm := hm.below hb
  replace hB := hB.trans (hb.mono hs)
  replace hs := hB.size
  clear hb
  go_wp2_with fail
  go_ret
  exact ⟨rfl, hB⟩
end Go.Proofs.YtokheconenkcpaaDoor
