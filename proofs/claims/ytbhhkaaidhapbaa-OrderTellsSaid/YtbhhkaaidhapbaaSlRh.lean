/- The generic library's functions at routes' heads: Clone, Grow, Concat. No condition but on sizes. -/
import Derived.Test.YtbhhkaaidhapbaaTyRh
namespace Go.Proofs.Ytbhhkaaidhapbaa
open Go.ChangeShapes Go.WideShapes Go.ChangeAt Go.RowKit Go.Sort
set_option linter.unusedSimpArgs false
set_option linter.unusedVariables false
set_option maxRecDepth 100000 in
theorem cloneRh (A : Option Addr) (n c : Nat) (d : List Rh) (w : World) (hd : d.length = n) (hn : n ≤ 1000000) (h : Sl w w.heap.size 2 A n c (flatRh d)) :
    Calls Try.prog 34 #[.slice A n c] w fun e w' => ∃ v, e = .returned v ∧ w'.ownsRow w.heap.size 25 2 v n (flatRh d) ∧ Below w.heap.size w w' := by
  obtain ⟨i0, hi0, hz0, hz1, hz2⟩ := info_parts infoRh
  have hsl := fun (w : World) (a : Option Addr) (l c : Nat) => run_eql_slice_nil (P := Try.prog) w 22 25 a l c Try.underlying22
  cases A with
  | none =>
    obtain rfl : c = 0 := h.nil rfl
    obtain rfl : n = 0 := by have := h.cap; omega
    obtain rfl : d = [] := List.eq_nil_of_length_eq_zero hd
    go_enter Try.func34, Try.ntmps34
    go_wp2
    go_ret
    exact ⟨_, rfl, World.ownsRow_nil _ _ _ _, Below.refl _ _⟩
  | some ad =>
    go_enter Try.func34, Try.ntmps34
    go_wp2_with (first
      | (at_builtin
         refine wpList_append_lst _ rfl (.tmp 5) (.tmp 6) 22 rfl w.heap.size 25 i0 _ 2 32 Try.underlying22 hi0 hz0 hz1 hz2 rfl (by decide) (.slice (some ⟨w.heap.size, 0, none⟩) 0 0) 0 [] rfl (World.ownsRow_made w #[] 0 (Nat.le_refl _) (by simp) (by simp)) w.heap.size (some ad) n c (flatRh d) rfl (h.lst.below ((Below.refl _ _).alloc (Nat.le_refl _) _)) (flatRh_one _) (by unfold maxLen; omega) (by omega) (by simp) ?_
         intro v1 w1 hown hg hat))
    go_ret
    refine ⟨_, rfl, by simpa using hown, Below.grown ((Below.refl _ _).alloc (Nat.le_refl _) _) hg (by simp) (fun k hk => ?_)⟩
    simp [Value.ownBlock] at hk
    omega
set_option maxRecDepth 100000 in
theorem growRh (n : Nat) (w : World) (hn : n ≤ 1000000) :
    Calls Try.prog 37 #[.slice none 0 0, .int .i64 n] w fun e w' => ∃ v, e = .returned v ∧ w'.ownsRow w.heap.size 25 2 v 0 [] ∧ Below w.heap.size w w' := by
  obtain ⟨i0, hi0, hz0, hz1, hz2⟩ := info_parts infoRh
  by_cases h0 : n = 0
  · subst h0
    go_enter Try.func37, Try.ntmps37
    go_wp2
    go_ret
    exact ⟨_, rfl, World.ownsRow_nil _ _ _ _, Below.refl _ _⟩
  · have hp : 0 < n := by omega
    have hpi : (0 : Int) < (n : Int) := by omega
    go_enter Try.func37, Try.ntmps37
    go_wp2_with (first
      | (at_builtin
         refine wpList_append_made rfl (.tmp 20) (.tmp 21) 22 3 rfl 25 i0 _ 2 Try.underlying22 Try.underlying3 hi0 hz0 hz1 rfl n rfl rfl hp (by decide) (by omega) (by rw [hz2]; omega) ?_
         intro c1 w1 hown hB hc1))
    go_ret
    exact ⟨_, rfl, hown, hB⟩
/-- Lists, one behind the other. -/
def catRh (d : Nat → List Rh) : Nat → List Rh
  | 0 => []
  | k + 1 => catRh d k ++ d k
theorem catRh_le (d : Nat → List Rh) : ∀ {k m : Nat}, k ≤ m → (catRh d k).length ≤ (catRh d m).length
  | k, 0, h => by
    obtain rfl : k = 0 := by omega
    exact Nat.le_refl _
  | k, m + 1, h => by
    by_cases e : k = m + 1
    · subst e; exact Nat.le_refl _
    · have := catRh_le d (k := k) (m := m) (by omega)
      simp only [catRh, List.length_append]
      omega
set_option maxHeartbeats 1000000 in
set_option maxRecDepth 100000 in
theorem concatRh (gO m cO : Nat) (A : Nat → Option Addr) (n c : Nat → Nat) (d : Nat → List Rh) (w : World) (hm : m ≤ 1000) (hd : ∀ k, k < m → (d k).length = n k) (hn : (catRh d m).length ≤ 1000000) (hO : ∀ k, k < m → w.cell? ⟨gO, k, none⟩ = some (.slice (A k) (n k) (c k))) (h : ∀ k, k < m → Sl w w.heap.size 2 (A k) (n k) (c k) (flatRh (d k))) :
    Calls Try.prog 27 #[.slice (some ⟨gO, 0, none⟩) m cO] w fun e w' => ∃ v, e = .returned v ∧ w'.ownsRow w.heap.size 25 2 v (catRh d m).length (flatRh (catRh d m)) ∧ Below w.heap.size w w' := by
  obtain ⟨i0, hi0, hz0, hz1, hz2⟩ := info_parts infoRh
  have HO := Lib.hid hO
  have HD := Lib.hid hd
  clear hO hd
  go_enter Try.func27, Try.ntmps27
  go_wp2
  go_loop [3, 11] (fun s i => ∃ k : Nat, k ≤ m ∧ i = .int .i64 k ∧ s = .int .i64 (catRh d k).length) (fun _ i => m - (intOf i).toNat)
  case atStart => exact ⟨0, by omega, rfl, rfl⟩
  case round =>
    obtain ⟨k, hk, rfl, rfl⟩ := hrel
    have hle := catRh_le d hk
    by_cases hkm : k < m
    · have hle2 := catRh_le d (k := k + 1) (m := m) (by omega)
      have hO := HO.out k hkm
      have hlk : (catRh d (k + 1)).length = (catRh d k).length + n k := by simp only [catRh, List.length_append, HD.out k hkm]
      have HLK := Lib.hid hlk
      have hnk : n k ≤ 1000000 := by omega
      generalize hL : (catRh d k).length = L at *
      have HL := Lib.hid hL
      clear hlk hL
      go_wp2
      go_round
      case rel => exact ⟨k + 1, by omega, by go_num, by rw [HLK.out]; go_num⟩
      case measure => simp [intOf]; omega
    · obtain rfl : k = m := by omega
      generalize hL : (catRh d k).length = L at *
      have HL := Lib.hid hL
      clear hL
      go_wp2_with fail
      refine (growRh L w (by omega)).mono ?_
      rintro e w1 ⟨v, rfl, hown, hB⟩
      obtain ⟨A1, c1, rfl⟩ := slice_of_own hown
      go_wp2
      go_loopw [6, 27] (fun vv i wr => ∃ (q : Nat), q ≤ k ∧ i = .int .i64 q ∧ Below w.heap.size w wr ∧ wr.ownsRow w.heap.size 25 2 vv (catRh d q).length (flatRh (catRh d q))) (fun _ i _ => k - (intOf i).toNat)
      case atStart => exact ⟨0, by omega, rfl, hB, hown⟩
      case round =>
        clear hown hB
        rename Value => v0
        obtain ⟨q, hq, rfl, hB, hown⟩ := hrel
        have hle := catRh_le d hq
        by_cases hqk : q < k
        · have hO : _ := HO.out q hqk
          have hOw : ∀ wx, Below w.heap.size w wx → wx.cell? ⟨gO, q, none⟩ = some (.slice (A q) (n q) (c q)) := fun wx hb => by
            rw [hb.cell (World.block_lt_of_cell? w _ hO)]; exact hO
          have hOr := hOw _ hB
          have hle2 := catRh_le d (k := q + 1) (m := k) (by omega)
          have hlk : (catRh d (q + 1)).length = (catRh d q).length + n q := by simp only [catRh, List.length_append, HD.out q hqk]
          have hnq : (catRh d q).length + n q ≤ 1000000 := by have := HL.out; omega
          have HLK := Lib.hid hlk
          have hs := (h q hqk).below hB
          clear hlk hO hOw
          obtain ⟨A2, c2, rfl⟩ := slice_of_own hown
          have hob : ∀ g, (Value.slice A2 (catRh d q).length c2).ownBlock = some g → w.heap.size ≤ g := fun g hg => (hown.lt g hg).1
          have hsB := hB.size
          generalize hLq : (catRh d q).length = Lq at *
          generalize hNq : n q = Nq at *
          generalize hAq : A q = Aq at *
          generalize hcq : c q = cq at *
          have HAll := Lib.hid (And.intro hLq (And.intro hNq (And.intro hAq hcq)))
          clear hLq hNq hAq hcq
          go_wp2_with (first
            | (at_builtin
               refine wpList_append_lst _ rfl (.tmp 31) (.tmp 32) 22 rfl w.heap.size 25 i0 _ 2 32 Try.underlying22 hi0 hz0 hz1 hz2 rfl (by decide) (.slice A2 Lq c2) Lq (flatRh (catRh d q)) rfl hown w.heap.size Aq Nq cq (flatRh (d q)) rfl hs.lst (flatRh_one _) (by unfold maxLen; omega) (by omega) hsB ?_
               intro v4 w4 hown4 hg4 hat4))
          have hB4 : Below w.heap.size w w4 := Below.grown hB hg4 hsB hob
          have hown5 : w4.ownsRow w.heap.size 25 2 v4 (catRh d (q + 1)).length (flatRh (catRh d (q + 1))) := by
            rw [HLK.out]
            simp only [catRh, flatRh_append]
            exact hown4
          clear hown hown4 hg4 hat4 hOr hs hob hB
          go_wp2
          go_roundw
          case rel => exact ⟨q + 1, by omega, by go_num, hB4, hown5⟩
          case measure => simp [intOf]; omega
        · obtain rfl : q = k := by omega
          obtain ⟨A2, c2, rfl⟩ := slice_of_own hown
          go_wp2
          go_ret
          exact ⟨_, rfl, hown, hB⟩
end Go.Proofs.Ytbhhkaaidhapbaa
