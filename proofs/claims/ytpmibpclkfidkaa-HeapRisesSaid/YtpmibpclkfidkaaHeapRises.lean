/- What is popped, until there is none, rises, and is what was laid, each as often: HeapRises returns true for every list. No condition. -/
import Derived.Test.YtpmibpclkfidkaaRows
import Derived.Test.YtpmibpclkfidkaaHeapOrder
namespace Go.Proofs.Ytpmibpclkfidkaa
open Go.ChangeShapes Go.WideShapes Go.ChangeAt Go.RowKit Go.Sort Hp
set_option linter.unusedSimpArgs false
set_option linter.unusedVariables false
/-- What has been popped, o, and what is left, r, behind j rounds. -/
structure Popped (l o r : List Rd) (n j : Nat) : Prop where
  perm : (o ++ r).Perm l
  low : ∀ x ∈ o, ∀ y ∈ r, ahd y x = false
  olen : o.length = j
  rlen : r.length = n - j
theorem Popped.next {l o r : List Rd} {n j : Nat} {m : Rd} (h : Popped l o r n j) (hj : j < n) (hm : IsLeast m r) : Popped l (o ++ [m]) (r.erase m) n (j + 1) := by
  refine ⟨?_, fun x hx y hy => ?_, by simp [h.olen], ?_⟩
  · refine List.Perm.trans ?_ h.perm
    rw [List.append_assoc]
    exact List.Perm.append_left o (List.perm_cons_erase hm.1).symm
  · have hy' := List.mem_of_mem_erase hy
    rcases List.mem_append.1 hx with hx | hx
    · exact h.low x hx y hy'
    · simp at hx; subst hx; exact hm.2 y hy'
  · rw [List.length_erase_of_mem hm.1, h.rlen]; omega
theorem Popped.last {l o r : List Rd} {n j : Nat} {m : Rd} (h : Popped l o r n j) (hm : IsLeast m r) (hj : 0 < j) : ahd m (gt o (j - 1)) = false :=
  h.low _ (gt_mem (by rw [h.olen]; omega)) m hm.1
/-- The heap and what was popped into a row of the call's own. -/
def PopW (w wr : World) (M hb : Nat) (ov : Option Nat) (l : List Rd) (n j : Nat) (A : Option Addr) (vo : Value) : Prop :=
  ∃ v d o r, HeapB wr w.heap.size hb v d r ∧ v.ownBlock = ov ∧ wr.ownsRow M 30 2 vo j (flat2 o) ∧ Popped l o r n j ∧ Below w.heap.size w wr ∧ M ≤ wr.heap.size ∧ Lst wr w.heap.size 2 A n (flat2 l)
/-- All has been popped into a row of the call's own. -/
def DoneW (w wr : World) (M hb : Nat) (l : List Rd) (n : Nat) (A : Option Addr) (vo v : Value) (d o : List Rd) : Prop :=
  HeapB wr w.heap.size hb v d [] ∧ wr.ownsRow M 30 2 vo n (flat2 o) ∧ Below w.heap.size w wr ∧ M ≤ wr.heap.size ∧ Lst wr w.heap.size 2 A n (flat2 l)
theorem DoneW.below {w wr wx : World} {M hb : Nat} {l : List Rd} {n : Nat} {A : Option Addr} {vo v : Value} {d o : List Rd} (h : DoneW w wr M hb l n A vo v d o) (hb' : Below wr.heap.size wr wx) : DoneW w wx M hb l n A vo v d o := by
  obtain ⟨h1, h2, h3, h4, h5⟩ := h
  refine ⟨h1.below hb', h2.kept (grown_of_below (row := some wr.heap.size) hb') (.inr (fun e => by have := (h2.lt _ e).2; omega)), h3.trans (hb'.mono h3.size), Nat.le_trans h4 hb'.size, h5.below (hb'.mono h3.size)⟩
def cnt (l o : List Rd) (k : Nat) (x : Rd) : Int := ((l.take k).count x : Int) - ((o.take k).count x : Int)
theorem cnt_next {l o : List Rd} {k : Nat} (x : Rd) (h1 : k < l.length) (h2 : k < o.length) : cnt l o (k + 1) x = cnt l o k x + (if gt l k == x then 1 else 0) - (if gt o k == x then 1 else 0) := by
  unfold cnt
  rw [take_next h1, take_next h2, List.count_append, List.count_append, List.count_singleton, List.count_singleton]
  simp only [beq_iff_eq]
  split <;> split <;> simp <;> omega
theorem cnt_bound (l o : List Rd) (k : Nat) (x : Rd) : -(k : Int) ≤ cnt l o k x ∧ cnt l o k x ≤ k := by
  unfold cnt
  have h1 := List.count_le_length (a := x) (l := l.take k)
  have h2 := List.count_le_length (a := x) (l := o.take k)
  rw [List.length_take] at h1 h2
  omega
theorem cnt_end {l o : List Rd} (x : Rd) (h : o.Perm l) : cnt l o l.length x = 0 := by
  unfold cnt
  rw [List.take_length, ← h.length_eq, List.take_length, h.count_eq]
  omega
set_option maxHeartbeats 8000000 in
set_option maxRecDepth 100000 in
theorem heapRises_walk (A : Option Addr) (n c : Nat) (ns : List Int) (hnc : n ≤ c) (hcm : c ≤ maxLen) (hnl : ns.length = n * 2) (hw : ∀ m ∈ ns, (Lit.int .i64 m).wf = true) (w : World) (hl : Lst w w.heap.size 2 A n (ns.map (Value.int .i64))) :
    Calls Try.prog 4 #[.slice A n c] w fun e w' => e = .returned (.bool true) ∧ Below w.heap.size w w' := by
  clear hw
  obtain ⟨l, hln, hlf⟩ := pairs_of n ns hnl
  rw [hlf] at hl
  clear hlf hnl
  unfold maxLen at hcm
  by_cases hn : 100 < n
  · go_enter Try.func4, Try.ntmps4
    go_wp2_with fail
    refine (small14 _).mono ?_
    rintro e w1 ⟨rfl, hB⟩
    go_wp2
    go_ret
    exact ⟨rfl, by (repeat (first | exact Below.refl _ _ | exact hB | refine Below.alloc ?_ (by first | omega | (simp; done) | (simp; omega)) _ | refine Below.setCell ?_ (by first | omega | (simp; done) | (simp; omega)) _ | refine Below.drew ?_ | refine Below.trans ?_ (hB.mono (by first | omega | (simp; done) | (simp; omega)))))⟩
  · obtain ⟨i0, hi0, hz0, hz1, hz2⟩ := info_parts ready_info
    have hn1 : n ≤ 100 := by omega
    clear hn
    go_enter Try.func4, Try.ntmps4
    go_wp2_with fail
    refine (small14 _).mono ?_
    rintro e w1 ⟨rfl, hB⟩
    have hs := hB.size
    go_wp2_with fail
    refine (new_any none 0 0 [] w1 rfl (by omega) ⟨by simp [flat2], fun h => by omega⟩).mono ?_
    rintro e w2 ⟨hb, v, d, rfl, hH, hb2⟩
    have hs2 := hb2.size
    replace hB := hB.trans (hb2.mono hs)
    replace hH := hH.up (B := w.heap.size) hs
    have hhb := hH.hb
    clear hb2
    have HLN := Lib.hid hln
    clear hln
    have hJ : ∃ v d, HeapB w2 w.heap.size hb v d (l.take 0) := ⟨v, d, by simpa using hH⟩
    have HJ := Lib.hid hJ
    clear hJ hH
    go_wp2
    go_loopw [5] (fun i wr => ∃ k : Nat, k ≤ n ∧ i = .int .i64 k ∧ Hid (∃ v d, HeapB wr w.heap.size hb v d (l.take k)) ∧ Below w.heap.size w wr) (fun i _ => n - (intOf i).toNat)
    case atStart => exact ⟨0, by omega, rfl, HJ, hB⟩
    case round =>
      clear HJ hB
      obtain ⟨k, hk, rfl, HJ, hB⟩ := hrel
      have hs3 := hB.size
      by_cases hkn : k < n
      · obtain ⟨v, d, hH⟩ := HJ.out
        obtain ⟨ad, rfl, hab, c0, c1⟩ := (hl.below hB).fst2 HLN.out hkn
        clear HJ
        go_wp2_with fail
        refine (pushC hH hs3 (gt l k) (by rw [List.length_take]; omega)).mono ?_
        rintro e w4 ⟨rfl, v', d', hH2, ho, hK⟩
        have hB2 := hK.below_of hB hs3 (fun i hi h => by
          rcases h with h | h
          · omega
          · have := hH.own _ h; omega)
        rw [← take_next (by have := HLN.out; omega)] at hH2
        have HJ2 : Hid (∃ v d, HeapB w4 w.heap.size hb v d (l.take (k + 1))) := ⟨v', d', hH2⟩
        clear hH2 ho hK hH c0 c1
        go_wp2
        go_roundw
        case rel => exact ⟨k + 1, by omega, by go_num, HJ2, hB2⟩
        case measure => simp [intOf]; omega
      · obtain rfl : k = n := by omega
        obtain ⟨v, d, hH⟩ := HJ.out
        rw [List.take_of_length_le (by have := HLN.out; omega)] at hH
        have hhb2 := hH.at_.head.lt
        have HSV : Hid (∀ k, v.ownBlock = some k → w.heap.size ≤ k ∧ k < wr.heap.size) := fun k hk => ⟨hH.own k hk, hH.ownlt k hk⟩
        have HP0 : Hid (PopW w wr wr.heap.size hb v.ownBlock l k 0 A (.slice none 0 0)) := ⟨v, d, [], l, hH, rfl, World.ownsRow_nil _ _ _ _, ⟨List.Perm.refl _, by simp, rfl, by have := HLN.out; omega⟩, hB, Nat.le_refl _, hl.below hB⟩
        clear HJ hH
        generalize v.ownBlock = ov at *
        generalize wr.heap.size = M at *
        go_wp2
        go_loopw [6, 7] (fun vo i wr => ∃ j : Nat, j ≤ k ∧ i = .int .i64 j ∧ Hid (PopW w wr M hb ov l k j A vo)) (fun _ i _ => k - (intOf i).toNat)
        case atStart => exact ⟨0, by omega, rfl, HP0⟩
        case round =>
          clear HP0 hB
          obtain ⟨j, hj, rfl, HP⟩ := hrel
          by_cases hjk : j < k
          · obtain ⟨v, d, o, r, hH, hov, hown, hP, hB, hM, hL⟩ := HP.out
            clear HP
            obtain ⟨m, hm⟩ := least_ex r (by intro e; have := hP.rlen; subst e; simp at this; omega)
            have hr : r.length ≤ 1000000 := by have := hP.rlen; omega
            have hNx := hP.next hjk hm
            have hLast := hP.last hm
            have hol := hP.olen
            have HOV := Lib.hid hov
            have HOL := Lib.hid hol
            have HNX := Lib.hid hNx
            have HLA := Lib.hid hLast
            have hsB := hB.size
            obtain ⟨Ao, co, rfl⟩ := slice_of_own hown
            have hob : ∀ q, (Value.slice Ao j co).ownBlock = some q → M ≤ q ∧ q < wr.heap.size := fun q hq => hown.lt q hq
            clear hov hol hNx hLast hP
            go_wp2_with fail
            refine (popC hH hm hr).mono ?_
            rintro e w5 ⟨rfl, v', d', hH2, ho, hK⟩
            have hnS : ∀ q, M ≤ q → ¬ (q = hb ∨ v.ownBlock = some q) := fun q hq h => by
              rcases h with h | h
              · omega
              · rw [HOV.out] at h; have := HSV.out _ h; omega
            replace hown := hK.owns hown (fun q hq => hnS q (hob q hq).1)
            replace hB := hK.below_of hB hsB (fun q hq h => by
              rcases h with h | h
              · have := hH.hb; omega
              · have := hH.own _ h; omega)
            replace hL := hL.keptS hK hsB (fun q hq h => by
              rcases h with h | h
              · have := hH.hb; omega
              · have := hH.own _ h; omega)
            have HOV' := Lib.hid (ho.trans HOV.out)
            have hg5 := hK.size
            obtain ⟨mn, ma⟩ := m
            clear hK hH ho hm hob hr hnS
            have hR8 := Blok.new w5 30 #[.int .i64 mn, .int .i64 ma]
            have hBa : Below w5.heap.size w5 (w5.alloc (.cells #[.int .i64 mn, .int .i64 ma] 30)) := (Below.refl _ _).alloc (Nat.le_refl _) _
            replace hH2 := hH2.below hBa
            replace hown := hown.alloc (.cells #[.int .i64 mn, .int .i64 ma] 30)
            replace hB := hB.trans (hBa.mono (by omega))
            replace hL := hL.below (hBa.mono (by omega))
            have hz8 : w5.heap.size < (w5.alloc (.cells #[.int .i64 mn, .int .i64 ma] 30)).heap.size := by simp
            clear hBa
            have hsx : w.heap.size ≤ (w5.alloc (.cells #[.int .i64 mn, .int .i64 ma] 30)).heap.size := by simp; omega
            have hMx : M ≤ (w5.alloc (.cells #[.int .i64 mn, .int .i64 ma] 30)).heap.size := by simp; omega
            go_wp2_with fail
            generalize w5.alloc (.cells #[.int .i64 mn, .int .i64 ma] 30) = wx at *
            generalize w5.heap.size = b8 at *
            have hcase : j = 0 ∨ ∃ p, j = p + 1 := by cases j with | zero => exact .inl rfl | succ p => exact .inr ⟨p, rfl⟩
            rcases hcase with rfl | ⟨p, rfl⟩
            · have hd0 : decide (((0 : Nat) : Int) > 0) = false := by simp
              go_wp2_with fail
              have r8a : wx.cell? ⟨b8, 0, none⟩ = some (.int .i64 mn) := hR8.cell 0
              have r8b : wx.cell? ⟨b8, 1, none⟩ = some (.int .i64 ma) := hR8.cell 1
              have q_r8a := fun d os => cell_regrown r8a d os
              have q_r8b := fun d os => cell_regrown r8b d os
              try simp only [List.append]
              first | refine wp_region_text_below ?_ | refine wp_region_quiet_below (by kernel_rfl) (by kernel_rfl) ?_
              repeat (go_big_quiet_step ((fail)))
              refine wpQuiet_nil ?_
              intro _ hqw
              obtain ⟨pq, hqw⟩ := hqw
              subst hqw
              clear q_r8a q_r8b
              clear r8a r8b
              have hbel := below_regrown wx pq.d pq.os
              replace hH2 := hH2.below hbel
              replace hR8 := hR8.below hbel hR8.lt
              replace hown := hown.kept (grown_of_below (row := some wx.heap.size) hbel) (.inr (fun e => by have := (hown.lt _ e).2; omega))
              replace hB := hB.trans (hbel.mono hsx)
              replace hL := hL.below (hbel.mono hsx)
              have hzq := hbel.size
              generalize grow (redrawn wx pq.d) pq.os = wq at *
              clear hbel
              have r8a : wq.cell? ⟨b8, 0, none⟩ = some (.int .i64 mn) := hR8.cell 0
              have r8b : wq.cell? ⟨b8, 1, none⟩ = some (.int .i64 ma) := hR8.cell 1
              have l8 := hR8.lt
              have hob : ∀ q, (Value.slice Ao 0 co).ownBlock = some q → M ≤ q := fun q hq => (hown.lt q hq).1
              go_wp2_with (first
                | (at_builtin
                   refine wpList_append_own _ rfl (.tmp 85) (.tmp 87) 22 rfl M 30 i0 _ 2 16 Try.underlying22 hi0 hz0 hz1 hz2 rfl (by decide) (Value.slice Ao 0 co) 0 (flat2 o) rfl (hown.alloc _) ⟨wq.heap.size, 0, none⟩ 1 1 [.int .i64 mn, .int .i64 ma] rfl rfl (by exact lit_cells wq #[.int .i64 mn, .int .i64 ma] _ _ rfl) (by simp [Value.oneCell']) (by unfold maxLen; omega) (by omega) (by simp; omega) ?_
                   intro v9 w9 hown9 hg9 hx9
                   clear hx9))
              have hHn : HeapB w9 w.heap.size hb v' d' (r.erase (mn, ma)) := (hH2.below (w' := wq.alloc (.cells #[.int .i64 mn, .int .i64 ma] 30)) ((Below.refl _ _).alloc (Nat.le_refl _) _)).keptS (Kept.of_grown (S := fun q => M ≤ q) hg9 (fun q hq _ => hob q hq)) (by omega) (fun q hq h => by rw [HOV'.out] at hq; have := HSV.out _ hq; omega)
              have hg9s := hg9.size
              simp only [World.size_alloc] at hg9s
              have hJn : Hid (PopW w w9 M hb ov l k (0 + 1) A v9) := by
                refine ⟨v', d', o ++ [(mn, ma)], _, hHn, HOV'.out, ?_, HNX.out, ?_, by omega, ?_⟩
                · rw [flat2_append]; exact hown9
                · exact (hB.alloc (by omega) _).grown hg9 (by simp; omega) (fun q hq => by have := hob q hq; omega)
                · exact (hL.below (w' := wq.alloc (.cells #[.int .i64 mn, .int .i64 ma] 30)) ((Below.refl _ _).alloc (by omega) _)).grown hg9 (by simp; omega) (fun q hq => by have := hob q hq; omega)
              clear hHn hown9 hg9 hown hH2 hR8 hB hL r8a r8b
              go_wp2
              go_roundw
              case rel => exact ⟨0 + 1, by omega, by go_num, hJn⟩
              case measure => simp [intOf]; omega
            · have hd0 : decide (((p + 1 : Nat) : Int) > 0) = true := decide_eq_true (by omega)
              have hla := HLA.out (by omega)
              rw [Nat.add_sub_cancel] at hla
              obtain ⟨pp, hpp⟩ : ∃ pp, gt o p = pp := ⟨_, rfl⟩
              obtain ⟨pn, pa⟩ := pp
              rw [hpp] at hla
              have hla2 : ¬ (ma < pa ∨ ma = pa ∧ mn < pn) := ahd_no.1 hla
              obtain ⟨og, oc, hoe, hoc⟩ := own_pos hown (by omega)
              simp only [Value.slice.injEq, true_and] at hoe
              obtain ⟨rfl, rfl⟩ := hoe
              have o0 : wx.cell? ⟨og, p * 2, none⟩ = some (.int .i64 pn) := by
                rw [hown.cellAt (p * 2) (by omega), flat2_fst o p (by have := HOL.out; omega)]
                show some (Value.int .i64 (gt o p).1) = _
                rw [hpp]
              have o1 : wx.cell? ⟨og, p * 2 + 1, none⟩ = some (.int .i64 pa) := by
                rw [hown.cellAt (p * 2 + 1) (by omega), flat2_snd o p (by have := HOL.out; omega)]
                show some (Value.int .i64 (gt o p).2) = _
                rw [hpp]
              have hla3 : pa < ma ∨ (ma = pa ∧ pn ≤ mn) := by omega
              clear hla hla2 hpp
              rcases hla3 with hlt | ⟨rfl, hle⟩
              · have hd1 : decide (ma < pa) = false := by simp; omega
                have hd2 : (ma == pa) = false := by simp; omega
                go_wp2_with fail
                have r8a : wx.cell? ⟨b8, 0, none⟩ = some (.int .i64 mn) := hR8.cell 0
                have r8b : wx.cell? ⟨b8, 1, none⟩ = some (.int .i64 ma) := hR8.cell 1
                have q_r8a := fun d os => cell_regrown r8a d os
                have q_r8b := fun d os => cell_regrown r8b d os
                have q_o0 := fun d os => cell_regrown o0 d os
                have q_o1 := fun d os => cell_regrown o1 d os
                try simp only [List.append]
                first | refine wp_region_text_below ?_ | refine wp_region_quiet_below (by kernel_rfl) (by kernel_rfl) ?_
                repeat (go_big_quiet_step ((fail)))
                refine wpQuiet_nil ?_
                intro _ hqw
                obtain ⟨pq, hqw⟩ := hqw
                subst hqw
                clear q_r8a q_r8b q_o0 q_o1
                clear r8a r8b o0 o1
                have hbel := below_regrown wx pq.d pq.os
                replace hH2 := hH2.below hbel
                replace hR8 := hR8.below hbel hR8.lt
                replace hown := hown.kept (grown_of_below (row := some wx.heap.size) hbel) (.inr (fun e => by have := (hown.lt _ e).2; omega))
                replace hB := hB.trans (hbel.mono hsx)
                replace hL := hL.below (hbel.mono hsx)
                have hzq := hbel.size
                generalize grow (redrawn wx pq.d) pq.os = wq at *
                clear hbel
                have r8a : wq.cell? ⟨b8, 0, none⟩ = some (.int .i64 mn) := hR8.cell 0
                have r8b : wq.cell? ⟨b8, 1, none⟩ = some (.int .i64 ma) := hR8.cell 1
                have l8 := hR8.lt
                have hob : ∀ q, (Value.slice (some ⟨og, 0, none⟩) (p + 1) co).ownBlock = some q → M ≤ q := fun q hq => (hown.lt q hq).1
                go_wp2_with (first
                  | (at_builtin
                     refine wpList_append_own _ rfl (.tmp 85) (.tmp 87) 22 rfl M 30 i0 _ 2 16 Try.underlying22 hi0 hz0 hz1 hz2 rfl (by decide) (Value.slice (some ⟨og, 0, none⟩) (p + 1) co) (p + 1) (flat2 o) rfl (hown.alloc _) ⟨wq.heap.size, 0, none⟩ 1 1 [.int .i64 mn, .int .i64 ma] rfl rfl (by exact lit_cells wq #[.int .i64 mn, .int .i64 ma] _ _ rfl) (by simp [Value.oneCell']) (by unfold maxLen; omega) (by omega) (by simp; omega) ?_
                     intro v9 w9 hown9 hg9 hx9
                     clear hx9))
                have hHn : HeapB w9 w.heap.size hb v' d' (r.erase (mn, ma)) := (hH2.below (w' := wq.alloc (.cells #[.int .i64 mn, .int .i64 ma] 30)) ((Below.refl _ _).alloc (Nat.le_refl _) _)).keptS (Kept.of_grown (S := fun q => M ≤ q) hg9 (fun q hq _ => hob q hq)) (by omega) (fun q hq h => by rw [HOV'.out] at hq; have := HSV.out _ hq; omega)
                have hg9s := hg9.size
                simp only [World.size_alloc] at hg9s
                have hJn : Hid (PopW w w9 M hb ov l k ((p + 1) + 1) A v9) := by
                  refine ⟨v', d', o ++ [(mn, ma)], _, hHn, HOV'.out, ?_, HNX.out, ?_, by omega, ?_⟩
                  · rw [flat2_append]; exact hown9
                  · exact (hB.alloc (by omega) _).grown hg9 (by simp; omega) (fun q hq => by have := hob q hq; omega)
                  · exact (hL.below (w' := wq.alloc (.cells #[.int .i64 mn, .int .i64 ma] 30)) ((Below.refl _ _).alloc (by omega) _)).grown hg9 (by simp; omega) (fun q hq => by have := hob q hq; omega)
                clear hHn hown9 hg9 hown hH2 hR8 hB hL r8a r8b
                go_wp2
                go_roundw
                case rel => exact ⟨(p + 1) + 1, by omega, by go_num, hJn⟩
                case measure => simp [intOf]; omega
              · have hd1 : decide (ma < ma) = false := by simp
                have hd3 : decide (mn < pn) = false := by simp; omega
                go_wp2_with fail
                have r8a : wx.cell? ⟨b8, 0, none⟩ = some (.int .i64 mn) := hR8.cell 0
                have r8b : wx.cell? ⟨b8, 1, none⟩ = some (.int .i64 ma) := hR8.cell 1
                have q_r8a := fun d os => cell_regrown r8a d os
                have q_r8b := fun d os => cell_regrown r8b d os
                have q_o0 := fun d os => cell_regrown o0 d os
                have q_o1 := fun d os => cell_regrown o1 d os
                try simp only [List.append]
                first | refine wp_region_text_below ?_ | refine wp_region_quiet_below (by kernel_rfl) (by kernel_rfl) ?_
                repeat (go_big_quiet_step ((fail)))
                refine wpQuiet_nil ?_
                intro _ hqw
                obtain ⟨pq, hqw⟩ := hqw
                subst hqw
                clear q_r8a q_r8b q_o0 q_o1
                clear r8a r8b o0 o1
                have hbel := below_regrown wx pq.d pq.os
                replace hH2 := hH2.below hbel
                replace hR8 := hR8.below hbel hR8.lt
                replace hown := hown.kept (grown_of_below (row := some wx.heap.size) hbel) (.inr (fun e => by have := (hown.lt _ e).2; omega))
                replace hB := hB.trans (hbel.mono hsx)
                replace hL := hL.below (hbel.mono hsx)
                have hzq := hbel.size
                generalize grow (redrawn wx pq.d) pq.os = wq at *
                clear hbel
                have r8a : wq.cell? ⟨b8, 0, none⟩ = some (.int .i64 mn) := hR8.cell 0
                have r8b : wq.cell? ⟨b8, 1, none⟩ = some (.int .i64 ma) := hR8.cell 1
                have l8 := hR8.lt
                have hob : ∀ q, (Value.slice (some ⟨og, 0, none⟩) (p + 1) co).ownBlock = some q → M ≤ q := fun q hq => (hown.lt q hq).1
                go_wp2_with (first
                  | (at_builtin
                     refine wpList_append_own _ rfl (.tmp 85) (.tmp 87) 22 rfl M 30 i0 _ 2 16 Try.underlying22 hi0 hz0 hz1 hz2 rfl (by decide) (Value.slice (some ⟨og, 0, none⟩) (p + 1) co) (p + 1) (flat2 o) rfl (hown.alloc _) ⟨wq.heap.size, 0, none⟩ 1 1 [.int .i64 mn, .int .i64 ma] rfl rfl (by exact lit_cells wq #[.int .i64 mn, .int .i64 ma] _ _ rfl) (by simp [Value.oneCell']) (by unfold maxLen; omega) (by omega) (by simp; omega) ?_
                     intro v9 w9 hown9 hg9 hx9
                     clear hx9))
                have hHn : HeapB w9 w.heap.size hb v' d' (r.erase (mn, ma)) := (hH2.below (w' := wq.alloc (.cells #[.int .i64 mn, .int .i64 ma] 30)) ((Below.refl _ _).alloc (Nat.le_refl _) _)).keptS (Kept.of_grown (S := fun q => M ≤ q) hg9 (fun q hq _ => hob q hq)) (by omega) (fun q hq h => by rw [HOV'.out] at hq; have := HSV.out _ hq; omega)
                have hg9s := hg9.size
                simp only [World.size_alloc] at hg9s
                have hJn : Hid (PopW w w9 M hb ov l k ((p + 1) + 1) A v9) := by
                  refine ⟨v', d', o ++ [(mn, ma)], _, hHn, HOV'.out, ?_, HNX.out, ?_, by omega, ?_⟩
                  · rw [flat2_append]; exact hown9
                  · exact (hB.alloc (by omega) _).grown hg9 (by simp; omega) (fun q hq => by have := hob q hq; omega)
                  · exact (hL.below (w' := wq.alloc (.cells #[.int .i64 mn, .int .i64 ma] 30)) ((Below.refl _ _).alloc (by omega) _)).grown hg9 (by simp; omega) (fun q hq => by have := hob q hq; omega)
                clear hHn hown9 hg9 hown hH2 hR8 hB hL r8a r8b
                go_wp2
                go_roundw
                case rel => exact ⟨(p + 1) + 1, by omega, by go_num, hJn⟩
                case measure => simp [intOf]; omega
          · obtain rfl : j = k := by omega
            obtain ⟨v, d, o, r, hH, hov, hown, hP, hB, hM, hL⟩ := HP.out
            have hr0 : r = [] := List.eq_nil_of_length_eq_zero (by have := hP.rlen; omega)
            subst hr0
            have hperm : o.Perm l := by have := hP.perm; rwa [List.append_nil] at this
            have HPE := Lib.hid hperm
            have HOLN := Lib.hid hP.olen
            obtain ⟨Ao, co, rfl⟩ := slice_of_own hown
            have hD : DoneW w wr M hb l j A (.slice Ao j co) v d o := ⟨hH, hown, hB, hM, hL⟩
            clear HP hH hov hown hP hB hM hL hperm
            go_wp2
            go_loopw [10] (fun i wr => ∃ a : Nat, a ≤ j ∧ i = .int .i64 a ∧ DoneW w wr M hb l j A (.slice Ao j co) v d o) (fun i _ => j - (intOf i).toNat)
            case atStart => exact ⟨0, by omega, rfl, hD⟩
            case round =>
              clear hD
              obtain ⟨a, ha, rfl, hD⟩ := hrel
              by_cases haj : a < j
              · obtain ⟨a1, a2, hla⟩ : ∃ a1 a2, gt l a = (a1, a2) := ⟨_, _, rfl⟩
                obtain ⟨wo, hwo⟩ : ∃ wo : World, wo = wr := ⟨_, rfl⟩
                subst hwo
                have hb0 : 0 < j := by omega
                obtain ⟨og, oc, hoe, hoc⟩ := own_pos hD.2.1 hb0
                simp only [Value.slice.injEq, true_and] at hoe
                obtain ⟨rfl, rfl⟩ := hoe
                obtain ⟨ad, rfl, hab, _, _⟩ := hD.2.2.2.2.fst2 HLN.out haj
                have hA0 : Hid (∀ wx, DoneW w wx M hb l j (some ad) (.slice (some ⟨og, 0, none⟩) j co) v d o → wx.cell? (ad.add (a * 2)) = some (.int .i64 a1)) := fun wx h => by
                  obtain ⟨ad', e, _, h1, h2⟩ := h.2.2.2.2.fst2 HLN.out haj
                  injection e with e; subst e; rw [hla] at h1; exact h1
                have hA1 : Hid (∀ wx, DoneW w wx M hb l j (some ad) (.slice (some ⟨og, 0, none⟩) j co) v d o → wx.cell? ⟨(ad.add (a * 2)).block, (ad.add (a * 2)).off + 1, none⟩ = some (.int .i64 a2)) := fun wx h => by
                  obtain ⟨ad', e, _, h1, h2⟩ := h.2.2.2.2.fst2 HLN.out haj
                  injection e with e; subst e; rw [hla] at h2; exact h2
                clear hla
                go_wp2
                go_loopw [11, 12] (fun nv kv wi => ∃ b : Nat, b ≤ j ∧ nv = .int .i64 (cnt l o b (a1, a2)) ∧ kv = .int .i64 b ∧ DoneW w wi M hb l j (some ad) (.slice (some ⟨og, 0, none⟩) j co) v d o) (fun _ kv _ => j - (intOf kv).toNat)
                case atStart => exact ⟨0, by omega, by simp [cnt], rfl, hD⟩
                case round =>
                  clear hD
                  obtain ⟨b, hbj, rfl, rfl, hD⟩ := hrel
                  rename World => wi
                  by_cases hbl : b < j
                  · obtain ⟨b1, b2, hlb⟩ : ∃ b1 b2, gt l b = (b1, b2) := ⟨_, _, rfl⟩
                    obtain ⟨o1, o2, hlo⟩ : ∃ o1 o2, gt o b = (o1, o2) := ⟨_, _, rfl⟩
                    have hB0 : Hid (∀ wx, DoneW w wx M hb l j (some ad) (.slice (some ⟨og, 0, none⟩) j co) v d o → wx.cell? (ad.add (b * 2)) = some (.int .i64 b1)) := fun wx h => by
                      obtain ⟨ad', e, _, h1, h2⟩ := h.2.2.2.2.fst2 HLN.out hbl
                      injection e with e; subst e; rw [hlb] at h1; exact h1
                    have hB1 : Hid (∀ wx, DoneW w wx M hb l j (some ad) (.slice (some ⟨og, 0, none⟩) j co) v d o → wx.cell? ⟨(ad.add (b * 2)).block, (ad.add (b * 2)).off + 1, none⟩ = some (.int .i64 b2)) := fun wx h => by
                      obtain ⟨ad', e, _, h1, h2⟩ := h.2.2.2.2.fst2 HLN.out hbl
                      injection e with e; subst e; rw [hlb] at h2; exact h2
                    have hO0 : Hid (∀ wx, DoneW w wx M hb l j (some ad) (.slice (some ⟨og, 0, none⟩) j co) v d o → wx.cell? ⟨og, b * 2, none⟩ = some (.int .i64 o1)) := fun wx h => by
                      rw [h.2.1.cellAt (b * 2) (by omega), flat2_fst o b (by have := HOLN.out; omega)]
                      show some (Value.int .i64 (gt o b).1) = _
                      rw [hlo]
                    have hO1 : Hid (∀ wx, DoneW w wx M hb l j (some ad) (.slice (some ⟨og, 0, none⟩) j co) v d o → wx.cell? ⟨og, b * 2 + 1, none⟩ = some (.int .i64 o2)) := fun wx h => by
                      rw [h.2.1.cellAt (b * 2 + 1) (by omega), flat2_snd o b (by have := HOLN.out; omega)]
                      show some (Value.int .i64 (gt o b).2) = _
                      rw [hlo]
                    have HLB := Lib.hid hlb
                    have HOB := Lib.hid hlo
                    clear hlb hlo
                    have hbd := cnt_bound l o b (a1, a2)
                    cases he1 : (b1 == a1 && b2 == a2) <;> cases he2 : (o1 == a1 && o2 == a2)
                    all_goals
                      have HE1 := Lib.hid he1
                      have HE2 := Lib.hid he2
                      have he1' : (((b1, b2) : Rd) == (a1, a2)) = _ := (show (((b1, b2) : Rd) == (a1, a2)) = (b1 == a1 && b2 == a2) from rfl).trans he1
                      have he2' : (((o1, o2) : Rd) == (a1, a2)) = _ := (show (((o1, o2) : Rd) == (a1, a2)) = (o1 == a1 && o2 == a2) from rfl).trans he2
                      have HE1' := Lib.hid he1'
                      have HE2' := Lib.hid he2'
                      clear he1 he2 he1' he2'
                    ·
                      go_wp2_with fail
                      have la0 : wi.cell? (ad.add (a * 2)) = some (.int .i64 a1) := hA0.out wi hD
                      have la1 : wi.cell? ⟨(ad.add (a * 2)).block, (ad.add (a * 2)).off + 1, none⟩ = some (.int .i64 a2) := hA1.out wi hD
                      have lb0 : wi.cell? (ad.add (b * 2)) = some (.int .i64 b1) := hB0.out wi hD
                      have lb1 : wi.cell? ⟨(ad.add (b * 2)).block, (ad.add (b * 2)).off + 1, none⟩ = some (.int .i64 b2) := hB1.out wi hD
                      have q_la0 := fun d os => cell_regrown la0 d os
                      have q_la1 := fun d os => cell_regrown la1 d os
                      have q_lb0 := fun d os => cell_regrown lb0 d os
                      have q_lb1 := fun d os => cell_regrown lb1 d os
                      have hEq : ∀ w0, (binOp .eql 30 (.agg #[.int .i64 b1, .int .i64 b2]) (.agg #[.int .i64 a1, .int .i64 a2])).run Try.prog w0 = .ok (.bool false) w0 := fun w0 => by rw [eql_ready, HE1.out]
                      try simp only [List.append]
                      first | refine wp_region_text_below ?_ | refine wp_region_quiet_below (by kernel_rfl) (by kernel_rfl) ?_
                      repeat (go_big_quiet_step ((fail)))
                      refine wpQuiet_nil ?_
                      intro _ hqw
                      obtain ⟨pq, hqw⟩ := hqw
                      subst hqw
                      clear q_la0 q_la1 q_lb0 q_lb1
                      clear la0 la1 lb0 lb1 hEq
                      have hbel := below_regrown wi pq.d pq.os
                      replace hD := hD.below hbel
                      generalize grow (redrawn wi pq.d) pq.os = wi' at *
                      clear hbel
                      skip
                      go_wp2_with fail
                      have la0 : wi'.cell? (ad.add (a * 2)) = some (.int .i64 a1) := hA0.out _ hD
                      have la1 : wi'.cell? ⟨(ad.add (a * 2)).block, (ad.add (a * 2)).off + 1, none⟩ = some (.int .i64 a2) := hA1.out _ hD
                      have lo0 : wi'.cell? ⟨og, b * 2, none⟩ = some (.int .i64 o1) := hO0.out _ hD
                      have lo1 : wi'.cell? ⟨og, b * 2 + 1, none⟩ = some (.int .i64 o2) := hO1.out _ hD
                      have q_la0 := fun d os => cell_regrown la0 d os
                      have q_la1 := fun d os => cell_regrown la1 d os
                      have q_lo0 := fun d os => cell_regrown lo0 d os
                      have q_lo1 := fun d os => cell_regrown lo1 d os
                      have hEq : ∀ w0, (binOp .eql 30 (.agg #[.int .i64 o1, .int .i64 o2]) (.agg #[.int .i64 a1, .int .i64 a2])).run Try.prog w0 = .ok (.bool false) w0 := fun w0 => by rw [eql_ready, HE2.out]
                      try simp only [List.append]
                      first | refine wp_region_text_below ?_ | refine wp_region_quiet_below (by kernel_rfl) (by kernel_rfl) ?_
                      repeat (go_big_quiet_step ((fail)))
                      refine wpQuiet_nil ?_
                      intro _ hqw
                      obtain ⟨pq, hqw⟩ := hqw
                      subst hqw
                      clear q_la0 q_la1 q_lo0 q_lo1
                      clear la0 la1 lo0 lo1 hEq
                      have hbel := below_regrown wi' pq.d pq.os
                      replace hD := hD.below hbel
                      generalize grow (redrawn wi' pq.d) pq.os = wi'' at *
                      clear hbel
                      skip
                      have hN : cnt l o (b + 1) (a1, a2) = cnt l o b (a1, a2) + 0 - 0 := by
                        rw [cnt_next _ (by have := HLN.out; omega) (by have := HOLN.out; omega), HLB.out, HOB.out, HE1'.out, HE2'.out]; rfl
                      have hbd2 := cnt_bound l o (b + 1) (a1, a2)
                      have HN := Lib.hid hN
                      clear hN
                      go_wp2
                      go_roundw
                      case rel => exact ⟨b + 1, by omega, by rw [HN.out]; go_num, by go_num, hD⟩
                      case measure => simp [intOf]; omega
                    ·
                      go_wp2_with fail
                      have la0 : wi.cell? (ad.add (a * 2)) = some (.int .i64 a1) := hA0.out wi hD
                      have la1 : wi.cell? ⟨(ad.add (a * 2)).block, (ad.add (a * 2)).off + 1, none⟩ = some (.int .i64 a2) := hA1.out wi hD
                      have lb0 : wi.cell? (ad.add (b * 2)) = some (.int .i64 b1) := hB0.out wi hD
                      have lb1 : wi.cell? ⟨(ad.add (b * 2)).block, (ad.add (b * 2)).off + 1, none⟩ = some (.int .i64 b2) := hB1.out wi hD
                      have q_la0 := fun d os => cell_regrown la0 d os
                      have q_la1 := fun d os => cell_regrown la1 d os
                      have q_lb0 := fun d os => cell_regrown lb0 d os
                      have q_lb1 := fun d os => cell_regrown lb1 d os
                      have hEq : ∀ w0, (binOp .eql 30 (.agg #[.int .i64 b1, .int .i64 b2]) (.agg #[.int .i64 a1, .int .i64 a2])).run Try.prog w0 = .ok (.bool false) w0 := fun w0 => by rw [eql_ready, HE1.out]
                      try simp only [List.append]
                      first | refine wp_region_text_below ?_ | refine wp_region_quiet_below (by kernel_rfl) (by kernel_rfl) ?_
                      repeat (go_big_quiet_step ((fail)))
                      refine wpQuiet_nil ?_
                      intro _ hqw
                      obtain ⟨pq, hqw⟩ := hqw
                      subst hqw
                      clear q_la0 q_la1 q_lb0 q_lb1
                      clear la0 la1 lb0 lb1 hEq
                      have hbel := below_regrown wi pq.d pq.os
                      replace hD := hD.below hbel
                      generalize grow (redrawn wi pq.d) pq.os = wi' at *
                      clear hbel
                      skip
                      go_wp2_with fail
                      have la0 : wi'.cell? (ad.add (a * 2)) = some (.int .i64 a1) := hA0.out _ hD
                      have la1 : wi'.cell? ⟨(ad.add (a * 2)).block, (ad.add (a * 2)).off + 1, none⟩ = some (.int .i64 a2) := hA1.out _ hD
                      have lo0 : wi'.cell? ⟨og, b * 2, none⟩ = some (.int .i64 o1) := hO0.out _ hD
                      have lo1 : wi'.cell? ⟨og, b * 2 + 1, none⟩ = some (.int .i64 o2) := hO1.out _ hD
                      have q_la0 := fun d os => cell_regrown la0 d os
                      have q_la1 := fun d os => cell_regrown la1 d os
                      have q_lo0 := fun d os => cell_regrown lo0 d os
                      have q_lo1 := fun d os => cell_regrown lo1 d os
                      have hEq : ∀ w0, (binOp .eql 30 (.agg #[.int .i64 o1, .int .i64 o2]) (.agg #[.int .i64 a1, .int .i64 a2])).run Try.prog w0 = .ok (.bool true) w0 := fun w0 => by rw [eql_ready, HE2.out]
                      try simp only [List.append]
                      first | refine wp_region_text_below ?_ | refine wp_region_quiet_below (by kernel_rfl) (by kernel_rfl) ?_
                      repeat (go_big_quiet_step ((fail)))
                      refine wpQuiet_nil ?_
                      intro _ hqw
                      obtain ⟨pq, hqw⟩ := hqw
                      subst hqw
                      clear q_la0 q_la1 q_lo0 q_lo1
                      clear la0 la1 lo0 lo1 hEq
                      have hbel := below_regrown wi' pq.d pq.os
                      replace hD := hD.below hbel
                      generalize grow (redrawn wi' pq.d) pq.os = wi'' at *
                      clear hbel
                      skip
                      have hN : cnt l o (b + 1) (a1, a2) = cnt l o b (a1, a2) + 0 - 1 := by
                        rw [cnt_next _ (by have := HLN.out; omega) (by have := HOLN.out; omega), HLB.out, HOB.out, HE1'.out, HE2'.out]; rfl
                      have hbd2 := cnt_bound l o (b + 1) (a1, a2)
                      have HN := Lib.hid hN
                      clear hN
                      go_wp2
                      go_roundw
                      case rel => exact ⟨b + 1, by omega, by rw [HN.out]; go_num, by go_num, hD⟩
                      case measure => simp [intOf]; omega
                    ·
                      go_wp2_with fail
                      have la0 : wi.cell? (ad.add (a * 2)) = some (.int .i64 a1) := hA0.out wi hD
                      have la1 : wi.cell? ⟨(ad.add (a * 2)).block, (ad.add (a * 2)).off + 1, none⟩ = some (.int .i64 a2) := hA1.out wi hD
                      have lb0 : wi.cell? (ad.add (b * 2)) = some (.int .i64 b1) := hB0.out wi hD
                      have lb1 : wi.cell? ⟨(ad.add (b * 2)).block, (ad.add (b * 2)).off + 1, none⟩ = some (.int .i64 b2) := hB1.out wi hD
                      have q_la0 := fun d os => cell_regrown la0 d os
                      have q_la1 := fun d os => cell_regrown la1 d os
                      have q_lb0 := fun d os => cell_regrown lb0 d os
                      have q_lb1 := fun d os => cell_regrown lb1 d os
                      have hEq : ∀ w0, (binOp .eql 30 (.agg #[.int .i64 b1, .int .i64 b2]) (.agg #[.int .i64 a1, .int .i64 a2])).run Try.prog w0 = .ok (.bool true) w0 := fun w0 => by rw [eql_ready, HE1.out]
                      try simp only [List.append]
                      first | refine wp_region_text_below ?_ | refine wp_region_quiet_below (by kernel_rfl) (by kernel_rfl) ?_
                      repeat (go_big_quiet_step ((fail)))
                      refine wpQuiet_nil ?_
                      intro _ hqw
                      obtain ⟨pq, hqw⟩ := hqw
                      subst hqw
                      clear q_la0 q_la1 q_lb0 q_lb1
                      clear la0 la1 lb0 lb1 hEq
                      have hbel := below_regrown wi pq.d pq.os
                      replace hD := hD.below hbel
                      generalize grow (redrawn wi pq.d) pq.os = wi' at *
                      clear hbel
                      skip
                      go_wp2_with fail
                      have la0 : wi'.cell? (ad.add (a * 2)) = some (.int .i64 a1) := hA0.out _ hD
                      have la1 : wi'.cell? ⟨(ad.add (a * 2)).block, (ad.add (a * 2)).off + 1, none⟩ = some (.int .i64 a2) := hA1.out _ hD
                      have lo0 : wi'.cell? ⟨og, b * 2, none⟩ = some (.int .i64 o1) := hO0.out _ hD
                      have lo1 : wi'.cell? ⟨og, b * 2 + 1, none⟩ = some (.int .i64 o2) := hO1.out _ hD
                      have q_la0 := fun d os => cell_regrown la0 d os
                      have q_la1 := fun d os => cell_regrown la1 d os
                      have q_lo0 := fun d os => cell_regrown lo0 d os
                      have q_lo1 := fun d os => cell_regrown lo1 d os
                      have hEq : ∀ w0, (binOp .eql 30 (.agg #[.int .i64 o1, .int .i64 o2]) (.agg #[.int .i64 a1, .int .i64 a2])).run Try.prog w0 = .ok (.bool false) w0 := fun w0 => by rw [eql_ready, HE2.out]
                      try simp only [List.append]
                      first | refine wp_region_text_below ?_ | refine wp_region_quiet_below (by kernel_rfl) (by kernel_rfl) ?_
                      repeat (go_big_quiet_step ((fail)))
                      refine wpQuiet_nil ?_
                      intro _ hqw
                      obtain ⟨pq, hqw⟩ := hqw
                      subst hqw
                      clear q_la0 q_la1 q_lo0 q_lo1
                      clear la0 la1 lo0 lo1 hEq
                      have hbel := below_regrown wi' pq.d pq.os
                      replace hD := hD.below hbel
                      generalize grow (redrawn wi' pq.d) pq.os = wi'' at *
                      clear hbel
                      skip
                      have hN : cnt l o (b + 1) (a1, a2) = cnt l o b (a1, a2) + 1 - 0 := by
                        rw [cnt_next _ (by have := HLN.out; omega) (by have := HOLN.out; omega), HLB.out, HOB.out, HE1'.out, HE2'.out]; rfl
                      have hbd2 := cnt_bound l o (b + 1) (a1, a2)
                      have HN := Lib.hid hN
                      clear hN
                      go_wp2
                      go_roundw
                      case rel => exact ⟨b + 1, by omega, by rw [HN.out]; go_num, by go_num, hD⟩
                      case measure => simp [intOf]; omega
                    ·
                      go_wp2_with fail
                      have la0 : wi.cell? (ad.add (a * 2)) = some (.int .i64 a1) := hA0.out wi hD
                      have la1 : wi.cell? ⟨(ad.add (a * 2)).block, (ad.add (a * 2)).off + 1, none⟩ = some (.int .i64 a2) := hA1.out wi hD
                      have lb0 : wi.cell? (ad.add (b * 2)) = some (.int .i64 b1) := hB0.out wi hD
                      have lb1 : wi.cell? ⟨(ad.add (b * 2)).block, (ad.add (b * 2)).off + 1, none⟩ = some (.int .i64 b2) := hB1.out wi hD
                      have q_la0 := fun d os => cell_regrown la0 d os
                      have q_la1 := fun d os => cell_regrown la1 d os
                      have q_lb0 := fun d os => cell_regrown lb0 d os
                      have q_lb1 := fun d os => cell_regrown lb1 d os
                      have hEq : ∀ w0, (binOp .eql 30 (.agg #[.int .i64 b1, .int .i64 b2]) (.agg #[.int .i64 a1, .int .i64 a2])).run Try.prog w0 = .ok (.bool true) w0 := fun w0 => by rw [eql_ready, HE1.out]
                      try simp only [List.append]
                      first | refine wp_region_text_below ?_ | refine wp_region_quiet_below (by kernel_rfl) (by kernel_rfl) ?_
                      repeat (go_big_quiet_step ((fail)))
                      refine wpQuiet_nil ?_
                      intro _ hqw
                      obtain ⟨pq, hqw⟩ := hqw
                      subst hqw
                      clear q_la0 q_la1 q_lb0 q_lb1
                      clear la0 la1 lb0 lb1 hEq
                      have hbel := below_regrown wi pq.d pq.os
                      replace hD := hD.below hbel
                      generalize grow (redrawn wi pq.d) pq.os = wi' at *
                      clear hbel
                      skip
                      go_wp2_with fail
                      have la0 : wi'.cell? (ad.add (a * 2)) = some (.int .i64 a1) := hA0.out _ hD
                      have la1 : wi'.cell? ⟨(ad.add (a * 2)).block, (ad.add (a * 2)).off + 1, none⟩ = some (.int .i64 a2) := hA1.out _ hD
                      have lo0 : wi'.cell? ⟨og, b * 2, none⟩ = some (.int .i64 o1) := hO0.out _ hD
                      have lo1 : wi'.cell? ⟨og, b * 2 + 1, none⟩ = some (.int .i64 o2) := hO1.out _ hD
                      have q_la0 := fun d os => cell_regrown la0 d os
                      have q_la1 := fun d os => cell_regrown la1 d os
                      have q_lo0 := fun d os => cell_regrown lo0 d os
                      have q_lo1 := fun d os => cell_regrown lo1 d os
                      have hEq : ∀ w0, (binOp .eql 30 (.agg #[.int .i64 o1, .int .i64 o2]) (.agg #[.int .i64 a1, .int .i64 a2])).run Try.prog w0 = .ok (.bool true) w0 := fun w0 => by rw [eql_ready, HE2.out]
                      try simp only [List.append]
                      first | refine wp_region_text_below ?_ | refine wp_region_quiet_below (by kernel_rfl) (by kernel_rfl) ?_
                      repeat (go_big_quiet_step ((fail)))
                      refine wpQuiet_nil ?_
                      intro _ hqw
                      obtain ⟨pq, hqw⟩ := hqw
                      subst hqw
                      clear q_la0 q_la1 q_lo0 q_lo1
                      clear la0 la1 lo0 lo1 hEq
                      have hbel := below_regrown wi' pq.d pq.os
                      replace hD := hD.below hbel
                      generalize grow (redrawn wi' pq.d) pq.os = wi'' at *
                      clear hbel
                      skip
                      have hN : cnt l o (b + 1) (a1, a2) = cnt l o b (a1, a2) + 1 - 1 := by
                        rw [cnt_next _ (by have := HLN.out; omega) (by have := HOLN.out; omega), HLB.out, HOB.out, HE1'.out, HE2'.out]; rfl
                      have hbd2 := cnt_bound l o (b + 1) (a1, a2)
                      have HN := Lib.hid hN
                      clear hN
                      go_wp2
                      go_roundw
                      case rel => exact ⟨b + 1, by omega, by rw [HN.out]; go_num, by go_num, hD⟩
                      case measure => simp [intOf]; omega
                  · obtain rfl : b = j := by omega
                    have hz : cnt l o b (a1, a2) = 0 := by
                      have h := cnt_end (l := l) (o := o) (a1, a2) HPE.out
                      rw [HLN.out] at h
                      exact h
                    rw [hz]
                    go_wp2
                    go_roundw
                    case rel => exact ⟨a + 1, by omega, by go_num, hD⟩
                    case measure => simp [intOf]; omega
              · obtain rfl : a = j := by omega
                obtain ⟨hH, hown, hB, hM, hL⟩ := hD
                have hsB := hB.size
                clear hown hL
                go_wp2_with fail
                refine (pop_none hb _ _ hH.nil_).mono ?_
                rintro e w6 ⟨rfl, hb6⟩
                have hsz6 := hb6.size
                have hBa : Below w6.heap.size w6 (w6.alloc (.cells #[.int .i64 0, .int .i64 0] 30)) := (Below.refl _ _).alloc (Nat.le_refl _) _
                replace hH := (hH.below hb6).below hBa
                replace hB := (hB.trans (hb6.mono hsB)).trans (hBa.mono (by omega))
                clear hb6 hBa
                go_wp2_with fail
                refine (lenC hH).mono ?_
                rintro e w' ⟨rfl, rfl⟩
                go_wp2
                go_ret
                exact ⟨rfl, hB⟩
theorem heapRises_own : ownKnob Try.prog.godebug = none := by kernel_rfl
theorem heapRises_laidOut : laidOutB Try.prog = true := by kernel_rfl

set_option maxHeartbeats 1000000 in
set_option maxRecDepth 100000 in
theorem heapRises_lifted (os : Os) (started : os.Started) (H : Type) (enc : TypeId × Value → H) :
    ReturnsInHanded {} Try.checked os 4 .any (Rows.heapRisesSpec.pre6 enc Try.prog Try.f4 Rows.heapRisesRow.domain false) (Rows.heapRisesSpec.post enc Try.prog Try.f4 false true false false) := by
  refine returnsInHanded_of_change (C := Try.checked) heapRises_own started (by kernel_rfl) Try.func4
    (ChangeSpec.witness6 (enc := enc) (C := Try.checked) false ⟨#[], #[.slice none 0 0], []⟩ 8 (by kernel_rfl) (by kernel_rfl) (by kernel_rfl) (by kernel_rfl)) ?_
  intro W base args ds gs before hval0 hW hcnd _
  have hval : ∀ (j : Nat) t v, Try.f4.params[j]? = some t → args[j]? = some v → Value.okWide Try.prog W .any base t v := hval0
  have hW' := hW
  obtain ⟨p, q, hA0, hV, rfl, hfz, hnd⟩ := hW
  have hA : DataW.TrodAll enc Try.prog W 0 (fun _ => true) true Try.f4.params.toList args.toList ds p := hA0
  rw [Try.params4] at hA hval
  obtain ⟨v0, vs0, d0, ds0, p0, q0, hargs, rfl, rfl, h0, r0⟩ := trodAll_cons hA
  obtain ⟨rfl, rfl, rfl⟩ := trodAll_nil r0
  obtain rfl : args = #[v0] := by cases args; simp_all
  obtain ⟨rfl, rfl⟩ := trodVars_none hV
  obtain ⟨A0, n0, c0, ns0, rfl, nc0, cm0, hl0, nl0, w0⟩ := open_rows 4 (K := 2) Try.underlying22 (by kernel_rfl) (by kernel_rfl) (by omega) (hval 0 22 v0 rfl rfl) h0
  clear hA0 hval0
  refine (heapRises_walk A0 n0 c0 ns0 nc0 cm0 nl0 w0 W hl0).mono fun e W' ⟨he, bel⟩ => ?_
  subst he
  exact ⟨_, rfl, law_post heapRises_laidOut (by kernel_rfl) rfl Try.underlying4 rfl rfl hW' bel⟩

theorem heapRises_proved : Rows.HeapRisesSaid :=
  OpenClaim.holds_of_wide 4 Try.f4 rfl rfl rfl rfl rfl rfl rfl ⟨rfl, rfl, rfl, rfl, rfl⟩ rfl rfl rfl rfl rfl (by kernel_rfl) Try.func4 (by kernel_rfl)
    (of_decide_eq_true (by kernel_rfl)) (by unfold Func.isWrapper; first | (rw [if_pos (by decide +kernel)]; kernel_rfl) | (rw [if_neg (by decide +kernel)]; exact ⟨rfl, rfl⟩))
    (fun os started H enc _ => heapRises_lifted os started H enc)
#print axioms heapRises_proved
end Go.Proofs.Ytpmibpclkfidkaa
