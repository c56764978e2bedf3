/- A look takes nothing away, and tells what is popped next: HeapPeeks returns true for every list and every one more. No condition. -/
import Derived.Test.YtpmibpclkfidkaaRows
import Derived.Test.YtpmibpclkfidkaaSmall14
namespace Go.Proofs.Ytpmibpclkfidkaa
open Go.ChangeShapes Go.WideShapes Go.ChangeAt Go.RowKit Go.Sort Hp
set_option linter.unusedSimpArgs false
set_option linter.unusedVariables false
theorem least_snoc_lt {m r : Rd} {l : List Rd} (h : IsLeast m l) (ha : ahd r m = true) : IsLeast r (l ++ [r]) := by
  refine ⟨by simp, fun x hx => ?_⟩
  rcases List.mem_append.1 hx with hx | hx
  · exact nle_trans (nle_of_ahd ha) (h.2 x hx)
  · simp at hx; subst hx; exact ahd_irr _
theorem least_snoc_ge {m r : Rd} {l : List Rd} (h : IsLeast m l) (ha : ahd r m = false) : IsLeast m (l ++ [r]) := by
  refine ⟨by simp [h.1], fun x hx => ?_⟩
  rcases List.mem_append.1 hx with hx | hx
  · exact h.2 x hx
  · simp at hx; subst hx; exact ha
theorem HeapB.up {w : World} {B C hb : Nat} {v : Value} {d l : List (Int × Int)} (h : HeapB w C hb v d l) (hC : B ≤ C) : HeapB w B hb v d l := ⟨h.at_, h.heap, h.perm, Nat.le_trans hC h.hb, fun k hk => Nat.le_trans hC (h.own k hk)⟩
set_option maxHeartbeats 4000000 in
set_option maxRecDepth 100000 in
theorem heapPeeks_walk (A : Option Addr) (n c : Nat) (ns : List Int) (rn ra : Int) (hnc : n ≤ c) (hcm : c ≤ maxLen) (hnl : ns.length = n * 2) (hw : ∀ m ∈ ns, (Lit.int .i64 m).wf = true) (hc : ∀ m ∈ [rn, ra], (Lit.int .i64 m).wf = true) (w : World) (hl : Lst w w.heap.size 2 A n (ns.map (Value.int .i64))) :
    Calls Try.prog 5 #[.slice A n c, .agg #[.int .i64 rn, .int .i64 ra]] w fun e w' => e = .returned (.bool true) ∧ Below w.heap.size w w' := by
  clear hw hc
  obtain ⟨l, hln, hlf⟩ := pairs_of n ns hnl
  rw [hlf] at hl
  clear hlf hnl
  unfold maxLen at hcm
  by_cases hn : 100 < n
  · go_enter Try.func5, Try.ntmps5
    go_wp2_with fail
    refine (small14 _).mono ?_
    rintro e w1 ⟨rfl, hB⟩
    go_wp2
    go_ret
    exact ⟨rfl, by (repeat (first | exact Below.refl _ _ | exact hB | refine Below.alloc ?_ (by first | omega | (simp; done) | (simp; omega)) _ | refine Below.setCell ?_ (by first | omega | (simp; done) | (simp; omega)) _ | refine Below.drew ?_ | refine Below.trans ?_ (hB.mono (by first | omega | (simp; done) | (simp; omega)))))⟩
  · have heq := eql_ready
    have hgd : Try.prog.eqGuardType Try.prog.depth 30 = false := by kernel_rfl
    go_enter Try.func5, Try.ntmps5
    go_wp2_with fail
    have hR0 := Blok.new w 30 #[.int .i64 rn, .int .i64 ra]
    have hB : Below w.heap.size w (w.alloc (.cells #[.int .i64 rn, .int .i64 ra] 30)) := (Below.refl _ _).alloc (Nat.le_refl _) _
    refine (small14 _).mono ?_
    rintro e w1 ⟨rfl, hb1⟩
    replace hR0 := hR0.below hb1 (by simp)
    replace hB := hB.trans (hb1.mono hB.size)
    have hs := hb1.size
    rw [World.size_alloc] at hs
    have hl1 := (hl.below hB).more (B' := w1.heap.size) (by omega)
    clear hb1 hl
    go_wp2_with fail
    refine (new_any A n c l w1 hln (by omega) hl1).mono ?_
    rintro e w2 ⟨hb, v, d, rfl, hH, hb2⟩
    have hz := hb2.size
    replace hR0 := hR0.below hb2 (by omega)
    replace hB := hB.trans (hb2.mono (by omega))
    have hbB := hH.hb
    have HO := Lib.hid hH.own
    have hlt0 : w.heap.size < w1.heap.size := by omega
    replace hH := hH.up (B := w.heap.size) (by omega)
    replace hs : w.heap.size ≤ w2.heap.size := by omega
    have hln2 : (l.length : Int) = (n : Int) := by omega
    have HLN := Lib.hid hln
    clear hb2 hl1 hln hln2
    go_wp2_with fail
    by_cases hn0 : n = 0
    · subst hn0
      have hl0 : l = [] := List.eq_nil_of_length_eq_zero HLN.out
      subst hl0
      refine (peek_none hb _ _ hH.nil_).mono ?_
      rintro e w3 ⟨rfl, hb3⟩
      have hhb := hH.at_.head.lt
      have HV7 : Hid (∀ k, v.ownBlock = some k → w1.heap.size ≤ k ∧ k < w3.heap.size) := fun k hk => ⟨HO.out k hk, by have := hH.ownlt k hk; have := hb3.size; omega⟩
      replace hR0 := hR0.below hb3 (by omega)
      replace hH := hH.below hb3
      replace hB := hB.trans (hb3.mono hs)
      replace hs := hB.size
      have hz3 := hb3.size
      clear hb3
      go_wp2_with fail
      have hR7 := Blok.new w3 30 #[.int .i64 0, .int .i64 0]
      replace hR0 := hR0.alloc (.cells #[.int .i64 0, .int .i64 0] 30)
      replace hH := hH.below (((Below.refl w3.heap.size w3).alloc (Nat.le_refl _) (.cells #[.int .i64 0, .int .i64 0] 30)))
      replace hB := hB.alloc hs (.cells #[.int .i64 0, .int .i64 0] 30)
      replace hs := hB.size
      have hz7 := World.size_alloc w3 (.cells #[.int .i64 0, .int .i64 0] 30)
      generalize hwx : w3.alloc (.cells #[.int .i64 0, .int .i64 0] 30) = wx7 at *
      clear hwx
      generalize w3.heap.size = b7 at *
      have hq7 : b7 < wx7.heap.size := by omega
      have HZ7 := Lib.hid hz7
      clear hz7
      go_wp2_with fail
      refine (HLN.out ▸ lenC hH).mono ?_
      rintro e w' ⟨rfl, rfl⟩
      have r0a : wx7.cell? ⟨w.heap.size, 0, none⟩ = some (.int .i64 rn) := hR0.cell 0
      have r0b : wx7.cell? ⟨w.heap.size, 1, none⟩ = some (.int .i64 ra) := hR0.cell 1
      go_wp2_with fail
      clear r0a r0b
      refine (pushC hH hs (rn, ra) (by have := HLN.out; omega)).mono ?_
      rintro e w4 ⟨rfl, v', d', hH2, ho, hK⟩
      have hg4 := hK.size
      have HV : Hid (∀ k, v.ownBlock = some k → w1.heap.size ≤ k ∧ k < b7) := HV7
      replace hR0 := hR0.kept hK (fun h => by rcases h with h | h <;> first | omega | (have := HV.out _ h; omega))
      replace hR7 := hR7.kept hK (fun h => by rcases h with h | h <;> first | omega | (have := HV.out _ h; omega))
      replace hB := hK.below_of hB hs (fun k hk h => by rcases h with h | h <;> first | omega | (have := HV.out _ h; omega))
      have hV2 : ∀ k, v'.ownBlock = some k → w1.heap.size ≤ k ∧ k < w4.heap.size ∧ k ≠ b7 := by
        intro k hk
        have hlt := hH2.ownlt k hk
        rcases ho with e | ⟨j, hj, e⟩
        · rw [e] at hk
          have := HV.out k hk
          omega
        · rw [e] at hk
          have : j = k := by simpa using hk
          omega
      clear HV
      have HV := Lib.hid hV2
      clear hK ho hH hV2 HV7
      have hH := hH2
      replace hs := hB.size
      have hh4 := hH.at_.head.lt
      clear hH2
      go_wp2_with fail
      refine (peekC hH (m := (rn, ra)) (show IsLeast (rn, ra) ([] ++ [(rn, ra)]) from ⟨by simp, by simp [ahd_irr]⟩)).mono ?_
      rintro e w5 ⟨rfl, hb5⟩
      replace hR0 := hR0.below hb5 hR0.lt
      replace hR7 := hR7.below hb5 hR7.lt
      replace hH := hH.below hb5
      replace hB := hB.trans (hb5.mono hs)
      replace hs := hB.size
      have hg5 := hb5.size
      clear hb5
      go_wp2_with fail
      have hR10 := Blok.new w5 30 #[.int .i64 rn, .int .i64 ra]
      replace hR0 := hR0.alloc (.cells #[.int .i64 rn, .int .i64 ra] 30)
      replace hR7 := hR7.alloc (.cells #[.int .i64 rn, .int .i64 ra] 30)
      replace hH := hH.below (((Below.refl w5.heap.size w5).alloc (Nat.le_refl _) (.cells #[.int .i64 rn, .int .i64 ra] 30)))
      replace hB := hB.alloc hs (.cells #[.int .i64 rn, .int .i64 ra] 30)
      replace hs := hB.size
      have hz10 := World.size_alloc w5 (.cells #[.int .i64 rn, .int .i64 ra] 30)
      generalize hwx : w5.alloc (.cells #[.int .i64 rn, .int .i64 ra] 30) = wx10 at *
      clear hwx
      generalize w5.heap.size = b10 at *
      have hq10 : b10 < wx10.heap.size := by omega
      have HZ10 := Lib.hid hz10
      clear hz10
      refine (popC hH (m := (rn, ra)) (show IsLeast (rn, ra) ([] ++ [(rn, ra)]) from ⟨by simp, by simp [ahd_irr]⟩) (by have := HLN.out; simp)).mono ?_
      rintro e w6 ⟨rfl, v', d', hH2, ho, hK⟩
      replace hR0 := hR0.kept hK (fun h => by rcases h with h | h <;> first | omega | (have := HV.out _ h; omega))
      replace hR7 := hR7.kept hK (fun h => by rcases h with h | h <;> first | omega | (have := HV.out _ h; omega))
      replace hR10 := hR10.kept hK (fun h => by rcases h with h | h <;> first | omega | (have := HV.out _ h; omega))
      replace hB := hK.below_of hB hs (fun k hk h => by rcases h with h | h <;> first | omega | (have := HV.out _ h; omega))
      replace hs := hB.size
      clear hK ho hH
      have hlen : ((([] : List (Int × Int)) ++ [(rn, ra)]).erase (rn, ra)).length = 0 := by
        rw [List.length_erase_of_mem (show IsLeast (rn, ra) ([] ++ [(rn, ra)]) from ⟨by simp, by simp [ahd_irr]⟩).1]
        simp [HLN.out]
      have HLE := Lib.hid hlen
      clear hlen
      have r0a : w6.cell? ⟨w.heap.size, 0, none⟩ = some (.int .i64 rn) := hR0.cell 0
      have r0b : w6.cell? ⟨w.heap.size, 1, none⟩ = some (.int .i64 ra) := hR0.cell 1
      have r7a : w6.cell? ⟨b7, 0, none⟩ = some (.int .i64 (0)) := hR7.cell 0
      have r7b : w6.cell? ⟨b7, 1, none⟩ = some (.int .i64 (0)) := hR7.cell 1
      have r10a : w6.cell? ⟨b10, 0, none⟩ = some (.int .i64 (rn)) := hR10.cell 0
      have r10b : w6.cell? ⟨b10, 1, none⟩ = some (.int .i64 (ra)) := hR10.cell 1
      have l0 := hR0.lt
      have l7 := hR7.lt
      have l10 := hR10.lt
      clear hR0 hR7 hR10
      go_wp2_with fail
      refine (HLE.out ▸ lenC (hH2.below ((Below.refl _ _).alloc (Nat.le_refl _) _))).mono ?_
      rintro e w' ⟨rfl, rfl⟩
      go_wp2
      go_ret
      exact ⟨rfl, hB.alloc hs _⟩
    · have hn1 : 0 < n := by omega
      have hnB : decide (0 < (n : Int)) = true := by simp; omega
      obtain ⟨m, hm⟩ := least_ex l (by intro e; subst e; have := HLN.out; simp at this; omega)
      obtain ⟨mn, ma⟩ := m
      have HM := Lib.hid hm
      refine (peekC hH hm).mono ?_
      clear hm
      rintro e w3 ⟨rfl, hb3⟩
      have hhb := hH.at_.head.lt
      have HV7 : Hid (∀ k, v.ownBlock = some k → w1.heap.size ≤ k ∧ k < w3.heap.size) := fun k hk => ⟨HO.out k hk, by have := hH.ownlt k hk; have := hb3.size; omega⟩
      replace hR0 := hR0.below hb3 (by omega)
      replace hH := hH.below hb3
      replace hB := hB.trans (hb3.mono hs)
      replace hs := hB.size
      have hz3 := hb3.size
      clear hb3
      go_wp2_with fail
      by_cases ha : ahd (rn, ra) (mn, ma) = true
      · have hL := least_snoc_lt HM.out ha
        have ha2 : ra < ma ∨ ra = ma ∧ rn < mn := ahd_iff.1 ha
        have HL := Lib.hid hL
        clear hL ha
        rcases ha2 with ha3 | ⟨rfl, ha3⟩
        · have hd1 : decide (ra < ma) = true := by simpa using ha3
          have hR7 := Blok.new w3 30 #[.int .i64 mn, .int .i64 ma]
          replace hR0 := hR0.alloc (.cells #[.int .i64 mn, .int .i64 ma] 30)
          replace hH := hH.below (((Below.refl w3.heap.size w3).alloc (Nat.le_refl _) (.cells #[.int .i64 mn, .int .i64 ma] 30)))
          replace hB := hB.alloc hs (.cells #[.int .i64 mn, .int .i64 ma] 30)
          replace hs := hB.size
          have hz7 := World.size_alloc w3 (.cells #[.int .i64 mn, .int .i64 ma] 30)
          generalize hwx : w3.alloc (.cells #[.int .i64 mn, .int .i64 ma] 30) = wx7 at *
          clear hwx
          generalize w3.heap.size = b7 at *
          have hq7 : b7 < wx7.heap.size := by omega
          have HZ7 := Lib.hid hz7
          clear hz7
          go_wp2_with fail
          refine (HLN.out ▸ lenC hH).mono ?_
          rintro e w' ⟨rfl, rfl⟩
          have r0a : wx7.cell? ⟨w.heap.size, 0, none⟩ = some (.int .i64 rn) := hR0.cell 0
          have r0b : wx7.cell? ⟨w.heap.size, 1, none⟩ = some (.int .i64 ra) := hR0.cell 1
          go_wp2_with fail
          clear r0a r0b
          refine (pushC hH hs (rn, ra) (by have := HLN.out; omega)).mono ?_
          rintro e w4 ⟨rfl, v', d', hH2, ho, hK⟩
          have hg4 := hK.size
          have HV : Hid (∀ k, v.ownBlock = some k → w1.heap.size ≤ k ∧ k < b7) := HV7
          replace hR0 := hR0.kept hK (fun h => by rcases h with h | h <;> first | omega | (have := HV.out _ h; omega))
          replace hR7 := hR7.kept hK (fun h => by rcases h with h | h <;> first | omega | (have := HV.out _ h; omega))
          replace hB := hK.below_of hB hs (fun k hk h => by rcases h with h | h <;> first | omega | (have := HV.out _ h; omega))
          have hV2 : ∀ k, v'.ownBlock = some k → w1.heap.size ≤ k ∧ k < w4.heap.size ∧ k ≠ b7 := by
            intro k hk
            have hlt := hH2.ownlt k hk
            rcases ho with e | ⟨j, hj, e⟩
            · rw [e] at hk
              have := HV.out k hk
              omega
            · rw [e] at hk
              have : j = k := by simpa using hk
              omega
          clear HV
          have HV := Lib.hid hV2
          clear hK ho hH hV2 HV7
          have hH := hH2
          replace hs := hB.size
          have hh4 := hH.at_.head.lt
          clear hH2
          go_wp2_with fail
          refine (peekC hH (m := (rn, ra)) HL.out).mono ?_
          rintro e w5 ⟨rfl, hb5⟩
          replace hR0 := hR0.below hb5 hR0.lt
          replace hR7 := hR7.below hb5 hR7.lt
          replace hH := hH.below hb5
          replace hB := hB.trans (hb5.mono hs)
          replace hs := hB.size
          have hg5 := hb5.size
          clear hb5
          go_wp2_with fail
          have hR10 := Blok.new w5 30 #[.int .i64 rn, .int .i64 ra]
          replace hR0 := hR0.alloc (.cells #[.int .i64 rn, .int .i64 ra] 30)
          replace hR7 := hR7.alloc (.cells #[.int .i64 rn, .int .i64 ra] 30)
          replace hH := hH.below (((Below.refl w5.heap.size w5).alloc (Nat.le_refl _) (.cells #[.int .i64 rn, .int .i64 ra] 30)))
          replace hB := hB.alloc hs (.cells #[.int .i64 rn, .int .i64 ra] 30)
          replace hs := hB.size
          have hz10 := World.size_alloc w5 (.cells #[.int .i64 rn, .int .i64 ra] 30)
          generalize hwx : w5.alloc (.cells #[.int .i64 rn, .int .i64 ra] 30) = wx10 at *
          clear hwx
          generalize w5.heap.size = b10 at *
          have hq10 : b10 < wx10.heap.size := by omega
          have HZ10 := Lib.hid hz10
          clear hz10
          refine (popC hH (m := (rn, ra)) HL.out (by have := HLN.out; simp; omega)).mono ?_
          rintro e w6 ⟨rfl, v', d', hH2, ho, hK⟩
          replace hR0 := hR0.kept hK (fun h => by rcases h with h | h <;> first | omega | (have := HV.out _ h; omega))
          replace hR7 := hR7.kept hK (fun h => by rcases h with h | h <;> first | omega | (have := HV.out _ h; omega))
          replace hR10 := hR10.kept hK (fun h => by rcases h with h | h <;> first | omega | (have := HV.out _ h; omega))
          replace hB := hK.below_of hB hs (fun k hk h => by rcases h with h | h <;> first | omega | (have := HV.out _ h; omega))
          replace hs := hB.size
          clear hK ho hH
          have hlen : ((l ++ [(rn, ra)]).erase (rn, ra)).length = n := by
            rw [List.length_erase_of_mem HL.out.1]
            simp [HLN.out]
          have HLE := Lib.hid hlen
          clear hlen
          have r0a : w6.cell? ⟨w.heap.size, 0, none⟩ = some (.int .i64 rn) := hR0.cell 0
          have r0b : w6.cell? ⟨w.heap.size, 1, none⟩ = some (.int .i64 ra) := hR0.cell 1
          have r7a : w6.cell? ⟨b7, 0, none⟩ = some (.int .i64 (mn)) := hR7.cell 0
          have r7b : w6.cell? ⟨b7, 1, none⟩ = some (.int .i64 (ma)) := hR7.cell 1
          have r10a : w6.cell? ⟨b10, 0, none⟩ = some (.int .i64 (rn)) := hR10.cell 0
          have r10b : w6.cell? ⟨b10, 1, none⟩ = some (.int .i64 (ra)) := hR10.cell 1
          have l0 := hR0.lt
          have l7 := hR7.lt
          have l10 := hR10.lt
          clear hR0 hR7 hR10
          go_wp2_with fail
          refine (HLE.out ▸ lenC (hH2.below ((Below.refl _ _).alloc (Nat.le_refl _) _))).mono ?_
          rintro e w' ⟨rfl, rfl⟩
          go_wp2
          go_ret
          exact ⟨ret_true (by simp), hB.alloc hs _⟩
        · have hd1 : decide (ra < ra) = false := by simp
          have hd2 : decide (rn < mn) = true := by simpa using ha3
          have hR7 := Blok.new w3 30 #[.int .i64 mn, .int .i64 ra]
          replace hR0 := hR0.alloc (.cells #[.int .i64 mn, .int .i64 ra] 30)
          replace hH := hH.below (((Below.refl w3.heap.size w3).alloc (Nat.le_refl _) (.cells #[.int .i64 mn, .int .i64 ra] 30)))
          replace hB := hB.alloc hs (.cells #[.int .i64 mn, .int .i64 ra] 30)
          replace hs := hB.size
          have hz7 := World.size_alloc w3 (.cells #[.int .i64 mn, .int .i64 ra] 30)
          generalize hwx : w3.alloc (.cells #[.int .i64 mn, .int .i64 ra] 30) = wx7 at *
          clear hwx
          generalize w3.heap.size = b7 at *
          have hq7 : b7 < wx7.heap.size := by omega
          have HZ7 := Lib.hid hz7
          clear hz7
          go_wp2_with fail
          refine (HLN.out ▸ lenC hH).mono ?_
          rintro e w' ⟨rfl, rfl⟩
          have r0a : wx7.cell? ⟨w.heap.size, 0, none⟩ = some (.int .i64 rn) := hR0.cell 0
          have r0b : wx7.cell? ⟨w.heap.size, 1, none⟩ = some (.int .i64 ra) := hR0.cell 1
          go_wp2_with fail
          clear r0a r0b
          refine (pushC hH hs (rn, ra) (by have := HLN.out; omega)).mono ?_
          rintro e w4 ⟨rfl, v', d', hH2, ho, hK⟩
          have hg4 := hK.size
          have HV : Hid (∀ k, v.ownBlock = some k → w1.heap.size ≤ k ∧ k < b7) := HV7
          replace hR0 := hR0.kept hK (fun h => by rcases h with h | h <;> first | omega | (have := HV.out _ h; omega))
          replace hR7 := hR7.kept hK (fun h => by rcases h with h | h <;> first | omega | (have := HV.out _ h; omega))
          replace hB := hK.below_of hB hs (fun k hk h => by rcases h with h | h <;> first | omega | (have := HV.out _ h; omega))
          have hV2 : ∀ k, v'.ownBlock = some k → w1.heap.size ≤ k ∧ k < w4.heap.size ∧ k ≠ b7 := by
            intro k hk
            have hlt := hH2.ownlt k hk
            rcases ho with e | ⟨j, hj, e⟩
            · rw [e] at hk
              have := HV.out k hk
              omega
            · rw [e] at hk
              have : j = k := by simpa using hk
              omega
          clear HV
          have HV := Lib.hid hV2
          clear hK ho hH hV2 HV7
          have hH := hH2
          replace hs := hB.size
          have hh4 := hH.at_.head.lt
          clear hH2
          go_wp2_with fail
          refine (peekC hH (m := (rn, ra)) HL.out).mono ?_
          rintro e w5 ⟨rfl, hb5⟩
          replace hR0 := hR0.below hb5 hR0.lt
          replace hR7 := hR7.below hb5 hR7.lt
          replace hH := hH.below hb5
          replace hB := hB.trans (hb5.mono hs)
          replace hs := hB.size
          have hg5 := hb5.size
          clear hb5
          go_wp2_with fail
          have hR10 := Blok.new w5 30 #[.int .i64 rn, .int .i64 ra]
          replace hR0 := hR0.alloc (.cells #[.int .i64 rn, .int .i64 ra] 30)
          replace hR7 := hR7.alloc (.cells #[.int .i64 rn, .int .i64 ra] 30)
          replace hH := hH.below (((Below.refl w5.heap.size w5).alloc (Nat.le_refl _) (.cells #[.int .i64 rn, .int .i64 ra] 30)))
          replace hB := hB.alloc hs (.cells #[.int .i64 rn, .int .i64 ra] 30)
          replace hs := hB.size
          have hz10 := World.size_alloc w5 (.cells #[.int .i64 rn, .int .i64 ra] 30)
          generalize hwx : w5.alloc (.cells #[.int .i64 rn, .int .i64 ra] 30) = wx10 at *
          clear hwx
          generalize w5.heap.size = b10 at *
          have hq10 : b10 < wx10.heap.size := by omega
          have HZ10 := Lib.hid hz10
          clear hz10
          refine (popC hH (m := (rn, ra)) HL.out (by have := HLN.out; simp; omega)).mono ?_
          rintro e w6 ⟨rfl, v', d', hH2, ho, hK⟩
          replace hR0 := hR0.kept hK (fun h => by rcases h with h | h <;> first | omega | (have := HV.out _ h; omega))
          replace hR7 := hR7.kept hK (fun h => by rcases h with h | h <;> first | omega | (have := HV.out _ h; omega))
          replace hR10 := hR10.kept hK (fun h => by rcases h with h | h <;> first | omega | (have := HV.out _ h; omega))
          replace hB := hK.below_of hB hs (fun k hk h => by rcases h with h | h <;> first | omega | (have := HV.out _ h; omega))
          replace hs := hB.size
          clear hK ho hH
          have hlen : ((l ++ [(rn, ra)]).erase (rn, ra)).length = n := by
            rw [List.length_erase_of_mem HL.out.1]
            simp [HLN.out]
          have HLE := Lib.hid hlen
          clear hlen
          have r0a : w6.cell? ⟨w.heap.size, 0, none⟩ = some (.int .i64 rn) := hR0.cell 0
          have r0b : w6.cell? ⟨w.heap.size, 1, none⟩ = some (.int .i64 ra) := hR0.cell 1
          have r7a : w6.cell? ⟨b7, 0, none⟩ = some (.int .i64 (mn)) := hR7.cell 0
          have r7b : w6.cell? ⟨b7, 1, none⟩ = some (.int .i64 (ra)) := hR7.cell 1
          have r10a : w6.cell? ⟨b10, 0, none⟩ = some (.int .i64 (rn)) := hR10.cell 0
          have r10b : w6.cell? ⟨b10, 1, none⟩ = some (.int .i64 (ra)) := hR10.cell 1
          have l0 := hR0.lt
          have l7 := hR7.lt
          have l10 := hR10.lt
          clear hR0 hR7 hR10
          go_wp2_with fail
          refine (HLE.out ▸ lenC (hH2.below ((Below.refl _ _).alloc (Nat.le_refl _) _))).mono ?_
          rintro e w' ⟨rfl, rfl⟩
          go_wp2
          go_ret
          exact ⟨ret_true (by simp), hB.alloc hs _⟩
      · have hL := least_snoc_ge HM.out (by simpa using ha)
        have ha2 : ¬ (ra < ma ∨ ra = ma ∧ rn < mn) := ahd_no.1 (by simpa using ha)
        have HL := Lib.hid hL
        clear hL ha
        have ha3 : ma < ra ∨ (ra = ma ∧ mn ≤ rn) := by omega
        clear ha2
        rcases ha3 with ha3 | ⟨rfl, ha3⟩
        · have hd1 : decide (ra < ma) = false := by simp; omega
          have hd2 : (ra == ma) = false := by simp; omega
          have hR7 := Blok.new w3 30 #[.int .i64 mn, .int .i64 ma]
          replace hR0 := hR0.alloc (.cells #[.int .i64 mn, .int .i64 ma] 30)
          replace hH := hH.below (((Below.refl w3.heap.size w3).alloc (Nat.le_refl _) (.cells #[.int .i64 mn, .int .i64 ma] 30)))
          replace hB := hB.alloc hs (.cells #[.int .i64 mn, .int .i64 ma] 30)
          replace hs := hB.size
          have hz7 := World.size_alloc w3 (.cells #[.int .i64 mn, .int .i64 ma] 30)
          generalize hwx : w3.alloc (.cells #[.int .i64 mn, .int .i64 ma] 30) = wx7 at *
          clear hwx
          generalize w3.heap.size = b7 at *
          have hq7 : b7 < wx7.heap.size := by omega
          have HZ7 := Lib.hid hz7
          clear hz7
          go_wp2_with fail
          refine (HLN.out ▸ lenC hH).mono ?_
          rintro e w' ⟨rfl, rfl⟩
          have r0a : wx7.cell? ⟨w.heap.size, 0, none⟩ = some (.int .i64 rn) := hR0.cell 0
          have r0b : wx7.cell? ⟨w.heap.size, 1, none⟩ = some (.int .i64 ra) := hR0.cell 1
          go_wp2_with fail
          clear r0a r0b
          refine (pushC hH hs (rn, ra) (by have := HLN.out; omega)).mono ?_
          rintro e w4 ⟨rfl, v', d', hH2, ho, hK⟩
          have hg4 := hK.size
          have HV : Hid (∀ k, v.ownBlock = some k → w1.heap.size ≤ k ∧ k < b7) := HV7
          replace hR0 := hR0.kept hK (fun h => by rcases h with h | h <;> first | omega | (have := HV.out _ h; omega))
          replace hR7 := hR7.kept hK (fun h => by rcases h with h | h <;> first | omega | (have := HV.out _ h; omega))
          replace hB := hK.below_of hB hs (fun k hk h => by rcases h with h | h <;> first | omega | (have := HV.out _ h; omega))
          have hV2 : ∀ k, v'.ownBlock = some k → w1.heap.size ≤ k ∧ k < w4.heap.size ∧ k ≠ b7 := by
            intro k hk
            have hlt := hH2.ownlt k hk
            rcases ho with e | ⟨j, hj, e⟩
            · rw [e] at hk
              have := HV.out k hk
              omega
            · rw [e] at hk
              have : j = k := by simpa using hk
              omega
          clear HV
          have HV := Lib.hid hV2
          clear hK ho hH hV2 HV7
          have hH := hH2
          replace hs := hB.size
          have hh4 := hH.at_.head.lt
          clear hH2
          go_wp2_with fail
          refine (peekC hH (m := (mn, ma)) HL.out).mono ?_
          rintro e w5 ⟨rfl, hb5⟩
          replace hR0 := hR0.below hb5 hR0.lt
          replace hR7 := hR7.below hb5 hR7.lt
          replace hH := hH.below hb5
          replace hB := hB.trans (hb5.mono hs)
          replace hs := hB.size
          have hg5 := hb5.size
          clear hb5
          go_wp2_with fail
          have hR10 := Blok.new w5 30 #[.int .i64 mn, .int .i64 ma]
          replace hR0 := hR0.alloc (.cells #[.int .i64 mn, .int .i64 ma] 30)
          replace hR7 := hR7.alloc (.cells #[.int .i64 mn, .int .i64 ma] 30)
          replace hH := hH.below (((Below.refl w5.heap.size w5).alloc (Nat.le_refl _) (.cells #[.int .i64 mn, .int .i64 ma] 30)))
          replace hB := hB.alloc hs (.cells #[.int .i64 mn, .int .i64 ma] 30)
          replace hs := hB.size
          have hz10 := World.size_alloc w5 (.cells #[.int .i64 mn, .int .i64 ma] 30)
          generalize hwx : w5.alloc (.cells #[.int .i64 mn, .int .i64 ma] 30) = wx10 at *
          clear hwx
          generalize w5.heap.size = b10 at *
          have hq10 : b10 < wx10.heap.size := by omega
          have HZ10 := Lib.hid hz10
          clear hz10
          refine (popC hH (m := (mn, ma)) HL.out (by have := HLN.out; simp; omega)).mono ?_
          rintro e w6 ⟨rfl, v', d', hH2, ho, hK⟩
          replace hR0 := hR0.kept hK (fun h => by rcases h with h | h <;> first | omega | (have := HV.out _ h; omega))
          replace hR7 := hR7.kept hK (fun h => by rcases h with h | h <;> first | omega | (have := HV.out _ h; omega))
          replace hR10 := hR10.kept hK (fun h => by rcases h with h | h <;> first | omega | (have := HV.out _ h; omega))
          replace hB := hK.below_of hB hs (fun k hk h => by rcases h with h | h <;> first | omega | (have := HV.out _ h; omega))
          replace hs := hB.size
          clear hK ho hH
          have hlen : ((l ++ [(rn, ra)]).erase (mn, ma)).length = n := by
            rw [List.length_erase_of_mem HL.out.1]
            simp [HLN.out]
          have HLE := Lib.hid hlen
          clear hlen
          have r0a : w6.cell? ⟨w.heap.size, 0, none⟩ = some (.int .i64 rn) := hR0.cell 0
          have r0b : w6.cell? ⟨w.heap.size, 1, none⟩ = some (.int .i64 ra) := hR0.cell 1
          have r7a : w6.cell? ⟨b7, 0, none⟩ = some (.int .i64 (mn)) := hR7.cell 0
          have r7b : w6.cell? ⟨b7, 1, none⟩ = some (.int .i64 (ma)) := hR7.cell 1
          have r10a : w6.cell? ⟨b10, 0, none⟩ = some (.int .i64 (mn)) := hR10.cell 0
          have r10b : w6.cell? ⟨b10, 1, none⟩ = some (.int .i64 (ma)) := hR10.cell 1
          have l0 := hR0.lt
          have l7 := hR7.lt
          have l10 := hR10.lt
          clear hR0 hR7 hR10
          go_wp2_with fail
          refine (HLE.out ▸ lenC (hH2.below ((Below.refl _ _).alloc (Nat.le_refl _) _))).mono ?_
          rintro e w' ⟨rfl, rfl⟩
          go_wp2
          go_ret
          exact ⟨ret_true (by simp), hB.alloc hs _⟩
        · have hd1 : decide (ra < ra) = false := by simp
          have hd2 : decide (rn < mn) = false := by simp; omega
          have hR7 := Blok.new w3 30 #[.int .i64 mn, .int .i64 ra]
          replace hR0 := hR0.alloc (.cells #[.int .i64 mn, .int .i64 ra] 30)
          replace hH := hH.below (((Below.refl w3.heap.size w3).alloc (Nat.le_refl _) (.cells #[.int .i64 mn, .int .i64 ra] 30)))
          replace hB := hB.alloc hs (.cells #[.int .i64 mn, .int .i64 ra] 30)
          replace hs := hB.size
          have hz7 := World.size_alloc w3 (.cells #[.int .i64 mn, .int .i64 ra] 30)
          generalize hwx : w3.alloc (.cells #[.int .i64 mn, .int .i64 ra] 30) = wx7 at *
          clear hwx
          generalize w3.heap.size = b7 at *
          have hq7 : b7 < wx7.heap.size := by omega
          have HZ7 := Lib.hid hz7
          clear hz7
          go_wp2_with fail
          refine (HLN.out ▸ lenC hH).mono ?_
          rintro e w' ⟨rfl, rfl⟩
          have r0a : wx7.cell? ⟨w.heap.size, 0, none⟩ = some (.int .i64 rn) := hR0.cell 0
          have r0b : wx7.cell? ⟨w.heap.size, 1, none⟩ = some (.int .i64 ra) := hR0.cell 1
          go_wp2_with fail
          clear r0a r0b
          refine (pushC hH hs (rn, ra) (by have := HLN.out; omega)).mono ?_
          rintro e w4 ⟨rfl, v', d', hH2, ho, hK⟩
          have hg4 := hK.size
          have HV : Hid (∀ k, v.ownBlock = some k → w1.heap.size ≤ k ∧ k < b7) := HV7
          replace hR0 := hR0.kept hK (fun h => by rcases h with h | h <;> first | omega | (have := HV.out _ h; omega))
          replace hR7 := hR7.kept hK (fun h => by rcases h with h | h <;> first | omega | (have := HV.out _ h; omega))
          replace hB := hK.below_of hB hs (fun k hk h => by rcases h with h | h <;> first | omega | (have := HV.out _ h; omega))
          have hV2 : ∀ k, v'.ownBlock = some k → w1.heap.size ≤ k ∧ k < w4.heap.size ∧ k ≠ b7 := by
            intro k hk
            have hlt := hH2.ownlt k hk
            rcases ho with e | ⟨j, hj, e⟩
            · rw [e] at hk
              have := HV.out k hk
              omega
            · rw [e] at hk
              have : j = k := by simpa using hk
              omega
          clear HV
          have HV := Lib.hid hV2
          clear hK ho hH hV2 HV7
          have hH := hH2
          replace hs := hB.size
          have hh4 := hH.at_.head.lt
          clear hH2
          go_wp2_with fail
          refine (peekC hH (m := (mn, ra)) HL.out).mono ?_
          rintro e w5 ⟨rfl, hb5⟩
          replace hR0 := hR0.below hb5 hR0.lt
          replace hR7 := hR7.below hb5 hR7.lt
          replace hH := hH.below hb5
          replace hB := hB.trans (hb5.mono hs)
          replace hs := hB.size
          have hg5 := hb5.size
          clear hb5
          go_wp2_with fail
          have hR10 := Blok.new w5 30 #[.int .i64 mn, .int .i64 ra]
          replace hR0 := hR0.alloc (.cells #[.int .i64 mn, .int .i64 ra] 30)
          replace hR7 := hR7.alloc (.cells #[.int .i64 mn, .int .i64 ra] 30)
          replace hH := hH.below (((Below.refl w5.heap.size w5).alloc (Nat.le_refl _) (.cells #[.int .i64 mn, .int .i64 ra] 30)))
          replace hB := hB.alloc hs (.cells #[.int .i64 mn, .int .i64 ra] 30)
          replace hs := hB.size
          have hz10 := World.size_alloc w5 (.cells #[.int .i64 mn, .int .i64 ra] 30)
          generalize hwx : w5.alloc (.cells #[.int .i64 mn, .int .i64 ra] 30) = wx10 at *
          clear hwx
          generalize w5.heap.size = b10 at *
          have hq10 : b10 < wx10.heap.size := by omega
          have HZ10 := Lib.hid hz10
          clear hz10
          refine (popC hH (m := (mn, ra)) HL.out (by have := HLN.out; simp; omega)).mono ?_
          rintro e w6 ⟨rfl, v', d', hH2, ho, hK⟩
          replace hR0 := hR0.kept hK (fun h => by rcases h with h | h <;> first | omega | (have := HV.out _ h; omega))
          replace hR7 := hR7.kept hK (fun h => by rcases h with h | h <;> first | omega | (have := HV.out _ h; omega))
          replace hR10 := hR10.kept hK (fun h => by rcases h with h | h <;> first | omega | (have := HV.out _ h; omega))
          replace hB := hK.below_of hB hs (fun k hk h => by rcases h with h | h <;> first | omega | (have := HV.out _ h; omega))
          replace hs := hB.size
          clear hK ho hH
          have hlen : ((l ++ [(rn, ra)]).erase (mn, ra)).length = n := by
            rw [List.length_erase_of_mem HL.out.1]
            simp [HLN.out]
          have HLE := Lib.hid hlen
          clear hlen
          have r0a : w6.cell? ⟨w.heap.size, 0, none⟩ = some (.int .i64 rn) := hR0.cell 0
          have r0b : w6.cell? ⟨w.heap.size, 1, none⟩ = some (.int .i64 ra) := hR0.cell 1
          have r7a : w6.cell? ⟨b7, 0, none⟩ = some (.int .i64 (mn)) := hR7.cell 0
          have r7b : w6.cell? ⟨b7, 1, none⟩ = some (.int .i64 (ra)) := hR7.cell 1
          have r10a : w6.cell? ⟨b10, 0, none⟩ = some (.int .i64 (mn)) := hR10.cell 0
          have r10b : w6.cell? ⟨b10, 1, none⟩ = some (.int .i64 (ra)) := hR10.cell 1
          have l0 := hR0.lt
          have l7 := hR7.lt
          have l10 := hR10.lt
          clear hR0 hR7 hR10
          go_wp2_with fail
          refine (HLE.out ▸ lenC (hH2.below ((Below.refl _ _).alloc (Nat.le_refl _) _))).mono ?_
          rintro e w' ⟨rfl, rfl⟩
          go_wp2
          go_ret
          exact ⟨ret_true (by simp), hB.alloc hs _⟩
theorem heapPeeks_own : ownKnob Try.prog.godebug = none := by kernel_rfl
theorem heapPeeks_laidOut : laidOutB Try.prog = true := by kernel_rfl

set_option maxHeartbeats 1000000 in
set_option maxRecDepth 100000 in
theorem heapPeeks_lifted (os : Os) (started : os.Started) (H : Type) (enc : TypeId × Value → H) :
    ReturnsInHanded {} Try.checked os 5 .any (Rows.heapPeeksSpec.pre6 enc Try.prog Try.f5 Rows.heapPeeksRow.domain false) (Rows.heapPeeksSpec.post enc Try.prog Try.f5 false true false false) := by
  refine returnsInHanded_of_change (C := Try.checked) heapPeeks_own started (by kernel_rfl) Try.func5
    (ChangeSpec.witness6 (enc := enc) (C := Try.checked) false ⟨#[], #[.slice none 0 0, .agg #[.int .i64 0, .int .i64 0]], []⟩ 8 (by kernel_rfl) (by kernel_rfl) (by kernel_rfl) (by kernel_rfl)) ?_
  intro W base args ds gs before hval0 hW hcnd _
  have hval : ∀ (j : Nat) t v, Try.f5.params[j]? = some t → args[j]? = some v → Value.okWide Try.prog W .any base t v := hval0
  have hW' := hW
  obtain ⟨p, q, hA0, hV, rfl, hfz, hnd⟩ := hW
  have hA : DataW.TrodAll enc Try.prog W 0 (fun _ => true) true Try.f5.params.toList args.toList ds p := hA0
  rw [Try.params5] at hA hval
  obtain ⟨v0, vs0, d0, ds0, p0, q0, hargs, rfl, rfl, h0, r0⟩ := trodAll_cons hA
  obtain ⟨v1, vs1, d1, ds1, p1, q1, rfl, rfl, rfl, h1, r1⟩ := trodAll_cons r0
  obtain ⟨rfl, rfl, rfl⟩ := trodAll_nil r1
  obtain rfl : args = #[v0, v1] := by cases args; simp_all
  obtain ⟨rfl, rfl⟩ := trodVars_none hV
  obtain ⟨A0, n0, c0, ns0, rfl, nc0, cm0, hl0, nl0, w0⟩ := open_rows 4 (K := 2) Try.underlying22 (by kernel_rfl) (by kernel_rfl) (by omega) (hval 0 22 v0 rfl rfl) h0
  obtain ⟨n1, e1, l1, w1⟩ := open_flat 4 Try.underlying30 (by kernel_rfl) (hval 1 30 v1 rfl rfl) h1
  obtain ⟨a1_0, a1_1, rfl⟩ : ∃ a1_0 a1_1 : Int, n1 = [a1_0, a1_1] := by
    rw [show Try.prog.cellsOf 30 = 2 by kernel_rfl] at l1
    match n1, l1 with
    | [a1_0, a1_1], _ => exact ⟨_, _, rfl⟩
  obtain rfl : v1 = .agg #[.int .i64 a1_0, .int .i64 a1_1] := e1
  clear hA0 hval0
  refine (heapPeeks_walk A0 n0 c0 ns0 a1_0 a1_1 nc0 cm0 nl0 w0 w1 W hl0).mono fun e W' ⟨he, bel⟩ => ?_
  subst he
  exact ⟨_, rfl, law_post heapPeeks_laidOut (by kernel_rfl) rfl Try.underlying4 rfl rfl hW' bel⟩

theorem heapPeeks_proved : Rows.HeapPeeksSaid :=
  OpenClaim.holds_of_wide 5 Try.f5 rfl rfl rfl rfl rfl rfl rfl ⟨rfl, rfl, rfl, rfl, rfl⟩ rfl rfl rfl rfl rfl (by kernel_rfl) Try.func5 (by kernel_rfl)
    (of_decide_eq_true (by kernel_rfl)) (by unfold Func.isWrapper; first | (rw [if_pos (by decide +kernel)]; kernel_rfl) | (rw [if_neg (by decide +kernel)]; exact ⟨rfl, rfl⟩))
    (fun os started H enc _ => heapPeeks_lifted os started H enc)
#print axioms heapPeeks_proved
end Go.Proofs.Ytpmibpclkfidkaa
