/- Layer 14's small case comes out right. No condition. -/
import Derived.Test.YtpmibpclkfidkaaHeapC
namespace Go.Proofs.Ytpmibpclkfidkaa
open Go.ChangeShapes Go.WideShapes Go.ChangeAt Go.RowKit Go.Sort Hp
set_option linter.unusedSimpArgs false
set_option linter.unusedVariables false
theorem HeapB.ownlt {w : World} {B hb : Nat} {v : Value} {d l : List (Int × Int)} (h : HeapB w B hb v d l) : ∀ k, v.ownBlock = some k → k < w.heap.size := fun k hk => (h.at_.row.lt k hk).2
theorem eql_ready (a b c e : Int) (w : World) : (binOp .eql 30 (.agg #[.int .i64 a, .int .i64 b]) (.agg #[.int .i64 c, .int .i64 e])).run Try.prog w = .ok (.bool (a == c && b == e)) w := by
  have u3 := Try.underlying3
  have a3 := Try.isAgg3
  have z3 := Try.sizeOf3
  have hS : Try.prog.underlying 30 = some (.struct (Try.prog.fieldsOf 30)) := by kernel_rfl
  have hp : Try.prog.stoodInHeld 30 = false := by kernel_rfl
  rw [run_eql_struct, show (10000 : Nat) = 9999 + 1 from rfl, run_equalIn_agg w 9999 30 _ _ hS hp]
  simp only [Program.fieldsOf, Try.underlying30]
  go_simp
  by_cases h1 : a = c <;> by_cases h2 : b = e <;> simp [h1, h2]
instance (m : Rd) (l : List Rd) : Decidable (IsLeast m l) := by unfold IsLeast; infer_instance
set_option maxHeartbeats 4000000 in
set_option maxRecDepth 100000 in
theorem small14 (w : World) :
    Calls Try.prog 7 #[] w fun e w' => e = .returned (.bool true) ∧ Below w.heap.size w w' := by
  have heq := eql_ready
  have hgd : Try.prog.eqGuardType Try.prog.depth 30 = false := by kernel_rfl
  go_enter Try.func7, Try.ntmps7
  go_wp2_with fail
  have hB0 : Below w.heap.size w (w.alloc (.cells #[.int .i64 5, .int .i64 9, .int .i64 2, .int .i64 7, .int .i64 1, .int .i64 9] 30)) := (Below.refl _ _).alloc (Nat.le_refl _) _
  refine (new_any _ 3 3 [(5, 9), (2, 7), (1, 9)] _ rfl (by decide) ⟨rfl, fun _ => ⟨⟨w.heap.size, 0, none⟩, rfl, by simp, fun j u h => lit_cells w #[.int .i64 5, .int .i64 9, .int .i64 2, .int .i64 7, .int .i64 1, .int .i64 9] _ _ rfl j u h⟩⟩).mono ?_
  rintro e w1 ⟨hb, v0, d0, rfl, hH, hb1⟩
  have hB := hB0.trans (hb1.mono (by simp))
  have hb0 : w.heap.size ≤ hb := by have := hH.hb; simp at this; omega
  have hv0 : ∀ k, v0.ownBlock = some k → w.heap.size ≤ k ∧ k < w1.heap.size := fun k hk => ⟨by have := hH.own k hk; simp at this; omega, hH.ownlt k hk⟩
  have hbl : hb < w1.heap.size := hH.at_.head.lt
  have hH := HeapB.mk (B := w.heap.size) hH.at_ hH.heap hH.perm hb0 (fun k hk => (hv0 k hk).1)
  have hs := hB.size
  clear hB0 hb1
  obtain ⟨M0, hM0⟩ : ∃ n, w1.heap.size = n := ⟨_, rfl⟩
  have HM0 := Lib.hid hM0
  have HV0 := Lib.hid hv0
  clear hM0 hv0
  go_wp2_with fail
  refine (lenC hH).mono ?_
  rintro e w' ⟨rfl, rfl⟩
  go_wp2_with fail
  obtain ⟨v, hv⟩ : ∃ v, v0 = v := ⟨_, rfl⟩
  have HV : Hid (∀ k, v.ownBlock = some k → w.heap.size ≤ k ∧ k < M0) := by rw [← hv, ← HM0.out]; exact HV0.out
  rw [hv] at hH
  have hhm : hb < M0 := by rw [← HM0.out]; exact hbl
  have hm1 : M0 ≤ w1.heap.size := by rw [HM0.out]; omega
  clear hv HV0
  refine (peekC hH (m := (2, 7)) (by decide +kernel)).mono ?_
  rintro e w2 ⟨rfl, hb2⟩
  have hg1 := hb2.size
  replace hH := hH.below hb2
  replace hB := hB.trans (hb2.mono hs)
  replace hs := hB.size
  clear hb2
  go_wp2_with fail
  have hR1 := Blok.new w2 30 #[.int .i64 2, .int .i64 7]
  replace hH := hH.below (((Below.refl w2.heap.size w2).alloc (Nat.le_refl _) (.cells #[.int .i64 2, .int .i64 7] 30)))
  replace hB := hB.alloc hs (.cells #[.int .i64 2, .int .i64 7] 30)
  replace hs := hB.size
  have hz1 := World.size_alloc w2 (.cells #[.int .i64 2, .int .i64 7] 30)
  generalize hwx : w2.alloc (.cells #[.int .i64 2, .int .i64 7] 30) = wx1 at *
  clear hwx
  generalize w2.heap.size = b1 at *
  have hq1 : b1 < wx1.heap.size := by omega
  have HZ1 := Lib.hid hz1
  clear hz1
  refine (popC hH (m := (2, 7)) (by decide +kernel) (by decide)).mono ?_
  rintro e w3 ⟨rfl, v', d', hH2, ho, hK⟩
  have hg2 := hK.size
  replace hR1 := hR1.kept hK (fun h => by rcases h with h | h <;> first | omega | (have := HV.out _ h; omega))
  replace hB := hK.below_of hB hs (fun k hk h => by rcases h with h | h <;> first | omega | (have := HV.out _ h; omega))
  rw [← ho] at HV
  clear hK ho hH
  have hH := hH2
  replace hs := hB.size
  clear hH2
  go_wp2_with fail
  have hR2 := Blok.new w3 30 #[.int .i64 2, .int .i64 7]
  replace hR1 := hR1.alloc (.cells #[.int .i64 2, .int .i64 7] 30)
  replace hH := hH.below (((Below.refl w3.heap.size w3).alloc (Nat.le_refl _) (.cells #[.int .i64 2, .int .i64 7] 30)))
  replace hB := hB.alloc hs (.cells #[.int .i64 2, .int .i64 7] 30)
  replace hs := hB.size
  have hz2 := World.size_alloc w3 (.cells #[.int .i64 2, .int .i64 7] 30)
  generalize hwx : w3.alloc (.cells #[.int .i64 2, .int .i64 7] 30) = wx2 at *
  clear hwx
  generalize w3.heap.size = b2 at *
  have hq2 : b2 < wx2.heap.size := by omega
  have HZ2 := Lib.hid hz2
  clear hz2
  refine (pushC hH hs (3, 8) (by decide)).mono ?_
  rintro e w4 ⟨rfl, v', d', hH2, ho, hK⟩
  have hgp := hK.size
  replace hR1 := hR1.kept hK (fun h => by rcases h with h | h <;> first | omega | (have := HV.out _ h; omega))
  replace hR2 := hR2.kept hK (fun h => by rcases h with h | h <;> first | omega | (have := HV.out _ h; omega))
  replace hB := hK.below_of hB hs (fun k hk h => by rcases h with h | h <;> first | omega | (have := HV.out _ h; omega))
  have hV2 : ∀ k, v'.ownBlock = some k → w.heap.size ≤ k ∧ k < w4.heap.size ∧ k ≠ b1 ∧ k ≠ b2 := by
    intro k hk
    have hl := hH2.ownlt k hk
    rcases ho with e | ⟨j, hj, e⟩
    · rw [e] at hk
      have := HV.out k hk
      omega
    · rw [e] at hk
      have : j = k := by simpa using hk
      omega
  have HV := Lib.hid hV2
  clear hK ho hH hV2
  have hH := hH2
  replace hs := hB.size
  clear hH2
  go_wp2_with fail
  refine (popC hH (m := (3, 8)) (by decide +kernel) (by decide)).mono ?_
  rintro e w5 ⟨rfl, v', d', hH2, ho, hK⟩
  have hg3 := hK.size
  replace hR1 := hR1.kept hK (fun h => by rcases h with h | h <;> first | omega | (have := HV.out _ h; omega))
  replace hR2 := hR2.kept hK (fun h => by rcases h with h | h <;> first | omega | (have := HV.out _ h; omega))
  replace hB := hK.below_of hB hs (fun k hk h => by rcases h with h | h <;> first | omega | (have := HV.out _ h; omega))
  rw [← ho] at HV
  clear hK ho hH
  have hH := hH2
  replace hs := hB.size
  clear hH2
  go_wp2_with fail
  have hR3 := Blok.new w5 30 #[.int .i64 3, .int .i64 8]
  replace hR1 := hR1.alloc (.cells #[.int .i64 3, .int .i64 8] 30)
  replace hR2 := hR2.alloc (.cells #[.int .i64 3, .int .i64 8] 30)
  replace hH := hH.below (((Below.refl w5.heap.size w5).alloc (Nat.le_refl _) (.cells #[.int .i64 3, .int .i64 8] 30)))
  replace hB := hB.alloc hs (.cells #[.int .i64 3, .int .i64 8] 30)
  replace hs := hB.size
  have hz3 := World.size_alloc w5 (.cells #[.int .i64 3, .int .i64 8] 30)
  generalize hwx : w5.alloc (.cells #[.int .i64 3, .int .i64 8] 30) = wx3 at *
  clear hwx
  generalize w5.heap.size = b3 at *
  have hq3 : b3 < wx3.heap.size := by omega
  have HZ3 := Lib.hid hz3
  clear hz3
  refine (popC hH (m := (1, 9)) (by decide +kernel) (by decide)).mono ?_
  rintro e w6 ⟨rfl, v', d', hH2, ho, hK⟩
  have hg4 := hK.size
  replace hR1 := hR1.kept hK (fun h => by rcases h with h | h <;> first | omega | (have := HV.out _ h; omega))
  replace hR2 := hR2.kept hK (fun h => by rcases h with h | h <;> first | omega | (have := HV.out _ h; omega))
  replace hR3 := hR3.kept hK (fun h => by rcases h with h | h <;> first | omega | (have := HV.out _ h; omega))
  replace hB := hK.below_of hB hs (fun k hk h => by rcases h with h | h <;> first | omega | (have := HV.out _ h; omega))
  rw [← ho] at HV
  clear hK ho hH
  have hH := hH2
  replace hs := hB.size
  clear hH2
  go_wp2_with fail
  have hR4 := Blok.new w6 30 #[.int .i64 1, .int .i64 9]
  replace hR1 := hR1.alloc (.cells #[.int .i64 1, .int .i64 9] 30)
  replace hR2 := hR2.alloc (.cells #[.int .i64 1, .int .i64 9] 30)
  replace hR3 := hR3.alloc (.cells #[.int .i64 1, .int .i64 9] 30)
  replace hH := hH.below (((Below.refl w6.heap.size w6).alloc (Nat.le_refl _) (.cells #[.int .i64 1, .int .i64 9] 30)))
  replace hB := hB.alloc hs (.cells #[.int .i64 1, .int .i64 9] 30)
  replace hs := hB.size
  have hz4 := World.size_alloc w6 (.cells #[.int .i64 1, .int .i64 9] 30)
  generalize hwx : w6.alloc (.cells #[.int .i64 1, .int .i64 9] 30) = wx4 at *
  clear hwx
  generalize w6.heap.size = b4 at *
  have hq4 : b4 < wx4.heap.size := by omega
  have HZ4 := Lib.hid hz4
  clear hz4
  refine (popC hH (m := (5, 9)) (by decide +kernel) (by decide)).mono ?_
  rintro e w7 ⟨rfl, v', d', hH2, ho, hK⟩
  have hg5 := hK.size
  replace hR1 := hR1.kept hK (fun h => by rcases h with h | h <;> first | omega | (have := HV.out _ h; omega))
  replace hR2 := hR2.kept hK (fun h => by rcases h with h | h <;> first | omega | (have := HV.out _ h; omega))
  replace hR3 := hR3.kept hK (fun h => by rcases h with h | h <;> first | omega | (have := HV.out _ h; omega))
  replace hR4 := hR4.kept hK (fun h => by rcases h with h | h <;> first | omega | (have := HV.out _ h; omega))
  replace hB := hK.below_of hB hs (fun k hk h => by rcases h with h | h <;> first | omega | (have := HV.out _ h; omega))
  rw [← ho] at HV
  clear hK ho hH
  have hH := hH2
  replace hs := hB.size
  clear hH2
  go_wp2_with fail
  have hR5 := Blok.new w7 30 #[.int .i64 5, .int .i64 9]
  replace hR1 := hR1.alloc (.cells #[.int .i64 5, .int .i64 9] 30)
  replace hR2 := hR2.alloc (.cells #[.int .i64 5, .int .i64 9] 30)
  replace hR3 := hR3.alloc (.cells #[.int .i64 5, .int .i64 9] 30)
  replace hR4 := hR4.alloc (.cells #[.int .i64 5, .int .i64 9] 30)
  replace hH := hH.below (((Below.refl w7.heap.size w7).alloc (Nat.le_refl _) (.cells #[.int .i64 5, .int .i64 9] 30)))
  replace hB := hB.alloc hs (.cells #[.int .i64 5, .int .i64 9] 30)
  replace hs := hB.size
  have hz5 := World.size_alloc w7 (.cells #[.int .i64 5, .int .i64 9] 30)
  generalize hwx : w7.alloc (.cells #[.int .i64 5, .int .i64 9] 30) = wx5 at *
  clear hwx
  generalize w7.heap.size = b5 at *
  have hq5 : b5 < wx5.heap.size := by omega
  have HZ5 := Lib.hid hz5
  clear hz5
  refine (pop_none hb _ _ hH.nil_).mono ?_
  rintro e w8 ⟨rfl, hbx⟩
  replace hR1 := hR1.below hbx hR1.lt
  replace hR2 := hR2.below hbx hR2.lt
  replace hR3 := hR3.below hbx hR3.lt
  replace hR4 := hR4.below hbx hR4.lt
  replace hR5 := hR5.below hbx hR5.lt
  have hg6 := hbx.size
  replace hH := hH.below hbx
  replace hB := hB.trans (hbx.mono hs)
  replace hs := hB.size
  clear hbx
  have r1a : w8.cell? ⟨b1, 0, none⟩ = some (.int .i64 2) := hR1.cell 0
  have r1b : w8.cell? ⟨b1, 1, none⟩ = some (.int .i64 7) := hR1.cell 1
  have r1l := hR1.lt
  have r2a : w8.cell? ⟨b2, 0, none⟩ = some (.int .i64 2) := hR2.cell 0
  have r2b : w8.cell? ⟨b2, 1, none⟩ = some (.int .i64 7) := hR2.cell 1
  have r2l := hR2.lt
  have r3a : w8.cell? ⟨b3, 0, none⟩ = some (.int .i64 3) := hR3.cell 0
  have r3b : w8.cell? ⟨b3, 1, none⟩ = some (.int .i64 8) := hR3.cell 1
  have r3l := hR3.lt
  have r4a : w8.cell? ⟨b4, 0, none⟩ = some (.int .i64 1) := hR4.cell 0
  have r4b : w8.cell? ⟨b4, 1, none⟩ = some (.int .i64 9) := hR4.cell 1
  have r4l := hR4.lt
  have r5a : w8.cell? ⟨b5, 0, none⟩ = some (.int .i64 5) := hR5.cell 0
  have r5b : w8.cell? ⟨b5, 1, none⟩ = some (.int .i64 9) := hR5.cell 1
  have r5l := hR5.lt
  clear hR1 hR2 hR3 hR4 hR5
  go_wp2_with fail
  refine (lenC (hH.below ((Below.refl _ _).alloc (Nat.le_refl _) _))).mono ?_
  rintro e w' ⟨rfl, rfl⟩
  go_wp2
  go_ret
  exact ⟨rfl, hB.alloc hs _⟩
end Go.Proofs.Ytpmibpclkfidkaa
