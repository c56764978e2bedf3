/- BinarySearchFunc at these rows, the target an int. -/
import Derived.Test.YtejcjpfljcfibaaSlBk
namespace Go.Proofs.Ytejcjpfljcfibaa
open Go.ChangeShapes Go.WideShapes Go.ChangeAt Go.RowKit Go.Sort
set_option linter.unusedSimpArgs false
set_option linter.unusedVariables false
/-- A function value that compares with t, as cf says, in whatever world that has grown from W. -/
structure CmpIBk (g : FuncId) (lb : Array Value) (t : Int) (W : World) (cf : Bk → Int) : Prop where
  run : ∀ vals w, (callFunc g vals).run Try.prog w = .ok (.enter g vals) w
  tells : ∀ w', Below W.heap.size W w' → ∀ x : Bk, Calls Try.prog g (#[.agg #[.int .i64 x.id, .int .i64 x.ua, .int .i64 x.ub, .int .i64 x.uc], .int .i64 t] ++ lb) w' fun e w'' => e = .returned (.int .i64 (cf x)) ∧ Below w'.heap.size w' w''
set_option maxHeartbeats 1000000 in
set_option maxRecDepth 100000 in
theorem binaryIBk (A : Option Addr) (n c : Nat) (d : List Bk) (t : Int) (g : FuncId) (lb : Array Value) (cf : Bk → Int) (w : World) (hd : d.length = n) (hn : n ≤ 1000000) (h : Sl w w.heap.size 4 A n c (flatBk d)) (hp : CmpIBk g lb t w cf) :
    Calls Try.prog 46 #[.slice A n c, .int .i64 t, .func (.func g) #[] lb] w fun e w' => ∃ (i : Nat) (b : Bool), e = .returned (.tuple #[.int .i64 i, .bool b]) ∧ i ≤ n ∧ (i = 0 ∨ cf (gBk d (i - 1)) < 0) ∧ (i = n ∨ 0 ≤ cf (gBk d i)) ∧ b = (decide (i < n) && cf (gBk d i) == 0) ∧ Below w.heap.size w w' := by
  have hcf := hp.run
  have HP := Lib.hid hp
  have HD := Lib.hid hd
  clear hp hd
  go_enter Try.func46, Try.ntmps46
  go_wp2
  go_loopw [9, 10] (fun iv jv wr => ∃ i j : Nat, iv = .int .i64 i ∧ jv = .int .i64 j ∧ i ≤ j ∧ j ≤ n ∧ Hid (i = 0 ∨ cf (gBk d (i - 1)) < 0) ∧ Hid (j = n ∨ 0 ≤ cf (gBk d j)) ∧ Below w.heap.size w wr) (fun iv jv _ => (intOf jv - intOf iv).toNat)
  case atStart => exact ⟨0, n, rfl, rfl, by omega, Nat.le_refl _, .inl rfl, .inl rfl, Below.refl _ _⟩
  case round =>
    obtain ⟨i, j, rfl, rfl, hij, hjn, HI, HJ, hB⟩ := hrel
    have hs := hB.size
    by_cases hlt : i < j
    · obtain ⟨m, hm⟩ : ∃ m : Nat, (i + j) / 2 = m := ⟨_, rfl⟩
      have hmi : ((i : Int) + (j : Int)) / 2 = (m : Int) := by omega
      have hm1 : i ≤ m := by omega
      have hm2 : m < j := by omega
      have hmn : m < n := by omega
      have hmI : (m : Int) < (n : Int) := by omega
      clear hm
      obtain ⟨ad, rfl, hab, c0, c1, c2, c3⟩ := (h.below hB).lst.atBk HD.out (k := m) (by omega)
      obtain ⟨x, hx⟩ : ∃ x, gBk d m = x := ⟨_, rfl⟩
      rw [hx] at c0 c1 c2 c3
      have HX := Lib.hid hx
      clear hx
      have ht := HP.out.tells wr hB x
      obtain ⟨y, hy⟩ : ∃ y, cf x = y := ⟨_, rfl⟩
      rw [hy] at ht
      have HT := Lib.hid ht
      have HY := Lib.hid hy
      clear ht hy
      by_cases hneg : y < 0
      · go_wp2_with fail
        refine HT.out.mono ?_
        rintro e w1 ⟨rfl, hbel⟩
        replace hB := hB.trans (hbel.mono hs)
        clear hbel c0 c1 c2 c3 hmi
        go_wp2
        go_roundw
        case rel => exact ⟨m + 1, j, by go_num, rfl, by omega, by omega, (.inr (by rw [Nat.add_sub_cancel, HX.out, HY.out]; exact hneg)), HJ, hB⟩
        case measure => simp [intOf]; omega
      · go_wp2_with fail
        refine HT.out.mono ?_
        rintro e w1 ⟨rfl, hbel⟩
        replace hB := hB.trans (hbel.mono hs)
        clear hbel c0 c1 c2 c3 hmi
        go_wp2
        go_roundw
        case rel => exact ⟨i, m, rfl, rfl, by omega, by omega, HI, (.inr (by rw [HX.out, HY.out]; omega)), hB⟩
        case measure => simp [intOf]; omega
    · obtain rfl : i = j := by omega
      by_cases hin : i < n
      · obtain ⟨ad, rfl, hab, c0, c1, c2, c3⟩ := (h.below hB).lst.atBk HD.out (k := i) (by omega)
        obtain ⟨x, hx⟩ : ∃ x, gBk d i = x := ⟨_, rfl⟩
        rw [hx] at c0 c1 c2 c3
        have HX := Lib.hid hx
        clear hx
        have hini : (i : Int) < (n : Int) := by omega
        have ht := HP.out.tells wr hB x
        obtain ⟨y, hy⟩ : ∃ y, cf x = y := ⟨_, rfl⟩
        rw [hy] at ht
        have HT := Lib.hid ht
        have HY := Lib.hid hy
        clear ht hy
        go_wp2_with fail
        refine HT.out.mono ?_
        rintro e w1 ⟨rfl, hbel⟩
        replace hB := hB.trans (hbel.mono hs)
        clear hbel c0 c1 c2 c3
        go_wp2
        go_ret2
        refine ⟨i, (y == 0), rfl, hjn, HI.out, HJ.out, ?_, hB⟩
        rw [HX.out, HY.out, decide_eq_true hin]; simp
      · have hdn : decide ((i : Int) < (n : Int)) = false := by simp; omega
        go_wp2
        go_ret2
        refine ⟨i, false, rfl, hjn, HI.out, HJ.out, ?_, hB⟩
        rw [decide_eq_false hin]; simp
end Go.Proofs.Ytejcjpfljcfibaa
