/- slices.swapRangeCmpFunc and rotateCmpFunc at routes: by swapR, rot (XSymArr). No condition. -/
import Derived.Test.YtbhhkaaidhapbaaShelfIns
import Derived.Test.YtbhhkaaidhapbaaSymStab
import Derived.Shelf.SlSortCmp.KitK
import Derived.Sort.WalkB2
import Derived.Sort.WalkB12
import Derived.Deep.LoopGhost
namespace Go.Proofs.Ytbhhkaaidhapbaa
open Go.Shelf Go.RowKit Go.Lib Go.Sort
set_option linter.unusedSimpArgs false
set_option linter.unusedVariables false
section
variable {α : Type} [Inhabited α]
set_option maxHeartbeats 4000000 in
set_option maxRecDepth 1000000 in
theorem swapRange_any (k : Nat) (aE : ∀ w, (isAgg 25).run Try.prog w = .ok true w) (zE : ∀ w, (Go.sizeOf 25).run Try.prog w = .ok k w) (enc : α → List Value) (g : Nat) (cb : Array Value) (blk off cap : Nat) (a b n : Nat) (d0 d : Array α) (w0 w : World) (R : RowK enc k w0 blk off d0) (hs : d0.size = d.size) (S : SWK enc k w0 blk off d w) (hsz : d.size < 1000000000) (hab : a + n ≤ b) (hb : b + n ≤ d.size) :
    Calls Try.prog 42 #[.slice (some ⟨blk, off, none⟩) d.size cap, .int .i64 a, .int .i64 b, .int .i64 n, .func (.func g) #[] cb] w fun e w' => e = .returned (.tuple #[]) ∧ SWK enc k w0 blk off (swapR d a b n) w' := by
  have S0 : Aside (SWK enc k w0 blk off d w) := S
  have mixed : Try.prog.follows .mixedOrders = true := by kernel_rfl
  clear S
  go_enter Try.func42, Try.ntmps42
  go_wp2
  go_loopg [10] n (fun kx s8 wr => ∃ (i : Nat) (dk : Array α), s8 = .int .i64 i ∧ i ≤ n ∧ n - i ≤ kx ∧ dk.size = d.size ∧ Aside (SWK enc k w0 blk off dk wr) ∧ Hid (dk = swapR d a b i))
  case atStart => exact ⟨0, d, rfl, Nat.zero_le _, Nat.le_refl _, rfl, S0, rfl⟩
  case round =>
    clear S0
    obtain ⟨i, dk, rfl, hin, hkx, hds, S1, HE⟩ := hrel
    by_cases hlt : i < n
    · have hltz : (i : Int) < (n : Int) := by omega
      have ea1 : ((a : Int) + (i : Int)).toNat = a + i := by omega
      have pa1 : (0 : Int) ≤ (a : Int) + (i : Int) := by omega
      have ba1 : (a : Int) + (i : Int) < (d.size : Int) := by omega
      have ra1 : IntKind.i64.wrap ((a : Int) + (i : Int)) = (a : Int) + (i : Int) := by rw [IntKind.wrap_i64]; omega
      have ec1 : ((b : Int) + (i : Int)).toNat = b + i := by omega
      have pc1 : (0 : Int) ≤ (b : Int) + (i : Int) := by omega
      have bc1 : (b : Int) + (i : Int) < (d.size : Int) := by omega
      have rc1 : IntKind.i64.wrap ((b : Int) + (i : Int)) = (b : Int) + (i : Int) := by rw [IntKind.wrap_i64]; omega
      have S2 : Aside (SWK enc k w0 blk off (swp dk (a + i) (b + i)) ((wr.drew.setCells blk (off + (a + i) * k) (enc dk[b + i]!)).setCells blk (off + (b + i) * k) (enc dk[a + i]!))) := S1.out.swapped R (a + i) (b + i) (by omega) (by omega)
      have l1a := S1.out.ld1 R (by omega) Try.prog (a + i) (by omega)
      have l1b := S1.out.ld1 R (by omega) Try.prog (b + i) (by omega)
      have s1a := S1.out.st1 R (by omega) Try.prog (a + i) (by omega) dk[b + i]!
      have s1b := S1.out.st2 R (by omega) Try.prog (a + i) (b + i) (by omega) (by omega) dk[b + i]! dk[a + i]!
      have n1a : (enc dk[a + i]!).length = k := R.hk _
      have n1b : (enc dk[b + i]!).length = k := R.hk _
      generalize enc dk[a + i]! = cI1 at S2 l1a s1b n1a
      generalize enc dk[b + i]! = cJ1 at S2 l1b s1a s1b n1b
      clear S1
      go_wp2_with fail
      go_big_region_o
      clear l1a l1b s1a s1b
      generalize (wr.drew.setCells blk (off + (a + i) * k) cJ1).setCells blk (off + (b + i) * k) cI1 = w2 at S2 ⊢
      go_wp2
      go_roundg (n - (i + 1))
      case measure => omega
      case rel => exact ⟨i + 1, swp dk (a + i) (b + i), by go_num, by omega, Nat.le_refl _, by rw [size_swp]; exact hds, S2, (show Hid _ from by show _ = _; rw [HE.out]; rfl)⟩
    · have hltz : ¬ (i : Int) < (n : Int) := by omega
      go_wp2
      go_end0
      obtain rfl : i = n := by omega
      refine ⟨rfl, ?_⟩
      rw [← HE.out]
      exact S1.out
set_option maxHeartbeats 4000000 in
set_option maxRecDepth 1000000 in
theorem rotate_any (k : Nat) (aE : ∀ w, (isAgg 25).run Try.prog w = .ok true w) (zE : ∀ w, (Go.sizeOf 25).run Try.prog w = .ok k w) (enc : α → List Value) (g : Nat) (cb : Array Value) (blk off cap : Nat) (a m b : Nat) (d0 d : Array α) (w0 w : World) (R : RowK enc k w0 blk off d0) (hs : d0.size = d.size) (S : SWK enc k w0 blk off d w) (hsz : d.size < 1000000000) (ham : a < m) (hmb : m < b) (hb : b ≤ d.size) :
    Calls Try.prog 41 #[.slice (some ⟨blk, off, none⟩) d.size cap, .int .i64 a, .int .i64 m, .int .i64 b, .func (.func g) #[] cb] w fun e w' => e = .returned (.tuple #[]) ∧ SWK enc k w0 blk off (rot m (m - a) (b - m) d) w' := by
  have S0 : Aside (SWK enc k w0 blk off d w) := S
  clear S
  have r0 : IntKind.i64.wrap ((m : Int) - (a : Int)) = (m : Int) - (a : Int) := by rw [IntKind.wrap_i64]; omega
  have r1 : IntKind.i64.wrap ((b : Int) - (m : Int)) = (b : Int) - (m : Int) := by rw [IntKind.wrap_i64]; omega
  go_enter Try.func41, Try.ntmps41
  go_wp2
  go_loopg [10, 11] (b - a) (fun kx si sj wr => ∃ (i j : Nat) (dk : Array α), si = .int .i64 i ∧ sj = .int .i64 j ∧ 0 < i ∧ 0 < j ∧ i ≤ m - a ∧ j ≤ b - m ∧ i + j ≤ kx ∧ dk.size = d.size ∧ Aside (SWK enc k w0 blk off dk wr) ∧ Hid (rot m i j dk = rot m (m - a) (b - m) d))
  case atStart => exact ⟨m - a, b - m, d, by go_num, by go_num, by omega, by omega, Nat.le_refl _, Nat.le_refl _, by omega, rfl, S0, rfl⟩
  case round =>
    clear S0 r0 r1
    obtain ⟨i, j, dk, rfl, rfl, hi0, hj0, hia, hjb, hkx, hds, S1, HE⟩ := hrel
    have q1 : ¬ m < i := by omega
    by_cases hij : i = j
    · subst hij
      have hc := swapRange_any k aE zE enc g cb blk off cap (m - i) (m) (i) d0 dk w0 wr R (by omega) S1.out (by omega) (by omega) (by omega)
      rw [hds] at hc
      rw [show (((m - i : Nat) : Nat) : Int) = (m : Int) - (i : Int) by omega] at hc
      have rw0 : IntKind.i64.wrap ((m : Int) - (i : Int)) = (m : Int) - (i : Int) := by rw [IntKind.wrap_i64]; omega
      have HK := Lib.hid hc
      clear hc
      go_wp2_with fail
      refine HK.out.mono ?_
      rintro e w1 ⟨rfl, S2'⟩
      have S2 : Aside _ := S2'
      clear HK S1 S2'
      go_wp2
      go_end0
      refine ⟨rfl, ?_⟩
      rw [← HE.out, rot_eq m i i dk ⟨hi0, hi0⟩, if_pos rfl]
      exact S2.out
    · have hne : ¬ (i : Int) = (j : Int) := by omega
      by_cases hg : j < i
      · have hgz : (j : Int) < (i : Int) := by omega
        have r2 : IntKind.i64.wrap ((i : Int) - (j : Int)) = (i : Int) - (j : Int) := by rw [IntKind.wrap_i64]; omega
        have hc := swapRange_any k aE zE enc g cb blk off cap (m - i) (m) (j) d0 dk w0 wr R (by omega) S1.out (by omega) (by omega) (by omega)
        rw [hds] at hc
        rw [show (((m - i : Nat) : Nat) : Int) = (m : Int) - (i : Int) by omega] at hc
        have rw0 : IntKind.i64.wrap ((m : Int) - (i : Int)) = (m : Int) - (i : Int) := by rw [IntKind.wrap_i64]; omega
        have HK := Lib.hid hc
        clear hc
        go_wp2_with fail
        refine HK.out.mono ?_
        rintro e w1 ⟨rfl, S2'⟩
        have S2 : Aside _ := S2'
        clear HK S1 S2'
        go_wp2
        go_roundg (i - j + j)
        case measure => omega
        case rel => exact ⟨i - j, j, swapR dk (m - i) m j, by go_num, rfl, by omega, hj0, by omega, hjb, Nat.le_refl _, (size_swapR _ _ _ _).trans hds, S2, (show Hid _ from by show _ = _; rw [← HE.out, rot_eq m i j dk ⟨hi0, hj0⟩, if_neg hij, if_pos hg])⟩
      · have hgz : ¬ (j : Int) < (i : Int) := by omega
        have r2 : IntKind.i64.wrap ((j : Int) - (i : Int)) = (j : Int) - (i : Int) := by rw [IntKind.wrap_i64]; omega
        have hc := swapRange_any k aE zE enc g cb blk off cap (m - i) (m + j - i) (i) d0 dk w0 wr R (by omega) S1.out (by omega) (by omega) (by omega)
        rw [hds] at hc
        rw [show (((m - i : Nat) : Nat) : Int) = (m : Int) - (i : Int) by omega] at hc
        rw [show (((m + j - i : Nat) : Nat) : Int) = (m : Int) + (j : Int) - (i : Int) by omega] at hc
        have rw0 : IntKind.i64.wrap ((m : Int) - (i : Int)) = (m : Int) - (i : Int) := by rw [IntKind.wrap_i64]; omega
        have rw1 : IntKind.i64.wrap ((m : Int) + (j : Int)) = (m : Int) + (j : Int) := by rw [IntKind.wrap_i64]; omega
        have rw2 : IntKind.i64.wrap ((m : Int) + (j : Int) - (i : Int)) = (m : Int) + (j : Int) - (i : Int) := by rw [IntKind.wrap_i64]; omega
        have HK := Lib.hid hc
        clear hc
        go_wp2_with fail
        refine HK.out.mono ?_
        rintro e w1 ⟨rfl, S2'⟩
        have S2 : Aside _ := S2'
        clear HK S1 S2'
        go_wp2
        go_roundg (i + (j - i))
        case measure => omega
        case rel => exact ⟨i, j - i, swapR dk (m - i) (m + j - i) i, rfl, by go_num, hi0, by omega, hia, by omega, Nat.le_refl _, (size_swapR _ _ _ _).trans hds, S2, (show Hid _ from by show _ = _; rw [← HE.out, rot_eq m i j dk ⟨hi0, hj0⟩, if_neg hij, if_neg hg])⟩
end
end Go.Proofs.Ytbhhkaaidhapbaa
