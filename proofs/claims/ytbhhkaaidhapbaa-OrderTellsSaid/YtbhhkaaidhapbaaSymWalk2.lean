/- slices.symMergeCmpFunc at routes: by symM (XSymTo). No condition. -/
import Derived.Test.YtbhhkaaidhapbaaSymWalk
import Derived.Shelf.SlSortCmp.KitK
import Derived.Sort.WalkB2
import Derived.Sort.WalkB12
import Derived.Deep.LoopGhost
namespace Go.Proofs.Ytbhhkaaidhapbaa
open Go.Shelf Go.RowKit Go.Lib Go.Sort
set_option linter.unusedSimpArgs false
set_option linter.unusedVariables false
section
variable {α : Type} [Inhabited α]
set_option maxHeartbeats 4000000 in
set_option maxRecDepth 1000000 in
theorem symUp_any (k : Nat) (aE : ∀ w, (isAgg 25).run Try.prog w = .ok true w) (zE : ∀ w, (Go.sizeOf 25).run Try.prog w = .ok k w) (enc : α → List Value) (g : Nat) (cb : Array Value) (blk off cap : Nat) (a m b f : Nat) (d0 d : Array α) (w0 w : World) (R : RowK enc k w0 blk off d0) (hs : d0.size = d.size) (S : SWK enc k w0 blk off d w) (hsz : d.size < 1000000000) (cf : α → α → Int) (eg : ∀ args w, (callFunc g args).run Try.prog w = .ok (.enter g args) w) (hcmp : CmpLays Try.prog g cb enc k cf blk off d0.size w0) (ham : a < m) (hmb : m < b) (hb : b ≤ d.size) (h1 : m = a + 1) :
    Calls Try.prog 40 #[.slice (some ⟨blk, off, none⟩) d.size cap, .int .i64 a, .int .i64 m, .int .i64 b, .func (.func g) #[] cb] w fun e w' => e = .returned (.tuple #[]) ∧ SWK enc k w0 blk off (shUp d a (bsr (fun h => !ltOf cf d[h]! d[a]!) m b - 1 - a)) w' := by
  have S0 : Aside (SWK enc k w0 blk off d w) := S
  have HC : Aside _ := hcmp
  have mixed : Try.prog.follows .mixedOrders = true := by kernel_rfl
  clear S hcmp
  have hz1 : (m : Int) - (a : Int) = 1 := by omega
  clear h1
  have rz1 : IntKind.i64.wrap ((m : Int) - (a : Int)) = (m : Int) - (a : Int) := by rw [IntKind.wrap_i64]; omega
  go_enter Try.func40, Try.ntmps40
  go_wp2
  go_loopg [10, 11, 12] (b - m) (fun kx si sj sh wr => ∃ (i j : Nat), si = .int .i64 i ∧ sj = .int .i64 j ∧ m ≤ i ∧ i ≤ j ∧ j ≤ b ∧ j - i ≤ kx ∧ Aside (SWK enc k w0 blk off d wr) ∧ Hid (bsr (fun h => !ltOf cf d[h]! d[a]!) i j = bsr (fun h => !ltOf cf d[h]! d[a]!) (m) (b)))
  case atStart => exact ⟨m, b, by go_num, by go_num, Nat.le_refl _, by omega, Nat.le_refl _, Nat.le_refl _, S0, rfl⟩
  case round =>
    clear S0
    obtain ⟨i, j, rfl, rfl, hli, hij, hjh, hkx, S1, HE⟩ := hrel
    by_cases hlt : i < j
    · have hltz : (i : Int) < (j : Int) := by omega
      obtain ⟨h, hh⟩ : ∃ h : Nat, (i + j) / 2 = h := ⟨_, rfl⟩
      have hmi : ((i : Int) + (j : Int)) / 2 = (h : Int) := by omega
      have hm1 : i ≤ h := by omega
      have hm2 : h < j := by omega
      have rh : IntKind.i64.wrap ((i : Int) + (j : Int)) = (i : Int) + (j : Int) := by rw [IntKind.wrap_i64]; omega
      have HH := Lib.hid hh
      clear hh
      cases hG : ltOf cf d[h]! d[a]! with
      | true =>
        have ea3 : ((h : Int)).toNat = h := by omega
        have pa3 : (0 : Int) ≤ (h : Int) := by omega
        have ba3 : (h : Int) < (d.size : Int) := by omega
        have ra3 : IntKind.i64.wrap ((h : Int)) = (h : Int) := by rw [IntKind.wrap_i64]; omega
        have ec3 : ((a : Int)).toNat = a := by omega
        have pc3 : (0 : Int) ≤ (a : Int) := by omega
        have bc3 : (a : Int) < (d.size : Int) := by omega
        have rc3 : IntKind.i64.wrap ((a : Int)) = (a : Int) := by rw [IntKind.wrap_i64]; omega
        obtain ⟨x3, hx3⟩ : ∃ x, x = d[h]! := ⟨_, rfl⟩
        obtain ⟨y3, hy3⟩ : ∃ x, x = d[a]! := ⟨_, rfl⟩
        have l3a := S1.out.ld R (by omega) Try.prog (h) (by omega)
        have l3b := S1.out.ld R (by omega) Try.prog (a) (by omega)
        rw [← hx3] at l3a
        rw [← hy3] at l3b
        have hc3 := S1.out.cmp HC.out (by omega) x3 y3
        have hv3 : cf x3 y3 < 0 := by rw [hx3, hy3]; exact of_decide_eq_true hG
        have hd3 : decide (cf x3 y3 < 0) = true := decide_eq_true hv3
        clear hx3 hy3
        go_wp2_with fail
        go_quiet_grown (first | (go_at_fn g; refine Calls.grown_of (hc3 _ _)))
        have S2 : Aside (SWK enc k w0 blk off d (grow (wr.drewN nq) osq)) := S1.out.grown nq osq
        clear l3a l3b hc3 S1
        generalize grow (wr.drewN nq) osq = w2 at S2 ⊢
        clear nq osq
        go_wp2
        have hp : (fun h => !ltOf cf d[h]! d[a]!) h = false := by simp [hG]
        go_roundg (j - (h + 1))
        case measure => omega
        case rel => exact ⟨h + 1, j, by go_num, by go_num, by omega, by omega, by omega, Nat.le_refl _, S2, (show Hid _ from by show _ = _; rw [← HE.out, bsr_eq _ i j, if_pos hlt, show (i + j) / 2 = h from HH.out, if_neg (by simp [hG])])⟩
      | false =>
        have ea4 : ((h : Int)).toNat = h := by omega
        have pa4 : (0 : Int) ≤ (h : Int) := by omega
        have ba4 : (h : Int) < (d.size : Int) := by omega
        have ra4 : IntKind.i64.wrap ((h : Int)) = (h : Int) := by rw [IntKind.wrap_i64]; omega
        have ec4 : ((a : Int)).toNat = a := by omega
        have pc4 : (0 : Int) ≤ (a : Int) := by omega
        have bc4 : (a : Int) < (d.size : Int) := by omega
        have rc4 : IntKind.i64.wrap ((a : Int)) = (a : Int) := by rw [IntKind.wrap_i64]; omega
        obtain ⟨x4, hx4⟩ : ∃ x, x = d[h]! := ⟨_, rfl⟩
        obtain ⟨y4, hy4⟩ : ∃ x, x = d[a]! := ⟨_, rfl⟩
        have l4a := S1.out.ld R (by omega) Try.prog (h) (by omega)
        have l4b := S1.out.ld R (by omega) Try.prog (a) (by omega)
        rw [← hx4] at l4a
        rw [← hy4] at l4b
        have hc4 := S1.out.cmp HC.out (by omega) x4 y4
        have hv4 : ¬ cf x4 y4 < 0 := by rw [hx4, hy4]; exact of_decide_eq_false hG
        have hd4 : decide (cf x4 y4 < 0) = false := decide_eq_false hv4
        clear hx4 hy4
        go_wp2_with fail
        go_quiet_grown (first | (go_at_fn g; refine Calls.grown_of (hc4 _ _)))
        have S2 : Aside (SWK enc k w0 blk off d (grow (wr.drewN nq) osq)) := S1.out.grown nq osq
        clear l4a l4b hc4 S1
        generalize grow (wr.drewN nq) osq = w2 at S2 ⊢
        clear nq osq
        go_wp2
        have hp : (fun h => !ltOf cf d[h]! d[a]!) h = true := by simp [hG]
        go_roundg (h - (i))
        case measure => omega
        case rel => exact ⟨i, h, by go_num, by go_num, by omega, by omega, by omega, Nat.le_refl _, S2, (show Hid _ from by show _ = _; rw [← HE.out, bsr_eq _ i j, if_pos hlt, show (i + j) / 2 = h from HH.out, if_pos (by simp [hG])])⟩
    · have hltz : ¬ (i : Int) < (j : Int) := by omega
      obtain rfl : i = j := by omega
      have hbr : bsr (fun h => !ltOf cf d[h]! d[a]!) i i = i := by rw [bsr_eq, if_neg (Nat.lt_irrefl _)]
      have HB : Hid (bsr (fun h => !ltOf cf d[h]! d[a]!) (m) (b) = i) := (show _ = _ from HE.out.symm.trans hbr)
      clear hbr HE
      go_wp2
      go_loopg [13] (i - 1 - a) (fun kx sk wk => ∃ (n : Nat) (dk : Array α), sk = .int .i64 ((a + n : Nat) : Int) ∧ n ≤ i - 1 - a ∧ i - 1 - a - n ≤ kx ∧ dk.size = d.size ∧ Aside (SWK enc k w0 blk off dk wk) ∧ Hid (dk = shUp d a n))
      case atStart => exact ⟨0, d, by go_num, Nat.zero_le _, Nat.le_refl _, rfl, S1, rfl⟩
      case round =>
        clear S1
        obtain ⟨n, dk, rfl, hn, hkn, hds, S3, HD⟩ := hrel
        obtain ⟨q, hq0⟩ : ∃ q : Nat, q = a + n := ⟨_, rfl⟩
        rw [← hq0]
        have hq : q ≤ a + n ∧ a + n ≤ q := by omega
        clear hq0
        have ri : IntKind.i64.wrap ((i : Int) - 1) = (i : Int) - 1 := by rw [IntKind.wrap_i64]; omega
        by_cases hlk : q < i - 1
        · have hlz : (q : Int) < (i : Int) - 1 := by omega
          have ea2 : ((q : Int)).toNat = q := by omega
          have pa2 : (0 : Int) ≤ (q : Int) := by omega
          have ba2 : (q : Int) < (d.size : Int) := by omega
          have ra2 : IntKind.i64.wrap ((q : Int)) = (q : Int) := by rw [IntKind.wrap_i64]; omega
          have ec2 : ((q : Int) + 1).toNat = q + 1 := by omega
          have pc2 : (0 : Int) ≤ (q : Int) + 1 := by omega
          have bc2 : (q : Int) + 1 < (d.size : Int) := by omega
          have rc2 : IntKind.i64.wrap ((q : Int) + 1) = (q : Int) + 1 := by rw [IntKind.wrap_i64]; omega
          have S4 : Aside (SWK enc k w0 blk off (swp dk (q) (q + 1)) ((wr.drew.setCells blk (off + (q) * k) (enc dk[q + 1]!)).setCells blk (off + (q + 1) * k) (enc dk[q]!))) := S3.out.swapped R (q) (q + 1) (by omega) (by omega)
          have l2a := S3.out.ld1 R (by omega) Try.prog (q) (by omega)
          have l2b := S3.out.ld1 R (by omega) Try.prog (q + 1) (by omega)
          have s2a := S3.out.st1 R (by omega) Try.prog (q) (by omega) dk[q + 1]!
          have s2b := S3.out.st2 R (by omega) Try.prog (q) (q + 1) (by omega) (by omega) dk[q + 1]! dk[q]!
          have n2a : (enc dk[q]!).length = k := R.hk _
          have n2b : (enc dk[q + 1]!).length = k := R.hk _
          generalize enc dk[q]! = cI2 at S4 l2a s2b n2a
          generalize enc dk[q + 1]! = cJ2 at S4 l2b s2a s2b n2b
          clear S3
          go_wp2_with fail
          go_big_region_o
          clear l2a l2b s2a s2b
          generalize (wr.drew.setCells blk (off + (q) * k) cJ2).setCells blk (off + (q + 1) * k) cI2 = w4 at S4 ⊢
          go_wp2
          go_roundg (i - 1 - a - (n + 1))
          case measure => omega
          case rel => exact ⟨n + 1, swp dk q (q + 1), by first | go_num | (congr 1; omega), by omega, Nat.le_refl _, by rw [size_swp]; exact hds, S4, (show Hid _ from by show _ = _; rw [HD.out, show q = a + n by omega]; rfl)⟩
        · have hlz : ¬ (q : Int) < (i : Int) - 1 := by omega
          obtain rfl : n = i - 1 - a := by omega
          go_wp2
          (try simp only [Exit.inBlock, Exit.then]); refine bodyPost_ret (results_none rfl _ _ _) rfl ?_
          refine ⟨rfl, ?_⟩
          rw [HB.out, ← HD.out]
          exact S3.out
set_option maxHeartbeats 4000000 in
set_option maxRecDepth 1000000 in
theorem symDn_any (k : Nat) (aE : ∀ w, (isAgg 25).run Try.prog w = .ok true w) (zE : ∀ w, (Go.sizeOf 25).run Try.prog w = .ok k w) (enc : α → List Value) (g : Nat) (cb : Array Value) (blk off cap : Nat) (a m b f : Nat) (d0 d : Array α) (w0 w : World) (R : RowK enc k w0 blk off d0) (hs : d0.size = d.size) (S : SWK enc k w0 blk off d w) (hsz : d.size < 1000000000) (cf : α → α → Int) (eg : ∀ args w, (callFunc g args).run Try.prog w = .ok (.enter g args) w) (hcmp : CmpLays Try.prog g cb enc k cf blk off d0.size w0) (ham : a < m) (hmb : m < b) (hb : b ≤ d.size) (h0 : ¬ m = a + 1) (h1 : b = m + 1) :
    Calls Try.prog 40 #[.slice (some ⟨blk, off, none⟩) d.size cap, .int .i64 a, .int .i64 m, .int .i64 b, .func (.func g) #[] cb] w fun e w' => e = .returned (.tuple #[]) ∧ SWK enc k w0 blk off (shDn d m (m - bsr (fun h => ltOf cf d[m]! d[h]!) a m)) w' := by
  have S0 : Aside (SWK enc k w0 blk off d w) := S
  have HC : Aside _ := hcmp
  have mixed : Try.prog.follows .mixedOrders = true := by kernel_rfl
  clear S hcmp
  have hz0 : ¬ (m : Int) - (a : Int) = 1 := by omega
  have hz0b : ((m : Int) - (a : Int) == 1) = false := beq_eq_false_iff_ne.2 hz0
  have rz0 : IntKind.i64.wrap ((m : Int) - (a : Int)) = (m : Int) - (a : Int) := by rw [IntKind.wrap_i64]; omega
  have hz1 : (b : Int) - (m : Int) = 1 := by omega
  clear h1
  have rz1 : IntKind.i64.wrap ((b : Int) - (m : Int)) = (b : Int) - (m : Int) := by rw [IntKind.wrap_i64]; omega
  go_enter Try.func40, Try.ntmps40
  go_wp2
  go_loopg [14, 15, 16] (m - a) (fun kx si sj sh wr => ∃ (i j : Nat), si = .int .i64 i ∧ sj = .int .i64 j ∧ a ≤ i ∧ i ≤ j ∧ j ≤ m ∧ j - i ≤ kx ∧ Aside (SWK enc k w0 blk off d wr) ∧ Hid (bsr (fun h => ltOf cf d[m]! d[h]!) i j = bsr (fun h => ltOf cf d[m]! d[h]!) (a) (m)))
  case atStart => exact ⟨a, m, by go_num, by go_num, Nat.le_refl _, by omega, Nat.le_refl _, Nat.le_refl _, S0, rfl⟩
  case round =>
    clear S0
    obtain ⟨i, j, rfl, rfl, hli, hij, hjh, hkx, S1, HE⟩ := hrel
    by_cases hlt : i < j
    · have hltz : (i : Int) < (j : Int) := by omega
      obtain ⟨h, hh⟩ : ∃ h : Nat, (i + j) / 2 = h := ⟨_, rfl⟩
      have hmi : ((i : Int) + (j : Int)) / 2 = (h : Int) := by omega
      have hm1 : i ≤ h := by omega
      have hm2 : h < j := by omega
      have rh : IntKind.i64.wrap ((i : Int) + (j : Int)) = (i : Int) + (j : Int) := by rw [IntKind.wrap_i64]; omega
      have HH := Lib.hid hh
      clear hh
      cases hG : ltOf cf d[m]! d[h]! with
      | true =>
        have ea6 : ((m : Int)).toNat = m := by omega
        have pa6 : (0 : Int) ≤ (m : Int) := by omega
        have ba6 : (m : Int) < (d.size : Int) := by omega
        have ra6 : IntKind.i64.wrap ((m : Int)) = (m : Int) := by rw [IntKind.wrap_i64]; omega
        have ec6 : ((h : Int)).toNat = h := by omega
        have pc6 : (0 : Int) ≤ (h : Int) := by omega
        have bc6 : (h : Int) < (d.size : Int) := by omega
        have rc6 : IntKind.i64.wrap ((h : Int)) = (h : Int) := by rw [IntKind.wrap_i64]; omega
        obtain ⟨x6, hx6⟩ : ∃ x, x = d[m]! := ⟨_, rfl⟩
        obtain ⟨y6, hy6⟩ : ∃ x, x = d[h]! := ⟨_, rfl⟩
        have l6a := S1.out.ld R (by omega) Try.prog (m) (by omega)
        have l6b := S1.out.ld R (by omega) Try.prog (h) (by omega)
        rw [← hx6] at l6a
        rw [← hy6] at l6b
        have hc6 := S1.out.cmp HC.out (by omega) x6 y6
        have hv6 : cf x6 y6 < 0 := by rw [hx6, hy6]; exact of_decide_eq_true hG
        have hd6 : decide (cf x6 y6 < 0) = true := decide_eq_true hv6
        clear hx6 hy6
        go_wp2_with fail
        go_quiet_grown (first | (go_at_fn g; refine Calls.grown_of (hc6 _ _)))
        have S2 : Aside (SWK enc k w0 blk off d (grow (wr.drewN nq) osq)) := S1.out.grown nq osq
        clear l6a l6b hc6 S1
        generalize grow (wr.drewN nq) osq = w2 at S2 ⊢
        clear nq osq
        go_wp2
        have hp : (fun h => ltOf cf d[m]! d[h]!) h = true := by simp [hG]
        go_roundg (h - (i))
        case measure => omega
        case rel => exact ⟨i, h, by go_num, by go_num, by omega, by omega, by omega, Nat.le_refl _, S2, (show Hid _ from by show _ = _; rw [← HE.out, bsr_eq _ i j, if_pos hlt, show (i + j) / 2 = h from HH.out, if_pos (by simp [hG])])⟩
      | false =>
        have ea7 : ((m : Int)).toNat = m := by omega
        have pa7 : (0 : Int) ≤ (m : Int) := by omega
        have ba7 : (m : Int) < (d.size : Int) := by omega
        have ra7 : IntKind.i64.wrap ((m : Int)) = (m : Int) := by rw [IntKind.wrap_i64]; omega
        have ec7 : ((h : Int)).toNat = h := by omega
        have pc7 : (0 : Int) ≤ (h : Int) := by omega
        have bc7 : (h : Int) < (d.size : Int) := by omega
        have rc7 : IntKind.i64.wrap ((h : Int)) = (h : Int) := by rw [IntKind.wrap_i64]; omega
        obtain ⟨x7, hx7⟩ : ∃ x, x = d[m]! := ⟨_, rfl⟩
        obtain ⟨y7, hy7⟩ : ∃ x, x = d[h]! := ⟨_, rfl⟩
        have l7a := S1.out.ld R (by omega) Try.prog (m) (by omega)
        have l7b := S1.out.ld R (by omega) Try.prog (h) (by omega)
        rw [← hx7] at l7a
        rw [← hy7] at l7b
        have hc7 := S1.out.cmp HC.out (by omega) x7 y7
        have hv7 : ¬ cf x7 y7 < 0 := by rw [hx7, hy7]; exact of_decide_eq_false hG
        have hd7 : decide (cf x7 y7 < 0) = false := decide_eq_false hv7
        clear hx7 hy7
        go_wp2_with fail
        go_quiet_grown (first | (go_at_fn g; refine Calls.grown_of (hc7 _ _)))
        have S2 : Aside (SWK enc k w0 blk off d (grow (wr.drewN nq) osq)) := S1.out.grown nq osq
        clear l7a l7b hc7 S1
        generalize grow (wr.drewN nq) osq = w2 at S2 ⊢
        clear nq osq
        go_wp2
        have hp : (fun h => ltOf cf d[m]! d[h]!) h = false := by simp [hG]
        go_roundg (j - (h + 1))
        case measure => omega
        case rel => exact ⟨h + 1, j, by go_num, by go_num, by omega, by omega, by omega, Nat.le_refl _, S2, (show Hid _ from by show _ = _; rw [← HE.out, bsr_eq _ i j, if_pos hlt, show (i + j) / 2 = h from HH.out, if_neg (by simp [hG])])⟩
    · have hltz : ¬ (i : Int) < (j : Int) := by omega
      obtain rfl : i = j := by omega
      have hbr : bsr (fun h => ltOf cf d[m]! d[h]!) i i = i := by rw [bsr_eq, if_neg (Nat.lt_irrefl _)]
      have HB : Hid (bsr (fun h => ltOf cf d[m]! d[h]!) (a) (m) = i) := (show _ = _ from HE.out.symm.trans hbr)
      clear hbr HE
      go_wp2
      go_loopg [17] (m - i) (fun kx sk wk => ∃ (n : Nat) (dk : Array α), sk = .int .i64 ((m - n : Nat) : Int) ∧ n ≤ m - i ∧ m - i - n ≤ kx ∧ dk.size = d.size ∧ Aside (SWK enc k w0 blk off dk wk) ∧ Hid (dk = shDn d m n))
      case atStart => exact ⟨0, d, by go_num, Nat.zero_le _, Nat.le_refl _, rfl, S1, rfl⟩
      case round =>
        clear S1
        obtain ⟨n, dk, rfl, hn, hkn, hds, S3, HD⟩ := hrel
        obtain ⟨q, hq0⟩ : ∃ q : Nat, q = m - n := ⟨_, rfl⟩
        rw [← hq0]
        have hq : q ≤ m - n ∧ m - n ≤ q := by omega
        clear hq0
        by_cases hlk : i < q
        · have hlz : (i : Int) < (q : Int) := by omega
          have ea5 : ((q : Int)).toNat = q := by omega
          have pa5 : (0 : Int) ≤ (q : Int) := by omega
          have ba5 : (q : Int) < (d.size : Int) := by omega
          have ra5 : IntKind.i64.wrap ((q : Int)) = (q : Int) := by rw [IntKind.wrap_i64]; omega
          have ec5 : ((q : Int) - 1).toNat = q - 1 := by omega
          have pc5 : (0 : Int) ≤ (q : Int) - 1 := by omega
          have bc5 : (q : Int) - 1 < (d.size : Int) := by omega
          have rc5 : IntKind.i64.wrap ((q : Int) - 1) = (q : Int) - 1 := by rw [IntKind.wrap_i64]; omega
          have S4 : Aside (SWK enc k w0 blk off (swp dk (q) (q - 1)) ((wr.drew.setCells blk (off + (q) * k) (enc dk[q - 1]!)).setCells blk (off + (q - 1) * k) (enc dk[q]!))) := S3.out.swapped R (q) (q - 1) (by omega) (by omega)
          have l5a := S3.out.ld1 R (by omega) Try.prog (q) (by omega)
          have l5b := S3.out.ld1 R (by omega) Try.prog (q - 1) (by omega)
          have s5a := S3.out.st1 R (by omega) Try.prog (q) (by omega) dk[q - 1]!
          have s5b := S3.out.st2 R (by omega) Try.prog (q) (q - 1) (by omega) (by omega) dk[q - 1]! dk[q]!
          have n5a : (enc dk[q]!).length = k := R.hk _
          have n5b : (enc dk[q - 1]!).length = k := R.hk _
          generalize enc dk[q]! = cI5 at S4 l5a s5b n5a
          generalize enc dk[q - 1]! = cJ5 at S4 l5b s5a s5b n5b
          clear S3
          go_wp2_with fail
          go_big_region_o
          clear l5a l5b s5a s5b
          generalize (wr.drew.setCells blk (off + (q) * k) cJ5).setCells blk (off + (q - 1) * k) cI5 = w4 at S4 ⊢
          go_wp2
          go_roundg (m - i - (n + 1))
          case measure => omega
          case rel => exact ⟨n + 1, swp dk q (q - 1), by first | go_num | (congr 1; omega), by omega, Nat.le_refl _, by rw [size_swp]; exact hds, S4, (show Hid _ from by show _ = _; rw [HD.out, show q = m - n by omega]; rfl)⟩
        · have hlz : ¬ (i : Int) < (q : Int) := by omega
          obtain rfl : n = m - i := by omega
          go_wp2
          (try simp only [Exit.inBlock, Exit.then]); refine bodyPost_ret (results_none rfl _ _ _) rfl ?_
          refine ⟨rfl, ?_⟩
          rw [HB.out, ← HD.out]
          exact S3.out
end
end Go.Proofs.Ytbhhkaaidhapbaa
