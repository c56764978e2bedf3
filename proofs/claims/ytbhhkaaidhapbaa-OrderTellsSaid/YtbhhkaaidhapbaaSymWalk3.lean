/- slices.symMergeCmpFunc at routes, whole: by symM (XSymTo). No condition. -/
import Derived.Test.YtbhhkaaidhapbaaSymWalk2
import Derived.Test.YtbhhkaaidhapbaaSymSize
import Derived.Shelf.SlSortCmp.KitK
import Derived.Sort.WalkB2
import Derived.Sort.WalkB12
import Derived.Deep.LoopGhost
namespace Go.Proofs.Ytbhhkaaidhapbaa
open Go.Shelf Go.RowKit Go.Lib Go.Sort
set_option linter.unusedSimpArgs false
set_option linter.unusedVariables false
section
variable {α : Type} [Inhabited α]
set_option maxHeartbeats 4000000 in
set_option maxRecDepth 1000000 in
theorem symMid_any (k : Nat) (aE : ∀ w, (isAgg 25).run Try.prog w = .ok true w) (zE : ∀ w, (Go.sizeOf 25).run Try.prog w = .ok k w) (enc : α → List Value) (g : Nat) (cb : Array Value) (blk off cap : Nat) (a m b f : Nat) (d0 d : Array α) (w0 w : World) (R : RowK enc k w0 blk off d0) (hs : d0.size = d.size) (S : SWK enc k w0 blk off d w) (hsz : d.size < 1000000000) (cf : α → α → Int) (eg : ∀ args w, (callFunc g args).run Try.prog w = .ok (.enter g args) w) (hcmp : CmpLays Try.prog g cb enc k cf blk off d0.size w0) (ham : a < m) (hmb : m < b) (hb : b ≤ d.size) (h0 : ¬ m = a + 1) (h1 : ¬ b = m + 1)
    (hrec : ∀ (a' m' b' : Nat) (d' : Array α) (w' : World), b' - a' < b - a → a' < m' → m' < b' → b' ≤ d'.size → d'.size = d.size → SWK enc k w0 blk off d' w' → Calls Try.prog 40 #[.slice (some ⟨blk, off, none⟩) d'.size cap, .int .i64 a', .int .i64 m', .int .i64 b', .func (.func g) #[] cb] w' fun e w'' => e = .returned (.tuple #[]) ∧ SWK enc k w0 blk off (symM (ltOf cf) f d' a' m' b') w'') :
    Calls Try.prog 40 #[.slice (some ⟨blk, off, none⟩) d.size cap, .int .i64 a, .int .i64 m, .int .i64 b, .func (.func g) #[] cb] w fun e w' => e = .returned (.tuple #[]) ∧ SWK enc k w0 blk off (symM (ltOf cf) (f + 1) d a m b) w' := by
  have S0 : Aside (SWK enc k w0 blk off d w) := S
  have HC : Aside _ := hcmp
  have mixed : Try.prog.follows .mixedOrders = true := by kernel_rfl
  clear S hcmp
  have hrec : Hid _ := hrec
  have hz0 : ¬ (m : Int) - (a : Int) = 1 := by omega
  have hz0b : ((m : Int) - (a : Int) == 1) = false := beq_eq_false_iff_ne.2 hz0
  have rz0 : IntKind.i64.wrap ((m : Int) - (a : Int)) = (m : Int) - (a : Int) := by rw [IntKind.wrap_i64]; omega
  have hz1 : ¬ (b : Int) - (m : Int) = 1 := by omega
  have hz1b : ((b : Int) - (m : Int) == 1) = false := beq_eq_false_iff_ne.2 hz1
  have rz1 : IntKind.i64.wrap ((b : Int) - (m : Int)) = (b : Int) - (m : Int) := by rw [IntKind.wrap_i64]; omega
  obtain ⟨mid, hmid0⟩ : ∃ x : Nat, (a + b) / 2 = x := ⟨_, rfl⟩
  have hmiz : ((a : Int) + (b : Int)) / 2 = (mid : Int) := by omega
  have rmi : IntKind.i64.wrap ((a : Int) + (b : Int)) = (a : Int) + (b : Int) := by rw [IntKind.wrap_i64]; omega
  have hm2 : 2 * mid ≤ a + b ∧ a + b ≤ 2 * mid + 1 := by omega
  have hmid := Lib.hid hmid0
  clear hmid0
  obtain ⟨n, hn0⟩ : ∃ x : Nat, mid + m = x := ⟨_, rfl⟩
  have hnz : (mid : Int) + (m : Int) = (n : Int) := by omega
  have rn : IntKind.i64.wrap (n : Int) = (n : Int) := by rw [IntKind.wrap_i64]; omega
  have hnn : n ≤ mid + m ∧ mid + m ≤ n := by omega
  have hn := Lib.hid hn0
  clear hn0
  obtain ⟨p, hp0⟩ : ∃ x : Nat, x = n - 1 := ⟨_, rfl⟩
  have hpz : (n : Int) - 1 = (p : Int) := by omega
  have hpp : p ≤ n - 1 ∧ n - 1 ≤ p := by omega
  clear hp0
  have rp : IntKind.i64.wrap (p : Int) = (p : Int) := by rw [IntKind.wrap_i64]; omega
  go_enter Try.func40, Try.ntmps40
  by_cases hb1 : mid < m
  · have hbm : mid < m := hb1
    have hbz : (mid : Int) < (m : Int) := by omega
    obtain ⟨lo, hlo⟩ : ∃ x : Nat, x = n - b := ⟨_, rfl⟩
    have hloz : (n : Int) - (b : Int) = (lo : Int) := by omega
    have rlo : IntKind.i64.wrap ((n : Int) - (b : Int)) = (n : Int) - (b : Int) := by rw [IntKind.wrap_i64]; omega
    have hlb : lo ≤ n - b ∧ n - b ≤ lo := by omega
    have HLO := Lib.hid hlo
    clear hlo
    go_wp2
    go_loopg [20, 21, 23] (mid - lo) (fun kx si sj sh wr => ∃ (i j : Nat), si = .int .i64 i ∧ sj = .int .i64 j ∧ lo ≤ i ∧ i ≤ j ∧ j ≤ mid ∧ j - i ≤ kx ∧ Aside (SWK enc k w0 blk off d wr) ∧ Hid (bsr (fun c => ltOf cf d[n - 1 - c]! d[c]!) i j = bsr (fun c => ltOf cf d[n - 1 - c]! d[c]!) (lo) (mid)))
    case atStart => exact ⟨lo, mid, by go_num, by go_num, Nat.le_refl _, by omega, Nat.le_refl _, Nat.le_refl _, S0, rfl⟩
    case round =>
      clear S0
      obtain ⟨i, j, rfl, rfl, hli, hij, hjh, hkx, S1, HE⟩ := hrel
      by_cases hlt : i < j
      · have hltz : (i : Int) < (j : Int) := by omega
        obtain ⟨h, hh⟩ : ∃ h : Nat, (i + j) / 2 = h := ⟨_, rfl⟩
        have hmi : ((i : Int) + (j : Int)) / 2 = (h : Int) := by omega
        have hm1 : i ≤ h := by omega
        have hm2 : h < j := by omega
        have rh : IntKind.i64.wrap ((i : Int) + (j : Int)) = (i : Int) + (j : Int) := by rw [IntKind.wrap_i64]; omega
        have HH := Lib.hid hh
        clear hh
        obtain ⟨r, hr0⟩ : ∃ x : Nat, x = n - 1 - h := ⟨_, rfl⟩
        have HR := Lib.hid hr0
        have hrb : r ≤ n - 1 - h ∧ n - 1 - h ≤ r := by omega
        have rr : IntKind.i64.wrap ((p : Int) - (h : Int)) = (r : Int) := by rw [IntKind.wrap_i64]; omega
        clear hr0
        cases hG : ltOf cf d[r]! d[h]! with
        | true =>
          have ea8 : ((r : Int)).toNat = r := by omega
          have pa8 : (0 : Int) ≤ (r : Int) := by omega
          have ba8 : (r : Int) < (d.size : Int) := by omega
          have ra8 : IntKind.i64.wrap ((r : Int)) = (r : Int) := by rw [IntKind.wrap_i64]; omega
          have ec8 : ((h : Int)).toNat = h := by omega
          have pc8 : (0 : Int) ≤ (h : Int) := by omega
          have bc8 : (h : Int) < (d.size : Int) := by omega
          have rc8 : IntKind.i64.wrap ((h : Int)) = (h : Int) := by rw [IntKind.wrap_i64]; omega
          obtain ⟨x8, hx8⟩ : ∃ x, x = d[r]! := ⟨_, rfl⟩
          obtain ⟨y8, hy8⟩ : ∃ x, x = d[h]! := ⟨_, rfl⟩
          have l8a := S1.out.ld R (by omega) Try.prog (r) (by omega)
          have l8b := S1.out.ld R (by omega) Try.prog (h) (by omega)
          rw [← hx8] at l8a
          rw [← hy8] at l8b
          have hc8 := S1.out.cmp HC.out (by omega) x8 y8
          have hv8 : cf x8 y8 < 0 := by rw [hx8, hy8]; exact of_decide_eq_true hG
          have hd8 : decide (cf x8 y8 < 0) = true := decide_eq_true hv8
          clear hx8 hy8
          go_wp2_with fail
          go_quiet_grown (first | (go_at_fn g; refine Calls.grown_of (hc8 _ _)))
          have S2 : Aside (SWK enc k w0 blk off d (grow (wr.drewN nq) osq)) := S1.out.grown nq osq
          clear l8a l8b hc8 S1
          generalize grow (wr.drewN nq) osq = w2 at S2 ⊢
          clear nq osq
          go_wp2
          go_roundg (h - (i))
          case measure => omega
          case rel => exact ⟨i, h, by go_num, by go_num, by omega, by omega, by omega, Nat.le_refl _, S2, (show Hid _ from by show _ = _; rw [← HE.out, bsr_eq _ i j, if_pos hlt, show (i + j) / 2 = h from HH.out, if_pos (show ltOf cf d[n - 1 - h]! d[h]! = true from by rw [← HR.out, hG])])⟩
        | false =>
          have ea9 : ((r : Int)).toNat = r := by omega
          have pa9 : (0 : Int) ≤ (r : Int) := by omega
          have ba9 : (r : Int) < (d.size : Int) := by omega
          have ra9 : IntKind.i64.wrap ((r : Int)) = (r : Int) := by rw [IntKind.wrap_i64]; omega
          have ec9 : ((h : Int)).toNat = h := by omega
          have pc9 : (0 : Int) ≤ (h : Int) := by omega
          have bc9 : (h : Int) < (d.size : Int) := by omega
          have rc9 : IntKind.i64.wrap ((h : Int)) = (h : Int) := by rw [IntKind.wrap_i64]; omega
          obtain ⟨x9, hx9⟩ : ∃ x, x = d[r]! := ⟨_, rfl⟩
          obtain ⟨y9, hy9⟩ : ∃ x, x = d[h]! := ⟨_, rfl⟩
          have l9a := S1.out.ld R (by omega) Try.prog (r) (by omega)
          have l9b := S1.out.ld R (by omega) Try.prog (h) (by omega)
          rw [← hx9] at l9a
          rw [← hy9] at l9b
          have hc9 := S1.out.cmp HC.out (by omega) x9 y9
          have hv9 : ¬ cf x9 y9 < 0 := by rw [hx9, hy9]; exact of_decide_eq_false hG
          have hd9 : decide (cf x9 y9 < 0) = false := decide_eq_false hv9
          clear hx9 hy9
          go_wp2_with fail
          go_quiet_grown (first | (go_at_fn g; refine Calls.grown_of (hc9 _ _)))
          have S2 : Aside (SWK enc k w0 blk off d (grow (wr.drewN nq) osq)) := S1.out.grown nq osq
          clear l9a l9b hc9 S1
          generalize grow (wr.drewN nq) osq = w2 at S2 ⊢
          clear nq osq
          go_wp2
          go_roundg (j - (h + 1))
          case measure => omega
          case rel => exact ⟨h + 1, j, by go_num, by go_num, by omega, by omega, by omega, Nat.le_refl _, S2, (show Hid _ from by show _ = _; rw [← HE.out, bsr_eq _ i j, if_pos hlt, show (i + j) / 2 = h from HH.out, if_neg (show ¬ ltOf cf d[n - 1 - h]! d[h]! = true from by rw [← HR.out, hG]; simp)])⟩
      · have hltz : ¬ (i : Int) < (j : Int) := by omega
        obtain rfl : i = j := by omega
        have hbr : bsr (fun c => ltOf cf d[n - 1 - c]! d[c]!) i i = i := by rw [bsr_eq, if_neg (Nat.lt_irrefl _)]
        have HB : Hid (bsr (fun c => ltOf cf d[n - 1 - c]! d[c]!) (lo) (mid) = i) := (show _ = _ from HE.out.symm.trans hbr)
        clear hbr HE
        obtain ⟨s, hsq⟩ : ∃ x : Nat, x = i := ⟨_, rfl⟩
        rw [← hsq] at HB
        have hsl : lo ≤ s ∧ s ≤ mid := by omega
        subst hsq
        obtain ⟨en, henq⟩ : ∃ x : Nat, n - s = x := ⟨_, rfl⟩
        have henz : (n : Int) - (s : Int) = (en : Int) := by omega
        have ren : IntKind.i64.wrap ((n : Int) - (s : Int)) = (en : Int) := by rw [IntKind.wrap_i64]; omega
        have hen := Lib.hid henq
        have henb : en ≤ n - s ∧ n - s ≤ en := by omega
        clear henq
        replace HB : Hid (bsr (fun c => ltOf cf d[n - 1 - c]! d[c]!) (if mid < m then n - b else a) (if mid < m then mid else m) = s) := by show _ = _; rw [if_pos hbm, if_pos hbm]; exact (by rw [← HLO.out]; exact HB.out)
        by_cases k0 : s < m ∧ m < en
        · first
          | (exfalso; omega)
          | (skip
             have z0a : (s : Int) < (m : Int) := by omega
             have z0b : (m : Int) < (en : Int) := by omega
             have hc := rotate_any k aE zE enc g cb blk off cap s m en d0 d w0 wr R hs S1.out hsz k0.1 k0.2 (by omega)
             have HK0 := Lib.hid hc
             clear hc
             go_wp2_with fail
             refine HK0.out.mono ?_
             rintro e v0 ⟨rfl, S1x'⟩
             have S1x : Aside _ := S1x'
             clear HK0 S1 S1x'
             have HSD : Hid (((rot m (m - s) (en - m) d)).size = d.size) := size_rot m _ _ _ _ (Nat.le_refl _)
             by_cases k1 : a < s ∧ s < mid
             · first
               | (exfalso; omega)
               | (skip
                  have z1a : (a : Int) < (s : Int) := by omega
                  have z1b : (s : Int) < (mid : Int) := by omega
                  have hc := hrec.out a s mid (rot m (m - s) (en - m) d) v0 (by omega) k1.1 k1.2 (by rw [HSD.out]; omega) HSD.out S1x.out
                  rw [HSD.out] at hc
                  have HK1 := Lib.hid hc
                  clear hc
                  go_wp2_with fail
                  refine HK1.out.mono ?_
                  rintro e v1 ⟨rfl, S1xx'⟩
                  have S1xx : Aside _ := S1xx'
                  clear HK1 S1x S1xx'
                  replace HSD : Hid (((symM (ltOf cf) f (rot m (m - s) (en - m) d) a s mid)).size = d.size) := (size_symM (ltOf cf) f _ _ _ _).trans HSD.out
                  by_cases k2 : mid < en ∧ en < b
                  · first
                    | (exfalso; omega)
                    | (skip
                       have z2a : (mid : Int) < (en : Int) := by omega
                       have z2b : (en : Int) < (b : Int) := by omega
                       have hc := hrec.out mid en b (symM (ltOf cf) f (rot m (m - s) (en - m) d) a s mid) v1 (by omega) k2.1 k2.2 (by rw [HSD.out]; omega) HSD.out S1xx.out
                       rw [HSD.out] at hc
                       have HK2 := Lib.hid hc
                       clear hc
                       go_wp2_with fail
                       refine HK2.out.mono ?_
                       rintro e v2 ⟨rfl, S1xxx'⟩
                       have S1xxx : Aside _ := S1xxx'
                       clear HK2 S1xx S1xxx'
                       replace HSD : Hid (((symM (ltOf cf) f (symM (ltOf cf) f (rot m (m - s) (en - m) d) a s mid) mid en b)).size = d.size) := (size_symM (ltOf cf) f _ _ _ _).trans HSD.out
                       go_wp2_with fail
                       go_end0
                       refine ⟨rfl, ?_⟩
                       rw [symM_mid (ltOf cf) f d a m b mid n s en (by omega) (by omega) hmid.out hn.out HB.out hen.out _ _ _ rfl rfl rfl]
                       rw [if_pos k2, if_pos k1, if_pos k0]
                       exact S1xxx.out)
                  · by_cases u2 : mid < en
                    · first
                      | (exfalso; omega)
                      | (skip
                         have z2a : (mid : Int) < (en : Int) := by omega
                         have z2b : ¬ (en : Int) < (b : Int) := by omega
                         go_wp2_with fail
                         go_end0
                         refine ⟨rfl, ?_⟩
                         rw [symM_mid (ltOf cf) f d a m b mid n s en (by omega) (by omega) hmid.out hn.out HB.out hen.out _ _ _ rfl rfl rfl]
                         rw [if_neg k2, if_pos k1, if_pos k0]
                         exact S1xx.out)
                    · first
                      | (exfalso; omega)
                      | (skip
                         have z2a : ¬ (mid : Int) < (en : Int) := by omega
                         go_wp2_with fail
                         go_end0
                         refine ⟨rfl, ?_⟩
                         rw [symM_mid (ltOf cf) f d a m b mid n s en (by omega) (by omega) hmid.out hn.out HB.out hen.out _ _ _ rfl rfl rfl]
                         rw [if_neg k2, if_pos k1, if_pos k0]
                         exact S1xx.out))
             · by_cases u1 : a < s
               · first
                 | (exfalso; omega)
                 | (skip
                    have z1a : (a : Int) < (s : Int) := by omega
                    have z1b : ¬ (s : Int) < (mid : Int) := by omega
                    by_cases k2 : mid < en ∧ en < b
                    · first
                      | (exfalso; omega)
                      | (skip
                         have z2a : (mid : Int) < (en : Int) := by omega
                         have z2b : (en : Int) < (b : Int) := by omega
                         have hc := hrec.out mid en b (rot m (m - s) (en - m) d) v0 (by omega) k2.1 k2.2 (by rw [HSD.out]; omega) HSD.out S1x.out
                         rw [HSD.out] at hc
                         have HK2 := Lib.hid hc
                         clear hc
                         go_wp2_with fail
                         refine HK2.out.mono ?_
                         rintro e v2 ⟨rfl, S1xx'⟩
                         have S1xx : Aside _ := S1xx'
                         clear HK2 S1x S1xx'
                         replace HSD : Hid (((symM (ltOf cf) f (rot m (m - s) (en - m) d) mid en b)).size = d.size) := (size_symM (ltOf cf) f _ _ _ _).trans HSD.out
                         go_wp2_with fail
                         go_end0
                         refine ⟨rfl, ?_⟩
                         rw [symM_mid (ltOf cf) f d a m b mid n s en (by omega) (by omega) hmid.out hn.out HB.out hen.out _ _ _ rfl rfl rfl]
                         rw [if_pos k2, if_neg k1, if_pos k0]
                         exact S1xx.out)
                    · by_cases u2 : mid < en
                      · first
                        | (exfalso; omega)
                        | (skip
                           have z2a : (mid : Int) < (en : Int) := by omega
                           have z2b : ¬ (en : Int) < (b : Int) := by omega
                           go_wp2_with fail
                           go_end0
                           refine ⟨rfl, ?_⟩
                           rw [symM_mid (ltOf cf) f d a m b mid n s en (by omega) (by omega) hmid.out hn.out HB.out hen.out _ _ _ rfl rfl rfl]
                           rw [if_neg k2, if_neg k1, if_pos k0]
                           exact S1x.out)
                      · first
                        | (exfalso; omega)
                        | (skip
                           have z2a : ¬ (mid : Int) < (en : Int) := by omega
                           go_wp2_with fail
                           go_end0
                           refine ⟨rfl, ?_⟩
                           rw [symM_mid (ltOf cf) f d a m b mid n s en (by omega) (by omega) hmid.out hn.out HB.out hen.out _ _ _ rfl rfl rfl]
                           rw [if_neg k2, if_neg k1, if_pos k0]
                           exact S1x.out))
               · first
                 | (exfalso; omega)
                 | (skip
                    have z1a : ¬ (a : Int) < (s : Int) := by omega
                    by_cases k2 : mid < en ∧ en < b
                    · first
                      | (exfalso; omega)
                      | (skip
                         have z2a : (mid : Int) < (en : Int) := by omega
                         have z2b : (en : Int) < (b : Int) := by omega
                         have hc := hrec.out mid en b (rot m (m - s) (en - m) d) v0 (by omega) k2.1 k2.2 (by rw [HSD.out]; omega) HSD.out S1x.out
                         rw [HSD.out] at hc
                         have HK2 := Lib.hid hc
                         clear hc
                         go_wp2_with fail
                         refine HK2.out.mono ?_
                         rintro e v2 ⟨rfl, S1xx'⟩
                         have S1xx : Aside _ := S1xx'
                         clear HK2 S1x S1xx'
                         replace HSD : Hid (((symM (ltOf cf) f (rot m (m - s) (en - m) d) mid en b)).size = d.size) := (size_symM (ltOf cf) f _ _ _ _).trans HSD.out
                         go_wp2_with fail
                         go_end0
                         refine ⟨rfl, ?_⟩
                         rw [symM_mid (ltOf cf) f d a m b mid n s en (by omega) (by omega) hmid.out hn.out HB.out hen.out _ _ _ rfl rfl rfl]
                         rw [if_pos k2, if_neg k1, if_pos k0]
                         exact S1xx.out)
                    · by_cases u2 : mid < en
                      · first
                        | (exfalso; omega)
                        | (skip
                           have z2a : (mid : Int) < (en : Int) := by omega
                           have z2b : ¬ (en : Int) < (b : Int) := by omega
                           go_wp2_with fail
                           go_end0
                           refine ⟨rfl, ?_⟩
                           rw [symM_mid (ltOf cf) f d a m b mid n s en (by omega) (by omega) hmid.out hn.out HB.out hen.out _ _ _ rfl rfl rfl]
                           rw [if_neg k2, if_neg k1, if_pos k0]
                           exact S1x.out)
                      · first
                        | (exfalso; omega)
                        | (skip
                           have z2a : ¬ (mid : Int) < (en : Int) := by omega
                           go_wp2_with fail
                           go_end0
                           refine ⟨rfl, ?_⟩
                           rw [symM_mid (ltOf cf) f d a m b mid n s en (by omega) (by omega) hmid.out hn.out HB.out hen.out _ _ _ rfl rfl rfl]
                           rw [if_neg k2, if_neg k1, if_pos k0]
                           exact S1x.out)))
        · by_cases u0 : s < m
          · first
            | (exfalso; omega)
            | (skip
               have z0a : (s : Int) < (m : Int) := by omega
               have z0b : ¬ (m : Int) < (en : Int) := by omega
               by_cases k1 : a < s ∧ s < mid
               · first
                 | (exfalso; omega)
                 | (skip
                    have z1a : (a : Int) < (s : Int) := by omega
                    have z1b : (s : Int) < (mid : Int) := by omega
                    have hc := hrec.out a s mid d wr (by omega) k1.1 k1.2 (by omega) rfl S1.out
                    have HK1 := Lib.hid hc
                    clear hc
                    go_wp2_with fail
                    refine HK1.out.mono ?_
                    rintro e v1 ⟨rfl, S1x'⟩
                    have S1x : Aside _ := S1x'
                    clear HK1 S1 S1x'
                    have HSD : Hid (((symM (ltOf cf) f d a s mid)).size = d.size) := (size_symM (ltOf cf) f _ _ _ _)
                    by_cases k2 : mid < en ∧ en < b
                    · first
                      | (exfalso; omega)
                      | (skip
                         have z2a : (mid : Int) < (en : Int) := by omega
                         have z2b : (en : Int) < (b : Int) := by omega
                         have hc := hrec.out mid en b (symM (ltOf cf) f d a s mid) v1 (by omega) k2.1 k2.2 (by rw [HSD.out]; omega) HSD.out S1x.out
                         rw [HSD.out] at hc
                         have HK2 := Lib.hid hc
                         clear hc
                         go_wp2_with fail
                         refine HK2.out.mono ?_
                         rintro e v2 ⟨rfl, S1xx'⟩
                         have S1xx : Aside _ := S1xx'
                         clear HK2 S1x S1xx'
                         replace HSD : Hid (((symM (ltOf cf) f (symM (ltOf cf) f d a s mid) mid en b)).size = d.size) := (size_symM (ltOf cf) f _ _ _ _).trans HSD.out
                         go_wp2_with fail
                         go_end0
                         refine ⟨rfl, ?_⟩
                         rw [symM_mid (ltOf cf) f d a m b mid n s en (by omega) (by omega) hmid.out hn.out HB.out hen.out _ _ _ rfl rfl rfl]
                         rw [if_pos k2, if_pos k1, if_neg k0]
                         exact S1xx.out)
                    · by_cases u2 : mid < en
                      · first
                        | (exfalso; omega)
                        | (skip
                           have z2a : (mid : Int) < (en : Int) := by omega
                           have z2b : ¬ (en : Int) < (b : Int) := by omega
                           go_wp2_with fail
                           go_end0
                           refine ⟨rfl, ?_⟩
                           rw [symM_mid (ltOf cf) f d a m b mid n s en (by omega) (by omega) hmid.out hn.out HB.out hen.out _ _ _ rfl rfl rfl]
                           rw [if_neg k2, if_pos k1, if_neg k0]
                           exact S1x.out)
                      · first
                        | (exfalso; omega)
                        | (skip
                           have z2a : ¬ (mid : Int) < (en : Int) := by omega
                           go_wp2_with fail
                           go_end0
                           refine ⟨rfl, ?_⟩
                           rw [symM_mid (ltOf cf) f d a m b mid n s en (by omega) (by omega) hmid.out hn.out HB.out hen.out _ _ _ rfl rfl rfl]
                           rw [if_neg k2, if_pos k1, if_neg k0]
                           exact S1x.out))
               · by_cases u1 : a < s
                 · first
                   | (exfalso; omega)
                   | (skip
                      have z1a : (a : Int) < (s : Int) := by omega
                      have z1b : ¬ (s : Int) < (mid : Int) := by omega
                      by_cases k2 : mid < en ∧ en < b
                      · first
                        | (exfalso; omega)
                        | (skip
                           have z2a : (mid : Int) < (en : Int) := by omega
                           have z2b : (en : Int) < (b : Int) := by omega
                           have hc := hrec.out mid en b d wr (by omega) k2.1 k2.2 (by omega) rfl S1.out
                           have HK2 := Lib.hid hc
                           clear hc
                           go_wp2_with fail
                           refine HK2.out.mono ?_
                           rintro e v2 ⟨rfl, S1x'⟩
                           have S1x : Aside _ := S1x'
                           clear HK2 S1 S1x'
                           have HSD : Hid (((symM (ltOf cf) f d mid en b)).size = d.size) := (size_symM (ltOf cf) f _ _ _ _)
                           go_wp2_with fail
                           go_end0
                           refine ⟨rfl, ?_⟩
                           rw [symM_mid (ltOf cf) f d a m b mid n s en (by omega) (by omega) hmid.out hn.out HB.out hen.out _ _ _ rfl rfl rfl]
                           rw [if_pos k2, if_neg k1, if_neg k0]
                           exact S1x.out)
                      · by_cases u2 : mid < en
                        · first
                          | (exfalso; omega)
                          | (skip
                             have z2a : (mid : Int) < (en : Int) := by omega
                             have z2b : ¬ (en : Int) < (b : Int) := by omega
                             go_wp2_with fail
                             go_end0
                             refine ⟨rfl, ?_⟩
                             rw [symM_mid (ltOf cf) f d a m b mid n s en (by omega) (by omega) hmid.out hn.out HB.out hen.out _ _ _ rfl rfl rfl]
                             rw [if_neg k2, if_neg k1, if_neg k0]
                             exact S1.out)
                        · first
                          | (exfalso; omega)
                          | (skip
                             have z2a : ¬ (mid : Int) < (en : Int) := by omega
                             go_wp2_with fail
                             go_end0
                             refine ⟨rfl, ?_⟩
                             rw [symM_mid (ltOf cf) f d a m b mid n s en (by omega) (by omega) hmid.out hn.out HB.out hen.out _ _ _ rfl rfl rfl]
                             rw [if_neg k2, if_neg k1, if_neg k0]
                             exact S1.out))
                 · first
                   | (exfalso; omega)
                   | (skip
                      have z1a : ¬ (a : Int) < (s : Int) := by omega
                      by_cases k2 : mid < en ∧ en < b
                      · first
                        | (exfalso; omega)
                        | (skip
                           have z2a : (mid : Int) < (en : Int) := by omega
                           have z2b : (en : Int) < (b : Int) := by omega
                           have hc := hrec.out mid en b d wr (by omega) k2.1 k2.2 (by omega) rfl S1.out
                           have HK2 := Lib.hid hc
                           clear hc
                           go_wp2_with fail
                           refine HK2.out.mono ?_
                           rintro e v2 ⟨rfl, S1x'⟩
                           have S1x : Aside _ := S1x'
                           clear HK2 S1 S1x'
                           have HSD : Hid (((symM (ltOf cf) f d mid en b)).size = d.size) := (size_symM (ltOf cf) f _ _ _ _)
                           go_wp2_with fail
                           go_end0
                           refine ⟨rfl, ?_⟩
                           rw [symM_mid (ltOf cf) f d a m b mid n s en (by omega) (by omega) hmid.out hn.out HB.out hen.out _ _ _ rfl rfl rfl]
                           rw [if_pos k2, if_neg k1, if_neg k0]
                           exact S1x.out)
                      · by_cases u2 : mid < en
                        · first
                          | (exfalso; omega)
                          | (skip
                             have z2a : (mid : Int) < (en : Int) := by omega
                             have z2b : ¬ (en : Int) < (b : Int) := by omega
                             go_wp2_with fail
                             go_end0
                             refine ⟨rfl, ?_⟩
                             rw [symM_mid (ltOf cf) f d a m b mid n s en (by omega) (by omega) hmid.out hn.out HB.out hen.out _ _ _ rfl rfl rfl]
                             rw [if_neg k2, if_neg k1, if_neg k0]
                             exact S1.out)
                        · first
                          | (exfalso; omega)
                          | (skip
                             have z2a : ¬ (mid : Int) < (en : Int) := by omega
                             go_wp2_with fail
                             go_end0
                             refine ⟨rfl, ?_⟩
                             rw [symM_mid (ltOf cf) f d a m b mid n s en (by omega) (by omega) hmid.out hn.out HB.out hen.out _ _ _ rfl rfl rfl]
                             rw [if_neg k2, if_neg k1, if_neg k0]
                             exact S1.out)))
          · first
            | (exfalso; omega)
            | (skip
               have z0a : ¬ (s : Int) < (m : Int) := by omega
               by_cases k1 : a < s ∧ s < mid
               · first
                 | (exfalso; omega)
                 | (skip
                    have z1a : (a : Int) < (s : Int) := by omega
                    have z1b : (s : Int) < (mid : Int) := by omega
                    have hc := hrec.out a s mid d wr (by omega) k1.1 k1.2 (by omega) rfl S1.out
                    have HK1 := Lib.hid hc
                    clear hc
                    go_wp2_with fail
                    refine HK1.out.mono ?_
                    rintro e v1 ⟨rfl, S1x'⟩
                    have S1x : Aside _ := S1x'
                    clear HK1 S1 S1x'
                    have HSD : Hid (((symM (ltOf cf) f d a s mid)).size = d.size) := (size_symM (ltOf cf) f _ _ _ _)
                    by_cases k2 : mid < en ∧ en < b
                    · first
                      | (exfalso; omega)
                      | (skip
                         have z2a : (mid : Int) < (en : Int) := by omega
                         have z2b : (en : Int) < (b : Int) := by omega
                         have hc := hrec.out mid en b (symM (ltOf cf) f d a s mid) v1 (by omega) k2.1 k2.2 (by rw [HSD.out]; omega) HSD.out S1x.out
                         rw [HSD.out] at hc
                         have HK2 := Lib.hid hc
                         clear hc
                         go_wp2_with fail
                         refine HK2.out.mono ?_
                         rintro e v2 ⟨rfl, S1xx'⟩
                         have S1xx : Aside _ := S1xx'
                         clear HK2 S1x S1xx'
                         replace HSD : Hid (((symM (ltOf cf) f (symM (ltOf cf) f d a s mid) mid en b)).size = d.size) := (size_symM (ltOf cf) f _ _ _ _).trans HSD.out
                         go_wp2_with fail
                         go_end0
                         refine ⟨rfl, ?_⟩
                         rw [symM_mid (ltOf cf) f d a m b mid n s en (by omega) (by omega) hmid.out hn.out HB.out hen.out _ _ _ rfl rfl rfl]
                         rw [if_pos k2, if_pos k1, if_neg k0]
                         exact S1xx.out)
                    · by_cases u2 : mid < en
                      · first
                        | (exfalso; omega)
                        | (skip
                           have z2a : (mid : Int) < (en : Int) := by omega
                           have z2b : ¬ (en : Int) < (b : Int) := by omega
                           go_wp2_with fail
                           go_end0
                           refine ⟨rfl, ?_⟩
                           rw [symM_mid (ltOf cf) f d a m b mid n s en (by omega) (by omega) hmid.out hn.out HB.out hen.out _ _ _ rfl rfl rfl]
                           rw [if_neg k2, if_pos k1, if_neg k0]
                           exact S1x.out)
                      · first
                        | (exfalso; omega)
                        | (skip
                           have z2a : ¬ (mid : Int) < (en : Int) := by omega
                           go_wp2_with fail
                           go_end0
                           refine ⟨rfl, ?_⟩
                           rw [symM_mid (ltOf cf) f d a m b mid n s en (by omega) (by omega) hmid.out hn.out HB.out hen.out _ _ _ rfl rfl rfl]
                           rw [if_neg k2, if_pos k1, if_neg k0]
                           exact S1x.out))
               · by_cases u1 : a < s
                 · first
                   | (exfalso; omega)
                   | (skip
                      have z1a : (a : Int) < (s : Int) := by omega
                      have z1b : ¬ (s : Int) < (mid : Int) := by omega
                      by_cases k2 : mid < en ∧ en < b
                      · first
                        | (exfalso; omega)
                        | (skip
                           have z2a : (mid : Int) < (en : Int) := by omega
                           have z2b : (en : Int) < (b : Int) := by omega
                           have hc := hrec.out mid en b d wr (by omega) k2.1 k2.2 (by omega) rfl S1.out
                           have HK2 := Lib.hid hc
                           clear hc
                           go_wp2_with fail
                           refine HK2.out.mono ?_
                           rintro e v2 ⟨rfl, S1x'⟩
                           have S1x : Aside _ := S1x'
                           clear HK2 S1 S1x'
                           have HSD : Hid (((symM (ltOf cf) f d mid en b)).size = d.size) := (size_symM (ltOf cf) f _ _ _ _)
                           go_wp2_with fail
                           go_end0
                           refine ⟨rfl, ?_⟩
                           rw [symM_mid (ltOf cf) f d a m b mid n s en (by omega) (by omega) hmid.out hn.out HB.out hen.out _ _ _ rfl rfl rfl]
                           rw [if_pos k2, if_neg k1, if_neg k0]
                           exact S1x.out)
                      · by_cases u2 : mid < en
                        · first
                          | (exfalso; omega)
                          | (skip
                             have z2a : (mid : Int) < (en : Int) := by omega
                             have z2b : ¬ (en : Int) < (b : Int) := by omega
                             go_wp2_with fail
                             go_end0
                             refine ⟨rfl, ?_⟩
                             rw [symM_mid (ltOf cf) f d a m b mid n s en (by omega) (by omega) hmid.out hn.out HB.out hen.out _ _ _ rfl rfl rfl]
                             rw [if_neg k2, if_neg k1, if_neg k0]
                             exact S1.out)
                        · first
                          | (exfalso; omega)
                          | (skip
                             have z2a : ¬ (mid : Int) < (en : Int) := by omega
                             go_wp2_with fail
                             go_end0
                             refine ⟨rfl, ?_⟩
                             rw [symM_mid (ltOf cf) f d a m b mid n s en (by omega) (by omega) hmid.out hn.out HB.out hen.out _ _ _ rfl rfl rfl]
                             rw [if_neg k2, if_neg k1, if_neg k0]
                             exact S1.out))
                 · first
                   | (exfalso; omega)
                   | (skip
                      have z1a : ¬ (a : Int) < (s : Int) := by omega
                      by_cases k2 : mid < en ∧ en < b
                      · first
                        | (exfalso; omega)
                        | (skip
                           have z2a : (mid : Int) < (en : Int) := by omega
                           have z2b : (en : Int) < (b : Int) := by omega
                           have hc := hrec.out mid en b d wr (by omega) k2.1 k2.2 (by omega) rfl S1.out
                           have HK2 := Lib.hid hc
                           clear hc
                           go_wp2_with fail
                           refine HK2.out.mono ?_
                           rintro e v2 ⟨rfl, S1x'⟩
                           have S1x : Aside _ := S1x'
                           clear HK2 S1 S1x'
                           have HSD : Hid (((symM (ltOf cf) f d mid en b)).size = d.size) := (size_symM (ltOf cf) f _ _ _ _)
                           go_wp2_with fail
                           go_end0
                           refine ⟨rfl, ?_⟩
                           rw [symM_mid (ltOf cf) f d a m b mid n s en (by omega) (by omega) hmid.out hn.out HB.out hen.out _ _ _ rfl rfl rfl]
                           rw [if_pos k2, if_neg k1, if_neg k0]
                           exact S1x.out)
                      · by_cases u2 : mid < en
                        · first
                          | (exfalso; omega)
                          | (skip
                             have z2a : (mid : Int) < (en : Int) := by omega
                             have z2b : ¬ (en : Int) < (b : Int) := by omega
                             go_wp2_with fail
                             go_end0
                             refine ⟨rfl, ?_⟩
                             rw [symM_mid (ltOf cf) f d a m b mid n s en (by omega) (by omega) hmid.out hn.out HB.out hen.out _ _ _ rfl rfl rfl]
                             rw [if_neg k2, if_neg k1, if_neg k0]
                             exact S1.out)
                        · first
                          | (exfalso; omega)
                          | (skip
                             have z2a : ¬ (mid : Int) < (en : Int) := by omega
                             go_wp2_with fail
                             go_end0
                             refine ⟨rfl, ?_⟩
                             rw [symM_mid (ltOf cf) f d a m b mid n s en (by omega) (by omega) hmid.out hn.out HB.out hen.out _ _ _ rfl rfl rfl]
                             rw [if_neg k2, if_neg k1, if_neg k0]
                             exact S1.out)))
  · have hbm : ¬ mid < m := hb1
    have hbz : ¬ (mid : Int) < (m : Int) := by omega
    go_wp2
    go_loopg [20, 21, 23] (m - a) (fun kx si sj sh wr => ∃ (i j : Nat), si = .int .i64 i ∧ sj = .int .i64 j ∧ a ≤ i ∧ i ≤ j ∧ j ≤ m ∧ j - i ≤ kx ∧ Aside (SWK enc k w0 blk off d wr) ∧ Hid (bsr (fun c => ltOf cf d[n - 1 - c]! d[c]!) i j = bsr (fun c => ltOf cf d[n - 1 - c]! d[c]!) (a) (m)))
    case atStart => exact ⟨a, m, by go_num, by go_num, Nat.le_refl _, by omega, Nat.le_refl _, Nat.le_refl _, S0, rfl⟩
    case round =>
      clear S0
      obtain ⟨i, j, rfl, rfl, hli, hij, hjh, hkx, S1, HE⟩ := hrel
      by_cases hlt : i < j
      · have hltz : (i : Int) < (j : Int) := by omega
        obtain ⟨h, hh⟩ : ∃ h : Nat, (i + j) / 2 = h := ⟨_, rfl⟩
        have hmi : ((i : Int) + (j : Int)) / 2 = (h : Int) := by omega
        have hm1 : i ≤ h := by omega
        have hm2 : h < j := by omega
        have rh : IntKind.i64.wrap ((i : Int) + (j : Int)) = (i : Int) + (j : Int) := by rw [IntKind.wrap_i64]; omega
        have HH := Lib.hid hh
        clear hh
        obtain ⟨r, hr0⟩ : ∃ x : Nat, x = n - 1 - h := ⟨_, rfl⟩
        have HR := Lib.hid hr0
        have hrb : r ≤ n - 1 - h ∧ n - 1 - h ≤ r := by omega
        have rr : IntKind.i64.wrap ((p : Int) - (h : Int)) = (r : Int) := by rw [IntKind.wrap_i64]; omega
        clear hr0
        cases hG : ltOf cf d[r]! d[h]! with
        | true =>
          have ea10 : ((r : Int)).toNat = r := by omega
          have pa10 : (0 : Int) ≤ (r : Int) := by omega
          have ba10 : (r : Int) < (d.size : Int) := by omega
          have ra10 : IntKind.i64.wrap ((r : Int)) = (r : Int) := by rw [IntKind.wrap_i64]; omega
          have ec10 : ((h : Int)).toNat = h := by omega
          have pc10 : (0 : Int) ≤ (h : Int) := by omega
          have bc10 : (h : Int) < (d.size : Int) := by omega
          have rc10 : IntKind.i64.wrap ((h : Int)) = (h : Int) := by rw [IntKind.wrap_i64]; omega
          obtain ⟨x10, hx10⟩ : ∃ x, x = d[r]! := ⟨_, rfl⟩
          obtain ⟨y10, hy10⟩ : ∃ x, x = d[h]! := ⟨_, rfl⟩
          have l10a := S1.out.ld R (by omega) Try.prog (r) (by omega)
          have l10b := S1.out.ld R (by omega) Try.prog (h) (by omega)
          rw [← hx10] at l10a
          rw [← hy10] at l10b
          have hc10 := S1.out.cmp HC.out (by omega) x10 y10
          have hv10 : cf x10 y10 < 0 := by rw [hx10, hy10]; exact of_decide_eq_true hG
          have hd10 : decide (cf x10 y10 < 0) = true := decide_eq_true hv10
          clear hx10 hy10
          go_wp2_with fail
          go_quiet_grown (first | (go_at_fn g; refine Calls.grown_of (hc10 _ _)))
          have S2 : Aside (SWK enc k w0 blk off d (grow (wr.drewN nq) osq)) := S1.out.grown nq osq
          clear l10a l10b hc10 S1
          generalize grow (wr.drewN nq) osq = w2 at S2 ⊢
          clear nq osq
          go_wp2
          go_roundg (h - (i))
          case measure => omega
          case rel => exact ⟨i, h, by go_num, by go_num, by omega, by omega, by omega, Nat.le_refl _, S2, (show Hid _ from by show _ = _; rw [← HE.out, bsr_eq _ i j, if_pos hlt, show (i + j) / 2 = h from HH.out, if_pos (show ltOf cf d[n - 1 - h]! d[h]! = true from by rw [← HR.out, hG])])⟩
        | false =>
          have ea11 : ((r : Int)).toNat = r := by omega
          have pa11 : (0 : Int) ≤ (r : Int) := by omega
          have ba11 : (r : Int) < (d.size : Int) := by omega
          have ra11 : IntKind.i64.wrap ((r : Int)) = (r : Int) := by rw [IntKind.wrap_i64]; omega
          have ec11 : ((h : Int)).toNat = h := by omega
          have pc11 : (0 : Int) ≤ (h : Int) := by omega
          have bc11 : (h : Int) < (d.size : Int) := by omega
          have rc11 : IntKind.i64.wrap ((h : Int)) = (h : Int) := by rw [IntKind.wrap_i64]; omega
          obtain ⟨x11, hx11⟩ : ∃ x, x = d[r]! := ⟨_, rfl⟩
          obtain ⟨y11, hy11⟩ : ∃ x, x = d[h]! := ⟨_, rfl⟩
          have l11a := S1.out.ld R (by omega) Try.prog (r) (by omega)
          have l11b := S1.out.ld R (by omega) Try.prog (h) (by omega)
          rw [← hx11] at l11a
          rw [← hy11] at l11b
          have hc11 := S1.out.cmp HC.out (by omega) x11 y11
          have hv11 : ¬ cf x11 y11 < 0 := by rw [hx11, hy11]; exact of_decide_eq_false hG
          have hd11 : decide (cf x11 y11 < 0) = false := decide_eq_false hv11
          clear hx11 hy11
          go_wp2_with fail
          go_quiet_grown (first | (go_at_fn g; refine Calls.grown_of (hc11 _ _)))
          have S2 : Aside (SWK enc k w0 blk off d (grow (wr.drewN nq) osq)) := S1.out.grown nq osq
          clear l11a l11b hc11 S1
          generalize grow (wr.drewN nq) osq = w2 at S2 ⊢
          clear nq osq
          go_wp2
          go_roundg (j - (h + 1))
          case measure => omega
          case rel => exact ⟨h + 1, j, by go_num, by go_num, by omega, by omega, by omega, Nat.le_refl _, S2, (show Hid _ from by show _ = _; rw [← HE.out, bsr_eq _ i j, if_pos hlt, show (i + j) / 2 = h from HH.out, if_neg (show ¬ ltOf cf d[n - 1 - h]! d[h]! = true from by rw [← HR.out, hG]; simp)])⟩
      · have hltz : ¬ (i : Int) < (j : Int) := by omega
        obtain rfl : i = j := by omega
        have hbr : bsr (fun c => ltOf cf d[n - 1 - c]! d[c]!) i i = i := by rw [bsr_eq, if_neg (Nat.lt_irrefl _)]
        have HB : Hid (bsr (fun c => ltOf cf d[n - 1 - c]! d[c]!) (a) (m) = i) := (show _ = _ from HE.out.symm.trans hbr)
        clear hbr HE
        obtain ⟨s, hsq⟩ : ∃ x : Nat, x = i := ⟨_, rfl⟩
        rw [← hsq] at HB
        have hsl : a ≤ s ∧ s ≤ m := by omega
        subst hsq
        obtain ⟨en, henq⟩ : ∃ x : Nat, n - s = x := ⟨_, rfl⟩
        have henz : (n : Int) - (s : Int) = (en : Int) := by omega
        have ren : IntKind.i64.wrap ((n : Int) - (s : Int)) = (en : Int) := by rw [IntKind.wrap_i64]; omega
        have hen := Lib.hid henq
        have henb : en ≤ n - s ∧ n - s ≤ en := by omega
        clear henq
        replace HB : Hid (bsr (fun c => ltOf cf d[n - 1 - c]! d[c]!) (if mid < m then n - b else a) (if mid < m then mid else m) = s) := by show _ = _; rw [if_neg hbm, if_neg hbm]; exact HB.out
        by_cases k0 : s < m ∧ m < en
        · first
          | (exfalso; omega)
          | (skip
             have z0a : (s : Int) < (m : Int) := by omega
             have z0b : (m : Int) < (en : Int) := by omega
             have hc := rotate_any k aE zE enc g cb blk off cap s m en d0 d w0 wr R hs S1.out hsz k0.1 k0.2 (by omega)
             have HK0 := Lib.hid hc
             clear hc
             go_wp2_with fail
             refine HK0.out.mono ?_
             rintro e v0 ⟨rfl, S1x'⟩
             have S1x : Aside _ := S1x'
             clear HK0 S1 S1x'
             have HSD : Hid (((rot m (m - s) (en - m) d)).size = d.size) := size_rot m _ _ _ _ (Nat.le_refl _)
             by_cases k1 : a < s ∧ s < mid
             · first
               | (exfalso; omega)
               | (skip
                  have z1a : (a : Int) < (s : Int) := by omega
                  have z1b : (s : Int) < (mid : Int) := by omega
                  have hc := hrec.out a s mid (rot m (m - s) (en - m) d) v0 (by omega) k1.1 k1.2 (by rw [HSD.out]; omega) HSD.out S1x.out
                  rw [HSD.out] at hc
                  have HK1 := Lib.hid hc
                  clear hc
                  go_wp2_with fail
                  refine HK1.out.mono ?_
                  rintro e v1 ⟨rfl, S1xx'⟩
                  have S1xx : Aside _ := S1xx'
                  clear HK1 S1x S1xx'
                  replace HSD : Hid (((symM (ltOf cf) f (rot m (m - s) (en - m) d) a s mid)).size = d.size) := (size_symM (ltOf cf) f _ _ _ _).trans HSD.out
                  by_cases k2 : mid < en ∧ en < b
                  · first
                    | (exfalso; omega)
                    | (skip
                       have z2a : (mid : Int) < (en : Int) := by omega
                       have z2b : (en : Int) < (b : Int) := by omega
                       have hc := hrec.out mid en b (symM (ltOf cf) f (rot m (m - s) (en - m) d) a s mid) v1 (by omega) k2.1 k2.2 (by rw [HSD.out]; omega) HSD.out S1xx.out
                       rw [HSD.out] at hc
                       have HK2 := Lib.hid hc
                       clear hc
                       go_wp2_with fail
                       refine HK2.out.mono ?_
                       rintro e v2 ⟨rfl, S1xxx'⟩
                       have S1xxx : Aside _ := S1xxx'
                       clear HK2 S1xx S1xxx'
                       replace HSD : Hid (((symM (ltOf cf) f (symM (ltOf cf) f (rot m (m - s) (en - m) d) a s mid) mid en b)).size = d.size) := (size_symM (ltOf cf) f _ _ _ _).trans HSD.out
                       go_wp2_with fail
                       go_end0
                       refine ⟨rfl, ?_⟩
                       rw [symM_mid (ltOf cf) f d a m b mid n s en (by omega) (by omega) hmid.out hn.out HB.out hen.out _ _ _ rfl rfl rfl]
                       rw [if_pos k2, if_pos k1, if_pos k0]
                       exact S1xxx.out)
                  · by_cases u2 : mid < en
                    · first
                      | (exfalso; omega)
                      | (skip
                         have z2a : (mid : Int) < (en : Int) := by omega
                         have z2b : ¬ (en : Int) < (b : Int) := by omega
                         go_wp2_with fail
                         go_end0
                         refine ⟨rfl, ?_⟩
                         rw [symM_mid (ltOf cf) f d a m b mid n s en (by omega) (by omega) hmid.out hn.out HB.out hen.out _ _ _ rfl rfl rfl]
                         rw [if_neg k2, if_pos k1, if_pos k0]
                         exact S1xx.out)
                    · first
                      | (exfalso; omega)
                      | (skip
                         have z2a : ¬ (mid : Int) < (en : Int) := by omega
                         go_wp2_with fail
                         go_end0
                         refine ⟨rfl, ?_⟩
                         rw [symM_mid (ltOf cf) f d a m b mid n s en (by omega) (by omega) hmid.out hn.out HB.out hen.out _ _ _ rfl rfl rfl]
                         rw [if_neg k2, if_pos k1, if_pos k0]
                         exact S1xx.out))
             · by_cases u1 : a < s
               · first
                 | (exfalso; omega)
                 | (skip
                    have z1a : (a : Int) < (s : Int) := by omega
                    have z1b : ¬ (s : Int) < (mid : Int) := by omega
                    by_cases k2 : mid < en ∧ en < b
                    · first
                      | (exfalso; omega)
                      | (skip
                         have z2a : (mid : Int) < (en : Int) := by omega
                         have z2b : (en : Int) < (b : Int) := by omega
                         have hc := hrec.out mid en b (rot m (m - s) (en - m) d) v0 (by omega) k2.1 k2.2 (by rw [HSD.out]; omega) HSD.out S1x.out
                         rw [HSD.out] at hc
                         have HK2 := Lib.hid hc
                         clear hc
                         go_wp2_with fail
                         refine HK2.out.mono ?_
                         rintro e v2 ⟨rfl, S1xx'⟩
                         have S1xx : Aside _ := S1xx'
                         clear HK2 S1x S1xx'
                         replace HSD : Hid (((symM (ltOf cf) f (rot m (m - s) (en - m) d) mid en b)).size = d.size) := (size_symM (ltOf cf) f _ _ _ _).trans HSD.out
                         go_wp2_with fail
                         go_end0
                         refine ⟨rfl, ?_⟩
                         rw [symM_mid (ltOf cf) f d a m b mid n s en (by omega) (by omega) hmid.out hn.out HB.out hen.out _ _ _ rfl rfl rfl]
                         rw [if_pos k2, if_neg k1, if_pos k0]
                         exact S1xx.out)
                    · by_cases u2 : mid < en
                      · first
                        | (exfalso; omega)
                        | (skip
                           have z2a : (mid : Int) < (en : Int) := by omega
                           have z2b : ¬ (en : Int) < (b : Int) := by omega
                           go_wp2_with fail
                           go_end0
                           refine ⟨rfl, ?_⟩
                           rw [symM_mid (ltOf cf) f d a m b mid n s en (by omega) (by omega) hmid.out hn.out HB.out hen.out _ _ _ rfl rfl rfl]
                           rw [if_neg k2, if_neg k1, if_pos k0]
                           exact S1x.out)
                      · first
                        | (exfalso; omega)
                        | (skip
                           have z2a : ¬ (mid : Int) < (en : Int) := by omega
                           go_wp2_with fail
                           go_end0
                           refine ⟨rfl, ?_⟩
                           rw [symM_mid (ltOf cf) f d a m b mid n s en (by omega) (by omega) hmid.out hn.out HB.out hen.out _ _ _ rfl rfl rfl]
                           rw [if_neg k2, if_neg k1, if_pos k0]
                           exact S1x.out))
               · first
                 | (exfalso; omega)
                 | (skip
                    have z1a : ¬ (a : Int) < (s : Int) := by omega
                    by_cases k2 : mid < en ∧ en < b
                    · first
                      | (exfalso; omega)
                      | (skip
                         have z2a : (mid : Int) < (en : Int) := by omega
                         have z2b : (en : Int) < (b : Int) := by omega
                         have hc := hrec.out mid en b (rot m (m - s) (en - m) d) v0 (by omega) k2.1 k2.2 (by rw [HSD.out]; omega) HSD.out S1x.out
                         rw [HSD.out] at hc
                         have HK2 := Lib.hid hc
                         clear hc
                         go_wp2_with fail
                         refine HK2.out.mono ?_
                         rintro e v2 ⟨rfl, S1xx'⟩
                         have S1xx : Aside _ := S1xx'
                         clear HK2 S1x S1xx'
                         replace HSD : Hid (((symM (ltOf cf) f (rot m (m - s) (en - m) d) mid en b)).size = d.size) := (size_symM (ltOf cf) f _ _ _ _).trans HSD.out
                         go_wp2_with fail
                         go_end0
                         refine ⟨rfl, ?_⟩
                         rw [symM_mid (ltOf cf) f d a m b mid n s en (by omega) (by omega) hmid.out hn.out HB.out hen.out _ _ _ rfl rfl rfl]
                         rw [if_pos k2, if_neg k1, if_pos k0]
                         exact S1xx.out)
                    · by_cases u2 : mid < en
                      · first
                        | (exfalso; omega)
                        | (skip
                           have z2a : (mid : Int) < (en : Int) := by omega
                           have z2b : ¬ (en : Int) < (b : Int) := by omega
                           go_wp2_with fail
                           go_end0
                           refine ⟨rfl, ?_⟩
                           rw [symM_mid (ltOf cf) f d a m b mid n s en (by omega) (by omega) hmid.out hn.out HB.out hen.out _ _ _ rfl rfl rfl]
                           rw [if_neg k2, if_neg k1, if_pos k0]
                           exact S1x.out)
                      · first
                        | (exfalso; omega)
                        | (skip
                           have z2a : ¬ (mid : Int) < (en : Int) := by omega
                           go_wp2_with fail
                           go_end0
                           refine ⟨rfl, ?_⟩
                           rw [symM_mid (ltOf cf) f d a m b mid n s en (by omega) (by omega) hmid.out hn.out HB.out hen.out _ _ _ rfl rfl rfl]
                           rw [if_neg k2, if_neg k1, if_pos k0]
                           exact S1x.out)))
        · by_cases u0 : s < m
          · first
            | (exfalso; omega)
            | (skip
               have z0a : (s : Int) < (m : Int) := by omega
               have z0b : ¬ (m : Int) < (en : Int) := by omega
               by_cases k1 : a < s ∧ s < mid
               · first
                 | (exfalso; omega)
                 | (skip
                    have z1a : (a : Int) < (s : Int) := by omega
                    have z1b : (s : Int) < (mid : Int) := by omega
                    have hc := hrec.out a s mid d wr (by omega) k1.1 k1.2 (by omega) rfl S1.out
                    have HK1 := Lib.hid hc
                    clear hc
                    go_wp2_with fail
                    refine HK1.out.mono ?_
                    rintro e v1 ⟨rfl, S1x'⟩
                    have S1x : Aside _ := S1x'
                    clear HK1 S1 S1x'
                    have HSD : Hid (((symM (ltOf cf) f d a s mid)).size = d.size) := (size_symM (ltOf cf) f _ _ _ _)
                    by_cases k2 : mid < en ∧ en < b
                    · first
                      | (exfalso; omega)
                      | (skip
                         have z2a : (mid : Int) < (en : Int) := by omega
                         have z2b : (en : Int) < (b : Int) := by omega
                         have hc := hrec.out mid en b (symM (ltOf cf) f d a s mid) v1 (by omega) k2.1 k2.2 (by rw [HSD.out]; omega) HSD.out S1x.out
                         rw [HSD.out] at hc
                         have HK2 := Lib.hid hc
                         clear hc
                         go_wp2_with fail
                         refine HK2.out.mono ?_
                         rintro e v2 ⟨rfl, S1xx'⟩
                         have S1xx : Aside _ := S1xx'
                         clear HK2 S1x S1xx'
                         replace HSD : Hid (((symM (ltOf cf) f (symM (ltOf cf) f d a s mid) mid en b)).size = d.size) := (size_symM (ltOf cf) f _ _ _ _).trans HSD.out
                         go_wp2_with fail
                         go_end0
                         refine ⟨rfl, ?_⟩
                         rw [symM_mid (ltOf cf) f d a m b mid n s en (by omega) (by omega) hmid.out hn.out HB.out hen.out _ _ _ rfl rfl rfl]
                         rw [if_pos k2, if_pos k1, if_neg k0]
                         exact S1xx.out)
                    · by_cases u2 : mid < en
                      · first
                        | (exfalso; omega)
                        | (skip
                           have z2a : (mid : Int) < (en : Int) := by omega
                           have z2b : ¬ (en : Int) < (b : Int) := by omega
                           go_wp2_with fail
                           go_end0
                           refine ⟨rfl, ?_⟩
                           rw [symM_mid (ltOf cf) f d a m b mid n s en (by omega) (by omega) hmid.out hn.out HB.out hen.out _ _ _ rfl rfl rfl]
                           rw [if_neg k2, if_pos k1, if_neg k0]
                           exact S1x.out)
                      · first
                        | (exfalso; omega)
                        | (skip
                           have z2a : ¬ (mid : Int) < (en : Int) := by omega
                           go_wp2_with fail
                           go_end0
                           refine ⟨rfl, ?_⟩
                           rw [symM_mid (ltOf cf) f d a m b mid n s en (by omega) (by omega) hmid.out hn.out HB.out hen.out _ _ _ rfl rfl rfl]
                           rw [if_neg k2, if_pos k1, if_neg k0]
                           exact S1x.out))
               · by_cases u1 : a < s
                 · first
                   | (exfalso; omega)
                   | (skip
                      have z1a : (a : Int) < (s : Int) := by omega
                      have z1b : ¬ (s : Int) < (mid : Int) := by omega
                      by_cases k2 : mid < en ∧ en < b
                      · first
                        | (exfalso; omega)
                        | (skip
                           have z2a : (mid : Int) < (en : Int) := by omega
                           have z2b : (en : Int) < (b : Int) := by omega
                           have hc := hrec.out mid en b d wr (by omega) k2.1 k2.2 (by omega) rfl S1.out
                           have HK2 := Lib.hid hc
                           clear hc
                           go_wp2_with fail
                           refine HK2.out.mono ?_
                           rintro e v2 ⟨rfl, S1x'⟩
                           have S1x : Aside _ := S1x'
                           clear HK2 S1 S1x'
                           have HSD : Hid (((symM (ltOf cf) f d mid en b)).size = d.size) := (size_symM (ltOf cf) f _ _ _ _)
                           go_wp2_with fail
                           go_end0
                           refine ⟨rfl, ?_⟩
                           rw [symM_mid (ltOf cf) f d a m b mid n s en (by omega) (by omega) hmid.out hn.out HB.out hen.out _ _ _ rfl rfl rfl]
                           rw [if_pos k2, if_neg k1, if_neg k0]
                           exact S1x.out)
                      · by_cases u2 : mid < en
                        · first
                          | (exfalso; omega)
                          | (skip
                             have z2a : (mid : Int) < (en : Int) := by omega
                             have z2b : ¬ (en : Int) < (b : Int) := by omega
                             go_wp2_with fail
                             go_end0
                             refine ⟨rfl, ?_⟩
                             rw [symM_mid (ltOf cf) f d a m b mid n s en (by omega) (by omega) hmid.out hn.out HB.out hen.out _ _ _ rfl rfl rfl]
                             rw [if_neg k2, if_neg k1, if_neg k0]
                             exact S1.out)
                        · first
                          | (exfalso; omega)
                          | (skip
                             have z2a : ¬ (mid : Int) < (en : Int) := by omega
                             go_wp2_with fail
                             go_end0
                             refine ⟨rfl, ?_⟩
                             rw [symM_mid (ltOf cf) f d a m b mid n s en (by omega) (by omega) hmid.out hn.out HB.out hen.out _ _ _ rfl rfl rfl]
                             rw [if_neg k2, if_neg k1, if_neg k0]
                             exact S1.out))
                 · first
                   | (exfalso; omega)
                   | (skip
                      have z1a : ¬ (a : Int) < (s : Int) := by omega
                      by_cases k2 : mid < en ∧ en < b
                      · first
                        | (exfalso; omega)
                        | (skip
                           have z2a : (mid : Int) < (en : Int) := by omega
                           have z2b : (en : Int) < (b : Int) := by omega
                           have hc := hrec.out mid en b d wr (by omega) k2.1 k2.2 (by omega) rfl S1.out
                           have HK2 := Lib.hid hc
                           clear hc
                           go_wp2_with fail
                           refine HK2.out.mono ?_
                           rintro e v2 ⟨rfl, S1x'⟩
                           have S1x : Aside _ := S1x'
                           clear HK2 S1 S1x'
                           have HSD : Hid (((symM (ltOf cf) f d mid en b)).size = d.size) := (size_symM (ltOf cf) f _ _ _ _)
                           go_wp2_with fail
                           go_end0
                           refine ⟨rfl, ?_⟩
                           rw [symM_mid (ltOf cf) f d a m b mid n s en (by omega) (by omega) hmid.out hn.out HB.out hen.out _ _ _ rfl rfl rfl]
                           rw [if_pos k2, if_neg k1, if_neg k0]
                           exact S1x.out)
                      · by_cases u2 : mid < en
                        · first
                          | (exfalso; omega)
                          | (skip
                             have z2a : (mid : Int) < (en : Int) := by omega
                             have z2b : ¬ (en : Int) < (b : Int) := by omega
                             go_wp2_with fail
                             go_end0
                             refine ⟨rfl, ?_⟩
                             rw [symM_mid (ltOf cf) f d a m b mid n s en (by omega) (by omega) hmid.out hn.out HB.out hen.out _ _ _ rfl rfl rfl]
                             rw [if_neg k2, if_neg k1, if_neg k0]
                             exact S1.out)
                        · first
                          | (exfalso; omega)
                          | (skip
                             have z2a : ¬ (mid : Int) < (en : Int) := by omega
                             go_wp2_with fail
                             go_end0
                             refine ⟨rfl, ?_⟩
                             rw [symM_mid (ltOf cf) f d a m b mid n s en (by omega) (by omega) hmid.out hn.out HB.out hen.out _ _ _ rfl rfl rfl]
                             rw [if_neg k2, if_neg k1, if_neg k0]
                             exact S1.out)))
          · first
            | (exfalso; omega)
            | (skip
               have z0a : ¬ (s : Int) < (m : Int) := by omega
               by_cases k1 : a < s ∧ s < mid
               · first
                 | (exfalso; omega)
                 | (skip
                    have z1a : (a : Int) < (s : Int) := by omega
                    have z1b : (s : Int) < (mid : Int) := by omega
                    have hc := hrec.out a s mid d wr (by omega) k1.1 k1.2 (by omega) rfl S1.out
                    have HK1 := Lib.hid hc
                    clear hc
                    go_wp2_with fail
                    refine HK1.out.mono ?_
                    rintro e v1 ⟨rfl, S1x'⟩
                    have S1x : Aside _ := S1x'
                    clear HK1 S1 S1x'
                    have HSD : Hid (((symM (ltOf cf) f d a s mid)).size = d.size) := (size_symM (ltOf cf) f _ _ _ _)
                    by_cases k2 : mid < en ∧ en < b
                    · first
                      | (exfalso; omega)
                      | (skip
                         have z2a : (mid : Int) < (en : Int) := by omega
                         have z2b : (en : Int) < (b : Int) := by omega
                         have hc := hrec.out mid en b (symM (ltOf cf) f d a s mid) v1 (by omega) k2.1 k2.2 (by rw [HSD.out]; omega) HSD.out S1x.out
                         rw [HSD.out] at hc
                         have HK2 := Lib.hid hc
                         clear hc
                         go_wp2_with fail
                         refine HK2.out.mono ?_
                         rintro e v2 ⟨rfl, S1xx'⟩
                         have S1xx : Aside _ := S1xx'
                         clear HK2 S1x S1xx'
                         replace HSD : Hid (((symM (ltOf cf) f (symM (ltOf cf) f d a s mid) mid en b)).size = d.size) := (size_symM (ltOf cf) f _ _ _ _).trans HSD.out
                         go_wp2_with fail
                         go_end0
                         refine ⟨rfl, ?_⟩
                         rw [symM_mid (ltOf cf) f d a m b mid n s en (by omega) (by omega) hmid.out hn.out HB.out hen.out _ _ _ rfl rfl rfl]
                         rw [if_pos k2, if_pos k1, if_neg k0]
                         exact S1xx.out)
                    · by_cases u2 : mid < en
                      · first
                        | (exfalso; omega)
                        | (skip
                           have z2a : (mid : Int) < (en : Int) := by omega
                           have z2b : ¬ (en : Int) < (b : Int) := by omega
                           go_wp2_with fail
                           go_end0
                           refine ⟨rfl, ?_⟩
                           rw [symM_mid (ltOf cf) f d a m b mid n s en (by omega) (by omega) hmid.out hn.out HB.out hen.out _ _ _ rfl rfl rfl]
                           rw [if_neg k2, if_pos k1, if_neg k0]
                           exact S1x.out)
                      · first
                        | (exfalso; omega)
                        | (skip
                           have z2a : ¬ (mid : Int) < (en : Int) := by omega
                           go_wp2_with fail
                           go_end0
                           refine ⟨rfl, ?_⟩
                           rw [symM_mid (ltOf cf) f d a m b mid n s en (by omega) (by omega) hmid.out hn.out HB.out hen.out _ _ _ rfl rfl rfl]
                           rw [if_neg k2, if_pos k1, if_neg k0]
                           exact S1x.out))
               · by_cases u1 : a < s
                 · first
                   | (exfalso; omega)
                   | (skip
                      have z1a : (a : Int) < (s : Int) := by omega
                      have z1b : ¬ (s : Int) < (mid : Int) := by omega
                      by_cases k2 : mid < en ∧ en < b
                      · first
                        | (exfalso; omega)
                        | (skip
                           have z2a : (mid : Int) < (en : Int) := by omega
                           have z2b : (en : Int) < (b : Int) := by omega
                           have hc := hrec.out mid en b d wr (by omega) k2.1 k2.2 (by omega) rfl S1.out
                           have HK2 := Lib.hid hc
                           clear hc
                           go_wp2_with fail
                           refine HK2.out.mono ?_
                           rintro e v2 ⟨rfl, S1x'⟩
                           have S1x : Aside _ := S1x'
                           clear HK2 S1 S1x'
                           have HSD : Hid (((symM (ltOf cf) f d mid en b)).size = d.size) := (size_symM (ltOf cf) f _ _ _ _)
                           go_wp2_with fail
                           go_end0
                           refine ⟨rfl, ?_⟩
                           rw [symM_mid (ltOf cf) f d a m b mid n s en (by omega) (by omega) hmid.out hn.out HB.out hen.out _ _ _ rfl rfl rfl]
                           rw [if_pos k2, if_neg k1, if_neg k0]
                           exact S1x.out)
                      · by_cases u2 : mid < en
                        · first
                          | (exfalso; omega)
                          | (skip
                             have z2a : (mid : Int) < (en : Int) := by omega
                             have z2b : ¬ (en : Int) < (b : Int) := by omega
                             go_wp2_with fail
                             go_end0
                             refine ⟨rfl, ?_⟩
                             rw [symM_mid (ltOf cf) f d a m b mid n s en (by omega) (by omega) hmid.out hn.out HB.out hen.out _ _ _ rfl rfl rfl]
                             rw [if_neg k2, if_neg k1, if_neg k0]
                             exact S1.out)
                        · first
                          | (exfalso; omega)
                          | (skip
                             have z2a : ¬ (mid : Int) < (en : Int) := by omega
                             go_wp2_with fail
                             go_end0
                             refine ⟨rfl, ?_⟩
                             rw [symM_mid (ltOf cf) f d a m b mid n s en (by omega) (by omega) hmid.out hn.out HB.out hen.out _ _ _ rfl rfl rfl]
                             rw [if_neg k2, if_neg k1, if_neg k0]
                             exact S1.out))
                 · first
                   | (exfalso; omega)
                   | (skip
                      have z1a : ¬ (a : Int) < (s : Int) := by omega
                      by_cases k2 : mid < en ∧ en < b
                      · first
                        | (exfalso; omega)
                        | (skip
                           have z2a : (mid : Int) < (en : Int) := by omega
                           have z2b : (en : Int) < (b : Int) := by omega
                           have hc := hrec.out mid en b d wr (by omega) k2.1 k2.2 (by omega) rfl S1.out
                           have HK2 := Lib.hid hc
                           clear hc
                           go_wp2_with fail
                           refine HK2.out.mono ?_
                           rintro e v2 ⟨rfl, S1x'⟩
                           have S1x : Aside _ := S1x'
                           clear HK2 S1 S1x'
                           have HSD : Hid (((symM (ltOf cf) f d mid en b)).size = d.size) := (size_symM (ltOf cf) f _ _ _ _)
                           go_wp2_with fail
                           go_end0
                           refine ⟨rfl, ?_⟩
                           rw [symM_mid (ltOf cf) f d a m b mid n s en (by omega) (by omega) hmid.out hn.out HB.out hen.out _ _ _ rfl rfl rfl]
                           rw [if_pos k2, if_neg k1, if_neg k0]
                           exact S1x.out)
                      · by_cases u2 : mid < en
                        · first
                          | (exfalso; omega)
                          | (skip
                             have z2a : (mid : Int) < (en : Int) := by omega
                             have z2b : ¬ (en : Int) < (b : Int) := by omega
                             go_wp2_with fail
                             go_end0
                             refine ⟨rfl, ?_⟩
                             rw [symM_mid (ltOf cf) f d a m b mid n s en (by omega) (by omega) hmid.out hn.out HB.out hen.out _ _ _ rfl rfl rfl]
                             rw [if_neg k2, if_neg k1, if_neg k0]
                             exact S1.out)
                        · first
                          | (exfalso; omega)
                          | (skip
                             have z2a : ¬ (mid : Int) < (en : Int) := by omega
                             go_wp2_with fail
                             go_end0
                             refine ⟨rfl, ?_⟩
                             rw [symM_mid (ltOf cf) f d a m b mid n s en (by omega) (by omega) hmid.out hn.out HB.out hen.out _ _ _ rfl rfl rfl]
                             rw [if_neg k2, if_neg k1, if_neg k0]
                             exact S1.out)))
theorem sym_any (k : Nat) (aE : ∀ w, (isAgg 25).run Try.prog w = .ok true w) (zE : ∀ w, (Go.sizeOf 25).run Try.prog w = .ok k w) (enc : α → List Value) (g : Nat) (cb : Array Value) (blk off cap : Nat) (cf : α → α → Int) (eg : ∀ args w, (callFunc g args).run Try.prog w = .ok (.enter g args) w) (d0 : Array α) (w0 : World) (R : RowK enc k w0 blk off d0) (hcmp : CmpLays Try.prog g cb enc k cf blk off d0.size w0) : ∀ (f a m b : Nat) (d : Array α) (w : World), b - a ≤ f → a < m → m < b → b ≤ d.size → d0.size = d.size → d.size < 1000000000 → SWK enc k w0 blk off d w →
    Calls Try.prog 40 #[.slice (some ⟨blk, off, none⟩) d.size cap, .int .i64 a, .int .i64 m, .int .i64 b, .func (.func g) #[] cb] w fun e w' => e = .returned (.tuple #[]) ∧ SWK enc k w0 blk off (symM (ltOf cf) f d a m b) w'
  | 0, a, m, b, d, w, h, h1, h2, _, _, _, _ => by omega
  | f + 1, a, m, b, d, w, h, ham, hmb, hb, hs, hsz, S => by
    by_cases h0 : m = a + 1
    · rw [symM, if_pos (by omega)]
      exact symUp_any k aE zE enc g cb blk off cap a m b f d0 d w0 w R hs S hsz cf eg hcmp ham hmb hb h0
    · by_cases h1 : b = m + 1
      · rw [symM, if_neg (by omega), if_pos (by omega)]
        exact symDn_any k aE zE enc g cb blk off cap a m b f d0 d w0 w R hs S hsz cf eg hcmp ham hmb hb h0 h1
      · exact symMid_any k aE zE enc g cb blk off cap a m b f d0 d w0 w R hs S hsz cf eg hcmp ham hmb hb h0 h1 fun a' m' b' d' w' e1 e2 e3 e4 e5 e6 => sym_any k aE zE enc g cb blk off cap cf eg d0 w0 R hcmp f a' m' b' d' w' (by omega) e2 e3 e4 (by omega) (by omega) e6
end
end Go.Proofs.Ytbhhkaaidhapbaa
