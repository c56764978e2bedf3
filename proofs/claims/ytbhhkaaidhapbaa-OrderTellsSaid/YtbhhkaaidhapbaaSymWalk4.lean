/- slices.stableCmpFunc and SortStableFunc at routes, at any length: by stableA (XSymStab). No condition. -/
import Derived.Test.YtbhhkaaidhapbaaSymWalk3
import Derived.Shelf.SlSortCmp.KitK
import Derived.Sort.WalkB2
import Derived.Sort.WalkB12
import Derived.Deep.LoopGhost
namespace Go.Proofs.Ytbhhkaaidhapbaa
open Go.Shelf Go.RowKit Go.Lib Go.Sort
set_option linter.unusedSimpArgs false
set_option linter.unusedVariables false
section
variable {α : Type} [Inhabited α]
theorem insW_any (k : Nat) (aE : ∀ w, (isAgg 25).run Try.prog w = .ok true w) (zE : ∀ w, (Go.sizeOf 25).run Try.prog w = .ok k w) (enc : α → List Value) (g : Nat) (cb : Array Value) (blk off cap : Nat) (a b : Nat) (d0 d : Array α) (w0 w : World) (R : RowK enc k w0 blk off d0) (hs : d0.size = d.size) (S : SWK enc k w0 blk off d w) (hsz : d.size < 1000000000) (cf : α → α → Int) (eg : ∀ args w, (callFunc g args).run Try.prog w = .ok (.enter g args) w) (hcmp : CmpLays Try.prog g cb enc k cf blk off d0.size w0) (hS : Swo (ltOf cf)) (hab : a ≤ b) (hb : b ≤ d.size) :
    Calls Try.prog 39 #[.slice (some ⟨blk, off, none⟩) d.size cap, .int .i64 a, .int .i64 b, .func (.func g) #[] cb] w fun e w' => e = .returned (.tuple #[]) ∧ SWK enc k w0 blk off (insertionSort (ltOf cf) d a b) w' := by
  have hC : CmpLays Try.prog g cb enc k cf blk off d.size w := fun m os dk hdk x y => by
    obtain ⟨n0, os0, rfl⟩ := S
    rw [sortWorldK_on enc k w0 blk off n0 m d dk os0 os R.hblk hdk]
    exact hcmp _ _ dk (by omega) x y
  have hcon := AnyQ.insertionSortCmpFunc Try.insRt k aE zE enc R.hk R.h1 cf g cb blk off cap a b d w eg hC (S.holds R.hblk R.hH hs.symm) (S.lt R.hblk) hab hb (by omega)
  change Calls Try.prog 39 _ _ _ at hcon
  refine hcon.mono ?_
  rintro e w' ⟨rfl, n, os, rfl⟩
  exact ⟨rfl, S.on R.hblk n _ os (ins_good hS d hab hb).1⟩
set_option maxHeartbeats 4000000 in
set_option maxRecDepth 1000000 in
theorem stableN_any (k : Nat) (aE : ∀ w, (isAgg 25).run Try.prog w = .ok true w) (zE : ∀ w, (Go.sizeOf 25).run Try.prog w = .ok k w) (enc : α → List Value) (g : Nat) (cb : Array Value) (blk off cap : Nat) (d0 d : Array α) (w0 w : World) (R : RowK enc k w0 blk off d0) (hs : d0.size = d.size) (S : SWK enc k w0 blk off d w) (hsz : d.size < 1000000000) (cf : α → α → Int) (eg : ∀ args w, (callFunc g args).run Try.prog w = .ok (.enter g args) w) (hcmp : CmpLays Try.prog g cb enc k cf blk off d0.size w0) (hS : Swo (ltOf cf)) :
    Calls Try.prog 36 #[.slice (some ⟨blk, off, none⟩) d.size cap, .int .i64 d.size, .func (.func g) #[] cb] w fun e w' => e = .returned (.tuple #[]) ∧ SWK enc k w0 blk off (stableA (ltOf cf) d.size d) w' := by
  have S0 : Aside (SWK enc k w0 blk off d w) := S
  have HC : Aside _ := hcmp
  have hS : Aside _ := hS
  clear S hcmp
  go_enter Try.func36, Try.ntmps36
  go_wp2
  go_loopg [7, 8] d.size (fun kx sa sb wr => ∃ (A f : Nat) (dk : Array α), sa = .int .i64 A ∧ sb = .int .i64 ((A : Int) + 20) ∧ A ≤ d.size ∧ d.size - A < f ∧ d.size - A ≤ kx ∧ dk.size = d.size ∧ Aside (SWK enc k w0 blk off dk wr) ∧ Hid (insB (ltOf cf) d.size 20 f A dk = insB (ltOf cf) d.size 20 (d.size + 1) 0 d))
  case atStart => exact ⟨0, d.size + 1, d, by go_num, by go_num, Nat.zero_le _, by omega, by omega, rfl, S0, rfl⟩
  case round =>
    clear S0
    obtain ⟨A, f, dk, rfl, rfl, hA, hf, hkx, hds, S1, HE⟩ := hrel
    obtain ⟨f, rfl⟩ : ∃ f', f = f' + 1 := ⟨f - 1, by omega⟩
    by_cases hA2 : A + 20 ≤ d.size
    · have hAz : (A : Int) + 20 ≤ (d.size : Int) := by omega
      have rA : IntKind.i64.wrap ((A : Int) + 20 + 20) = (A : Int) + 20 + 20 := by rw [IntKind.wrap_i64]; omega
      have hc := insW_any k aE zE enc g cb blk off cap A (A + 20) d0 dk w0 wr R (by omega) S1.out (by omega) cf eg HC.out hS.out (by omega) (by omega)
      rw [hds] at hc
      rw [show ((A + 20 : Nat) : Int) = (A : Int) + 20 by omega] at hc
      have HK := Lib.hid hc
      clear hc
      go_wp2_with fail
      refine HK.out.mono ?_
      rintro e v1 ⟨rfl, T'⟩
      have T : Aside _ := T'
      clear HK S1 T'
      go_wp2
      go_roundg (d.size - (A + 20))
      case measure => omega
      case rel => exact ⟨A + 20, f, _, by go_num, by go_num, by omega, by omega, Nat.le_refl _, (ins_good hS.out dk (by omega) (by omega)).1.trans hds, T, (show Hid _ from by show _ = _; rw [← HE.out, insB_go hA2])⟩
    · have hAz : ¬ (A : Int) + 20 ≤ (d.size : Int) := by omega
      have hc := insW_any k aE zE enc g cb blk off cap A d.size d0 dk w0 wr R (by omega) S1.out (by omega) cf eg HC.out hS.out hA (by omega)
      rw [hds] at hc
      have HK := Lib.hid hc
      clear hc
      go_wp2_with fail
      refine HK.out.mono ?_
      rintro e v1 ⟨rfl, T'⟩
      have T : Aside _ := T'
      clear HK S1 T'
      have hd1 : (insertionSort (ltOf cf) dk A d.size).size = d.size := (ins_good hS.out dk hA (by omega)).1.trans hds
      have HE1 : Hid (insertionSort (ltOf cf) dk A d.size = insB (ltOf cf) d.size 20 (d.size + 1) 0 d) := (show _ = _ from by rw [← HE.out, insB_stop hA2])
      generalize insertionSort (ltOf cf) dk A d.size = d1 at hd1 HE1 T
      clear HE hds hf hkx
      go_wp2
      go_loopg [6, 7, 8] d.size (fun kx sc sa sb wr => ∃ (bs f : Nat) (dk : Array α), sc = .int .i64 bs ∧ 0 < bs ∧ bs < 4000000000 ∧ d.size - bs < f ∧ d.size - bs ≤ kx ∧ dk.size = d.size ∧ Aside (SWK enc k w0 blk off dk wr) ∧ Hid (stabB (ltOf cf) d.size f bs dk = stableA (ltOf cf) d.size d))
      case atStart => exact ⟨20, d.size + 1, d1, by go_num, by omega, by omega, by omega, by omega, hd1, T, (show Hid _ from by show _ = _; rw [stableA, ← HE1.out])⟩
      case round =>
        clear T HE1 hd1
        obtain ⟨bs, f, dk, rfl, hb0, hbb, hf, hkx, hds, S1, HE⟩ := hrel
        obtain ⟨f, rfl⟩ : ∃ f', f = f' + 1 := ⟨f - 1, by omega⟩
        by_cases hbn : bs < d.size
        · have hbz : (bs : Int) < (d.size : Int) := by omega
          have r2 : IntKind.i64.wrap (2 * (bs : Int)) = 2 * (bs : Int) := by rw [IntKind.wrap_i64]; omega
          have r2' : IntKind.i64.wrap ((bs : Int) * 2) = (bs : Int) * 2 := by rw [IntKind.wrap_i64]; omega
          go_wp2
          go_loopg [7, 8] d.size (fun kx sa sb wj => ∃ (A f2 : Nat) (dj : Array α), sa = .int .i64 A ∧ sb = .int .i64 ((A : Int) + 2 * (bs : Int)) ∧ A ≤ d.size ∧ d.size - A < f2 ∧ d.size - A ≤ kx ∧ dj.size = d.size ∧ Aside (SWK enc k w0 blk off dj wj) ∧ Hid (mrgB (ltOf cf) d.size bs f2 A dj = mrgB (ltOf cf) d.size bs (d.size + 1) 0 dk))
          case atStart => exact ⟨0, d.size + 1, dk, by go_num, by go_num, Nat.zero_le _, by omega, by omega, hds, S1, rfl⟩
          case round =>
            clear S1
            obtain ⟨A, f2, dj, rfl, rfl, hA, hf2, hkj, hdj, S5, HJ⟩ := hrel
            obtain ⟨f2, rfl⟩ : ∃ f', f2 = f' + 1 := ⟨f2 - 1, by omega⟩
            have rA1 : IntKind.i64.wrap ((A : Int) + (bs : Int)) = (A : Int) + (bs : Int) := by rw [IntKind.wrap_i64]; omega
            have rA2 : IntKind.i64.wrap ((A : Int) + 2 * (bs : Int) + 2 * (bs : Int)) = (A : Int) + 2 * (bs : Int) + 2 * (bs : Int) := by rw [IntKind.wrap_i64]; omega
            by_cases hA2 : A + 2 * bs ≤ d.size
            · have hAz : (A : Int) + 2 * (bs : Int) ≤ (d.size : Int) := by omega
              have hc := sym_any k aE zE enc g cb blk off cap cf eg d0 w0 R HC.out (2 * bs) A (A + bs) (A + 2 * bs) dj wr (by omega) (by omega) (by omega) (by omega) (by omega) (by omega) S5.out
              rw [hdj] at hc
              rw [show ((A + bs : Nat) : Int) = (A : Int) + (bs : Int) by omega] at hc
              rw [show ((A + 2 * bs : Nat) : Int) = (A : Int) + 2 * (bs : Int) by omega] at hc
              have HK := Lib.hid hc
              clear hc
              go_wp2_with fail
              refine HK.out.mono ?_
              rintro e v1 ⟨rfl, T'⟩
              have T : Aside _ := T'
              clear HK S5 T'
              go_wp2
              go_roundg (d.size - (A + 2 * bs))
              case measure => omega
              case rel => exact ⟨A + 2 * bs, f2, _, by go_num, by go_num, by omega, by omega, Nat.le_refl _, (size_symM _ _ _ _ _ _).trans hdj, T, (show Hid _ from by show _ = _; rw [← HJ.out, mrgB_go hA2])⟩
            · have hAz : ¬ (A : Int) + 2 * (bs : Int) ≤ (d.size : Int) := by omega
              by_cases hA3 : A + bs < d.size
              · have hA3z : (A : Int) + (bs : Int) < (d.size : Int) := by omega
                have hc := sym_any k aE zE enc g cb blk off cap cf eg d0 w0 R HC.out (2 * bs) A (A + bs) d.size dj wr (by omega) (by omega) (by omega) (by omega) (by omega) (by omega) S5.out
                rw [hdj] at hc
                rw [show ((A + bs : Nat) : Int) = (A : Int) + (bs : Int) by omega] at hc
                have HK := Lib.hid hc
                clear hc
                go_wp2_with fail
                refine HK.out.mono ?_
                rintro e v1 ⟨rfl, T'⟩
                have T : Aside _ := T'
                clear HK S5 T'
                go_wp2
                go_roundg (d.size - 2 * bs)
                case measure => omega
                case rel => exact ⟨2 * bs, f, _, by go_num, by omega, by omega, by omega, Nat.le_refl _, (size_symM _ _ _ _ _ _).trans hdj, T, (show Hid _ from by show _ = _; rw [← HE.out, stabB_go hbn, ← HJ.out, mrgB_last hA2 hA3])⟩
              · have hA3z : ¬ (A : Int) + (bs : Int) < (d.size : Int) := by omega
                go_wp2
                go_roundg (d.size - 2 * bs)
                case measure => omega
                case rel => exact ⟨2 * bs, f, dj, by go_num, by omega, by omega, by omega, Nat.le_refl _, hdj, S5, (show Hid _ from by show _ = _; rw [← HE.out, stabB_go hbn, ← HJ.out, mrgB_stop hA2 hA3])⟩
        · have hbz : ¬ (bs : Int) < (d.size : Int) := by omega
          go_wp2
          go_end0
          refine ⟨rfl, ?_⟩
          rw [← HE.out, stabB_stop hbn]
          exact S1.out
theorem stable_all (enc : α → List Value) (hk : ∀ x, (enc x).length = 2) (h1 : ∀ x, ∀ v ∈ enc x, v.oneCell' = true) (cf : α → α → Int) (hS : Swo (ltOf cf)) (g : Nat) (cb : Array Value) (blk off cap : Nat) (d : Array α) (w : World)
    (eg : ∀ args w, (callFunc g args).run Try.prog w = .ok (.enter g args) w) (hcmp : CmpLays Try.prog g cb enc 2 cf blk off d.size w) (hH : HoldsK enc 2 w blk off d) (hblk : blk < w.heap.size) (hsz : d.size < 1000000000) :
    Calls Try.prog 36 #[.slice (some ⟨blk, off, none⟩) d.size cap, .int .i64 d.size, .func (.func g) #[] cb] w fun e w' => e = .returned (.tuple #[]) ∧ ∃ n os, w' = sortWorldK enc 2 w blk off n (Sort.insertionSort (ltOf cf) d 0 d.size) os := by
  refine (stableN_any 2 Try.isAgg25 Try.sizeOf25 enc g cb blk off cap d d w w ⟨hk, h1, hH, hblk⟩ rfl (SWK.start hH) hsz cf eg hcmp hS).mono ?_
  rintro e w' ⟨rfl, n, os, hw⟩
  exact ⟨rfl, n, os, by rw [← stableA_ins hS]; exact hw⟩
set_option maxHeartbeats 2000000 in
set_option maxRecDepth 100000 in
theorem sortStable_all (enc : α → List Value) (hk : ∀ x, (enc x).length = 2) (h1 : ∀ x, ∀ v ∈ enc x, v.oneCell' = true) (cf : α → α → Int) (hS : Swo (ltOf cf)) (g : Nat) (cb : Array Value) (blk off cap : Nat) (d : Array α) (w : World)
    (eg : ∀ args w, (callFunc g args).run Try.prog w = .ok (.enter g args) w) (hcmp : CmpLays Try.prog g cb enc 2 cf blk off d.size w) (hH : HoldsK enc 2 w blk off d) (hblk : blk < w.heap.size) (hsz : d.size < 1000000000) :
    Calls Try.prog 24 #[.slice (some ⟨blk, off, none⟩) d.size cap, .func (.func g) #[] cb] w fun e w' => e = .returned (.tuple #[]) ∧ ∃ n os, w' = sortWorldK enc 2 w blk off n (Sort.insertionSort (ltOf cf) d 0 d.size) os := by
  have HC := Lib.hid (stable_all enc hk h1 cf hS g cb blk off cap d w eg hcmp hH hblk hsz)
  generalize hz : d.size = z at *
  clear hcmp hH hk h1 eg hS
  go_enter Try.func24, Try.ntmps24
  go_wp2_with fail
  refine HC.out.mono ?_
  rintro e w1 ⟨rfl, hw⟩
  clear HC
  go_wp2_with fail
  exact bodyPost_end (results_none (by rfl) _ _ _) rfl ⟨rfl, hw⟩
end
end Go.Proofs.Ytbhhkaaidhapbaa
