/- Package heap: sink. -/
import Derived.Test.YtpmibpclkfidkaaHeapR
namespace Go.Proofs.Ytpmibpclkfidkaa
open Go.ChangeShapes Go.WideShapes Go.ChangeAt Go.RowKit Go.Sort Hp
set_option linter.unusedSimpArgs false
set_option linter.unusedVariables false
namespace Hp
def pk1 (d : List Rd) (i : Nat) : Nat := if 2 * i + 1 < d.length ∧ ahd (gt d (2 * i + 1)) (gt d i) = true then 2 * i + 1 else i
theorem pick_eq (d : List Rd) (i : Nat) : pick d i = if 2 * i + 2 < d.length ∧ ahd (gt d (2 * i + 2)) (gt d (pk1 d i)) = true then 2 * i + 2 else pk1 d i := rfl
def pkB (d : List Rd) (i b : Nat) : Nat := if b = 0 then i else if b = 1 then pk1 d i else pick d i
theorem pkB_step {d : List Rd} {i b : Nat} (hb : b < 2) (hn : 2 * i + 1 + b < d.length) : pkB d i (b + 1) = if ahd (gt d (2 * i + 1 + b)) (gt d (pkB d i b)) = true then 2 * i + 1 + b else pkB d i b := by
  have h : b = 0 ∨ b = 1 := by omega
  rcases h with rfl | rfl
  · show pk1 d i = _
    unfold pk1
    simp only [show pkB d i 0 = i from rfl, Nat.add_zero] at *
    simp [hn]
  · show pick d i = _
    rw [pick_eq]
    simp only [show pkB d i 1 = pk1 d i from rfl, show 2 * i + 1 + 1 = 2 * i + 2 from rfl] at *
    simp [hn]
theorem pkB_end {d : List Rd} {i b : Nat} (hb : b ≤ 2) (h : ¬ b < 2 ∨ d.length ≤ 2 * i + 1 + b) : pick d i = pkB d i b := by
  have hc : b = 0 ∨ b = 1 ∨ b = 2 := by omega
  rw [pick_eq]
  rcases hc with rfl | rfl | rfl
  · simp only [show pkB d i 0 = i from rfl]
    unfold pk1
    rw [if_neg (fun h' => by omega), if_neg (fun h' => by omega)]
  · simp only [show pkB d i 1 = pk1 d i from rfl]
    rw [if_neg (fun h' => by omega)]
  · rfl
end Hp
set_option maxHeartbeats 4000000 in
set_option maxRecDepth 100000 in
theorem sink_any (hb g cap : Nat) (d0 : List (Int × Int)) (w : World) (hcap : d0.length ≤ cap) (hsz : d0.length ≤ 1000000) (h0 : HeapAt w hb g cap d0) (hu : downInv d0 0) :
    Calls Try.prog 20 #[.pointer (some ⟨hb, 0, none⟩), .int .i64 0] w fun e w' => e = .returned (.tuple #[]) ∧ ∃ d', d'.length = d0.length ∧ d'.Perm d0 ∧ isHeap d' ∧ HeapAt w' hb g cap d' ∧ w.grownBy w' (some g) := by
    go_enter Try.func20, Try.ntmps20
    go_wp2
    refine wp_scope_label (fun a' w' => ∃ (k : Nat) (d : List (Int × Int)), d.length = d0.length ∧ d.Perm d0 ∧ downInv d k ∧ k ≤ d.length ∧ HeapAt w' hb g cap d ∧ w.grownBy w' (some g) ∧ ∃ u2 u3 u4 u5 u6 u7 u8 u9 u10 u11 u12 u13 u14 u15 u16 u17 u18 u19 u20 u21 u22 u23 u24 u25 u26 u27 u28 u29 u30 u31 u32 u33 u34 u35 u36 u37 u38 u39 u40 u41 u42 u43 u44 u45 u46 u47 u48 u49 u50 u51 u52 u53 u54 u55 u56 u57 u58 u59 u60 u61 u62 u63 u64 u65 u66 u67 u68 u69 u70 u71 : Value, a' = { tmps := #[.pointer (some ⟨hb, 0, none⟩), .int .i64 k, u2, u3, u4, u5, u6, u7, u8, u9, u10, u11, u12, u13, u14, u15, u16, u17, u18, u19, u20, u21, u22, u23, u24, u25, u26, u27, u28, u29, u30, u31, u32, u33, u34, u35, u36, u37, u38, u39, u40, u41, u42, u43, u44, u45, u46, u47, u48, u49, u50, u51, u52, u53, u54, u55, u56, u57, u58, u59, u60, u61, u62, u63, u64, u65, u66, u67, u68, u69, u70, u71], defers := [] })
      (fun a' _ => d0.length - (intOf (a'.tmps.getD 1 undef)).toNat) ?_ ?_
    · exact ⟨0, d0, rfl, List.Perm.refl _, hu, by omega, h0, grown_refl _ _, _, _, _, _, _, _, _, _, _, _, _, _, _, _, _, _, _, _, _, _, _, _, _, _, _, _, _, _, _, _, _, _, _, _, _, _, _, _, _, _, _, _, _, _, _, _, _, _, _, _, _, _, _, _, _, _, _, _, _, _, _, _, _, _, _, _, _, _, _, _, rfl⟩
    · rintro a' wo ⟨k, d, hd, hp, hi, hk, hA0, hg0, ⟨u2, u3, u4, u5, u6, u7, u8, u9, u10, u11, u12, u13, u14, u15, u16, u17, u18, u19, u20, u21, u22, u23, u24, u25, u26, u27, u28, u29, u30, u31, u32, u33, u34, u35, u36, u37, u38, u39, u40, u41, u42, u43, u44, u45, u46, u47, u48, u49, u50, u51, u52, u53, u54, u55, u56, u57, u58, u59, u60, u61, u62, u63, u64, u65, u66, u67, u68, u69, u70, u71, rfl⟩⟩
      have hdc : d.length ≤ cap := by omega
      have hdm : d.length ≤ 1000000 := by omega
      have hdh := Lib.hid hd
      clear hd
      go_wp2
      go_loopw [4, 5] (fun f b wr => ∃ (c q : Nat), q ≤ 2 ∧ c ≤ 2 * k + q ∧ b = .int .i64 (2 * (k : Int) + 1 + (q : Int)) ∧ f = .int .i64 c ∧ Hid (c = pkB d k q) ∧ HeapAt wr hb g cap d ∧ w.grownBy wr (some g)) (fun _ b _ => (2 * (k : Int) + 4 - intOf b).toNat)
      case atStart => exact ⟨k, 0, by omega, by omega, by go_num, rfl, rfl, hA0, hg0⟩
      case round =>
        obtain ⟨c, q, hq, hcq, rfl, rfl, HC, hA, hg⟩ := hrel
        clear hA0 hg0
        have cb : wr.cell? ⟨hb, 0, none⟩ = some (.slice (some ⟨g, 0, none⟩) d.length cap) := hA.head.cell 0
        have fb := hA.head.free 0
        have hne := hA.ne_
        by_cases hrun : q < 2 ∧ 2 * k + 1 + q < d.length
        · obtain ⟨hq2, hbl⟩ := hrun
          have hcl : c < d.length := by omega
          have cb0 := hA.fst hbl
          have cb1 := hA.snd hbl
          have cc0 := hA.fst hcl
          have cc1 := hA.snd hcl
          obtain ⟨m, hm⟩ : ∃ m : Nat, 2 * k + 1 + q = m := ⟨_, rfl⟩
          have hmi : 2 * (k : Int) + 1 + (q : Int) = (m : Int) := by omega
          rw [hm] at cb0 cb1 hbl
          rw [hmi]
          have HM := Lib.hid hm
          have hm2 : (m : Int) ≤ 2 * (k : Int) + 2 := by omega
          have hml : (m : Int) < (d.length : Int) := by omega
          clear hm hmi
          go_wp2
          have q_cb := fun d os => cell_regrown cb d os
          have q_cb0 := fun d os => cell_regrown cb0 d os
          have q_cb1 := fun d os => cell_regrown cb1 d os
          have q_cc0 := fun d os => cell_regrown cc0 d os
          have q_cc1 := fun d os => cell_regrown cc1 d os
          cases ha : ahd (gt d m) (gt d c)
          · have HA := Lib.hid ha
            clear ha
            try simp only [List.append]
            first | refine wp_region_text_below ?_ | refine wp_region_quiet_below (by kernel_rfl) (by kernel_rfl) ?_
            repeat (go_big_quiet_step ((go_at_call 21; with_reducible exact Calls.regrown_of (HA.out ▸ ahead_any (gt d m) (gt d c) _))))
            refine wpQuiet_nil ?_
            intro _ hqw
            obtain ⟨pq, hqw⟩ := hqw
            subst hqw
            clear q_cb q_cb0 q_cb1 q_cc0 q_cc1
            have hbel := below_regrown wr pq.d pq.os
            generalize hwq : grow (redrawn wr pq.d) pq.os = wq at *
            have hA2 := hA.grown (grown_of_below (row := none) hbel) (by simp) (by simp)
            have hg2 := grown_trans hg (grown_of_below (row := some g) hbel)
            clear hwq hbel hA hg cb cb0 cb1 cc0 cc1 fb
            go_wp2
            go_roundw
            case rel => exact ⟨c, q + 1, by omega, by omega, by have := HM.out; go_num, rfl, by have h := pkB_step hq2 (d := d) (i := k) (by have := HM.out; omega); rw [← HC.out, HM.out, HA.out] at h; exact h.symm, hA2, hg2⟩
            case measure => simp [intOf]; omega
          · have HA := Lib.hid ha
            clear ha
            try simp only [List.append]
            first | refine wp_region_text_below ?_ | refine wp_region_quiet_below (by kernel_rfl) (by kernel_rfl) ?_
            repeat (go_big_quiet_step ((go_at_call 21; with_reducible exact Calls.regrown_of (HA.out ▸ ahead_any (gt d m) (gt d c) _))))
            refine wpQuiet_nil ?_
            intro _ hqw
            obtain ⟨pq, hqw⟩ := hqw
            subst hqw
            clear q_cb q_cb0 q_cb1 q_cc0 q_cc1
            have hbel := below_regrown wr pq.d pq.os
            generalize hwq : grow (redrawn wr pq.d) pq.os = wq at *
            have hA2 := hA.grown (grown_of_below (row := none) hbel) (by simp) (by simp)
            have hg2 := grown_trans hg (grown_of_below (row := some g) hbel)
            clear hwq hbel hA hg cb cb0 cb1 cc0 cc1 fb
            go_wp2
            go_roundw
            case rel => exact ⟨m, q + 1, by omega, by have := HM.out; omega, by have := HM.out; go_num, rfl, by have h := pkB_step hq2 (d := d) (i := k) (by have := HM.out; omega); rw [← HC.out, HM.out, HA.out] at h; exact h.symm, hA2, hg2⟩
            case measure => simp [intOf]; omega
        · have hend : pick d k = c := by rw [HC.out]; exact pkB_end hq (by omega)
          have HE := Lib.hid hend
          clear hend
          have hcase : (q < 2 ∧ d.length ≤ 2 * k + 1 + q) ∨ q = 2 := by omega
          clear hrun
          rcases hcase with ⟨hq2, hlen⟩ | rfl
          all_goals
            by_cases hkc : c = k
            · subst hkc
              have hkk : ((c : Int) != (c : Int)) = false := by simp
              go_wp2
              simp only [Exit.jump]
              go_end0
              exact ⟨rfl, d, hdh.out, hp, down_end hi HE.out, hA, hg⟩
            · have hkk : ((c : Int) != (k : Int)) = true := by rw [bne_iff_ne]; omega
              have hkl : k < d.length := by
                have := pick_cases d k; rw [HE.out] at this; omega
              obtain ⟨n1, n2, n3, n4⟩ := down_step hi hkl (by rw [HE.out]; exact hkc)
              rw [HE.out] at n1 n2 n3 n4
              have N1 := Lib.hid n1
              clear n1 n4
              go_wp2
              have cb : wr.cell? ⟨hb, 0, none⟩ = some (.slice (some ⟨g, 0, none⟩) d.length cap) := hA.head.cell 0
              have ck0 := hA.fst hkl
              have ck1 := hA.snd hkl
              have cp0 := hA.fst n3
              have cp1 := hA.snd n3
              have fk0 := hA.row.frozenAt (k * 2)
              have fk1 := hA.row.frozenAt (k * 2 + 1)
              have fp0 := hA.row.frozenAt (c * 2)
              have fp1 := hA.row.frozenAt (c * 2 + 1)
              go_region
              go_wp2
              have hS := hA.swap hkl n3
              go_step3
              refine ⟨rfl, ⟨c, swp d k c, by rw [swp_length]; exact hdh.out, (swp_perm d k c hkl n3).trans hp, N1.out, by rw [swp_length]; omega, hS.1.drew, grown_trans hg (grown_drew hS.2), _, _, _, _, _, _, _, _, _, _, _, _, _, _, _, _, _, _, _, _, _, _, _, _, _, _, _, _, _, _, _, _, _, _, _, _, _, _, _, _, _, _, _, _, _, _, _, _, _, _, _, _, _, _, _, _, _, _, _, _, _, _, _, _, _, _, _, _, _, _, rfl⟩, ?_⟩
              have := hdh.out
              simp [intOf]
              omega
end Go.Proofs.Ytpmibpclkfidkaa
