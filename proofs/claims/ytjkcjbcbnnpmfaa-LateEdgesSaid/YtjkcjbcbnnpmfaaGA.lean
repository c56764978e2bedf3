/- Several texts of mine in one: Heap, Goto, HeapR, HeapS. No condition. -/
import Derived.Test.YtjkcjbcbnnpmfaaChecked
import Derived.Test.YtjkcjbcbnnpmfaaLib
import Derived.Test.YtjkcjbcbnnpmfaaGL
import Derived.Test.YtjkcjbcbnnpmfaaGI

/- Package heap: contracts of ahead, rise. -/
namespace Go.Proofs.Ytjkcjbcbnnpmfaa
open Go.ChangeShapes Go.WideShapes Go.ChangeAt Go.RowKit Go.Sort Hp
set_option linter.unusedSimpArgs false
set_option linter.unusedVariables false

theorem ahead_any (a b : Int × Int) (w : World) :
    Calls Try.prog 88 #[.agg #[.int .i64 a.1, .int .i64 a.2], .agg #[.int .i64 b.1, .int .i64 b.2]] w fun e w' => e = .returned (.bool (ahd a b)) ∧ Below w.heap.size w w' := by
  obtain ⟨an, aa⟩ := a
  obtain ⟨bn, ba⟩ := b
  by_cases h1 : aa < ba
  · go_enter Try.func88, Try.ntmps88
    go_wp2
    all_goals go_ret
    all_goals exact ⟨by simp [ahd, h1], by (repeat (first | exact Below.refl _ _ | refine Below.alloc ?_ (by first | omega | (simp; done) | (simp; omega)) _ | refine Below.setCell ?_ (by first | omega | (simp; done) | (simp; omega)) _ | refine Below.drew ?_))⟩
  · by_cases h2 : aa = ba
    · subst h2
      by_cases h3 : an < bn
      all_goals
        go_enter Try.func88, Try.ntmps88
        go_wp2
        all_goals go_ret
        all_goals exact ⟨by simp [ahd, h3], by (repeat (first | exact Below.refl _ _ | refine Below.alloc ?_ (by first | omega | (simp; done) | (simp; omega)) _ | refine Below.setCell ?_ (by first | omega | (simp; done) | (simp; omega)) _ | refine Below.drew ?_))⟩
    · have h2' : (aa == ba) = false := by simpa using h2
      go_enter Try.func88, Try.ntmps88
      go_wp2
      all_goals go_ret
      all_goals exact ⟨by simp [ahd, h1, h2], by (repeat (first | exact Below.refl _ _ | refine Below.alloc ?_ (by first | omega | (simp; done) | (simp; omega)) _ | refine Below.setCell ?_ (by first | omega | (simp; done) | (simp; omega)) _ | refine Below.drew ?_))⟩
end Go.Proofs.Ytjkcjbcbnnpmfaa

/- A scope whose body begins with its one label: what holds at the label, each time. No condition. -/
namespace Go.Proofs.Ytjkcjbcbnnpmfaa
open Go.ChangeShapes Go.WideShapes Go.ChangeAt Go.RowKit Go.Sort
set_option linter.unusedSimpArgs false
set_option linter.unusedVariables false

theorem wp_scope_label {P : Program} {Q : Exit → Act → World → Prop} {a : Act} {w : World} {l : Nat} {rest : Code} (J : Act → World → Prop) (μ : Act → World → Nat) (h0 : J a w)
    (pass : ∀ a w, J a w → rest.wp P (Exit.jump l (fun a' w' => J a' w' ∧ μ a' w' < μ a w) Q) a w) : (Code.scope (.seq (.label l) rest)).wp P Q a w := by
  refine wp_scope_jumps (rest := .seq .skip rest) l J μ (by simp [findLabel]) ?_ (fun a w hJ => wp_seq (wp_skip (pass a w hJ)))
  refine wp_seq (wp_label (wp_mono (pass a w h0) ?_))
  intro e a' w' h
  cases e <;> first | exact h | exact ⟨h.1, h.2.1⟩
end Go.Proofs.Ytjkcjbcbnnpmfaa

/- Package heap: rise. -/
namespace Go.Proofs.Ytjkcjbcbnnpmfaa
open Go.ChangeShapes Go.WideShapes Go.ChangeAt Go.RowKit Go.Sort Hp
set_option linter.unusedSimpArgs false
set_option linter.unusedVariables false
/-- The heap at hb, whose row lies in block g. -/
structure HeapAt (w : World) (hb g cap : Nat) (d : List (Int × Int)) : Prop where
  head : Blok w hb 112 #[.slice (some ⟨g, 0, none⟩) d.length cap]
  row : w.ownsRow 0 36 2 (.slice (some ⟨g, 0, none⟩) d.length cap) d.length (flat2 d)
theorem HeapAt.fst {w : World} {hb g cap : Nat} {d : List (Int × Int)} (h : HeapAt w hb g cap d) {k : Nat} (hk : k < d.length) : w.cell? ⟨g, k * 2, none⟩ = some (.int .i64 (gt d k).1) := by
  rw [h.row.cellAt (k * 2) (by omega), flat2_fst d k hk]; rfl
theorem HeapAt.snd {w : World} {hb g cap : Nat} {d : List (Int × Int)} (h : HeapAt w hb g cap d) {k : Nat} (hk : k < d.length) : w.cell? ⟨g, k * 2 + 1, none⟩ = some (.int .i64 (gt d k).2) := by
  rw [h.row.cellAt (k * 2 + 1) (by omega), flat2_snd d k hk]; rfl

theorem HeapAt.grown {w w' : World} {hb g cap : Nat} {row : Option Nat} {d : List (Int × Int)} (h : HeapAt w hb g cap d) (hg : w.grownBy w' row) (h1 : row ≠ some hb) (h2 : row ≠ some g) : HeapAt w' hb g cap d :=
  ⟨h.head.grown hg (fun e => h1 e.symm), h.row.kept hg (.inr (by simp only [Value.ownBlock]; exact fun e => h2 e.symm))⟩
theorem HeapAt.ne_ {w : World} {hb g cap : Nat} {d : List (Int × Int)} (h : HeapAt w hb g cap d) : hb ≠ g := by
  have := Blok.ne_own h.row h.head (by decide)
  simp only [Value.ownBlock] at this
  exact fun e => this (by rw [e])

theorem HeapAt.drew {w : World} {hb g cap : Nat} {d : List (Int × Int)} (h : HeapAt w hb g cap d) : HeapAt w.drew hb g cap d :=
  h.grown (row := none) (grown_drew (grown_refl _ _)) (by simp) (by simp)
theorem HeapAt.store {w : World} {hb g cap : Nat} {d : List (Int × Int)} (h : HeapAt w hb g cap d) (k : Nat) (x : Int × Int) :
    HeapAt ((w.setCell ⟨g, k * 2, none⟩ (.int .i64 x.1)).setCell ⟨g, k * 2 + 1, none⟩ (.int .i64 x.2)) hb g cap (d.set k x) ∧ w.grownBy ((w.setCell ⟨g, k * 2, none⟩ (.int .i64 x.1)).setCell ⟨g, k * 2 + 1, none⟩ (.int .i64 x.2)) (some g) := by
  obtain ⟨r1, g1⟩ := h.row.stored (k * 2) (.int .i64 x.1)
  obtain ⟨r2, g2⟩ := r1.stored (k * 2 + 1) (.int .i64 x.2)
  have hg := grown_trans g1 g2
  refine ⟨⟨?_, ?_⟩, hg⟩
  · rw [List.length_set]
    exact h.head.grown hg (fun e => h.ne_ (by simpa using e))
  · rw [List.length_set, ← flat2_set]
    exact r2
theorem HeapAt.swap {w : World} {hb g cap : Nat} {d : List (Int × Int)} (h : HeapAt w hb g cap d) {k p : Nat} (hk : k < d.length) (hp : p < d.length) :
    HeapAt ((((w.setCell ⟨g, k * 2, none⟩ (.int .i64 (gt d p).1)).setCell ⟨g, k * 2 + 1, none⟩ (.int .i64 (gt d p).2)).setCell ⟨g, p * 2, none⟩ (.int .i64 (gt d k).1)).setCell ⟨g, p * 2 + 1, none⟩ (.int .i64 (gt d k).2)) hb g cap (swp d k p) ∧
      w.grownBy ((((w.setCell ⟨g, k * 2, none⟩ (.int .i64 (gt d p).1)).setCell ⟨g, k * 2 + 1, none⟩ (.int .i64 (gt d p).2)).setCell ⟨g, p * 2, none⟩ (.int .i64 (gt d k).1)).setCell ⟨g, p * 2 + 1, none⟩ (.int .i64 (gt d k).2)) (some g) := by
  obtain ⟨h1, g1⟩ := h.store k (gt d p)
  obtain ⟨h2, g2⟩ := h1.store p (gt d k)
  exact ⟨h2, grown_trans g1 g2⟩

set_option maxHeartbeats 2000000 in
set_option maxRecDepth 100000 in
theorem rise_any (hb g cap i : Nat) (d0 : List (Int × Int)) (w : World) (hcap : d0.length ≤ cap) (hsz : d0.length ≤ 1000000) (h0 : HeapAt w hb g cap d0) (hu : upInv d0 i) :
    Calls Try.prog 80 #[.pointer (some ⟨hb, 0, none⟩), .int .i64 i] w fun e w' => e = .returned (.tuple #[]) ∧ ∃ d', d'.length = d0.length ∧ d'.Perm d0 ∧ isHeap d' ∧ HeapAt w' hb g cap d' ∧ w.grownBy w' (some g) := by
    go_enter Try.func80, Try.ntmps80
    go_wp2
    refine wp_scope_label (fun a' w' => ∃ (k : Nat) (d : List (Int × Int)), d.length = d0.length ∧ d.Perm d0 ∧ upInv d k ∧ HeapAt w' hb g cap d ∧ w.grownBy w' (some g) ∧ ∃ u2 u3 u4 u5 u6 u7 u8 u9 u10 u11 u12 u13 u14 u15 u16 u17 u18 u19 u20 u21 u22 u23 u24 u25 u26 u27 u28 u29 u30 u31 u32 u33 u34 u35 u36 u37 u38 u39 u40 u41 u42 u43 u44 u45 u46 u47 u48 u49 u50 u51 u52 u53 : Value, a' = { tmps := #[.pointer (some ⟨hb, 0, none⟩), .int .i64 k, u2, u3, u4, u5, u6, u7, u8, u9, u10, u11, u12, u13, u14, u15, u16, u17, u18, u19, u20, u21, u22, u23, u24, u25, u26, u27, u28, u29, u30, u31, u32, u33, u34, u35, u36, u37, u38, u39, u40, u41, u42, u43, u44, u45, u46, u47, u48, u49, u50, u51, u52, u53], defers := [] })
      (fun a' _ => (intOf (a'.tmps.getD 1 undef)).toNat) ?_ ?_
    · exact ⟨i, d0, rfl, List.Perm.refl _, hu, h0, grown_refl _ _, _, _, _, _, _, _, _, _, _, _, _, _, _, _, _, _, _, _, _, _, _, _, _, _, _, _, _, _, _, _, _, _, _, _, _, _, _, _, _, _, _, _, _, _, _, _, _, _, _, _, _, _, rfl⟩
    · rintro a' wr ⟨k, d, hd, hp, hi, hA, hg, ⟨u2, u3, u4, u5, u6, u7, u8, u9, u10, u11, u12, u13, u14, u15, u16, u17, u18, u19, u20, u21, u22, u23, u24, u25, u26, u27, u28, u29, u30, u31, u32, u33, u34, u35, u36, u37, u38, u39, u40, u41, u42, u43, u44, u45, u46, u47, u48, u49, u50, u51, u52, u53, rfl⟩⟩
      have cb : wr.cell? ⟨hb, 0, none⟩ = some (.slice (some ⟨g, 0, none⟩) d.length cap) := hA.head.cell 0
      have hk := hi.lt
      have hne := hA.ne_
      by_cases k0 : 0 < k
      · obtain ⟨p, hpe⟩ : ∃ p : Nat, (k - 1) / 2 = p := ⟨_, rfl⟩
        have hpi : ((k : Int) - 1) / 2 = (p : Int) := by omega
        have HPI := Lib.hid hpi
        have HPE := Lib.hid hpe
        have hpk : p < d.length := by omega
        have hdc : d.length ≤ cap := by omega
        have hdm : d.length ≤ 1000000 := by omega
        have hkp : p < k := by omega
        have ck0 := hA.fst hk
        have ck1 := hA.snd hk
        have cp0 := hA.fst hpk
        have cp1 := hA.snd hpk
        have hdh := Lib.hid hd
        clear hpi hpe hd
        go_wp2
        rw [HPI.out]
        go_wp2_with fail
        have q_cb := fun d os => cell_regrown cb d os
        have q_ck0 := fun d os => cell_regrown ck0 d os
        have q_ck1 := fun d os => cell_regrown ck1 d os
        have q_cp0 := fun d os => cell_regrown cp0 d os
        have q_cp1 := fun d os => cell_regrown cp1 d os
        cases ha : ahd (gt d k) (gt d p)
        · have HA := Lib.hid ha
          clear ha
          try simp only [List.append]
          first | refine wp_region_text_below ?_ | refine wp_region_quiet_below (by kernel_rfl) (by kernel_rfl) ?_
          repeat (go_big_quiet_step ((go_at_call 88; with_reducible exact Calls.regrown_of (HA.out ▸ ahead_any (gt d k) (gt d p) _))))
          refine wpQuiet_nil ?_
          intro _ hqw
          obtain ⟨pq, hqw⟩ := hqw
          subst hqw
          clear q_cb q_ck0 q_ck1 q_cp0 q_cp1
          have hbel := below_regrown wr pq.d pq.os
          generalize hwq : grow (redrawn wr pq.d) pq.os = wq at *
          have hA2 := hA.grown (grown_of_below (row := none) hbel) (by simp) (by simp)
          have hg2 := grown_trans hg (grown_of_below (row := some g) hbel)
          clear hwq cb ck0 ck1 cp0 cp1 hbel
          go_wp2
          simp only [Exit.jump]
          go_end0
          exact ⟨rfl, d, hdh.out, hp, up_end hi (.inr (by rw [HPE.out]; exact HA.out)), hA2, hg2⟩
        · have HA := Lib.hid ha
          clear ha
          try simp only [List.append]
          first | refine wp_region_text_below ?_ | refine wp_region_quiet_below (by kernel_rfl) (by kernel_rfl) ?_
          repeat (go_big_quiet_step ((go_at_call 88; with_reducible exact Calls.regrown_of (HA.out ▸ ahead_any (gt d k) (gt d p) _))))
          refine wpQuiet_nil ?_
          intro _ hqw
          obtain ⟨pq, hqw⟩ := hqw
          subst hqw
          clear q_cb q_ck0 q_ck1 q_cp0 q_cp1
          have hbel := below_regrown wr pq.d pq.os
          generalize hwq : grow (redrawn wr pq.d) pq.os = wq at *
          have hA2 := hA.grown (grown_of_below (row := none) hbel) (by simp) (by simp)
          have hg2 := grown_trans hg (grown_of_below (row := some g) hbel)
          clear hwq cb ck0 ck1 cp0 cp1 hbel
          have cb : wq.cell? ⟨hb, 0, none⟩ = some (.slice (some ⟨g, 0, none⟩) d.length cap) := hA2.head.cell 0
          have ck0 := hA2.fst hk
          have ck1 := hA2.snd hk
          have cp0 := hA2.fst hpk
          have cp1 := hA2.snd hpk
          have fk0 := hA2.row.frozenAt (k * 2)
          have fk1 := hA2.row.frozenAt (k * 2 + 1)
          have fp0 := hA2.row.frozenAt (p * 2)
          have fp1 := hA2.row.frozenAt (p * 2 + 1)
          go_wp2_with fail
          go_region
          go_wp2
          have hS := hA2.swap hk hpk
          go_step3
          refine ⟨rfl, ⟨p, swp d k p, by rw [swp_length]; exact hdh.out, (swp_perm d k p hk hpk).trans hp, by have := up_step hi k0 (by rw [HPE.out]; exact HA.out); rw [HPE.out] at this; exact this, hS.1.drew, grown_trans hg2 (grown_drew hS.2), _, _, _, _, _, _, _, _, _, _, _, _, _, _, _, _, _, _, _, _, _, _, _, _, _, _, _, _, _, _, _, _, _, _, _, _, _, _, _, _, _, _, _, _, _, _, _, _, _, _, _, _, rfl⟩, ?_⟩
          simp [intOf]
          omega
      · obtain rfl : k = 0 := by omega
        go_wp2
        go_wp2_with fail
        try simp only [List.append]
        first | refine wp_region_text_below ?_ | refine wp_region_quiet_below (by kernel_rfl) (by kernel_rfl) ?_
        repeat (go_big_quiet_step ((fail)))
        refine wpQuiet_nil ?_
        intro _ hqw
        obtain ⟨pq, hqw⟩ := hqw
        subst hqw
        have hbel := below_regrown wr pq.d pq.os
        generalize hwq : grow (redrawn wr pq.d) pq.os = wq at *
        have hA2 := hA.grown (grown_of_below (row := none) hbel) (by simp) (by simp)
        have hg2 := grown_trans hg (grown_of_below (row := some g) hbel)
        clear hwq cb hbel
        go_wp2
        simp only [Exit.jump]
        go_end0
        exact ⟨rfl, d, hd, hp, up_end hi (.inl rfl), hA2, hg2⟩
end Go.Proofs.Ytjkcjbcbnnpmfaa

/- Package heap: sink. -/
namespace Go.Proofs.Ytjkcjbcbnnpmfaa
open Go.ChangeShapes Go.WideShapes Go.ChangeAt Go.RowKit Go.Sort Hp
set_option linter.unusedSimpArgs false
set_option linter.unusedVariables false
namespace Hp
def pk1 (d : List Rd) (i : Nat) : Nat := if 2 * i + 1 < d.length ∧ ahd (gt d (2 * i + 1)) (gt d i) = true then 2 * i + 1 else i
theorem pick_eq (d : List Rd) (i : Nat) : pick d i = if 2 * i + 2 < d.length ∧ ahd (gt d (2 * i + 2)) (gt d (pk1 d i)) = true then 2 * i + 2 else pk1 d i := rfl
def pkB (d : List Rd) (i b : Nat) : Nat := if b = 0 then i else if b = 1 then pk1 d i else pick d i
theorem pkB_step {d : List Rd} {i b : Nat} (hb : b < 2) (hn : 2 * i + 1 + b < d.length) : pkB d i (b + 1) = if ahd (gt d (2 * i + 1 + b)) (gt d (pkB d i b)) = true then 2 * i + 1 + b else pkB d i b := by
  have h : b = 0 ∨ b = 1 := by omega
  rcases h with rfl | rfl
  · show pk1 d i = _
    unfold pk1
    simp only [show pkB d i 0 = i from rfl, Nat.add_zero] at *
    simp [hn]
  · show pick d i = _
    rw [pick_eq]
    simp only [show pkB d i 1 = pk1 d i from rfl, show 2 * i + 1 + 1 = 2 * i + 2 from rfl] at *
    simp [hn]
theorem pkB_end {d : List Rd} {i b : Nat} (hb : b ≤ 2) (h : ¬ b < 2 ∨ d.length ≤ 2 * i + 1 + b) : pick d i = pkB d i b := by
  have hc : b = 0 ∨ b = 1 ∨ b = 2 := by omega
  rw [pick_eq]
  rcases hc with rfl | rfl | rfl
  · simp only [show pkB d i 0 = i from rfl]
    unfold pk1
    rw [if_neg (fun h' => by omega), if_neg (fun h' => by omega)]
  · simp only [show pkB d i 1 = pk1 d i from rfl]
    rw [if_neg (fun h' => by omega)]
  · rfl
end Hp
set_option maxHeartbeats 4000000 in
set_option maxRecDepth 100000 in
theorem sink_any (hb g cap : Nat) (d0 : List (Int × Int)) (w : World) (hcap : d0.length ≤ cap) (hsz : d0.length ≤ 1000000) (h0 : HeapAt w hb g cap d0) (hu : downInv d0 0) :
    Calls Try.prog 79 #[.pointer (some ⟨hb, 0, none⟩), .int .i64 0] w fun e w' => e = .returned (.tuple #[]) ∧ ∃ d', d'.length = d0.length ∧ d'.Perm d0 ∧ isHeap d' ∧ HeapAt w' hb g cap d' ∧ w.grownBy w' (some g) := by
    go_enter Try.func79, Try.ntmps79
    go_wp2
    refine wp_scope_label (fun a' w' => ∃ (k : Nat) (d : List (Int × Int)), d.length = d0.length ∧ d.Perm d0 ∧ downInv d k ∧ k ≤ d.length ∧ HeapAt w' hb g cap d ∧ w.grownBy w' (some g) ∧ ∃ u2 u3 u4 u5 u6 u7 u8 u9 u10 u11 u12 u13 u14 u15 u16 u17 u18 u19 u20 u21 u22 u23 u24 u25 u26 u27 u28 u29 u30 u31 u32 u33 u34 u35 u36 u37 u38 u39 u40 u41 u42 u43 u44 u45 u46 u47 u48 u49 u50 u51 u52 u53 u54 u55 u56 u57 u58 u59 u60 u61 u62 u63 u64 u65 u66 u67 u68 u69 u70 u71 : Value, a' = { tmps := #[.pointer (some ⟨hb, 0, none⟩), .int .i64 k, u2, u3, u4, u5, u6, u7, u8, u9, u10, u11, u12, u13, u14, u15, u16, u17, u18, u19, u20, u21, u22, u23, u24, u25, u26, u27, u28, u29, u30, u31, u32, u33, u34, u35, u36, u37, u38, u39, u40, u41, u42, u43, u44, u45, u46, u47, u48, u49, u50, u51, u52, u53, u54, u55, u56, u57, u58, u59, u60, u61, u62, u63, u64, u65, u66, u67, u68, u69, u70, u71], defers := [] })
      (fun a' _ => d0.length - (intOf (a'.tmps.getD 1 undef)).toNat) ?_ ?_
    · exact ⟨0, d0, rfl, List.Perm.refl _, hu, by omega, h0, grown_refl _ _, _, _, _, _, _, _, _, _, _, _, _, _, _, _, _, _, _, _, _, _, _, _, _, _, _, _, _, _, _, _, _, _, _, _, _, _, _, _, _, _, _, _, _, _, _, _, _, _, _, _, _, _, _, _, _, _, _, _, _, _, _, _, _, _, _, _, _, _, _, _, rfl⟩
    · rintro a' wo ⟨k, d, hd, hp, hi, hk, hA0, hg0, ⟨u2, u3, u4, u5, u6, u7, u8, u9, u10, u11, u12, u13, u14, u15, u16, u17, u18, u19, u20, u21, u22, u23, u24, u25, u26, u27, u28, u29, u30, u31, u32, u33, u34, u35, u36, u37, u38, u39, u40, u41, u42, u43, u44, u45, u46, u47, u48, u49, u50, u51, u52, u53, u54, u55, u56, u57, u58, u59, u60, u61, u62, u63, u64, u65, u66, u67, u68, u69, u70, u71, rfl⟩⟩
      have hdc : d.length ≤ cap := by omega
      have hdm : d.length ≤ 1000000 := by omega
      have hdh := Lib.hid hd
      clear hd
      go_wp2
      go_loopw [4, 5] (fun f b wr => ∃ (c q : Nat), q ≤ 2 ∧ c ≤ 2 * k + q ∧ b = .int .i64 (2 * (k : Int) + 1 + (q : Int)) ∧ f = .int .i64 c ∧ Hid (c = pkB d k q) ∧ HeapAt wr hb g cap d ∧ w.grownBy wr (some g)) (fun _ b _ => (2 * (k : Int) + 4 - intOf b).toNat)
      case atStart => exact ⟨k, 0, by omega, by omega, by go_num, rfl, rfl, hA0, hg0⟩
      case round =>
        obtain ⟨c, q, hq, hcq, rfl, rfl, HC, hA, hg⟩ := hrel
        clear hA0 hg0
        have cb : wr.cell? ⟨hb, 0, none⟩ = some (.slice (some ⟨g, 0, none⟩) d.length cap) := hA.head.cell 0
        have fb := hA.head.free 0
        have hne := hA.ne_
        by_cases hrun : q < 2 ∧ 2 * k + 1 + q < d.length
        · obtain ⟨hq2, hbl⟩ := hrun
          have hcl : c < d.length := by omega
          have cb0 := hA.fst hbl
          have cb1 := hA.snd hbl
          have cc0 := hA.fst hcl
          have cc1 := hA.snd hcl
          obtain ⟨m, hm⟩ : ∃ m : Nat, 2 * k + 1 + q = m := ⟨_, rfl⟩
          have hmi : 2 * (k : Int) + 1 + (q : Int) = (m : Int) := by omega
          rw [hm] at cb0 cb1 hbl
          rw [hmi]
          have HM := Lib.hid hm
          have hm2 : (m : Int) ≤ 2 * (k : Int) + 2 := by omega
          have hml : (m : Int) < (d.length : Int) := by omega
          clear hm hmi
          go_wp2
          have q_cb := fun d os => cell_regrown cb d os
          have q_cb0 := fun d os => cell_regrown cb0 d os
          have q_cb1 := fun d os => cell_regrown cb1 d os
          have q_cc0 := fun d os => cell_regrown cc0 d os
          have q_cc1 := fun d os => cell_regrown cc1 d os
          cases ha : ahd (gt d m) (gt d c)
          · have HA := Lib.hid ha
            clear ha
            try simp only [List.append]
            first | refine wp_region_text_below ?_ | refine wp_region_quiet_below (by kernel_rfl) (by kernel_rfl) ?_
            repeat (go_big_quiet_step ((go_at_call 88; with_reducible exact Calls.regrown_of (HA.out ▸ ahead_any (gt d m) (gt d c) _))))
            refine wpQuiet_nil ?_
            intro _ hqw
            obtain ⟨pq, hqw⟩ := hqw
            subst hqw
            clear q_cb q_cb0 q_cb1 q_cc0 q_cc1
            have hbel := below_regrown wr pq.d pq.os
            generalize hwq : grow (redrawn wr pq.d) pq.os = wq at *
            have hA2 := hA.grown (grown_of_below (row := none) hbel) (by simp) (by simp)
            have hg2 := grown_trans hg (grown_of_below (row := some g) hbel)
            clear hwq hbel hA hg cb cb0 cb1 cc0 cc1 fb
            go_wp2
            go_roundw
            case rel => exact ⟨c, q + 1, by omega, by omega, by have := HM.out; go_num, rfl, by have h := pkB_step hq2 (d := d) (i := k) (by have := HM.out; omega); rw [← HC.out, HM.out, HA.out] at h; exact h.symm, hA2, hg2⟩
            case measure => simp [intOf]; omega
          · have HA := Lib.hid ha
            clear ha
            try simp only [List.append]
            first | refine wp_region_text_below ?_ | refine wp_region_quiet_below (by kernel_rfl) (by kernel_rfl) ?_
            repeat (go_big_quiet_step ((go_at_call 88; with_reducible exact Calls.regrown_of (HA.out ▸ ahead_any (gt d m) (gt d c) _))))
            refine wpQuiet_nil ?_
            intro _ hqw
            obtain ⟨pq, hqw⟩ := hqw
            subst hqw
            clear q_cb q_cb0 q_cb1 q_cc0 q_cc1
            have hbel := below_regrown wr pq.d pq.os
            generalize hwq : grow (redrawn wr pq.d) pq.os = wq at *
            have hA2 := hA.grown (grown_of_below (row := none) hbel) (by simp) (by simp)
            have hg2 := grown_trans hg (grown_of_below (row := some g) hbel)
            clear hwq hbel hA hg cb cb0 cb1 cc0 cc1 fb
            go_wp2
            go_roundw
            case rel => exact ⟨m, q + 1, by omega, by have := HM.out; omega, by have := HM.out; go_num, rfl, by have h := pkB_step hq2 (d := d) (i := k) (by have := HM.out; omega); rw [← HC.out, HM.out, HA.out] at h; exact h.symm, hA2, hg2⟩
            case measure => simp [intOf]; omega
        · have hend : pick d k = c := by rw [HC.out]; exact pkB_end hq (by omega)
          have HE := Lib.hid hend
          clear hend
          have hcase : (q < 2 ∧ d.length ≤ 2 * k + 1 + q) ∨ q = 2 := by omega
          clear hrun
          rcases hcase with ⟨hq2, hlen⟩ | rfl
          all_goals
            by_cases hkc : c = k
            · subst hkc
              have hkk : ((c : Int) != (c : Int)) = false := by simp
              go_wp2
              simp only [Exit.jump]
              go_end0
              exact ⟨rfl, d, hdh.out, hp, down_end hi HE.out, hA, hg⟩
            · have hkk : ((c : Int) != (k : Int)) = true := by rw [bne_iff_ne]; omega
              have hkl : k < d.length := by
                have := pick_cases d k; rw [HE.out] at this; omega
              obtain ⟨n1, n2, n3, n4⟩ := down_step hi hkl (by rw [HE.out]; exact hkc)
              rw [HE.out] at n1 n2 n3 n4
              have N1 := Lib.hid n1
              clear n1 n4
              go_wp2
              have cb : wr.cell? ⟨hb, 0, none⟩ = some (.slice (some ⟨g, 0, none⟩) d.length cap) := hA.head.cell 0
              have ck0 := hA.fst hkl
              have ck1 := hA.snd hkl
              have cp0 := hA.fst n3
              have cp1 := hA.snd n3
              have fk0 := hA.row.frozenAt (k * 2)
              have fk1 := hA.row.frozenAt (k * 2 + 1)
              have fp0 := hA.row.frozenAt (c * 2)
              have fp1 := hA.row.frozenAt (c * 2 + 1)
              go_region
              go_wp2
              have hS := hA.swap hkl n3
              go_step3
              refine ⟨rfl, ⟨c, swp d k c, by rw [swp_length]; exact hdh.out, (swp_perm d k c hkl n3).trans hp, N1.out, by rw [swp_length]; omega, hS.1.drew, grown_trans hg (grown_drew hS.2), _, _, _, _, _, _, _, _, _, _, _, _, _, _, _, _, _, _, _, _, _, _, _, _, _, _, _, _, _, _, _, _, _, _, _, _, _, _, _, _, _, _, _, _, _, _, _, _, _, _, _, _, _, _, _, _, _, _, _, _, _, _, _, _, _, _, _, _, _, _, rfl⟩, ?_⟩
              have := hdh.out
              simp [intOf]
              omega
end Go.Proofs.Ytjkcjbcbnnpmfaa
