/- Layer 15's small case comes out right. No condition. -/
import Derived.Test.YtblihpghalhjoaaTimes
import Derived.Test.YtblihpghalhjoaaRef15e
namespace Go.Proofs.Ytblihpghalhjoaa
open Go.ChangeShapes Go.WideShapes Go.ChangeAt Go.RowKit Go.Sort Hp
set_option linter.unusedSimpArgs false
set_option linter.unusedVariables false
def net15 : List Ed := [⟨1, 1, 2, 10, 20, 3, 4, 30⟩, ⟨2, 2, 3, 0, 30, 1, 1, 30⟩, ⟨3, 1, 3, 40, 50, 9, 0, 90⟩, ⟨4, 3, 1, 0, 50, 9, 0, 90⟩]
def tmA : List (Int × Int) := [(1, 0), (2, 17), (3, 25)]
def tmB : List (Int × Int) := [(1, 0), (3, 41)]
theorem runE_rch {l es : List Ed} {size : Int} {no : Int → Bool} {q now n t : Int} (hl : es.all (fun e => l.contains e) = true) (h : runE size no q now es = some (n, t)) : Rch l size no q now n t :=
  ⟨es, fun e he => by have := List.all_eq_true.1 hl e he; exact List.contains_iff_mem.1 this, h⟩
/-- No edge makes these times earlier: looked at, edge by edge. -/
def noEdgeB (l : List Ed) (size : Int) (no : Int → Bool) (r : List (Int × Int)) : Bool :=
  l.all fun e => match atR r e.fr with | none => true | some t => no e.tn || match e.pass t size with | none => true | some (_, a) => match atR r e.tn with | none => false | some u => decide (u ≤ a)
theorem noEdge_of {l : List Ed} {size : Int} {no : Int → Bool} {r : List (Int × Int)} (h : noEdgeB l size no r = true) : NoEdge l size no (atR r) := by
  intro e he t s a ht hn hp
  have h1 := List.all_eq_true.1 h e he
  simp only [ht, hn, hp, Bool.false_or] at h1
  cases hu : atR r e.tn with
  | none => rw [hu] at h1; simp at h1
  | some u => rw [hu] at h1; exact ⟨u, rfl, by simpa using h1⟩
theorem askA15 : askE net15 1 0 7 = true := by decide +kernel
theorem wf_two : ∀ k, k < 1 → (Lit.int .i64 (([2] : List Int).getD k 0)).wf = true := fun k hk => by
  obtain rfl : k = 0 := by omega
  decide +kernel
theorem isA : IsTimes net15 1 0 7 [] tmA := by
  refine ⟨by unfold Srt tmA; decide, fun h => absurd (askA15.symm.trans h) (by decide), fun _ => early_of (by omega) (by decide +kernel) (fun n t ht => ?_) (noEdge_of (by decide +kernel))⟩
  have hm := atR_mem ht
  simp only [tmA, List.mem_cons, Prod.mk.injEq, List.not_mem_nil, or_false] at hm
  rcases hm with ⟨rfl, rfl⟩ | ⟨rfl, rfl⟩ | ⟨rfl, rfl⟩
  · exact runE_rch (es := []) (by decide +kernel) (by decide +kernel)
  · exact runE_rch (es := [⟨1, 1, 2, 10, 20, 3, 4, 30⟩]) (by decide +kernel) (by decide +kernel)
  · exact runE_rch (es := [⟨1, 1, 2, 10, 20, 3, 4, 30⟩, ⟨2, 2, 3, 0, 30, 1, 1, 30⟩]) (by decide +kernel) (by decide +kernel)
theorem isB : IsTimes net15 1 0 7 [2] tmB := by
  refine ⟨by unfold Srt tmB; decide, fun h => absurd (askA15.symm.trans h) (by decide), fun _ => early_of (by omega) (by decide +kernel) (fun n t ht => ?_) (noEdge_of (by decide +kernel))⟩
  have hm := atR_mem ht
  simp only [tmB, List.mem_cons, Prod.mk.injEq, List.not_mem_nil, or_false] at hm
  rcases hm with ⟨rfl, rfl⟩ | ⟨rfl, rfl⟩
  · exact runE_rch (es := []) (by decide +kernel) (by decide +kernel)
  · exact runE_rch (es := [⟨3, 1, 3, 40, 50, 9, 0, 90⟩]) (by decide +kernel) (by decide +kernel)
theorem same_self15 (A A' : Option Addr) (n c n' c' : Nat) (d : List (Int × Int)) (w : World) (hd : d.length = n) (hd' : d.length = n') (hn : n ≤ 1000000) (h : Sl w w.heap.size 2 A n c (flat2 d)) (h' : Sl w w.heap.size 2 A' n' c' (flat2 d)) :
    Calls Try.prog 11 #[.slice A n c, .slice A' n' c'] w fun e w' => e = .returned (.bool true) ∧ Below w.heap.size w w' := by
  have h1 := rsame15_any A A' n c n' c' d d w hd hd' hn h h'
  rw [decide_eq_true (rfl : d = d)] at h1
  exact h1
theorem reach15_at {t b : Int} {v : Bool} (hv : reachB tmA t b = v) (A : Option Addr) (c : Nat) (w : World) (h : Sl w w.heap.size 8 A 4 c (flatEd net15)) :
    Calls Try.prog 14 #[.slice A 4 c, .int .i64 1, .int .i64 t, .int .i64 0, .int .i64 7, .int .i64 b] w fun e w' => e = .returned (.bool v) ∧ Below w.heap.size w w' := by
  refine (ereach_any A 4 c net15 1 t 0 7 b w rfl (by omega) h).mono ?_
  rintro e w' ⟨r, hr, rfl, hb⟩
  obtain rfl : r = tmA := hr.one isA
  exact ⟨by rw [hv], hb⟩
theorem net15_any (w : World) :
    Calls Try.prog 19 #[] w fun e w' => e = .returned (.slice (some ⟨w.heap.size, 0, none⟩) 4 4) ∧ w' = w.alloc (.cells #[.int .i64 1, .int .i64 1, .int .i64 2, .int .i64 10, .int .i64 20, .int .i64 3, .int .i64 4, .int .i64 30, .int .i64 2, .int .i64 2, .int .i64 3, .int .i64 0, .int .i64 30, .int .i64 1, .int .i64 1, .int .i64 30, .int .i64 3, .int .i64 1, .int .i64 3, .int .i64 40, .int .i64 50, .int .i64 9, .int .i64 0, .int .i64 90, .int .i64 4, .int .i64 3, .int .i64 1, .int .i64 0, .int .i64 50, .int .i64 9, .int .i64 0, .int .i64 90] 41) := by
  go_enter Try.func19, Try.ntmps19
  go_wp2
  go_ret
  exact ⟨rfl, rfl⟩
set_option maxHeartbeats 8000000 in
set_option maxRecDepth 100000 in
theorem small15_any (w : World) : Calls Try.prog 8 #[] w fun e w' => e = .returned (.bool true) ∧ Below w.heap.size w w' := by
  have hB : Below w.heap.size w (w.alloc (.cells #[.int .i64 1, .int .i64 1, .int .i64 2, .int .i64 10, .int .i64 20, .int .i64 3, .int .i64 4, .int .i64 30, .int .i64 2, .int .i64 2, .int .i64 3, .int .i64 0, .int .i64 30, .int .i64 1, .int .i64 1, .int .i64 30, .int .i64 3, .int .i64 1, .int .i64 3, .int .i64 40, .int .i64 50, .int .i64 9, .int .i64 0, .int .i64 90, .int .i64 4, .int .i64 3, .int .i64 1, .int .i64 0, .int .i64 50, .int .i64 9, .int .i64 0, .int .i64 90] 41)) := by (repeat (first | exact Below.refl _ _ | refine Below.alloc ?_ (by first | omega | (simp; done) | (simp; omega)) _ | refine Below.setCell ?_ (by first | omega | (simp; done) | (simp; omega)) _ | refine Below.drew ?_))
  have hN := Sl.of_own (own_lit w w.heap.size 41 8 4 #[.int .i64 1, .int .i64 1, .int .i64 2, .int .i64 10, .int .i64 20, .int .i64 3, .int .i64 4, .int .i64 30, .int .i64 2, .int .i64 2, .int .i64 3, .int .i64 0, .int .i64 30, .int .i64 1, .int .i64 1, .int .i64 30, .int .i64 3, .int .i64 1, .int .i64 3, .int .i64 40, .int .i64 50, .int .i64 9, .int .i64 0, .int .i64 90, .int .i64 4, .int .i64 3, .int .i64 1, .int .i64 0, .int .i64 50, .int .i64 9, .int .i64 0, .int .i64 90] (Nat.le_refl _) rfl (by simp [maxLen]))
  change Sl _ _ 8 _ 4 4 (flatEd net15) at hN
  go_enter Try.func8, Try.ntmps8
  go_wp2_with fail
  refine (net15_any w).mono ?_
  rintro e w0 ⟨rfl, rfl⟩
  generalize w.alloc (.cells #[.int .i64 1, .int .i64 1, .int .i64 2, .int .i64 10, .int .i64 20, .int .i64 3, .int .i64 4, .int .i64 30, .int .i64 2, .int .i64 2, .int .i64 3, .int .i64 0, .int .i64 30, .int .i64 1, .int .i64 1, .int .i64 30, .int .i64 3, .int .i64 1, .int .i64 3, .int .i64 40, .int .i64 50, .int .i64 9, .int .i64 0, .int .i64 90, .int .i64 4, .int .i64 3, .int .i64 1, .int .i64 0, .int .i64 50, .int .i64 9, .int .i64 0, .int .i64 90] 41) = w0 at *
  go_wp2_with fail
  refine (etimes_any (some ⟨w.heap.size, 0, none⟩) 4 4 net15 1 0 7 none 0 0 [] w0 rfl (by omega) rfl (by omega) (fun k hk => by omega) hN (Sl.nil0 _ _ _)).mono ?_
  rintro e w1 ⟨Aa, na, ca, r, rfl, hr, _, hT, hA, hb⟩
  obtain rfl : r = tmA := hT.one isA
  obtain rfl : na = 3 := hr.symm
  clear hr hT
  replace hN := hN.up hb
  replace hB := hB.trans (hb.mono hB.size)
  clear hb
  go_wp2_with fail
  have hb : Below w1.heap.size w1 (w1.alloc (.cells #[.int .i64 2] 3)) := by (repeat (first | exact Below.refl _ _ | refine Below.alloc ?_ (by first | omega | (simp; done) | (simp; omega)) _ | refine Below.setCell ?_ (by first | omega | (simp; done) | (simp; omega)) _ | refine Below.drew ?_))
  have hO := Sl.of_own (own_lit w1 w1.heap.size 3 1 1 #[.int .i64 2] (Nat.le_refl _) rfl (by simp [maxLen]))
  obtain ⟨bhO, hbhO⟩ : ∃ q, w1.heap.size = q := ⟨_, rfl⟩
  replace hN := hN.up hb
  replace hA := hA.up hb
  replace hB := hB.trans (hb.mono hB.size)
  clear hb
  generalize w1.alloc (.cells #[.int .i64 2] 3) = w2 at *
  rw [hbhO] at hO
  try rw [hbhO]
  clear hbhO
  refine (etimes_any (some ⟨w.heap.size, 0, none⟩) 4 4 net15 1 0 7 (some ⟨bhO, 0, none⟩) 1 1 [2] w2 rfl (by omega) rfl (by omega) (fun k hk => wf_two k hk) hN hO).mono ?_
  rintro e w3 ⟨Ab, nb, cb, r, rfl, hr, _, hT, hC, hb⟩
  obtain rfl : r = tmB := hT.one isB
  obtain rfl : nb = 2 := hr.symm
  clear hr hT
  replace hN := hN.up hb
  replace hA := hA.up hb
  replace hO := hO.up hb
  replace hB := hB.trans (hb.mono hB.size)
  clear hb
  clear hO
  go_wp2_with fail
  refine (eat_any Aa 3 ca tmA 3 w3 rfl (by omega) hA 25 true (by decide +kernel) (by decide +kernel)).mono ?_
  rintro e w4 ⟨rfl, hb⟩
  replace hN := hN.up hb
  replace hA := hA.up hb
  replace hC := hC.up hb
  replace hB := hB.trans (hb.mono hB.size)
  clear hb
  go_wp2_with fail
  refine (eat_any Aa 3 ca tmA 4 w4 rfl (by omega) hA 0 false (by decide +kernel) (by decide +kernel)).mono ?_
  rintro e w5 ⟨rfl, hb⟩
  replace hN := hN.up hb
  replace hA := hA.up hb
  replace hC := hC.up hb
  replace hB := hB.trans (hb.mono hB.size)
  clear hb
  go_wp2_with fail
  have hb : Below w5.heap.size w5 (w5.alloc (.cells #[.int .i64 1, .int .i64 0, .int .i64 2, .int .i64 17, .int .i64 3, .int .i64 25] 46)) := by (repeat (first | exact Below.refl _ _ | refine Below.alloc ?_ (by first | omega | (simp; done) | (simp; omega)) _ | refine Below.setCell ?_ (by first | omega | (simp; done) | (simp; omega)) _ | refine Below.drew ?_))
  have hP := Sl.of_own (own_lit w5 w5.heap.size 46 2 3 #[.int .i64 1, .int .i64 0, .int .i64 2, .int .i64 17, .int .i64 3, .int .i64 25] (Nat.le_refl _) rfl (by simp [maxLen]))
  obtain ⟨bhP, hbhP⟩ : ∃ q, w5.heap.size = q := ⟨_, rfl⟩
  replace hN := hN.up hb
  replace hA := hA.up hb
  replace hC := hC.up hb
  replace hB := hB.trans (hb.mono hB.size)
  clear hb
  generalize w5.alloc (.cells #[.int .i64 1, .int .i64 0, .int .i64 2, .int .i64 17, .int .i64 3, .int .i64 25] 46) = w6 at *
  rw [hbhP] at hP
  try rw [hbhP]
  clear hbhP
  change Sl _ _ 2 _ 3 3 (flat2 tmA) at hP
  refine (same_self15 Aa (some ⟨bhP, 0, none⟩) 3 ca 3 3 tmA w6 rfl rfl (by omega) hA hP).mono ?_
  rintro e w7 ⟨rfl, hb⟩
  replace hN := hN.up hb
  replace hA := hA.up hb
  replace hC := hC.up hb
  replace hP := hP.up hb
  replace hB := hB.trans (hb.mono hB.size)
  clear hb
  clear hP
  go_wp2_with fail
  have hb : Below w7.heap.size w7 (w7.alloc (.cells #[.int .i64 1, .int .i64 0, .int .i64 3, .int .i64 41] 46)) := by (repeat (first | exact Below.refl _ _ | refine Below.alloc ?_ (by first | omega | (simp; done) | (simp; omega)) _ | refine Below.setCell ?_ (by first | omega | (simp; done) | (simp; omega)) _ | refine Below.drew ?_))
  have hQ := Sl.of_own (own_lit w7 w7.heap.size 46 2 2 #[.int .i64 1, .int .i64 0, .int .i64 3, .int .i64 41] (Nat.le_refl _) rfl (by simp [maxLen]))
  obtain ⟨bhQ, hbhQ⟩ : ∃ q, w7.heap.size = q := ⟨_, rfl⟩
  replace hN := hN.up hb
  replace hA := hA.up hb
  replace hC := hC.up hb
  replace hB := hB.trans (hb.mono hB.size)
  clear hb
  generalize w7.alloc (.cells #[.int .i64 1, .int .i64 0, .int .i64 3, .int .i64 41] 46) = w8 at *
  rw [hbhQ] at hQ
  try rw [hbhQ]
  clear hbhQ
  change Sl _ _ 2 _ 2 2 (flat2 tmB) at hQ
  refine (same_self15 Ab (some ⟨bhQ, 0, none⟩) 2 cb 2 2 tmB w8 rfl rfl (by omega) hC hQ).mono ?_
  rintro e w9 ⟨rfl, hb⟩
  replace hN := hN.up hb
  replace hA := hA.up hb
  replace hC := hC.up hb
  replace hQ := hQ.up hb
  replace hB := hB.trans (hb.mono hB.size)
  clear hb
  clear hQ
  go_wp2_with fail
  refine (reach15_at (t := 3) (b := 25) (v := true) (by decide +kernel) (some ⟨w.heap.size, 0, none⟩) 4 w9 hN).mono ?_
  rintro e w10 ⟨rfl, hb⟩
  replace hN := hN.up hb
  replace hA := hA.up hb
  replace hC := hC.up hb
  replace hB := hB.trans (hb.mono hB.size)
  clear hb
  go_wp2_with fail
  refine (reach15_at (t := 3) (b := 24) (v := false) (by decide +kernel) (some ⟨w.heap.size, 0, none⟩) 4 w10 hN).mono ?_
  rintro e w11 ⟨rfl, hb⟩
  replace hN := hN.up hb
  replace hA := hA.up hb
  replace hC := hC.up hb
  replace hB := hB.trans (hb.mono hB.size)
  clear hb
  go_wp2_with fail
  refine (etimes_any (some ⟨w.heap.size, 0, none⟩) 4 4 net15 0 0 7 none 0 0 [] w11 rfl (by omega) rfl (by omega) (fun k hk => by omega) hN (Sl.nil0 _ _ _)).mono ?_
  rintro e w12 ⟨Ac, nc, cc, r, rfl, hr, _, hT, hD, hb⟩
  obtain rfl : r = [] := hT.no (by decide +kernel)
  obtain rfl : nc = 0 := hr.symm
  clear hr hT hD
  replace hN := hN.up hb
  replace hA := hA.up hb
  replace hC := hC.up hb
  replace hB := hB.trans (hb.mono hB.size)
  clear hb
  go_wp2_with fail
  go_ret
  exact ⟨rfl, hB⟩
end Go.Proofs.Ytblihpghalhjoaa
