/- Layer 16's small case comes out right. No condition. -/
import Derived.Test.YtjkcjbcbnnpmfaaRef16d
import Derived.Test.YtjkcjbcbnnpmfaaTimes
namespace Go.Proofs.Ytjkcjbcbnnpmfaa
open Go.ChangeShapes Go.WideShapes Go.ChangeAt Go.RowKit Go.Sort Hp
set_option linter.unusedSimpArgs false
set_option linter.unusedVariables false
/-- The latest times as rows, reckoned edge by edge. -/
def giveR (size : Int) (op : Int → Bool) (q : Int) (r : List (Int × Int)) (e : Ed) : Option Int := if e.fr ≠ q ∧ op e.tn = true then (atR r e.tn).bind fun t => e.latest t size else none
def stepR (l : List Ed) (size : Int) (op : Int → Bool) (q : Int) (r : List (Int × Int)) : List (Int × Int) := l.foldl (fun N e => match giveR size op q r e with | none => N | some x => putR e.fr x N false) r
def lateR (l : List Ed) (size : Int) (op : Int → Bool) (q by_ : Int) : Nat → List (Int × Int)
  | 0 => [(q, by_)]
  | h + 1 => stepR l size op q (lateR l size op q by_ h)
theorem stepR_spec {l : List Ed} {size : Int} {op : Int → Bool} {q : Int} {r : List (Int × Int)} (hs : Srt r) : ∀ k, k ≤ l.length → Srt (stepR (l.take k) size op q r) ∧ atR (stepR (l.take k) size op q r) = stepL (l.take k) size op q (atR r)
  | 0, _ => ⟨hs, rfl⟩
  | k + 1, hk => by
    obtain ⟨i1, i2⟩ := stepR_spec (l := l) (size := size) (op := op) (q := q) hs k (by omega)
    have hf : stepR (l.take (k + 1)) size op q r = match giveR size op q r (gEd l k) with | none => stepR (l.take k) size op q r | some x => putR (gEd l k).fr x (stepR (l.take k) size op q r) false := by
      unfold stepR
      rw [take_nextEd (by omega), List.foldl_append]; rfl
    obtain ⟨n1, n2⟩ := stepL_next (l := l) (size := size) (op := op) (q := q) (T := atR r) (k := k) (by omega)
    rw [hf]
    cases hg : giveR size op q r (gEd l k) with
    | none =>
      refine ⟨i1, ?_⟩
      show atR (stepR (l.take k) size op q r) = _
      rw [n2 (fun ⟨t, x, h1, h2, h3, h4⟩ => by
        unfold giveR at hg
        rw [if_pos ⟨h1, h2⟩, h3] at hg
        have h5 : (gEd l k).latest t size = none := hg
        rw [h4] at h5; cases h5)]
      exact i2
    | some x =>
      unfold giveR at hg
      split at hg
      · rename_i hc
        cases ht : atR r (gEd l k).tn with
        | none => rw [ht] at hg; cases hg
        | some t =>
          rw [ht] at hg
          obtain ⟨p1, _, p3⟩ := putR_spec (q := (gEd l k).fr) (a := x) i1
          refine ⟨p1, ?_⟩
          show atR (putR (gEd l k).fr x (stepR (l.take k) size op q r) false) = _
          rw [p3, i2]
          exact (n1 t x hc.1 hc.2 ht hg).symm
      · cases hg
theorem lateR_spec {l : List Ed} {size : Int} {op : Int → Bool} {q by_ : Int} : ∀ h, Srt (lateR l size op q by_ h) ∧ atR (lateR l size op q by_ h) = lateL l size op q by_ h
  | 0 => ⟨by simp [lateR, Srt], atR_one q by_⟩
  | h + 1 => by
    obtain ⟨h1, h2⟩ := lateR_spec (l := l) (size := size) (op := op) (q := q) (by_ := by_) h
    obtain ⟨h3, h4⟩ := stepR_spec (l := l) (size := size) (op := op) (q := q) h1 l.length (Nat.le_refl _)
    rw [List.take_length] at h3 h4
    exact ⟨h3, by rw [show lateR l size op q by_ (h + 1) = stepR l size op q (lateR l size op q by_ h) from rfl, h4, h2]; rfl⟩
def noneB (l : List Ed) (size : Int) (op : Int → Bool) (q by_ x now : Int) (n : Nat) : Bool := (List.range n).all fun k => match atR (lateR l size op q by_ k) x with | none => true | some t => decide (t < now)
theorem noneB_spec {l : List Ed} {size : Int} {op : Int → Bool} {q by_ x now : Int} {n : Nat} (h : noneB l size op q by_ x now n = true) : ∀ k, k < n → ∀ t, lateL l size op q by_ k x = some t → t < now := fun k hk t ht => by
  have h1 := List.all_eq_true.1 h k (List.mem_range.2 hk)
  rw [(lateR_spec k).2, ht] at h1
  simpa using h1
theorem few_noneB {l : List Ed} {size : Int} {op : Int → Bool} {q by_ x now : Int} (h0 : 0 ≤ by_) (hb : by_ ≤ 1099511627776) (h : noneB l size op q by_ x now (l.length + 1) = true) : IsFew l size op q by_ x now none := fun k t ht => by
  rcases Nat.lt_or_ge k (l.length + 1) with e | e
  · exact noneB_spec h k e t ht
  · rw [lateL_same hb h0 (h := k) (k := l.length) (by omega) (by omega)] at ht
    exact noneB_spec h l.length (by omega) t ht
theorem few_someB {l : List Ed} {size : Int} {op : Int → Bool} {q by_ x now : Int} {h : Nat} (t : Int) (h1 : atR (lateR l size op q by_ h) x = some t) (h2 : now ≤ t) (h3 : noneB l size op q by_ x now h = true) : IsFew l size op q by_ x now (some h) :=
  ⟨⟨t, by rw [← (lateR_spec h).2]; exact h1, h2⟩, noneB_spec h3⟩
def net16 : List Ed := [⟨1, 1, 2, 10, 20, 3, 4, 30⟩, ⟨2, 2, 3, 0, 30, 1, 1, 30⟩, ⟨3, 1, 3, 40, 50, 9, 0, 90⟩, ⟨4, 3, 1, 0, 50, 9, 0, 90⟩]
def tmC : List (Int × Int) := [(1, 15), (2, 22), (3, 30)]
def tmD : List (Int × Int) := [(1, 49), (2, 23), (3, 60)]
def tmE : List (Int × Int) := [(2, 22), (3, 30)]
theorem late_is {by_ : Int} {h : Nat} {sh : List Int} {r : List (Int × Int)} (hr : lateR net16 7 (opn sh 3) 3 by_ h = r) (ha : askE net16 3 by_ 7 = true) : IsLateT net16 3 by_ 7 (h : Int) sh r := by
  subst hr
  exact ⟨(lateR_spec h).1, fun e => e.elim (fun e => by rw [ha] at e; cases e) (fun e => by omega), fun _ _ => by rw [Int.toNat_natCast]; exact (lateR_spec h).2⟩
theorem isC : IsLateT net16 3 30 7 2 [] tmC := late_is (h := 2) (by decide +kernel) (by decide +kernel)
theorem isD : IsLateT net16 3 60 7 1 [] tmD := late_is (h := 1) (by decide +kernel) (by decide +kernel)
theorem isE : IsLateT net16 3 30 7 2 [2] tmE := late_is (h := 2) (by decide +kernel) (by decide +kernel)
theorem wf_two : ∀ k, k < 1 → (Lit.int .i64 (([2] : List Int).getD k 0)).wf = true := fun k hk => by
  obtain rfl : k = 0 := by omega
  decide +kernel
theorem same_self15 (A A' : Option Addr) (n c n' c' : Nat) (d : List (Int × Int)) (w : World) (hd : d.length = n) (hd' : d.length = n') (hn : n ≤ 1000000) (h : Sl w w.heap.size 2 A n c (flat2 d)) (h' : Sl w w.heap.size 2 A' n' c' (flat2 d)) :
    Calls Try.prog 11 #[.slice A n c, .slice A' n' c'] w fun e w' => e = .returned (.bool true) ∧ Below w.heap.size w w' := by
  have h1 := rsame15_any A A' n c n' c' d d w hd hd' hn h h'
  rw [decide_eq_true (rfl : d = d)] at h1
  exact h1
theorem few16_at {x now by_ : Int} {o : Option Nat} {ov : Int} {ob : Bool} (ha : (askE net16 x now 7 && nodeB 3 && inB by_ 0 1099511627776) = true) (ho : IsFew net16 7 (opn [] 3) 3 by_ x now o) (hov : ((o.getD 0 : Nat) : Int) = ov) (hob : o.isSome = ob) (A : Option Addr) (c : Nat) (w : World) (h : Sl w w.heap.size 8 A 4 c (flatEd net16)) :
    Calls Try.prog 9 #[.slice A 4 c, .int .i64 x, .int .i64 3, .int .i64 now, .int .i64 by_, .int .i64 7, .slice none 0 0] w fun e w' => e = .returned (.tuple #[.int .i64 ov, .bool ob]) ∧ Below w.heap.size w w' :=
  lfew_any A 4 c net16 x 3 now by_ 7 none 0 0 [] w rfl (by omega) rfl (by omega) (fun k hk => by omega) h (Sl.nil0 _ _ _) o (fun _ => ho) (fun e => by rw [ha] at e; cases e) ov ob hov hob
theorem net16_any (w : World) :
    Calls Try.prog 17 #[] w fun e w' => e = .returned (.slice (some ⟨w.heap.size, 0, none⟩) 4 4) ∧ w' = w.alloc (.cells #[.int .i64 1, .int .i64 1, .int .i64 2, .int .i64 10, .int .i64 20, .int .i64 3, .int .i64 4, .int .i64 30, .int .i64 2, .int .i64 2, .int .i64 3, .int .i64 0, .int .i64 30, .int .i64 1, .int .i64 1, .int .i64 30, .int .i64 3, .int .i64 1, .int .i64 3, .int .i64 40, .int .i64 50, .int .i64 9, .int .i64 0, .int .i64 90, .int .i64 4, .int .i64 3, .int .i64 1, .int .i64 0, .int .i64 50, .int .i64 9, .int .i64 0, .int .i64 90] 39) := by
  go_enter Try.func17, Try.ntmps17
  go_wp2
  go_ret
  exact ⟨rfl, rfl⟩
set_option maxHeartbeats 8000000 in
set_option maxRecDepth 100000 in
theorem small16_any (w : World) : Calls Try.prog 8 #[] w fun e w' => e = .returned (.bool true) ∧ Below w.heap.size w w' := by
  have hB : Below w.heap.size w (w.alloc (.cells #[.int .i64 1, .int .i64 1, .int .i64 2, .int .i64 10, .int .i64 20, .int .i64 3, .int .i64 4, .int .i64 30, .int .i64 2, .int .i64 2, .int .i64 3, .int .i64 0, .int .i64 30, .int .i64 1, .int .i64 1, .int .i64 30, .int .i64 3, .int .i64 1, .int .i64 3, .int .i64 40, .int .i64 50, .int .i64 9, .int .i64 0, .int .i64 90, .int .i64 4, .int .i64 3, .int .i64 1, .int .i64 0, .int .i64 50, .int .i64 9, .int .i64 0, .int .i64 90] 39)) := by (repeat (first | exact Below.refl _ _ | refine Below.alloc ?_ (by first | omega | (simp; done) | (simp; omega)) _ | refine Below.setCell ?_ (by first | omega | (simp; done) | (simp; omega)) _ | refine Below.drew ?_))
  have hN := Sl.of_own (own_lit w w.heap.size 39 8 4 #[.int .i64 1, .int .i64 1, .int .i64 2, .int .i64 10, .int .i64 20, .int .i64 3, .int .i64 4, .int .i64 30, .int .i64 2, .int .i64 2, .int .i64 3, .int .i64 0, .int .i64 30, .int .i64 1, .int .i64 1, .int .i64 30, .int .i64 3, .int .i64 1, .int .i64 3, .int .i64 40, .int .i64 50, .int .i64 9, .int .i64 0, .int .i64 90, .int .i64 4, .int .i64 3, .int .i64 1, .int .i64 0, .int .i64 50, .int .i64 9, .int .i64 0, .int .i64 90] (Nat.le_refl _) rfl (by simp [maxLen]))
  change Sl _ _ 8 _ 4 4 (flatEd net16) at hN
  go_enter Try.func8, Try.ntmps8
  go_wp2_with fail
  refine (net16_any w).mono ?_
  rintro e w0 ⟨rfl, rfl⟩
  generalize w.alloc (.cells #[.int .i64 1, .int .i64 1, .int .i64 2, .int .i64 10, .int .i64 20, .int .i64 3, .int .i64 4, .int .i64 30, .int .i64 2, .int .i64 2, .int .i64 3, .int .i64 0, .int .i64 30, .int .i64 1, .int .i64 1, .int .i64 30, .int .i64 3, .int .i64 1, .int .i64 3, .int .i64 40, .int .i64 50, .int .i64 9, .int .i64 0, .int .i64 90, .int .i64 4, .int .i64 3, .int .i64 1, .int .i64 0, .int .i64 50, .int .i64 9, .int .i64 0, .int .i64 90] 39) = w0 at *
  go_wp2_with fail
  refine (ltimes_any (some ⟨w.heap.size, 0, none⟩) 4 4 net16 3 30 7 2 none 0 0 [] w0 rfl (by omega) rfl (by omega) (fun k hk => by omega) hN (Sl.nil0 _ _ _)).mono ?_
  rintro e w1 ⟨Ac, nc, cc, r, rfl, hr, _, hT, hc, hb⟩
  obtain rfl : r = tmC := hT.one isC
  obtain rfl : nc = 3 := hr.symm
  clear hr hT
  replace hN := hN.up hb
  replace hB := hB.trans (hb.mono hB.size)
  clear hb
  go_wp2_with fail
  refine (ltimes_any (some ⟨w.heap.size, 0, none⟩) 4 4 net16 3 60 7 1 none 0 0 [] w1 rfl (by omega) rfl (by omega) (fun k hk => by omega) hN (Sl.nil0 _ _ _)).mono ?_
  rintro e w2 ⟨Ad, nd, cd, r, rfl, hr, _, hT, hd, hb⟩
  obtain rfl : r = tmD := hT.one isD
  obtain rfl : nd = 3 := hr.symm
  clear hr hT
  replace hN := hN.up hb
  replace hc := hc.up hb
  replace hB := hB.trans (hb.mono hB.size)
  clear hb
  go_wp2_with fail
  have hb : Below w2.heap.size w2 (w2.alloc (.cells #[.int .i64 2] 3)) := by (repeat (first | exact Below.refl _ _ | refine Below.alloc ?_ (by first | omega | (simp; done) | (simp; omega)) _ | refine Below.setCell ?_ (by first | omega | (simp; done) | (simp; omega)) _ | refine Below.drew ?_))
  have hO := Sl.of_own (own_lit w2 w2.heap.size 3 1 1 #[.int .i64 2] (Nat.le_refl _) rfl (by simp [maxLen]))
  obtain ⟨bhO, hbhO⟩ : ∃ q, w2.heap.size = q := ⟨_, rfl⟩
  replace hN := hN.up hb
  replace hc := hc.up hb
  replace hd := hd.up hb
  replace hB := hB.trans (hb.mono hB.size)
  clear hb
  generalize w2.alloc (.cells #[.int .i64 2] 3) = w3 at *
  rw [hbhO] at hO
  try rw [hbhO]
  clear hbhO
  try clear hbx
  refine (ltimes_any (some ⟨w.heap.size, 0, none⟩) 4 4 net16 3 30 7 2 (some ⟨bhO, 0, none⟩) 1 1 [2] w3 rfl (by omega) rfl (by omega) (fun k hk => wf_two k hk) hN hO).mono ?_
  rintro e w4 ⟨Ae, ne, ce, r, rfl, hr, _, hT, he, hb⟩
  obtain rfl : r = tmE := hT.one isE
  obtain rfl : ne = 2 := hr.symm
  clear hr hT
  replace hN := hN.up hb
  replace hc := hc.up hb
  replace hd := hd.up hb
  replace hO := hO.up hb
  replace hB := hB.trans (hb.mono hB.size)
  clear hb
  clear hO
  go_wp2_with fail
  refine (few16_at (x := 1) (now := 0) (by_ := 30) (o := some 2) (ov := 2) (ob := true) (by decide +kernel) (few_someB 15 (by decide +kernel) (by omega) (by decide +kernel)) rfl rfl (some ⟨w.heap.size, 0, none⟩) 4 w4 hN).mono ?_
  rintro e w5 ⟨rfl, hb⟩
  replace hN := hN.up hb
  replace hc := hc.up hb
  replace hd := hd.up hb
  replace he := he.up hb
  replace hB := hB.trans (hb.mono hB.size)
  clear hb
  go_wp2_with fail
  refine (few16_at (x := 1) (now := 0) (by_ := 60) (o := some 1) (ov := 1) (ob := true) (by decide +kernel) (few_someB 49 (by decide +kernel) (by omega) (by decide +kernel)) rfl rfl (some ⟨w.heap.size, 0, none⟩) 4 w5 hN).mono ?_
  rintro e w6 ⟨rfl, hb⟩
  replace hN := hN.up hb
  replace hc := hc.up hb
  replace hd := hd.up hb
  replace he := he.up hb
  replace hB := hB.trans (hb.mono hB.size)
  clear hb
  go_wp2_with fail
  refine (few16_at (x := 1) (now := 0) (by_ := 24) (o := none) (ov := 0) (ob := false) (by decide +kernel) (few_noneB (by omega) (by omega) (by decide +kernel)) rfl rfl (some ⟨w.heap.size, 0, none⟩) 4 w6 hN).mono ?_
  rintro e w7 ⟨rfl, hb⟩
  replace hN := hN.up hb
  replace hc := hc.up hb
  replace hd := hd.up hb
  replace he := he.up hb
  replace hB := hB.trans (hb.mono hB.size)
  clear hb
  go_wp2_with fail
  refine (few16_at (x := 3) (now := 5) (by_ := 5) (o := some 0) (ov := 0) (ob := true) (by decide +kernel) (few_someB 5 (by decide +kernel) (by omega) (by decide +kernel)) rfl rfl (some ⟨w.heap.size, 0, none⟩) 4 w7 hN).mono ?_
  rintro e w8 ⟨rfl, hb⟩
  replace hN := hN.up hb
  replace hc := hc.up hb
  replace hd := hd.up hb
  replace he := he.up hb
  replace hB := hB.trans (hb.mono hB.size)
  clear hb
  go_wp2_with fail
  have hb : Below w8.heap.size w8 (w8.alloc (.cells #[.int .i64 1, .int .i64 15, .int .i64 2, .int .i64 22, .int .i64 3, .int .i64 30] 36)) := by (repeat (first | exact Below.refl _ _ | refine Below.alloc ?_ (by first | omega | (simp; done) | (simp; omega)) _ | refine Below.setCell ?_ (by first | omega | (simp; done) | (simp; omega)) _ | refine Below.drew ?_))
  have hP := Sl.of_own (own_lit w8 w8.heap.size 36 2 3 #[.int .i64 1, .int .i64 15, .int .i64 2, .int .i64 22, .int .i64 3, .int .i64 30] (Nat.le_refl _) rfl (by simp [maxLen]))
  obtain ⟨bhP, hbhP⟩ : ∃ q, w8.heap.size = q := ⟨_, rfl⟩
  replace hN := hN.up hb
  replace hc := hc.up hb
  replace hd := hd.up hb
  replace he := he.up hb
  replace hB := hB.trans (hb.mono hB.size)
  clear hb
  generalize w8.alloc (.cells #[.int .i64 1, .int .i64 15, .int .i64 2, .int .i64 22, .int .i64 3, .int .i64 30] 36) = w9 at *
  rw [hbhP] at hP
  try rw [hbhP]
  clear hbhP
  change Sl _ _ 2 _ 3 3 (flat2 tmC) at hP
  refine (same_self15 Ac (some ⟨bhP, 0, none⟩) 3 cc 3 3 tmC w9 rfl rfl (by omega) hc hP).mono ?_
  rintro e w10 ⟨rfl, hb⟩
  replace hN := hN.up hb
  replace hc := hc.up hb
  replace hd := hd.up hb
  replace he := he.up hb
  replace hP := hP.up hb
  replace hB := hB.trans (hb.mono hB.size)
  clear hb
  clear hP
  go_wp2_with fail
  have hb : Below w10.heap.size w10 (w10.alloc (.cells #[.int .i64 1, .int .i64 49, .int .i64 2, .int .i64 23, .int .i64 3, .int .i64 60] 36)) := by (repeat (first | exact Below.refl _ _ | refine Below.alloc ?_ (by first | omega | (simp; done) | (simp; omega)) _ | refine Below.setCell ?_ (by first | omega | (simp; done) | (simp; omega)) _ | refine Below.drew ?_))
  have hP := Sl.of_own (own_lit w10 w10.heap.size 36 2 3 #[.int .i64 1, .int .i64 49, .int .i64 2, .int .i64 23, .int .i64 3, .int .i64 60] (Nat.le_refl _) rfl (by simp [maxLen]))
  obtain ⟨bhP, hbhP⟩ : ∃ q, w10.heap.size = q := ⟨_, rfl⟩
  replace hN := hN.up hb
  replace hc := hc.up hb
  replace hd := hd.up hb
  replace he := he.up hb
  replace hB := hB.trans (hb.mono hB.size)
  clear hb
  generalize w10.alloc (.cells #[.int .i64 1, .int .i64 49, .int .i64 2, .int .i64 23, .int .i64 3, .int .i64 60] 36) = w11 at *
  rw [hbhP] at hP
  try rw [hbhP]
  clear hbhP
  change Sl _ _ 2 _ 3 3 (flat2 tmD) at hP
  refine (same_self15 Ad (some ⟨bhP, 0, none⟩) 3 cd 3 3 tmD w11 rfl rfl (by omega) hd hP).mono ?_
  rintro e w12 ⟨rfl, hb⟩
  replace hN := hN.up hb
  replace hc := hc.up hb
  replace hd := hd.up hb
  replace he := he.up hb
  replace hP := hP.up hb
  replace hB := hB.trans (hb.mono hB.size)
  clear hb
  clear hP
  go_wp2_with fail
  have hb : Below w12.heap.size w12 (w12.alloc (.cells #[.int .i64 2, .int .i64 22, .int .i64 3, .int .i64 30] 36)) := by (repeat (first | exact Below.refl _ _ | refine Below.alloc ?_ (by first | omega | (simp; done) | (simp; omega)) _ | refine Below.setCell ?_ (by first | omega | (simp; done) | (simp; omega)) _ | refine Below.drew ?_))
  have hP := Sl.of_own (own_lit w12 w12.heap.size 36 2 2 #[.int .i64 2, .int .i64 22, .int .i64 3, .int .i64 30] (Nat.le_refl _) rfl (by simp [maxLen]))
  obtain ⟨bhP, hbhP⟩ : ∃ q, w12.heap.size = q := ⟨_, rfl⟩
  replace hN := hN.up hb
  replace hc := hc.up hb
  replace hd := hd.up hb
  replace he := he.up hb
  replace hB := hB.trans (hb.mono hB.size)
  clear hb
  generalize w12.alloc (.cells #[.int .i64 2, .int .i64 22, .int .i64 3, .int .i64 30] 36) = w13 at *
  rw [hbhP] at hP
  try rw [hbhP]
  clear hbhP
  change Sl _ _ 2 _ 2 2 (flat2 tmE) at hP
  refine (same_self15 Ae (some ⟨bhP, 0, none⟩) 2 ce 2 2 tmE w13 rfl rfl (by omega) he hP).mono ?_
  rintro e w14 ⟨rfl, hb⟩
  replace hN := hN.up hb
  replace hc := hc.up hb
  replace hd := hd.up hb
  replace he := he.up hb
  replace hP := hP.up hb
  replace hB := hB.trans (hb.mono hB.size)
  clear hb
  clear hP
  go_wp2_with fail
  refine (ltimes_any (some ⟨w.heap.size, 0, none⟩) 4 4 net16 3 30 7 (-1) none 0 0 [] w14 rfl (by omega) rfl (by omega) (fun k hk => by omega) hN (Sl.nil0 _ _ _)).mono ?_
  rintro e w15 ⟨Az, nz, cz, r, rfl, hr, _, hT, hz, hb⟩
  obtain rfl : r = [] := hT.no (.inr (by omega))
  obtain rfl : nz = 0 := hr.symm
  clear hr hT
  replace hN := hN.up hb
  replace hc := hc.up hb
  replace hd := hd.up hb
  replace he := he.up hb
  replace hB := hB.trans (hb.mono hB.size)
  clear hb
  go_wp2_with fail
  go_ret
  exact ⟨rfl, hB⟩
end Go.Proofs.Ytjkcjbcbnnpmfaa
