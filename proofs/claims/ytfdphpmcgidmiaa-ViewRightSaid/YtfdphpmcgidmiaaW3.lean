/- Contracts and plain facts, several texts of mine in one: Ledger, Ledger2, Ledger3, Ledger4, Ledger5, Ledger6, LedgerMath, Ranges, Ranges2, Ranges3, Ranges4, Ranges5, Ranges6, Ranges7, Ref03, Small07, RangesTwice. No condition. -/
import Derived.Test.YtfdphpmcgidmiaaW2
import Derived.Deep.RegionLaw
import Derived.StillTailTactics
import Derived.Deep.RegionHeld3
import Derived.Test.YtfdphpmcgidmiaaRows

/- Package ledger: the order of a ledger, find, Used, isClass. No condition. -/
namespace Go.Proofs.Ytfdphpmcgidmiaa.Kb
open Go.ChangeShapes Go.WideShapes Go.ChangeAt Go.RowKit Go.Sort
set_option linter.unusedSimpArgs false
set_option linter.unusedVariables false
def SortB (d : List Bk) : Prop := d.Pairwise (fun a b => a.id < b.id)
/-- Where the row of that ID stands, or would. -/
def pl (d : List Bk) (id : Int) : Nat := (d.filter (fun x => decide (x.id < id))).length
def hit (d : List Bk) (id : Int) : Bool := d.any (fun x => x.id == id)
/-- The row of that ID, or one of nothing. -/
def rowB (d : List Bk) (id : Int) : Bk := if hit d id = true then gBk d (pl d id) else ⟨id, 0, 0, 0⟩
theorem mem_gBk {d : List Bk} {y : Bk} (h : y ∈ d) : ∃ j, j < d.length ∧ gBk d j = y := by
  obtain ⟨j, hj, e⟩ := List.mem_iff_getElem.1 h
  exact ⟨j, hj, by rw [gBk_eq hj, e]⟩
theorem SortB.at_ {d : List Bk} (h : SortB d) {i j : Nat} (hij : i < j) (hj : j < d.length) : (gBk d i).id < (gBk d j).id := by
  have := List.pairwise_iff_getElem.1 h i j (by omega) hj hij
  rw [gBk_eq hj, gBk_eq (by omega : i < d.length)]
  exact this
theorem pl_of {d : List Bk} {id : Int} {i : Nat} (hs : SortB d) (hi : i ≤ d.length) (h1 : i = 0 ∨ (gBk d (i - 1)).id < id) (h2 : i = d.length ∨ id ≤ (gBk d i).id) : pl d id = i := by
  unfold pl
  have e1 : (d.take i).filter (fun x => decide (x.id < id)) = d.take i := List.filter_eq_self.2 (fun x hx => by
    obtain ⟨j, hj, rfl⟩ := List.mem_take_iff_getElem.1 hx
    rw [decide_eq_true_eq]
    rcases h1 with h1 | h1
    · omega
    · by_cases e : j = i - 1
      · rw [gBk_eq (by omega)] at h1
        subst e
        exact h1
      · have := hs.at_ (i := j) (j := i - 1) (by omega) (by omega)
        rw [gBk_eq (by omega : j < d.length)] at this
        omega)
  have e2 : (d.drop i).filter (fun x => decide (x.id < id)) = [] := List.filter_eq_nil_iff.2 (fun x hx => by
    obtain ⟨j, hj', rfl⟩ := List.mem_drop_iff_getElem.1 hx
    have hj : i + j < d.length := by omega
    rw [decide_eq_true_eq]
    rcases h2 with h2 | h2
    · omega
    · by_cases e : j = 0
      · subst e
        rw [gBk_eq (by omega)] at h2
        simp only [Nat.add_zero]
        omega
      · have := hs.at_ (i := i) (j := i + j) (by omega) hj
        rw [gBk_eq hj] at this
        omega)
  conv => lhs; rw [← List.take_append_drop i d]
  rw [List.filter_append, e1, e2, List.append_nil, List.length_take]
  omega
theorem pl_le (d : List Bk) (id : Int) : pl d id ≤ d.length := List.length_filter_le _ _
theorem hit_iff {d : List Bk} {id : Int} {i : Nat} (hs : SortB d) (hi : i ≤ d.length) (h1 : i = 0 ∨ (gBk d (i - 1)).id < id) (h2 : i = d.length ∨ id ≤ (gBk d i).id) : hit d id = (decide (i < d.length) && ((gBk d i).id == id)) := by
  unfold hit
  rw [Bool.eq_iff_iff]
  simp only [List.any_eq_true, beq_iff_eq, Bool.and_eq_true, decide_eq_true_eq]
  constructor
  · rintro ⟨x, hx, rfl⟩
    obtain ⟨j, hj, rfl⟩ := mem_gBk hx
    have h3 : ¬ j < i := fun hlt => by
      rcases h1 with h1 | h1
      · omega
      · by_cases e : j = i - 1
        · rw [← e] at h1; omega
        · have := hs.at_ (i := j) (j := i - 1) (by omega) (by omega)
          omega
    rcases h2 with h2 | h2
    · omega
    · by_cases e : j = i
      · subst e; exact ⟨hj, rfl⟩
      · have := hs.at_ (i := i) (j := j) (by omega) hj
        omega
  · rintro ⟨hi2, he⟩
    exact ⟨_, gBk_mem hi2, he⟩
theorem hit_at {d : List Bk} {id : Int} (hs : SortB d) (h : hit d id = true) : pl d id < d.length ∧ (gBk d (pl d id)).id = id := by
  unfold hit at h
  obtain ⟨x, hx, he⟩ := List.any_eq_true.1 h
  obtain ⟨j, hj, rfl⟩ := mem_gBk hx
  have he : (gBk d j).id = id := by simpa using he
  have : pl d id = j := pl_of hs (by omega) (by
    by_cases e : j = 0
    · exact .inl e
    · right
      have := hs.at_ (i := j - 1) (j := j) (by omega) hj
      omega) (.inr (by omega))
  rw [this]
  exact ⟨hj, he⟩
set_option maxHeartbeats 1000000 in
set_option maxRecDepth 100000 in
theorem find1_any (x : Bk) (id : Int) (w : World) : Calls Try.prog 96 #[.agg #[.int .i64 x.id, .int .i64 x.ua, .int .i64 x.ub, .int .i64 x.uc], .int .i64 id] w fun e w' => e = .returned (.int .i64 (cmpI x.id id)) ∧ Below w.heap.size w w' := by
  obtain ⟨p, hp⟩ : ∃ p, cmpI x.id id = p := ⟨_, rfl⟩
  have HP := Lib.hid hp
  rw [hp]
  clear hp
  go_enter Try.func96, Try.ntmps96
  go_wp2_with fail
  refine (HP.out ▸ cmp_any x.id id _).mono ?_
  rintro e w3 ⟨rfl, rfl⟩
  go_wp2
  go_ret
  exact ⟨rfl, by (repeat (first | exact Below.refl _ _ | refine Below.alloc ?_ (by first | omega | (simp; done) | (simp; omega)) _ | refine Below.setCell ?_ (by first | omega | (simp; done) | (simp; omega)) _ | refine Below.drew ?_))⟩
theorem cmpI_neg {a b : Int} : cmpI a b < 0 ↔ a < b := by
  rcases Int.lt_trichotomy a b with h | h | h
  · rw [cmpI_lt h]; omega
  · rw [cmpI_zero.2 h]; omega
  · rw [cmpI_gt h]; omega
theorem cmp_bk (t : Int) (w : World) : CmpIBk 96 #[] t w (fun x => cmpI x.id t) :=
  ⟨enter_run Try.func96 rfl rfl, fun w' _ x => find1_any x t w'⟩
set_option maxRecDepth 100000 in
theorem find_any (A : Option Addr) (n c : Nat) (d : List Bk) (id : Int) (w : World) (hd : d.length = n) (hn : n ≤ 1000000) (h : Sl w w.heap.size 4 A n c (flatBk d)) (hs : SortB d) (i : Nat) (b : Bool) (hi : pl d id = i) (hb : hit d id = b) :
    Calls Try.prog 83 #[.slice A n c, .int .i64 id] w fun e w' => e = .returned (.tuple #[.int .i64 i, .bool b]) ∧ Below w.heap.size w w' := by
  have hc := (binaryIBk A n c d id _ _ _ w hd hn h (cmp_bk id w)).mono (fun e w' ⟨j, b', he, hj, h1, h2, hb', hB⟩ => (show e = Ending.returned (.tuple #[.int .i64 i, .bool b]) ∧ Below w.heap.size w w' from by
    have h1' : j = 0 ∨ (gBk d (j - 1)).id < id := h1.imp (fun h => h) (fun h => cmpI_neg.1 h)
    have h2' : j = d.length ∨ id ≤ (gBk d j).id := h2.imp (fun h => by omega) (fun h => by
      by_cases e : (gBk d j).id < id
      · have := cmpI_neg.2 e
        omega
      · omega)
    have e1 : j = i := by rw [← hi]; exact (pl_of hs (by omega) h1' h2').symm
    have e2 : b' = b := by
      rw [hb', ← hb, hit_iff hs (by omega) h1' h2', hd]
      congr 1
      rw [Bool.eq_iff_iff, beq_iff_eq, beq_iff_eq, cmpI_zero]
    rw [he, e1, e2]
    exact ⟨rfl, hB⟩))
  have HC := Lib.hid hc
  clear hc hi hb hs
  go_enter Try.func83, Try.ntmps83
  go_wp2_with fail
  refine HC.out.mono ?_
  rintro e w1 ⟨rfl, hB⟩
  go_wp2
  go_ret2
  exact ⟨rfl, hB⟩
set_option maxHeartbeats 1000000 in
set_option maxRecDepth 100000 in
theorem used_any (A : Option Addr) (n c : Nat) (d : List Bk) (id : Int) (w : World) (hd : d.length = n) (hn : n ≤ 1000000) (h : Sl w w.heap.size 4 A n c (flatBk d)) (hs : SortB d) (x : Bk) (hx : rowB d id = x) :
    Calls Try.prog 67 #[.slice A n c, .int .i64 id] w fun e w' => e = .returned (.agg #[.int .i64 x.ua, .int .i64 x.ub, .int .i64 x.uc]) ∧ Below w.heap.size w w' := by
  obtain ⟨b, hb⟩ : ∃ b, hit d id = b := ⟨_, rfl⟩
  have hBa : Below w.heap.size w (w.alloc (.cells #[.int .i64 0, .int .i64 0, .int .i64 0] 53)) := by (repeat (first | exact Below.refl _ _ | refine Below.alloc ?_ (by first | omega | (simp; done) | (simp; omega)) _ | refine Below.setCell ?_ (by first | omega | (simp; done) | (simp; omega)) _ | refine Below.drew ?_))
  have hX := Blok.new w 53 #[.int .i64 0, .int .i64 0, .int .i64 0]
  have hl := h.up hBa
  cases b with
  | false =>
    have hz : x = ⟨id, 0, 0, 0⟩ := by rw [← hx]; unfold rowB; rw [if_neg (by rw [hb]; simp)]
    subst hz
    have HF := Lib.hid (find_any A n c d id _ hd hn hl hs _ false rfl hb)
    clear hx hb h hl
    go_enter Try.func67, Try.ntmps67
    go_wp2_with fail
    generalize w.alloc (.cells #[.int .i64 0, .int .i64 0, .int .i64 0] 53) = w2 at *
    refine HF.out.mono ?_
    rintro e w5 ⟨rfl, hb5⟩
    replace hX := hX.below hb5 hX.lt
    replace hBa := hBa.trans (hb5.mono hBa.size)
    clear hb5 HF
    have r0 : w5.cell? ⟨w.heap.size, 0, none⟩ = some (.int .i64 0) := hX.cell 0
    have r1 : w5.cell? ⟨w.heap.size, 1, none⟩ = some (.int .i64 0) := hX.cell 1
    have r2 : w5.cell? ⟨w.heap.size, 2, none⟩ = some (.int .i64 0) := hX.cell 2
    have f0 := hX.free 0
    have f1 := hX.free 1
    have f2 := hX.free 2
    have hlt := hX.lt
    have HXX := Lib.hid hX
    clear hX
    go_wp2
    have hX := HXX.out
    clear r0 r1 r2
    have hF : Blok (((w5.setCell ⟨w.heap.size, 0, none⟩ (.int .i64 0)).setCell ⟨w.heap.size, 1, none⟩ (.int .i64 0)).setCell ⟨w.heap.size, 2, none⟩ (.int .i64 0)) w.heap.size 53 #[.int .i64 0, .int .i64 0, .int .i64 0] := by have h := (((hX.set_ 0 (.int .i64 0)).set_ 1 (.int .i64 0)).set_ 2 (.int .i64 0)); simpa using h
    have hle0 : w.heap.size ≤ w.heap.size := by first | exact Nat.le_refl _ | omega
    have hWf : Below w.heap.size w (((w5.setCell ⟨w.heap.size, 0, none⟩ (.int .i64 0)).setCell ⟨w.heap.size, 1, none⟩ (.int .i64 0)).setCell ⟨w.heap.size, 2, none⟩ (.int .i64 0)) := (((hBa.setCell (p := ⟨w.heap.size, 0, none⟩) hle0 (.int .i64 0)).setCell (p := ⟨w.heap.size, 1, none⟩) hle0 (.int .i64 0)).setCell (p := ⟨w.heap.size, 2, none⟩) hle0 (.int .i64 0))
    have hlF := hF.lt
    generalize (((w5.setCell ⟨w.heap.size, 0, none⟩ (.int .i64 0)).setCell ⟨w.heap.size, 1, none⟩ (.int .i64 0)).setCell ⟨w.heap.size, 2, none⟩ (.int .i64 0)) = wf at *
    have r0 : wf.cell? ⟨w.heap.size, 0, none⟩ = some (.int .i64 0) := hF.cell 0
    have r1 : wf.cell? ⟨w.heap.size, 1, none⟩ = some (.int .i64 0) := hF.cell 1
    have r2 : wf.cell? ⟨w.heap.size, 2, none⟩ = some (.int .i64 0) := hF.cell 2
    refine bodyPost_ret (v := .agg #[.int .i64 0, .int .i64 0, .int .i64 0]) (by simp [results, Try.results67, go_sem, r0, r1, r2, hlF]) rfl ?_
    exact ⟨rfl, hWf⟩
  | true =>
    obtain ⟨hp, _⟩ := hit_at hs hb
    have hxg : gBk d (pl d id) = x := by rw [← hx]; unfold rowB; rw [if_pos hb]
    obtain ⟨q, hq⟩ : ∃ q, pl d id = q := ⟨_, rfl⟩
    rw [hq] at hp hxg
    have hqn : q < n := by omega
    obtain ⟨ad, rfl, -⟩ := h.lst.atBk hd hqn
    have hcap := h.cap
    have HF := Lib.hid (find_any (some ad) n c d id _ hd hn hl hs q true hq hb)
    have HX := Lib.hid hxg
    have HD := Lib.hid hd
    clear hx hb h hq hp hxg hd hs
    go_enter Try.func67, Try.ntmps67
    go_wp2_with fail
    generalize w.alloc (.cells #[.int .i64 0, .int .i64 0, .int .i64 0] 53) = w2 at *
    refine HF.out.mono ?_
    rintro e w5 ⟨rfl, hb5⟩
    replace hl := hl.up hb5
    replace hX := hX.below hb5 hX.lt
    replace hBa := hBa.trans (hb5.mono hBa.size)
    clear hb5 HF
    obtain ⟨ad', he, hab, c0, c1, c2, c3⟩ := hl.lst.atBk HD.out hqn
    injection he with he
    subst he
    rw [HX.out] at c0 c1 c2 c3
    have r0 : w5.cell? ⟨w.heap.size, 0, none⟩ = some (.int .i64 0) := hX.cell 0
    have r1 : w5.cell? ⟨w.heap.size, 1, none⟩ = some (.int .i64 0) := hX.cell 1
    have r2 : w5.cell? ⟨w.heap.size, 2, none⟩ = some (.int .i64 0) := hX.cell 2
    have f0 := hX.free 0
    have f1 := hX.free 1
    have f2 := hX.free 2
    have hlt := hX.lt
    have hq0 : (0 : Int) ≤ (q : Int) := by omega
    have hqI : (q : Int) < (n : Int) := by omega
    have HXX := Lib.hid hX
    clear hl hX
    go_wp2
    have hX := HXX.out
    clear r0 r1 r2
    have hF : Blok (((w5.setCell ⟨w.heap.size, 0, none⟩ (.int .i64 x.ua)).setCell ⟨w.heap.size, 1, none⟩ (.int .i64 x.ub)).setCell ⟨w.heap.size, 2, none⟩ (.int .i64 x.uc)) w.heap.size 53 #[.int .i64 x.ua, .int .i64 x.ub, .int .i64 x.uc] := by have h := (((hX.set_ 0 (.int .i64 x.ua)).set_ 1 (.int .i64 x.ub)).set_ 2 (.int .i64 x.uc)); simpa using h
    have hle0 : w.heap.size ≤ w.heap.size := by first | exact Nat.le_refl _ | omega
    have hWf : Below w.heap.size w (((w5.setCell ⟨w.heap.size, 0, none⟩ (.int .i64 x.ua)).setCell ⟨w.heap.size, 1, none⟩ (.int .i64 x.ub)).setCell ⟨w.heap.size, 2, none⟩ (.int .i64 x.uc)) := (((hBa.setCell (p := ⟨w.heap.size, 0, none⟩) hle0 (.int .i64 x.ua)).setCell (p := ⟨w.heap.size, 1, none⟩) hle0 (.int .i64 x.ub)).setCell (p := ⟨w.heap.size, 2, none⟩) hle0 (.int .i64 x.uc))
    have hlF := hF.lt
    generalize (((w5.setCell ⟨w.heap.size, 0, none⟩ (.int .i64 x.ua)).setCell ⟨w.heap.size, 1, none⟩ (.int .i64 x.ub)).setCell ⟨w.heap.size, 2, none⟩ (.int .i64 x.uc)) = wf at *
    have r0 : wf.cell? ⟨w.heap.size, 0, none⟩ = some (.int .i64 x.ua) := hF.cell 0
    have r1 : wf.cell? ⟨w.heap.size, 1, none⟩ = some (.int .i64 x.ub) := hF.cell 1
    have r2 : wf.cell? ⟨w.heap.size, 2, none⟩ = some (.int .i64 x.uc) := hF.cell 2
    refine bodyPost_ret (v := .agg #[.int .i64 x.ua, .int .i64 x.ub, .int .i64 x.uc]) (by simp [results, Try.results67, go_sem, r0, r1, r2, hlF]) rfl ?_
    exact ⟨rfl, hWf⟩
theorem class_any (cl : Int) (w : World) (b : Bool) (hb : inB cl 0 2 = b) :
    Calls Try.prog 66 #[.int .i64 cl] w fun e w' => e = .returned (.bool b) ∧ w = w' := by
  have HB := Lib.hid hb
  clear hb
  go_enter Try.func66, Try.ntmps66
  go_wp2_with fail
  refine (in_is b HB.out w).mono ?_
  rintro e w1 ⟨rfl, rfl⟩
  go_wp2
  go_ret
  exact ⟨rfl, rfl⟩
end Go.Proofs.Ytfdphpmcgidmiaa.Kb

/- Package ledger: Backlog, Room, Same. No condition. -/
namespace Go.Proofs.Ytfdphpmcgidmiaa.Kb
open Go.ChangeShapes Go.WideShapes Go.ChangeAt Go.RowKit Go.Sort
set_option linter.unusedSimpArgs false
set_option linter.unusedVariables false
def capAdd (t n : Int) : Int := t + min n (4611686018427387904 - t)
def okU (x : Bk) : Prop := 0 ≤ x.ua ∧ x.ua ≤ 4611686018427387904 ∧ 0 ≤ x.ub ∧ x.ub ≤ 4611686018427387904 ∧ 0 ≤ x.uc ∧ x.uc ≤ 4611686018427387904
def backF (x : Bk) (cl : Int) : Int := if cl = 0 then capAdd (capAdd (capAdd 0 x.ua) x.ub) x.uc else if cl = 1 then capAdd (capAdd 0 x.ub) x.uc else if cl = 2 then capAdd 0 x.uc else 0
theorem capAdd_ok {t n : Int} (h1 : 0 ≤ t) (h2 : t ≤ 4611686018427387904) (h3 : 0 ≤ n) : 0 ≤ capAdd t n ∧ capAdd t n ≤ 4611686018427387904 := by unfold capAdd; omega
theorem backF_ok {x : Bk} (h : okU x) (cl : Int) : 0 ≤ backF x cl ∧ backF x cl ≤ 4611686018427387904 := by
  obtain ⟨h1, h2, h3, h4, h5, h6⟩ := h
  unfold backF
  have a0 := capAdd_ok (t := 0) (n := x.ua) (by omega) (by omega) h1
  have a1 := capAdd_ok (t := 0) (n := x.ub) (by omega) (by omega) h3
  have a2 := capAdd_ok (t := 0) (n := x.uc) (by omega) (by omega) h5
  have b1 := capAdd_ok a0.1 a0.2 h3
  have b2 := capAdd_ok a1.1 a1.2 h5
  have c2 := capAdd_ok b1.1 b1.2 h5
  split
  · exact c2
  · split
    · exact b2
    · split
      · exact a2
      · omega

set_option maxHeartbeats 2000000 in
set_option maxRecDepth 100000 in
theorem backlog0 (A : Option Addr) (n c : Nat) (d : List Bk) (id : Int) (w : World) (hd : d.length = n) (hn : n ≤ 1000000) (h : Sl w w.heap.size 4 A n c (flatBk d)) (hs : SortB d) (x : Bk) (hx : rowB d id = x) (hok : okU x) (v : Int) (hv : backF x 0 = v) :
    Calls Try.prog 35 #[.slice A n c, .int .i64 id, .int .i64 0] w fun e w' => e = .returned (.int .i64 v) ∧ Below w.heap.size w w' := by
  have HU := Lib.hid (used_any A n c d id w hd hn h hs x hx)
  obtain ⟨a0, a1, b0, b1, c0, c1⟩ := hok
  obtain ⟨q1, hq1⟩ : ∃ q, min x.ua (4611686018427387904 - 0) = q := ⟨_, rfl⟩
  obtain ⟨s1, hs1⟩ : ∃ s, 0 + q1 = s := ⟨_, rfl⟩
  have r1 : 0 ≤ s1 ∧ s1 ≤ 4611686018427387904 := by omega
  have z1 : 0 ≤ q1 ∧ q1 ≤ 4611686018427387904 := by omega
  obtain ⟨q2, hq2⟩ : ∃ q, min x.ub (4611686018427387904 - s1) = q := ⟨_, rfl⟩
  obtain ⟨s2, hs2⟩ : ∃ s, s1 + q2 = s := ⟨_, rfl⟩
  have r2 : 0 ≤ s2 ∧ s2 ≤ 4611686018427387904 := by omega
  have z2 : 0 ≤ q2 ∧ q2 ≤ 4611686018427387904 := by omega
  obtain ⟨q3, hq3⟩ : ∃ q, min x.uc (4611686018427387904 - s2) = q := ⟨_, rfl⟩
  obtain ⟨s3, hs3⟩ : ∃ s, s2 + q3 = s := ⟨_, rfl⟩
  have r3 : 0 ≤ s3 ∧ s3 ≤ 4611686018427387904 := by omega
  have z3 : 0 ≤ q3 ∧ q3 ≤ 4611686018427387904 := by omega
  have hvs : v = s3 := by rw [← hv]; unfold backF capAdd; simp; omega
  obtain ⟨r1a, r1b⟩ := r1
  obtain ⟨z1a, z1b⟩ := z1
  obtain ⟨r2a, r2b⟩ := r2
  obtain ⟨z2a, z2b⟩ := z2
  obtain ⟨r3a, r3b⟩ := r3
  obtain ⟨z3a, z3b⟩ := z3
  rw [hvs]
  clear hv hvs hx hs h hd
  have HQ1 := Lib.hid hq1
  have HS1 := Lib.hid hs1
  clear hq1 hs1
  have HQ2 := Lib.hid hq2
  have HS2 := Lib.hid hs2
  clear hq2 hs2
  have HQ3 := Lib.hid hq3
  have HS3 := Lib.hid hs3
  clear hq3 hs3
  go_enter Try.func35, Try.ntmps35
  go_wp2_with fail
  refine (class_any 0 w true (by decide +kernel)).mono ?_
  rintro e w1 ⟨rfl, rfl⟩
  go_wp2_with fail
  refine HU.out.mono ?_
  rintro e w2 ⟨rfl, hB⟩
  have hX := Blok.new w2 53 #[.int .i64 x.ua, .int .i64 x.ub, .int .i64 x.uc]
  have hB3 : Below w.heap.size w (w2.alloc (.cells #[.int .i64 x.ua, .int .i64 x.ub, .int .i64 x.uc] 53)) := hB.alloc hB.size _
  go_wp2_with fail
  generalize w2.alloc (.cells #[.int .i64 x.ua, .int .i64 x.ub, .int .i64 x.uc] 53) = w3 at *
  generalize w2.heap.size = bb at *
  have x0 : w3.cell? ⟨bb, 0, none⟩ = some (.int .i64 x.ua) := hX.cell 0
  have x1 : w3.cell? ⟨bb, 1, none⟩ = some (.int .i64 x.ub) := hX.cell 1
  have x2 : w3.cell? ⟨bb, 2, none⟩ = some (.int .i64 x.uc) := hX.cell 2
  have hlt := hX.lt
  clear hX hB HU
  go_loop [8, 20] (fun tv iv => (iv = .int .i64 0 ∧ tv = .int .i64 0) ∨ (iv = .int .i64 1 ∧ tv = .int .i64 s1) ∨ (iv = .int .i64 2 ∧ tv = .int .i64 s2) ∨ (iv = .int .i64 3 ∧ tv = .int .i64 s3)) (fun _ iv => 3 - (intOf iv).toNat)
  case atStart => exact .inl ⟨rfl, rfl⟩
  case round =>
    rcases hrel with ⟨rfl, rfl⟩ | ⟨rfl, rfl⟩ | ⟨rfl, rfl⟩ | ⟨rfl, rfl⟩
    · have e1 := HQ1.out
      have e2 := HS1.out
      have HE := Lib.hid (And.intro e1 e2)
      clear e1 e2
      go_wp2
      go_round
      case rel =>
        have e1 := HE.out.1
        have e2 := HE.out.2
        exact .inr (.inl ⟨rfl, congrArg (Value.int .i64) (by first | omega | (split <;> omega))⟩)
      case measure => simp [intOf]
    · have e1 := HQ2.out
      have e2 := HS2.out
      have HE := Lib.hid (And.intro e1 e2)
      clear e1 e2
      go_wp2
      go_round
      case rel =>
        have e1 := HE.out.1
        have e2 := HE.out.2
        exact .inr (.inr (.inl ⟨rfl, congrArg (Value.int .i64) (by first | omega | (split <;> omega))⟩))
      case measure => simp [intOf]
    · have e1 := HQ3.out
      have e2 := HS3.out
      have HE := Lib.hid (And.intro e1 e2)
      clear e1 e2
      go_wp2
      go_round
      case rel =>
        have e1 := HE.out.1
        have e2 := HE.out.2
        exact .inr (.inr (.inr (⟨rfl, congrArg (Value.int .i64) (by first | omega | (split <;> omega))⟩)))
      case measure => simp [intOf]
    · go_wp2
      go_ret
      exact ⟨rfl, hB3⟩
set_option maxHeartbeats 2000000 in
set_option maxRecDepth 100000 in
theorem backlog1 (A : Option Addr) (n c : Nat) (d : List Bk) (id : Int) (w : World) (hd : d.length = n) (hn : n ≤ 1000000) (h : Sl w w.heap.size 4 A n c (flatBk d)) (hs : SortB d) (x : Bk) (hx : rowB d id = x) (hok : okU x) (v : Int) (hv : backF x 1 = v) :
    Calls Try.prog 35 #[.slice A n c, .int .i64 id, .int .i64 1] w fun e w' => e = .returned (.int .i64 v) ∧ Below w.heap.size w w' := by
  have HU := Lib.hid (used_any A n c d id w hd hn h hs x hx)
  obtain ⟨a0, a1, b0, b1, c0, c1⟩ := hok
  obtain ⟨q1, hq1⟩ : ∃ q, min x.ub (4611686018427387904 - 0) = q := ⟨_, rfl⟩
  obtain ⟨s1, hs1⟩ : ∃ s, 0 + q1 = s := ⟨_, rfl⟩
  have r1 : 0 ≤ s1 ∧ s1 ≤ 4611686018427387904 := by omega
  have z1 : 0 ≤ q1 ∧ q1 ≤ 4611686018427387904 := by omega
  obtain ⟨q2, hq2⟩ : ∃ q, min x.uc (4611686018427387904 - s1) = q := ⟨_, rfl⟩
  obtain ⟨s2, hs2⟩ : ∃ s, s1 + q2 = s := ⟨_, rfl⟩
  have r2 : 0 ≤ s2 ∧ s2 ≤ 4611686018427387904 := by omega
  have z2 : 0 ≤ q2 ∧ q2 ≤ 4611686018427387904 := by omega
  have hvs : v = s2 := by rw [← hv]; unfold backF capAdd; simp; omega
  obtain ⟨r1a, r1b⟩ := r1
  obtain ⟨z1a, z1b⟩ := z1
  obtain ⟨r2a, r2b⟩ := r2
  obtain ⟨z2a, z2b⟩ := z2
  rw [hvs]
  clear hv hvs hx hs h hd
  have HQ1 := Lib.hid hq1
  have HS1 := Lib.hid hs1
  clear hq1 hs1
  have HQ2 := Lib.hid hq2
  have HS2 := Lib.hid hs2
  clear hq2 hs2
  go_enter Try.func35, Try.ntmps35
  go_wp2_with fail
  refine (class_any 1 w true (by decide +kernel)).mono ?_
  rintro e w1 ⟨rfl, rfl⟩
  go_wp2_with fail
  refine HU.out.mono ?_
  rintro e w2 ⟨rfl, hB⟩
  have hX := Blok.new w2 53 #[.int .i64 x.ua, .int .i64 x.ub, .int .i64 x.uc]
  have hB3 : Below w.heap.size w (w2.alloc (.cells #[.int .i64 x.ua, .int .i64 x.ub, .int .i64 x.uc] 53)) := hB.alloc hB.size _
  go_wp2_with fail
  generalize w2.alloc (.cells #[.int .i64 x.ua, .int .i64 x.ub, .int .i64 x.uc] 53) = w3 at *
  generalize w2.heap.size = bb at *
  have x0 : w3.cell? ⟨bb, 0, none⟩ = some (.int .i64 x.ua) := hX.cell 0
  have x1 : w3.cell? ⟨bb, 1, none⟩ = some (.int .i64 x.ub) := hX.cell 1
  have x2 : w3.cell? ⟨bb, 2, none⟩ = some (.int .i64 x.uc) := hX.cell 2
  have hlt := hX.lt
  clear hX hB HU
  go_loop [8, 20] (fun tv iv => (iv = .int .i64 0 ∧ tv = .int .i64 0) ∨ (iv = .int .i64 1 ∧ tv = .int .i64 s1) ∨ (iv = .int .i64 2 ∧ tv = .int .i64 s2)) (fun _ iv => 2 - (intOf iv).toNat)
  case atStart => exact .inl ⟨rfl, rfl⟩
  case round =>
    rcases hrel with ⟨rfl, rfl⟩ | ⟨rfl, rfl⟩ | ⟨rfl, rfl⟩
    · have e1 := HQ1.out
      have e2 := HS1.out
      have HE := Lib.hid (And.intro e1 e2)
      clear e1 e2
      go_wp2
      go_round
      case rel =>
        have e1 := HE.out.1
        have e2 := HE.out.2
        exact .inr (.inl ⟨rfl, congrArg (Value.int .i64) (by first | omega | (split <;> omega))⟩)
      case measure => simp [intOf]
    · have e1 := HQ2.out
      have e2 := HS2.out
      have HE := Lib.hid (And.intro e1 e2)
      clear e1 e2
      go_wp2
      go_round
      case rel =>
        have e1 := HE.out.1
        have e2 := HE.out.2
        exact .inr (.inr (⟨rfl, congrArg (Value.int .i64) (by first | omega | (split <;> omega))⟩))
      case measure => simp [intOf]
    · go_wp2
      go_ret
      exact ⟨rfl, hB3⟩
set_option maxHeartbeats 2000000 in
set_option maxRecDepth 100000 in
theorem backlog2 (A : Option Addr) (n c : Nat) (d : List Bk) (id : Int) (w : World) (hd : d.length = n) (hn : n ≤ 1000000) (h : Sl w w.heap.size 4 A n c (flatBk d)) (hs : SortB d) (x : Bk) (hx : rowB d id = x) (hok : okU x) (v : Int) (hv : backF x 2 = v) :
    Calls Try.prog 35 #[.slice A n c, .int .i64 id, .int .i64 2] w fun e w' => e = .returned (.int .i64 v) ∧ Below w.heap.size w w' := by
  have HU := Lib.hid (used_any A n c d id w hd hn h hs x hx)
  obtain ⟨a0, a1, b0, b1, c0, c1⟩ := hok
  obtain ⟨q1, hq1⟩ : ∃ q, min x.uc (4611686018427387904 - 0) = q := ⟨_, rfl⟩
  obtain ⟨s1, hs1⟩ : ∃ s, 0 + q1 = s := ⟨_, rfl⟩
  have r1 : 0 ≤ s1 ∧ s1 ≤ 4611686018427387904 := by omega
  have z1 : 0 ≤ q1 ∧ q1 ≤ 4611686018427387904 := by omega
  have hvs : v = s1 := by rw [← hv]; unfold backF capAdd; simp; omega
  obtain ⟨r1a, r1b⟩ := r1
  obtain ⟨z1a, z1b⟩ := z1
  rw [hvs]
  clear hv hvs hx hs h hd
  have HQ1 := Lib.hid hq1
  have HS1 := Lib.hid hs1
  clear hq1 hs1
  go_enter Try.func35, Try.ntmps35
  go_wp2_with fail
  refine (class_any 2 w true (by decide +kernel)).mono ?_
  rintro e w1 ⟨rfl, rfl⟩
  go_wp2_with fail
  refine HU.out.mono ?_
  rintro e w2 ⟨rfl, hB⟩
  have hX := Blok.new w2 53 #[.int .i64 x.ua, .int .i64 x.ub, .int .i64 x.uc]
  have hB3 : Below w.heap.size w (w2.alloc (.cells #[.int .i64 x.ua, .int .i64 x.ub, .int .i64 x.uc] 53)) := hB.alloc hB.size _
  go_wp2_with fail
  generalize w2.alloc (.cells #[.int .i64 x.ua, .int .i64 x.ub, .int .i64 x.uc] 53) = w3 at *
  generalize w2.heap.size = bb at *
  have x0 : w3.cell? ⟨bb, 0, none⟩ = some (.int .i64 x.ua) := hX.cell 0
  have x1 : w3.cell? ⟨bb, 1, none⟩ = some (.int .i64 x.ub) := hX.cell 1
  have x2 : w3.cell? ⟨bb, 2, none⟩ = some (.int .i64 x.uc) := hX.cell 2
  have hlt := hX.lt
  clear hX hB HU
  go_loop [8, 20] (fun tv iv => (iv = .int .i64 0 ∧ tv = .int .i64 0) ∨ (iv = .int .i64 1 ∧ tv = .int .i64 s1)) (fun _ iv => 1 - (intOf iv).toNat)
  case atStart => exact .inl ⟨rfl, rfl⟩
  case round =>
    rcases hrel with ⟨rfl, rfl⟩ | ⟨rfl, rfl⟩
    · have e1 := HQ1.out
      have e2 := HS1.out
      have HE := Lib.hid (And.intro e1 e2)
      clear e1 e2
      go_wp2
      go_round
      case rel =>
        have e1 := HE.out.1
        have e2 := HE.out.2
        exact .inr (⟨rfl, congrArg (Value.int .i64) (by first | omega | (split <;> omega))⟩)
      case measure => simp [intOf]
    · go_wp2
      go_ret
      exact ⟨rfl, hB3⟩
theorem backlog_any (A : Option Addr) (n c : Nat) (d : List Bk) (id cl : Int) (w : World) (hd : d.length = n) (hn : n ≤ 1000000) (h : Sl w w.heap.size 4 A n c (flatBk d)) (hs : SortB d) (x : Bk) (hx : rowB d id = x) (hok : okU x) (v : Int) (hv : backF x cl = v) :
    Calls Try.prog 35 #[.slice A n c, .int .i64 id, .int .i64 cl] w fun e w' => e = .returned (.int .i64 v) ∧ Below w.heap.size w w' := by
  by_cases h0 : cl = 0
  · subst h0; exact backlog0 A n c d id w hd hn h hs x hx hok v hv
  · by_cases h1 : cl = 1
    · subst h1; exact backlog1 A n c d id w hd hn h hs x hx hok v hv
    · by_cases h2 : cl = 2
      · subst h2; exact backlog2 A n c d id w hd hn h hs x hx hok v hv
      · have hv0 : v = 0 := by rw [← hv]; unfold backF; rw [if_neg h0, if_neg h1, if_neg h2]
        have hb : inB cl 0 2 = false := by unfold inB; simp; omega
        have HB := Lib.hid hb
        subst hv0
        clear hv hb h0 h1 h2 hx hs h hd
        go_enter Try.func35, Try.ntmps35
        go_wp2_with fail
        refine (class_any cl w false HB.out).mono ?_
        rintro e w1 ⟨rfl, rfl⟩
        go_wp2
        go_ret
        exact ⟨rfl, Below.refl _ _⟩
end Go.Proofs.Ytfdphpmcgidmiaa.Kb

/- Package ledger: Room, Same, more. No condition. -/
namespace Go.Proofs.Ytfdphpmcgidmiaa.Kb
open Go.ChangeShapes Go.WideShapes Go.ChangeAt Go.RowKit Go.Sort
set_option linter.unusedSimpArgs false
set_option linter.unusedVariables false
structure Ct where
  id : Int
  fr : Int
  tn : Int
  st : Int
  en : Int
  rt : Int
def volC (c : Ct) : Int := volumeF c.id c.fr c.tn c.st c.en c.rt
def okC (c : Ct) : Bool := contactB c.id c.fr c.tn c.st c.en c.rt
theorem volC_ok (c : Ct) : 0 ≤ volC c ∧ volC c ≤ 4611686014132420609 := by
  unfold volC volumeF
  split
  · rename_i h
    have := volume_bounds h
    omega
  · omega
def roomF (c : Ct) (x : Bk) (cl : Int) : Int := if inB cl 0 2 = true then max 0 (volC c - backF x cl) else 0
set_option maxHeartbeats 2000000 in
set_option maxRecDepth 100000 in
theorem room_any (A : Option Addr) (n k : Nat) (d : List Bk) (c : Ct) (cl : Int) (w : World) (hd : d.length = n) (hn : n ≤ 1000000) (h : Sl w w.heap.size 4 A n k (flatBk d)) (hs : SortB d) (x : Bk) (hx : rowB d c.id = x) (hok : okU x) (v : Int) (hv : roomF c x cl = v) :
    Calls Try.prog 36 #[.slice A n k, .agg #[.int .i64 c.id, .int .i64 c.fr, .int .i64 c.tn, .int .i64 c.st, .int .i64 c.en, .int .i64 c.rt], .int .i64 cl] w fun e w' => e = .returned (.int .i64 v) ∧ Below w.heap.size w w' := by
  have hBa : Below w.heap.size w (w.alloc (.cells #[.int .i64 c.id, .int .i64 c.fr, .int .i64 c.tn, .int .i64 c.st, .int .i64 c.en, .int .i64 c.rt] 28)) := by (repeat (first | exact Below.refl _ _ | refine Below.alloc ?_ (by first | omega | (simp; done) | (simp; omega)) _ | refine Below.setCell ?_ (by first | omega | (simp; done) | (simp; omega)) _ | refine Below.drew ?_))
  have hX := Blok.new w 28 #[.int .i64 c.id, .int .i64 c.fr, .int .i64 c.tn, .int .i64 c.st, .int .i64 c.en, .int .i64 c.rt]
  have hl := h.up hBa
  obtain ⟨b, hb⟩ : ∃ b, inB cl 0 2 = b := ⟨_, rfl⟩
  have HC := Lib.hid hb
  cases b with
  | false =>
    have hv0 : v = 0 := by rw [← hv]; unfold roomF; rw [if_neg (by rw [hb]; simp)]
    subst hv0
    clear hv hb hl hX h hs hx
    go_enter Try.func36, Try.ntmps36
    go_wp2_with fail
    refine (class_any cl _ false HC.out).mono ?_
    rintro e w1 ⟨rfl, rfl⟩
    go_wp2
    go_ret
    exact ⟨rfl, hBa⟩
  | true =>
    obtain ⟨p, hp⟩ : ∃ p, volC c = p := ⟨_, rfl⟩
    obtain ⟨q, hq⟩ : ∃ q, backF x cl = q := ⟨_, rfl⟩
    have hp1 := volC_ok c
    have hq1 := backF_ok hok cl
    rw [hp] at hp1
    rw [hq] at hq1
    have hvm : v = max 0 (p - q) := by rw [← hv]; unfold roomF; rw [if_pos hb, hp, hq]
    obtain ⟨p1, p2⟩ := hp1
    obtain ⟨q1, q2⟩ := hq1
    have hvol : volumeF c.id c.fr c.tn c.st c.en c.rt = p := hp
    have HP := Lib.hid hvol
    clear hvol
    have HVM := Lib.hid hvm
    have ht : ∀ w', Below (w.alloc (.cells #[.int .i64 c.id, .int .i64 c.fr, .int .i64 c.tn, .int .i64 c.st, .int .i64 c.en, .int .i64 c.rt] 28)).heap.size (w.alloc (.cells #[.int .i64 c.id, .int .i64 c.fr, .int .i64 c.tn, .int .i64 c.st, .int .i64 c.en, .int .i64 c.rt] 28)) w' → Calls Try.prog 35 #[.slice A n k, .int .i64 c.id, .int .i64 cl] w' fun e w'' => e = .returned (.int .i64 q) ∧ Below w'.heap.size w' w'' :=
      fun w' hb' => backlog_any A n k d c.id cl w' hd hn (hl.up hb') hs x hx hok q hq
    have HT := Lib.hid ht
    clear hv hb hl h hs hx hp hq hvm ht hd
    go_enter Try.func36, Try.ntmps36
    go_wp2_with fail
    generalize w.alloc (.cells #[.int .i64 c.id, .int .i64 c.fr, .int .i64 c.tn, .int .i64 c.st, .int .i64 c.en, .int .i64 c.rt] 28) = w2 at *
    refine (class_any cl _ true HC.out).mono ?_
    rintro e w3 ⟨rfl, rfl⟩
    have hs2 := hBa.size
    have c0 : w2.cell? ⟨w.heap.size, 0, none⟩ = some (.int .i64 c.id) := hX.cell 0
    have c1 : w2.cell? ⟨w.heap.size, 1, none⟩ = some (.int .i64 c.fr) := hX.cell 1
    have c2 : w2.cell? ⟨w.heap.size, 2, none⟩ = some (.int .i64 c.tn) := hX.cell 2
    have c3 : w2.cell? ⟨w.heap.size, 3, none⟩ = some (.int .i64 c.st) := hX.cell 3
    have c4 : w2.cell? ⟨w.heap.size, 4, none⟩ = some (.int .i64 c.en) := hX.cell 4
    have c5 : w2.cell? ⟨w.heap.size, 5, none⟩ = some (.int .i64 c.rt) := hX.cell 5
    have hlt := hX.lt
    clear hX
    go_wp2_with fail
    have q_c0 := fun d os => cell_regrown c0 d os
    have q_c1 := fun d os => cell_regrown c1 d os
    have q_c2 := fun d os => cell_regrown c2 d os
    have q_c3 := fun d os => cell_regrown c3 d os
    have q_c4 := fun d os => cell_regrown c4 d os
    have q_c5 := fun d os => cell_regrown c5 d os
    try simp only [List.append]
    first | refine wp_region_text_below ?_ | refine wp_region_quiet_below (by kernel_rfl) (by kernel_rfl) ?_
    repeat (go_big_quiet_step ((first | (go_at_call 29; with_reducible exact Calls.regrown_of (volume_is p HP.out _)) | (go_at_call 35; with_reducible exact Calls.regrown_of (HT.out _ (below_regrown _ _ _))))))
    refine wpQuiet_nil ?_
    intro _ hqw
    obtain ⟨pq, hqw⟩ := hqw
    subst hqw
    clear q_c0 q_c1 q_c2 q_c3 q_c4 q_c5
    have hB2 := hBa.trans ((below_regrown w2 pq.d pq.os).mono hs2)
    clear c0 c1 c2 c3 c4 c5 hBa HT
    generalize grow (redrawn w2 pq.d) pq.os = wq at *
    go_wp2
    all_goals go_ret
    all_goals exact ⟨congrArg (fun t => Ending.returned (.int .i64 t)) (by have := HVM.out; omega), hB2⟩
def bump (x : Bk) (cl sz : Int) : Bk := if cl = 0 then ⟨x.id, x.ua + sz, x.ub, x.uc⟩ else if cl = 1 then ⟨x.id, x.ua, x.ub + sz, x.uc⟩ else ⟨x.id, x.ua, x.ub, x.uc + sz⟩
def zeroU (y : Bk) : Bool := decide (y.ua = 0 ∧ y.ub = 0 ∧ y.uc = 0)
/-- The ledger with that row in its place, or without it, if it is of nothing. -/
def moreB (d : List Bk) (id : Int) (y : Bk) : List Bk := d.take (pl d id) ++ (if zeroU y = true then [] else [y]) ++ d.drop (pl d id + if hit d id = true then 1 else 0)
theorem rowB_id {d : List Bk} {id : Int} (hs : SortB d) : (rowB d id).id = id := by
  unfold rowB
  split
  · rename_i h
    exact (hit_at hs h).2
  · rfl
end Go.Proofs.Ytfdphpmcgidmiaa.Kb

/- Package ledger: Book, Release. No condition. -/
namespace Go.Proofs.Ytfdphpmcgidmiaa.Kb
open Go.ChangeShapes Go.WideShapes Go.ChangeAt Go.RowKit Go.Sort
set_option linter.unusedSimpArgs false
set_option linter.unusedVariables false
def getU (x : Bk) (cl : Int) : Int := if cl = 0 then x.ua else if cl = 1 then x.ub else x.uc
set_option maxRecDepth 100000 in
theorem index3 (a b c : Int) (k : Nat) (hk : k < 3) (w : World) : (Instr.index 53 (.agg #[.int .i64 a, .int .i64 b, .int .i64 c]) (.int .i64 k)).run Try.prog w = .ok (if k = 0 then .int .i64 a else if k = 1 then .int .i64 b else .int .i64 c) w := by
  have u3 := Try.underlying53
  have z3 := Try.sizeOf3
  have a3 := Try.isAgg3
  rcases (by omega : k = 0 ∨ k = 1 ∨ k = 2) with rfl | rfl | rfl
  all_goals
    unfold Instr.index
    go_simp
theorem index3_0 (a b c : Int) (w : World) : (Instr.index 53 (.agg #[.int .i64 a, .int .i64 b, .int .i64 c]) (.int .i64 0)).run Try.prog w = .ok (.int .i64 a) w := index3 a b c 0 (by decide) w
theorem index3_1 (a b c : Int) (w : World) : (Instr.index 53 (.agg #[.int .i64 a, .int .i64 b, .int .i64 c]) (.int .i64 1)).run Try.prog w = .ok (.int .i64 b) w := index3 a b c 1 (by decide) w
theorem index3_2 (a b c : Int) (w : World) : (Instr.index 53 (.agg #[.int .i64 a, .int .i64 b, .int .i64 c]) (.int .i64 2)).run Try.prog w = .ok (.int .i64 c) w := index3 a b c 2 (by decide) w
theorem class_cases {cl : Int} (h : inB cl 0 2 = true) : cl = 0 ∨ cl = 1 ∨ cl = 2 := by
  unfold inB at h
  simp at h
  omega
def bookB (d : List Bk) (c : Ct) (cl sz : Int) : Bool := okC c && (inB cl 0 2 && inB sz 0 (roomF c (rowB d c.id) cl))
theorem capAdd_ge {t n : Int} (h1 : 0 ≤ t) (h2 : t ≤ 4611686018427387904) (h3 : 0 ≤ n) (h4 : n ≤ 4611686018427387904) : t ≤ capAdd t n ∧ n ≤ capAdd t n := by unfold capAdd; omega
theorem back_ge {x : Bk} (h : okU x) {cl : Int} (hc : inB cl 0 2 = true) : getU x cl ≤ backF x cl := by
  obtain ⟨h1, h2, h3, h4, h5, h6⟩ := h
  have a0 := capAdd_ok (t := 0) (n := x.ua) (by omega) (by omega) h1
  have a1 := capAdd_ok (t := 0) (n := x.ub) (by omega) (by omega) h3
  have b1 := capAdd_ok a0.1 a0.2 h3
  have g0 := capAdd_ge (t := 0) (n := x.ua) (by omega) (by omega) h1 h2
  have g1 := capAdd_ge (t := 0) (n := x.ub) (by omega) (by omega) h3 h4
  have g2 := capAdd_ge (t := 0) (n := x.uc) (by omega) (by omega) h5 h6
  have g3 := capAdd_ge a0.1 a0.2 h3 h4
  have g4 := capAdd_ge b1.1 b1.2 h5 h6
  have g5 := capAdd_ge a1.1 a1.2 h5 h6
  rcases class_cases hc with rfl | rfl | rfl
  · simp only [getU, backF, if_true]; omega
  · simp [getU, backF]; omega
  · simp [getU, backF]; omega
theorem getU_ok {x : Bk} (h : okU x) (cl : Int) : 0 ≤ getU x cl ∧ getU x cl ≤ 4611686018427387904 := by
  obtain ⟨h1, h2, h3, h4, h5, h6⟩ := h
  unfold getU
  split
  · omega
  · split <;> omega
def relB (d : List Bk) (id cl sz : Int) : Bool := inB cl 0 2 && inB sz 0 (getU (rowB d id) cl)
end Go.Proofs.Ytfdphpmcgidmiaa.Kb

/- Package ledger: Right. No condition. -/
namespace Go.Proofs.Ytfdphpmcgidmiaa.Kb
open Go.ChangeShapes Go.WideShapes Go.ChangeAt Go.RowKit Go.Sort
set_option linter.unusedSimpArgs false
set_option linter.unusedVariables false
def inM (v : Int) : Bool := inB v 0 4611686018427387904
def stepR (d : List Bk) (i : Nat) : Bool := inB (gBk d i).id 1 1048576 && ((i == 0 || decide ((gBk d (i - 1)).id < (gBk d i).id)) && (!zeroU (gBk d i) && (inM (gBk d i).ua && (inM (gBk d i).ub && inM (gBk d i).uc))))
def rightB (d : List Bk) : Bool := (List.range d.length).all (stepR d)
theorem rightB_true {d : List Bk} : rightB d = true ↔ ∀ i, i < d.length → stepR d i = true := by
  simp [rightB, List.all_eq_true]
theorem rightB_false {d : List Bk} {i : Nat} (hi : i < d.length) (h : stepR d i = false) : rightB d = false := by
  rw [Bool.eq_false_iff]
  intro e
  rw [rightB_true.1 e i hi] at h
  cases h
set_option maxHeartbeats 4000000 in
set_option maxRecDepth 100000 in
theorem right_any (A : Option Addr) (n c : Nat) (d : List Bk) (w : World) (hd : d.length = n) (hn : n ≤ 1000000) (h : Sl w w.heap.size 4 A n c (flatBk d)) :
    Calls Try.prog 25 #[.slice A n c] w fun e w' => e = .returned (.bool (rightB d)) ∧ Below w.heap.size w w' := by
  have HD := Lib.hid hd
  have h0 := h
  clear hd h
  go_enter Try.func25, Try.ntmps25
  go_wp2
  go_loopw [9] (fun i wr => ∃ k : Nat, k ≤ n ∧ i = .int .i64 k ∧ Hid (∀ j, j < k → stepR d j = true) ∧ Below w.heap.size w wr ∧ Hid (Sl wr w.heap.size 4 A n c (flatBk d))) (fun i _ => n - (intOf i).toNat)
  case atStart => exact ⟨0, by omega, rfl, (fun j hj => by omega), Below.refl _ _, h0⟩
  case round =>
    clear h0
    obtain ⟨k, hk, rfl, HQ, hB, HL⟩ := hrel
    by_cases hkn : k < n
    · obtain ⟨ad, rfl, hab, c0, c1, c2, c3⟩ := HL.out.lst.atBk HD.out hkn
      have hsw := hB.size
      obtain ⟨x, hx⟩ : ∃ x, gBk d k = x := ⟨_, rfl⟩
      rw [hx] at c0 c1 c2 c3
      have HX := Lib.hid hx
      clear hx
      have hBa : Below wr.heap.size wr (wr.alloc (.cells #[.int .i64 x.id, .int .i64 x.ua, .int .i64 x.ub, .int .i64 x.uc] 55)) := by (repeat (first | exact Below.refl _ _ | refine Below.alloc ?_ (by first | omega | (simp; done) | (simp; omega)) _ | refine Below.setCell ?_ (by first | omega | (simp; done) | (simp; omega)) _ | refine Below.drew ?_))
      have hX := Blok.new wr 55 #[.int .i64 x.id, .int .i64 x.ua, .int .i64 x.ub, .int .i64 x.uc]
      have hB2 := hB.trans (hBa.mono hB.size)
      have hL2 := HL.out.below (hBa.mono hB.size)
      go_wp2_with fail
      clear c0 c1 c2 c3 hB HL hBa
      generalize wr.alloc (.cells #[.int .i64 x.id, .int .i64 x.ua, .int .i64 x.ub, .int .i64 x.uc] 55) = w3 at *
      generalize wr.heap.size = bb at *
      have hs3 := hB2.size
      have hbl := hX.lt
      have habw : ad.block < w3.heap.size := by omega
      obtain ⟨p, hp⟩ : ∃ p, inB x.id 1 1048576 = p := ⟨_, rfl⟩
      obtain ⟨z, hz⟩ : ∃ z, zeroU x = z := ⟨_, rfl⟩
      obtain ⟨qa, hqa⟩ : ∃ b, inM x.ua = b := ⟨_, rfl⟩
      obtain ⟨qb, hqb⟩ : ∃ b, inM x.ub = b := ⟨_, rfl⟩
      obtain ⟨qc, hqc⟩ : ∃ b, inM x.uc = b := ⟨_, rfl⟩
      have hst : stepR d k = (p && ((k == 0 || decide ((gBk d (k - 1)).id < x.id)) && (!z && (qa && (qb && qc))))) := by unfold stepR; rw [HX.out, hp, hz, hqa, hqb, hqc]
      have HP := Lib.hid hp
      have HZ := Lib.hid hz
      have hqa' : inB x.ua 0 4611686018427387904 = qa := hqa
      have hqb' : inB x.ub 0 4611686018427387904 = qb := hqb
      have hqc' : inB x.uc 0 4611686018427387904 = qc := hqc
      have HA := Lib.hid hqa'
      have HBb := Lib.hid hqb'
      have HC := Lib.hid hqc'
      have HST := Lib.hid hst
      have hzz := hz
      unfold zeroU at hzz
      have hrun := eql3 x.ua x.ub x.uc 0 0 0
      rw [hzz] at hrun
      clear hp hz hqa hqb hqc hqa' hqb' hqc' hst hzz
      have x0 : w3.cell? ⟨bb, 0, none⟩ = some (.int .i64 x.id) := hX.cell 0
      have x1 : w3.cell? ⟨bb, 1, none⟩ = some (.int .i64 x.ua) := hX.cell 1
      have x2 : w3.cell? ⟨bb, 2, none⟩ = some (.int .i64 x.ub) := hX.cell 2
      have x3 : w3.cell? ⟨bb, 3, none⟩ = some (.int .i64 x.uc) := hX.cell 3

      cases p with
      | false =>
        have hf : rightB d = false := rightB_false (i := k) (by have := HD.out; omega) (by rw [HST.out]; rfl)
        have HF := Lib.hid hf
        clear hf
        have HL2 := Lib.hid hL2
        clear hL2
        clear hX
        have q_x0 := fun d os => cell_regrown x0 d os
        have q_x1 := fun d os => cell_regrown x1 d os
        have q_x2 := fun d os => cell_regrown x2 d os
        have q_x3 := fun d os => cell_regrown x3 d os
        try simp only [List.append]
        first | refine wp_region_text_below ?_ | refine wp_region_quiet_below (by kernel_rfl) (by kernel_rfl) ?_
        repeat (go_big_quiet_step (((go_at_call 48; with_reducible exact Calls.regrown_same (in_is false HP.out _)))))
        refine wpQuiet_nil ?_
        intro _ hqw
        obtain ⟨pq, hqw⟩ := hqw
        subst hqw
        clear q_x0 q_x1 q_x2 q_x3
        have hbel := below_regrown w3 pq.d pq.os
        replace hB2 := hB2.trans (hbel.mono hs3)
        replace HL2 := Lib.hid (HL2.out.below (hbel.mono hs3))
        clear hbel x0 x1 x2 x3
        generalize grow (redrawn w3 pq.d) pq.os = wq at *
        go_wp2
        go_ret
        exact ⟨by rw [HF.out]; rfl, hB2⟩
      | true =>
        have hcase : k = 0 ∨ ∃ p, k = p + 1 := by cases k with | zero => exact .inl rfl | succ p => exact .inr ⟨p, rfl⟩
        rcases hcase with rfl | ⟨p, rfl⟩
        · have hd0 : decide (((0 : Nat) : Int) > 0) = false := by simp
          cases z with
          | true =>
            have hf : rightB d = false := rightB_false (i := 0) (by have := HD.out; omega) (by rw [HST.out]; simp)
            have HF := Lib.hid hf
            clear hf
            have HL2 := Lib.hid hL2
            clear hL2
            clear hX
            have q_x0 := fun d os => cell_regrown x0 d os
            have q_x1 := fun d os => cell_regrown x1 d os
            have q_x2 := fun d os => cell_regrown x2 d os
            have q_x3 := fun d os => cell_regrown x3 d os
            try simp only [List.append]
            first | refine wp_region_text_below ?_ | refine wp_region_quiet_below (by kernel_rfl) (by kernel_rfl) ?_
            repeat (go_big_quiet_step (((go_at_call 48; with_reducible exact Calls.regrown_same (in_is true HP.out _)))))
            refine wpQuiet_nil ?_
            intro _ hqw
            obtain ⟨pq, hqw⟩ := hqw
            subst hqw
            clear q_x0 q_x1 q_x2 q_x3
            have hbel := below_regrown w3 pq.d pq.os
            replace hB2 := hB2.trans (hbel.mono hs3)
            replace HL2 := Lib.hid (HL2.out.below (hbel.mono hs3))
            clear hbel x0 x1 x2 x3
            generalize grow (redrawn w3 pq.d) pq.os = wq at *
            go_wp2
            go_ret
            exact ⟨by rw [HF.out]; rfl, hB2⟩
          | false =>
            replace HST : Hid (stepR d 0 = (qa && (qb && qc))) := Lib.hid (by rw [HST.out]; simp)
            have HL2 := Lib.hid hL2
            clear hL2
            have q_x0 := fun d os => cell_regrown x0 d os
            have q_x1 := fun d os => cell_regrown x1 d os
            have q_x2 := fun d os => cell_regrown x2 d os
            have q_x3 := fun d os => cell_regrown x3 d os
            try simp only [List.append]
            first | refine wp_region_text_below ?_ | refine wp_region_quiet_below (by kernel_rfl) (by kernel_rfl) ?_
            repeat (go_big_quiet_step (((go_at_call 48; with_reducible exact Calls.regrown_same (in_is true HP.out _)))))
            refine wpQuiet_nil ?_
            intro _ hqw
            obtain ⟨pq, hqw⟩ := hqw
            subst hqw
            clear q_x0 q_x1 q_x2 q_x3
            have hbel := below_regrown w3 pq.d pq.os
            replace hB2 := hB2.trans (hbel.mono hs3)
            replace HL2 := Lib.hid (HL2.out.below (hbel.mono hs3))
            replace hX := hX.below hbel hbl
            clear hbel x0 x1 x2 x3
            generalize grow (redrawn w3 pq.d) pq.os = wq at *
            have x0 : wq.cell? ⟨bb, 0, none⟩ = some (.int .i64 x.id) := hX.cell 0
            have x1 : wq.cell? ⟨bb, 1, none⟩ = some (.int .i64 x.ua) := hX.cell 1
            have x2 : wq.cell? ⟨bb, 2, none⟩ = some (.int .i64 x.ub) := hX.cell 2
            have x3 : wq.cell? ⟨bb, 3, none⟩ = some (.int .i64 x.uc) := hX.cell 3
            have hbl2 := hX.lt
            go_wp2
            clear x0 x1 x2 x3
            try simp only [Int.natCast_add, Int.natCast_zero, Int.natCast_one, Nat.zero_mul, Addr.add_zero']
            go_loop [41] (fun iv => iv = .int .i64 0 ∨ (iv = .int .i64 1 ∧ Hid (qa = true)) ∨ (iv = .int .i64 2 ∧ Hid (qa = true) ∧ Hid (qb = true)) ∨ (iv = .int .i64 3 ∧ Hid (qa = true) ∧ Hid (qb = true) ∧ Hid (qc = true))) (fun iv => 3 - (intOf iv).toNat)
            case atStart => exact .inl rfl
            case round =>
              rcases hrel with rfl | ⟨rfl, h1⟩ | ⟨rfl, h1, h2⟩ | ⟨rfl, h1, h2, h3⟩
              · go_wp2_with fail
                rw [index3_0]
                go_wp2_with fail
                cases qa with
                | false =>
                  have hf : rightB d = false := rightB_false (i := 0) (by have := HD.out; omega) (by rw [HST.out]; simp)
                  have HF := Lib.hid hf
                  clear hf
                  refine (in_is false HA.out _).mono ?_
                  rintro e w7 ⟨rfl, rfl⟩
                  go_wp2
                  go_ret
                  exact ⟨by rw [HF.out]; rfl, hB2⟩
                | true =>
                  refine (in_is true HA.out _).mono ?_
                  rintro e w7 ⟨rfl, rfl⟩
                  go_wp2
                  go_round
                  case rel => exact .inr (.inl ⟨rfl, trivial⟩)
                  case measure => simp [intOf]
              · go_wp2_with fail
                rw [index3_1]
                go_wp2_with fail
                cases qb with
                | false =>
                  have hf : rightB d = false := rightB_false (i := 0) (by have := HD.out; omega) (by rw [HST.out]; simp)
                  have HF := Lib.hid hf
                  clear hf
                  refine (in_is false HBb.out _).mono ?_
                  rintro e w7 ⟨rfl, rfl⟩
                  go_wp2
                  go_ret
                  exact ⟨by rw [HF.out]; rfl, hB2⟩
                | true =>
                  refine (in_is true HBb.out _).mono ?_
                  rintro e w7 ⟨rfl, rfl⟩
                  go_wp2
                  go_round
                  case rel => exact .inr (.inr (.inl ⟨rfl, h1, trivial⟩))
                  case measure => simp [intOf]
              · go_wp2_with fail
                rw [index3_2]
                go_wp2_with fail
                cases qc with
                | false =>
                  have hf : rightB d = false := rightB_false (i := 0) (by have := HD.out; omega) (by rw [HST.out]; simp)
                  have HF := Lib.hid hf
                  clear hf
                  refine (in_is false HC.out _).mono ?_
                  rintro e w7 ⟨rfl, rfl⟩
                  go_wp2
                  go_ret
                  exact ⟨by rw [HF.out]; rfl, hB2⟩
                | true =>
                  refine (in_is true HC.out _).mono ?_
                  rintro e w7 ⟨rfl, rfl⟩
                  go_wp2
                  go_round
                  case rel => exact .inr (.inr (.inr ⟨rfl, h1, h2, trivial⟩))
                  case measure => simp [intOf]
              · have hN : ∀ j, j < 0 + 1 → stepR d j = true := fun j hj => by
                  by_cases e : j = 0
                  · rw [e, HST.out, h1.out, h2.out, h3.out]; rfl
                  · exact HQ.out j (by omega)
                have HN := Lib.hid hN
                clear hN
                go_wp2
                go_roundw
                case rel => exact ⟨0 + 1, by omega, by go_num, HN.out, hB2, HL2.out⟩
                case measure => simp [intOf]; omega
        · have hd0 : decide (((p + 1 : Nat) : Int) > 0) = true := decide_eq_true (by omega)
          obtain ⟨ad', hae, hab', z0, z1, z2, z3⟩ := hL2.lst.atBk HD.out (k := p) (by omega)
          injection hae with hae
          subst hae
          obtain ⟨y, hy⟩ : ∃ y, gBk d p = y := ⟨_, rfl⟩
          rw [hy] at z0 z1 z2 z3
          have hst2 : stepR d (p + 1) = (decide (y.id < x.id) && (!z && (qa && (qb && qc)))) := by rw [HST.out, Nat.add_sub_cancel, hy]; simp
          replace HST := Lib.hid hst2
          clear hst2 hy
          by_cases hlt : y.id < x.id
          · have hdy : decide (x.id ≤ y.id) = false := by simp; omega
            replace HST : Hid (stepR d (p + 1) = (!z && (qa && (qb && qc)))) := Lib.hid (by rw [HST.out, decide_eq_true hlt]; simp)
            clear hlt
            cases z with
            | true =>
              have hf : rightB d = false := rightB_false (i := p + 1) (by have := HD.out; omega) (by rw [HST.out]; simp)
              have HF := Lib.hid hf
              clear hf
              have HL2 := Lib.hid hL2
              clear hL2
              clear hX
              have q_x0 := fun d os => cell_regrown x0 d os
              have q_x1 := fun d os => cell_regrown x1 d os
              have q_x2 := fun d os => cell_regrown x2 d os
              have q_x3 := fun d os => cell_regrown x3 d os
              have q_z0 := fun d os => cell_regrown z0 d os
              have q_z1 := fun d os => cell_regrown z1 d os
              have q_z2 := fun d os => cell_regrown z2 d os
              have q_z3 := fun d os => cell_regrown z3 d os
              try simp only [List.append]
              first | refine wp_region_text_below ?_ | refine wp_region_quiet_below (by kernel_rfl) (by kernel_rfl) ?_
              repeat (go_big_quiet_step (((go_at_call 48; with_reducible exact Calls.regrown_same (in_is true HP.out _)))))
              refine wpQuiet_nil ?_
              intro _ hqw
              obtain ⟨pq, hqw⟩ := hqw
              subst hqw
              clear q_x0 q_x1 q_x2 q_x3 q_z0 q_z1 q_z2 q_z3
              have hbel := below_regrown w3 pq.d pq.os
              replace hB2 := hB2.trans (hbel.mono hs3)
              replace HL2 := Lib.hid (HL2.out.below (hbel.mono hs3))
              clear hbel x0 x1 x2 x3 z0 z1 z2 z3
              generalize grow (redrawn w3 pq.d) pq.os = wq at *
              go_wp2
              go_ret
              exact ⟨by rw [HF.out]; rfl, hB2⟩
            | false =>
              replace HST : Hid (stepR d (p + 1) = (qa && (qb && qc))) := Lib.hid (by rw [HST.out]; simp)
              have HL2 := Lib.hid hL2
              clear hL2
              have q_x0 := fun d os => cell_regrown x0 d os
              have q_x1 := fun d os => cell_regrown x1 d os
              have q_x2 := fun d os => cell_regrown x2 d os
              have q_x3 := fun d os => cell_regrown x3 d os
              have q_z0 := fun d os => cell_regrown z0 d os
              have q_z1 := fun d os => cell_regrown z1 d os
              have q_z2 := fun d os => cell_regrown z2 d os
              have q_z3 := fun d os => cell_regrown z3 d os
              try simp only [List.append]
              first | refine wp_region_text_below ?_ | refine wp_region_quiet_below (by kernel_rfl) (by kernel_rfl) ?_
              repeat (go_big_quiet_step (((go_at_call 48; with_reducible exact Calls.regrown_same (in_is true HP.out _)))))
              refine wpQuiet_nil ?_
              intro _ hqw
              obtain ⟨pq, hqw⟩ := hqw
              subst hqw
              clear q_x0 q_x1 q_x2 q_x3 q_z0 q_z1 q_z2 q_z3
              have hbel := below_regrown w3 pq.d pq.os
              replace hB2 := hB2.trans (hbel.mono hs3)
              replace HL2 := Lib.hid (HL2.out.below (hbel.mono hs3))
              replace hX := hX.below hbel hbl
              clear hbel x0 x1 x2 x3 z0 z1 z2 z3
              generalize grow (redrawn w3 pq.d) pq.os = wq at *
              have x0 : wq.cell? ⟨bb, 0, none⟩ = some (.int .i64 x.id) := hX.cell 0
              have x1 : wq.cell? ⟨bb, 1, none⟩ = some (.int .i64 x.ua) := hX.cell 1
              have x2 : wq.cell? ⟨bb, 2, none⟩ = some (.int .i64 x.ub) := hX.cell 2
              have x3 : wq.cell? ⟨bb, 3, none⟩ = some (.int .i64 x.uc) := hX.cell 3
              have hbl2 := hX.lt
              go_wp2
              clear x0 x1 x2 x3
              try simp only [Int.natCast_add, Int.natCast_zero, Int.natCast_one, Nat.zero_mul, Addr.add_zero']
              go_loop [41] (fun iv => iv = .int .i64 0 ∨ (iv = .int .i64 1 ∧ Hid (qa = true)) ∨ (iv = .int .i64 2 ∧ Hid (qa = true) ∧ Hid (qb = true)) ∨ (iv = .int .i64 3 ∧ Hid (qa = true) ∧ Hid (qb = true) ∧ Hid (qc = true))) (fun iv => 3 - (intOf iv).toNat)
              case atStart => exact .inl rfl
              case round =>
                rcases hrel with rfl | ⟨rfl, h1⟩ | ⟨rfl, h1, h2⟩ | ⟨rfl, h1, h2, h3⟩
                · go_wp2_with fail
                  rw [index3_0]
                  go_wp2_with fail
                  cases qa with
                  | false =>
                    have hf : rightB d = false := rightB_false (i := p + 1) (by have := HD.out; omega) (by rw [HST.out]; simp)
                    have HF := Lib.hid hf
                    clear hf
                    refine (in_is false HA.out _).mono ?_
                    rintro e w7 ⟨rfl, rfl⟩
                    go_wp2
                    go_ret
                    exact ⟨by rw [HF.out]; rfl, hB2⟩
                  | true =>
                    refine (in_is true HA.out _).mono ?_
                    rintro e w7 ⟨rfl, rfl⟩
                    go_wp2
                    go_round
                    case rel => exact .inr (.inl ⟨rfl, trivial⟩)
                    case measure => simp [intOf]
                · go_wp2_with fail
                  rw [index3_1]
                  go_wp2_with fail
                  cases qb with
                  | false =>
                    have hf : rightB d = false := rightB_false (i := p + 1) (by have := HD.out; omega) (by rw [HST.out]; simp)
                    have HF := Lib.hid hf
                    clear hf
                    refine (in_is false HBb.out _).mono ?_
                    rintro e w7 ⟨rfl, rfl⟩
                    go_wp2
                    go_ret
                    exact ⟨by rw [HF.out]; rfl, hB2⟩
                  | true =>
                    refine (in_is true HBb.out _).mono ?_
                    rintro e w7 ⟨rfl, rfl⟩
                    go_wp2
                    go_round
                    case rel => exact .inr (.inr (.inl ⟨rfl, h1, trivial⟩))
                    case measure => simp [intOf]
                · go_wp2_with fail
                  rw [index3_2]
                  go_wp2_with fail
                  cases qc with
                  | false =>
                    have hf : rightB d = false := rightB_false (i := p + 1) (by have := HD.out; omega) (by rw [HST.out]; simp)
                    have HF := Lib.hid hf
                    clear hf
                    refine (in_is false HC.out _).mono ?_
                    rintro e w7 ⟨rfl, rfl⟩
                    go_wp2
                    go_ret
                    exact ⟨by rw [HF.out]; rfl, hB2⟩
                  | true =>
                    refine (in_is true HC.out _).mono ?_
                    rintro e w7 ⟨rfl, rfl⟩
                    go_wp2
                    go_round
                    case rel => exact .inr (.inr (.inr ⟨rfl, h1, h2, trivial⟩))
                    case measure => simp [intOf]
                · have hN : ∀ j, j < p + 1 + 1 → stepR d j = true := fun j hj => by
                    by_cases e : j = p + 1
                    · rw [e, HST.out, h1.out, h2.out, h3.out]; rfl
                    · exact HQ.out j (by omega)
                  have HN := Lib.hid hN
                  clear hN
                  go_wp2
                  go_roundw
                  case rel => exact ⟨p + 1 + 1, by omega, by go_num, HN.out, hB2, HL2.out⟩
                  case measure => simp [intOf]; omega
          · have hdy : decide (x.id ≤ y.id) = true := by simp; omega
            have hf : rightB d = false := rightB_false (i := p + 1) (by have := HD.out; omega) (by rw [HST.out]; simp [hlt])
            have HF := Lib.hid hf
            clear hf
            have HL2 := Lib.hid hL2
            clear hL2
            clear hX
            have q_x0 := fun d os => cell_regrown x0 d os
            have q_x1 := fun d os => cell_regrown x1 d os
            have q_x2 := fun d os => cell_regrown x2 d os
            have q_x3 := fun d os => cell_regrown x3 d os
            have q_z0 := fun d os => cell_regrown z0 d os
            have q_z1 := fun d os => cell_regrown z1 d os
            have q_z2 := fun d os => cell_regrown z2 d os
            have q_z3 := fun d os => cell_regrown z3 d os
            try simp only [List.append]
            first | refine wp_region_text_below ?_ | refine wp_region_quiet_below (by kernel_rfl) (by kernel_rfl) ?_
            repeat (go_big_quiet_step (((go_at_call 48; with_reducible exact Calls.regrown_same (in_is true HP.out _)))))
            refine wpQuiet_nil ?_
            intro _ hqw
            obtain ⟨pq, hqw⟩ := hqw
            subst hqw
            clear q_x0 q_x1 q_x2 q_x3 q_z0 q_z1 q_z2 q_z3
            have hbel := below_regrown w3 pq.d pq.os
            replace hB2 := hB2.trans (hbel.mono hs3)
            replace HL2 := Lib.hid (HL2.out.below (hbel.mono hs3))
            clear hbel x0 x1 x2 x3 z0 z1 z2 z3
            generalize grow (redrawn w3 pq.d) pq.os = wq at *
            go_wp2
            go_ret
            exact ⟨by rw [HF.out]; rfl, hB2⟩
    · obtain rfl : k = n := by omega
      have hr : rightB d = true := rightB_true.2 (fun i hi => HQ.out i (by have := HD.out; omega))
      have HR := Lib.hid hr
      clear hr
      go_wp2
      go_ret
      exact ⟨by rw [HR.out]; rfl, hB⟩
end Go.Proofs.Ytfdphpmcgidmiaa.Kb

/- Package ledger: Drop. No condition. -/
namespace Go.Proofs.Ytfdphpmcgidmiaa.Kb
open Go.ChangeShapes Go.WideShapes Go.ChangeAt Go.RowKit Go.Sort
set_option linter.unusedSimpArgs false
set_option linter.unusedVariables false
theorem run_makeMap_hint {P : Program} (t k e : TypeId) (kd : IntKind) (n : Int) (ht : P.underlying t = some (.map k e)) (w : World) :
    (Instr.makeMap t (some (.int kd n))).run P w = .ok (.map (some w.heap.size)) (w.alloc (.map #[] 0)) := by
  simp [Instr.makeMap, run_underlying ht]; rfl
theorem intAt {l : List Int} {k : Nat} (h : k < l.length) : (l.map (Value.int .i64))[k]? = some (.int .i64 (l.getD k 0)) := by
  simp [List.getD_eq_getElem?_getD, List.getElem?_eq_getElem h]
theorem Lst.atI {w : World} {B : Nat} {A : Option Addr} {n : Nat} {l : List Int} (h : Lst w B 1 A n (l.map (Value.int .i64))) (hl : l.length = n) {k : Nat} (hk : k < n) : ∃ ad, A = some ad ∧ ad.block < B ∧ w.cell? (ad.add k) = some (.int .i64 (l.getD k 0)) := by
  obtain ⟨ad, e, hb, hc⟩ := h.at_ (by omega)
  exact ⟨ad, e, hb, hc _ _ (intAt (by omega))⟩
def inL (l : List Int) (x : Int) : Bool := l.any (fun j => j == x)
theorem inL_next {l : List Int} {k : Nat} (h : k < l.length) (j : Int) : inL (l.take (k + 1)) j = (if j = l.getD k 0 then true else inL (l.take k) j) := by
  have e : l.take (k + 1) = l.take k ++ [l.getD k 0] := by
    rw [List.take_add_one, List.getD_eq_getElem?_getD, List.getElem?_eq_getElem h]; rfl
  unfold inL
  rw [e, List.any_append]
  by_cases e : j = l.getD k 0
  · subst e; simp
  · rw [if_neg e]; simp; intro e2; exact absurd e2.symm e
def dropL (d : List Bk) (l : List Int) : List Bk := d.filter (fun x => !inL l x.id)
def DropR (b0 b1 m : Nat) (S : Int → Bool) (_ : Nat) (w : World) : Prop := Blok w b1 85 #[.map (some b0)] ∧ SetW w b0 m S
end Go.Proofs.Ytfdphpmcgidmiaa.Kb

/- Ledgers as lists: what is right, what Book, Release and Drop make of the rows. No condition. -/
namespace Go.Proofs.Ytfdphpmcgidmiaa.Kb
open Go.ChangeShapes Go.WideShapes Go.ChangeAt Go.RowKit Go.Sort
set_option linter.unusedSimpArgs false
set_option linter.unusedVariables false
def okRow (x : Bk) : Bool := inB x.id 1 1048576 && (!zeroU x && (inM x.ua && (inM x.ub && inM x.uc)))
theorem okRow_ok {x : Bk} (h : okRow x = true) : okU x ∧ (1 ≤ x.id ∧ x.id ≤ 1048576) ∧ zeroU x = false := by
  unfold okRow inM inB at h
  simp only [Bool.and_eq_true, decide_eq_true_eq, Bool.not_eq_true'] at h
  unfold okU
  exact ⟨by omega, by omega, h.2.1⟩
theorem okRow_of {x : Bk} (h : okU x) (h1 : 1 ≤ x.id) (h2 : x.id ≤ 1048576) (h3 : zeroU x = false) : okRow x = true := by
  unfold okU at h
  unfold okRow inM inB
  simp only [Bool.and_eq_true, decide_eq_true_eq, Bool.not_eq_true']
  exact ⟨by omega, h3, by omega, by omega, by omega⟩
theorem right_iff {d : List Bk} : rightB d = true ↔ SortB d ∧ ∀ x ∈ d, okRow x = true := by
  rw [rightB_true]
  constructor
  · intro h
    have hstep : ∀ i, i + 1 < d.length → (gBk d i).id < (gBk d (i + 1)).id := fun i hi => by
      have := h (i + 1) hi
      unfold stepR at this
      simp only [Bool.and_eq_true, Bool.or_eq_true, Nat.add_sub_cancel, decide_eq_true_eq, beq_iff_eq] at this
      rcases this.2.1 with e | e
      · omega
      · exact e
    have hlt : ∀ k i, i + k + 1 < d.length → (gBk d i).id < (gBk d (i + k + 1)).id := by
      intro k
      induction k with
      | zero => intro i hi; exact hstep i hi
      | succ k ih =>
        intro i hi
        have e1 := ih i (by omega)
        have e2 := hstep (i + k + 1) (by omega)
        rw [show i + (k + 1) + 1 = i + k + 1 + 1 from by omega]
        omega
    refine ⟨List.pairwise_iff_getElem.2 (fun i j hi hj hij => ?_), fun x hx => ?_⟩
    · have := hlt (j - i - 1) i (by omega)
      rw [show i + (j - i - 1) + 1 = j from by omega, gBk_eq hi, gBk_eq hj] at this
      exact this
    · obtain ⟨j, hj, rfl⟩ := mem_gBk hx
      have := h j hj
      unfold stepR at this
      unfold okRow
      simp only [Bool.and_eq_true] at this ⊢
      exact ⟨this.1, this.2.2⟩
  · rintro ⟨hs, h⟩ i hi
    have := h _ (gBk_mem hi)
    unfold okRow at this
    unfold stepR
    simp only [Bool.and_eq_true, Bool.or_eq_true, beq_iff_eq, decide_eq_true_eq] at this ⊢
    refine ⟨this.1, ?_, this.2⟩
    by_cases e : i = 0
    · exact .inl e
    · exact .inr (hs.at_ (i := i - 1) (j := i) (by omega) hi)
theorem right_sort {d : List Bk} (h : rightB d = true) : SortB d := (right_iff.1 h).1
theorem rowB_none {d : List Bk} {j : Int} (h : ∀ y ∈ d, y.id ≠ j) : rowB d j = ⟨j, 0, 0, 0⟩ := by
  have : hit d j = false := by unfold hit; rw [List.any_eq_false]; intro y hy; simpa using h y hy
  unfold rowB
  rw [if_neg (by rw [this]; simp)]
theorem rowB_mem {d : List Bk} (hs : SortB d) {x : Bk} (hx : x ∈ d) : rowB d x.id = x := by
  have hh : hit d x.id = true := by unfold hit; rw [List.any_eq_true]; exact ⟨x, hx, by simp⟩
  unfold rowB
  rw [if_pos hh]
  obtain ⟨h1, h2⟩ := hit_at hs hh
  obtain ⟨j, hj, e⟩ := mem_gBk hx
  by_cases e2 : pl d x.id = j
  · rw [e2, e]
  · exfalso
    rcases Nat.lt_or_gt_of_ne e2 with h3 | h3
    · have := hs.at_ h3 hj; rw [e, h2] at this; omega
    · have := hs.at_ h3 h1; rw [e, h2] at this; omega
theorem rowB_cases {d : List Bk} (hs : SortB d) (j : Int) : (rowB d j ∈ d ∧ (rowB d j).id = j) ∨ ((∀ y ∈ d, y.id ≠ j) ∧ rowB d j = ⟨j, 0, 0, 0⟩) := by
  by_cases h : ∃ y ∈ d, y.id = j
  · obtain ⟨y, hy, rfl⟩ := h
    rw [rowB_mem hs hy]
    exact .inl ⟨hy, rfl⟩
  · have h' : ∀ y ∈ d, y.id ≠ j := fun y hy e => h ⟨y, hy, e⟩
    exact .inr ⟨h', rowB_none h'⟩
theorem right_ok {d : List Bk} (h : rightB d = true) (j : Int) : okU (rowB d j) := by
  obtain ⟨hs, ho⟩ := right_iff.1 h
  rcases rowB_cases hs j with ⟨h1, _⟩ | ⟨_, h2⟩
  · exact (okRow_ok (ho _ h1)).1
  · rw [h2]; unfold okU; simp
theorem right_wf {d : List Bk} (h : rightB d = true) : ∀ x ∈ d, (Lit.int .i64 x.id).wf = true := fun x hx => by
  have := (okRow_ok ((right_iff.1 h).2 x hx)).2.1
  exact wfI (by omega)
theorem right_filter {d : List Bk} (h : rightB d = true) (p : Bk → Bool) : rightB (d.filter p) = true := by
  obtain ⟨hs, ho⟩ := right_iff.1 h
  exact right_iff.2 ⟨List.Pairwise.filter _ hs, fun x hx => ho x (List.mem_filter.1 hx).1⟩
/-- Two right ledgers that tell the same of each ID are one. -/
theorem sort_ext : ∀ {d e : List Bk}, SortB d → SortB e → (∀ x, x ∈ d ↔ x ∈ e) → d = e
  | [], [], _, _, _ => rfl
  | [], b :: t, _, _, h => absurd ((h b).2 (by simp)) (by simp)
  | a :: s, [], _, _, h => absurd ((h a).1 (by simp)) (by simp)
  | a :: s, b :: t, hd, he, h => by
    obtain ⟨d1, d2⟩ := List.pairwise_cons.1 hd
    obtain ⟨e1, e2⟩ := List.pairwise_cons.1 he
    have hab : a = b := by
      rcases List.mem_cons.1 ((h a).1 (by simp)) with e | e
      · exact e
      · rcases List.mem_cons.1 ((h b).2 (by simp)) with f | f
        · exact f.symm
        · have g1 := e1 a e
          have g2 := d1 b f
          omega
    subst hab
    rw [sort_ext d2 e2 (fun x => ⟨fun hx => by
      rcases List.mem_cons.1 ((h x).1 (by simp [hx])) with e | e
      · subst e; have := d1 x hx; omega
      · exact e, fun hx => by
      rcases List.mem_cons.1 ((h x).2 (by simp [hx])) with e | e
      · subst e; have := e1 x hx; omega
      · exact e⟩)]
theorem right_ext {d e : List Bk} (hd : rightB d = true) (he : rightB e = true) (h : ∀ j, rowB d j = rowB e j) : d = e := by
  obtain ⟨s1, o1⟩ := right_iff.1 hd
  obtain ⟨s2, o2⟩ := right_iff.1 he
  have key : ∀ {a b : List Bk}, SortB a → SortB b → (∀ x ∈ a, okRow x = true) → (∀ j, rowB a j = rowB b j) → ∀ x, x ∈ a → x ∈ b := fun ha hb oa h x hx => by
    have e1 := h x.id
    rw [rowB_mem ha hx] at e1
    rcases rowB_cases hb x.id with ⟨h1, _⟩ | ⟨_, h2⟩
    · rw [← e1] at h1; exact h1
    · rw [h2] at e1
      have := (okRow_ok (oa x hx)).2.2
      rw [e1] at this
      simp [zeroU] at this
  exact sort_ext s1 s2 (fun x => ⟨key s1 s2 o1 h x, key s2 s1 o2 (fun j => (h j).symm) x⟩)
theorem more_parts : ∀ {d : List Bk} (id : Int), SortB d → d.take (pl d id) = d.filter (fun x => decide (x.id < id)) ∧ d.drop (pl d id + if hit d id = true then 1 else 0) = d.filter (fun x => decide (id < x.id))
  | [], id, _ => by simp [pl, hit]
  | a :: s, id, hd => by
    obtain ⟨d1, d2⟩ := List.pairwise_cons.1 hd
    obtain ⟨i1, i2⟩ := more_parts (d := s) id d2
    by_cases h1 : a.id < id
    · have e1 : pl (a :: s) id = pl s id + 1 := by simp [pl, h1]
      have e2 : hit (a :: s) id = hit s id := by
        have : (a.id == id) = false := by simp; omega
        simp [hit, this]
      rw [e1, e2, List.take_succ_cons, i1, show pl s id + 1 + (if hit s id = true then 1 else 0) = (pl s id + if hit s id = true then 1 else 0) + 1 from by omega, List.drop_succ_cons, i2]
      refine ⟨?_, ?_⟩
      · rw [List.filter_cons_of_pos (by simpa using h1)]
      · rw [List.filter_cons_of_neg (by simp; omega)]
    · have hge : ∀ x ∈ s, ¬ x.id < id := fun x hx => by have := d1 x hx; omega
      have hgt : s.filter (fun x => decide (id < x.id)) = s := List.filter_eq_self.2 (fun x hx => by have := d1 x hx; simp; omega)
      have hf0 : (a :: s).filter (fun x => decide (x.id < id)) = [] := List.filter_eq_nil_iff.2 (fun x hx => by
        rcases List.mem_cons.1 hx with rfl | hx
        · simpa using h1
        · simpa using hge x hx)
      have e1 : pl (a :: s) id = 0 := by unfold pl; rw [hf0]; rfl
      rw [e1, hf0]
      refine ⟨rfl, ?_⟩
      by_cases h2 : a.id = id
      · have e2 : hit (a :: s) id = true := by simp [hit, h2]
        rw [e2, List.filter_cons_of_neg (by simp; omega), hgt]
        rfl
      · have e2 : hit (a :: s) id = false := by
          unfold hit
          rw [List.any_eq_false]
          intro x hx
          rcases List.mem_cons.1 hx with rfl | hx
          · simpa using h2
          · have := d1 x hx; simp; omega
        rw [e2, List.filter_cons_of_pos (by simp; omega), hgt]
        rfl
theorem more_mem {d : List Bk} {id : Int} {y : Bk} (hs : SortB d) {x : Bk} : x ∈ moreB d id y ↔ (zeroU y = false ∧ x = y) ∨ (x ∈ d ∧ x.id ≠ id) := by
  obtain ⟨e1, e2⟩ := more_parts id hs
  unfold moreB
  rw [e1, e2]
  cases hz : zeroU y
  · simp only [List.mem_append, List.mem_filter, decide_eq_true_eq, Bool.false_eq_true, if_false, List.mem_singleton]
    constructor
    · rintro ((⟨h1, h2⟩ | h1) | ⟨h1, h2⟩)
      · exact .inr ⟨h1, by omega⟩
      · exact .inl ⟨trivial, h1⟩
      · exact .inr ⟨h1, by omega⟩
    · rintro (⟨_, h⟩ | ⟨h1, h2⟩)
      · exact .inl (.inr h)
      · rcases Int.lt_or_gt_of_ne h2 with h | h
        · exact .inl (.inl ⟨h1, h⟩)
        · exact .inr ⟨h1, h⟩
  · simp only [List.mem_append, List.mem_filter, decide_eq_true_eq, if_true, List.append_nil]
    constructor
    · rintro (⟨h1, h2⟩ | ⟨h1, h2⟩)
      · exact .inr ⟨h1, by omega⟩
      · exact .inr ⟨h1, by omega⟩
    · rintro (⟨h, _⟩ | ⟨h1, h2⟩)
      · cases h
      · rcases Int.lt_or_gt_of_ne h2 with h | h
        · exact .inl ⟨h1, h⟩
        · exact .inr ⟨h1, h⟩
theorem more_sort {d : List Bk} {id : Int} {y : Bk} (hs : SortB d) (hy : y.id = id) : SortB (moreB d id y) := by
  obtain ⟨e1, e2⟩ := more_parts id hs
  unfold moreB
  rw [e1, e2]
  have f1 : SortB (d.filter (fun x => decide (x.id < id))) := List.Pairwise.filter _ hs
  have f2 : SortB (d.filter (fun x => decide (id < x.id))) := List.Pairwise.filter _ hs
  unfold SortB at *
  cases hz : zeroU y
  · simp only [Bool.false_eq_true, if_false]
    rw [List.pairwise_append, List.pairwise_append]
    refine ⟨⟨f1, by simp, fun a ha b hb => ?_⟩, f2, fun a ha b hb => ?_⟩
    · have := (List.mem_filter.1 ha).2
      obtain rfl : b = y := by simpa using hb
      simp at this; omega
    · have h2 := (List.mem_filter.1 hb).2
      simp at h2
      rcases List.mem_append.1 ha with ha | ha
      · have := (List.mem_filter.1 ha).2
        simp at this; omega
      · obtain rfl : a = y := by simpa using ha
        omega
  · simp only [if_true, List.append_nil]
    rw [List.pairwise_append]
    refine ⟨f1, f2, fun a ha b hb => ?_⟩
    have h1 := (List.mem_filter.1 ha).2
    have h2 := (List.mem_filter.1 hb).2
    simp at h1 h2; omega
theorem more_right {d : List Bk} {id : Int} {y : Bk} (h : rightB d = true) (hy : y.id = id) (h1 : zeroU y = true ∨ okRow y = true) : rightB (moreB d id y) = true := by
  obtain ⟨hs, ho⟩ := right_iff.1 h
  refine right_iff.2 ⟨more_sort hs hy, fun x hx => ?_⟩
  rcases (more_mem hs).1 hx with ⟨h2, rfl⟩ | ⟨h2, _⟩
  · rcases h1 with h1 | h1
    · rw [h1] at h2; cases h2
    · exact h1
  · exact ho x h2
theorem more_row {d : List Bk} {id : Int} {y : Bk} (hs : SortB d) (hy : y.id = id) (j : Int) : rowB (moreB d id y) j = if j = id then y else rowB d j := by
  have hm := more_sort hs hy
  split
  · rename_i e
    subst e
    cases hz : zeroU y
    · have : y ∈ moreB d j y := (more_mem hs).2 (.inl ⟨hz, rfl⟩)
      rw [← hy] at this ⊢
      exact rowB_mem (by rw [hy] at *; exact hm) this
    · rw [rowB_none (fun x hx => by
        rcases (more_mem hs).1 hx with ⟨h2, _⟩ | ⟨_, h2⟩
        · rw [hz] at h2; cases h2
        · exact h2)]
      unfold zeroU at hz
      simp at hz
      cases y
      simp_all
  · rename_i e
    rcases rowB_cases hs j with ⟨h1, h2⟩ | ⟨h1, h2⟩
    · have : rowB d j ∈ moreB d id y := (more_mem hs).2 (.inr ⟨h1, by rw [h2]; exact e⟩)
      have h3 := rowB_mem hm this
      rw [h2] at h3
      exact h3
    · rw [h2]
      exact rowB_none (fun x hx => by
        rcases (more_mem hs).1 hx with ⟨_, rfl⟩ | ⟨h3, _⟩
        · rw [hy]; exact fun e2 => e e2.symm
        · exact h1 x h3)
theorem drop_row {d : List Bk} {l : List Int} (hs : SortB d) (j : Int) : rowB (dropL d l) j = if inL l j = true then ⟨j, 0, 0, 0⟩ else rowB d j := by
  have hm : SortB (dropL d l) := List.Pairwise.filter _ hs
  have mem : ∀ x, x ∈ dropL d l ↔ x ∈ d ∧ inL l x.id = false := fun x => by unfold dropL; rw [List.mem_filter]; simp
  split
  · rename_i e
    exact rowB_none (fun x hx e2 => by have := ((mem x).1 hx).2; rw [e2, e] at this; cases this)
  · rename_i e
    rcases rowB_cases hs j with ⟨h1, h2⟩ | ⟨h1, h2⟩
    · have : rowB d j ∈ dropL d l := (mem _).2 ⟨h1, by rw [h2]; simpa using e⟩
      have h3 := rowB_mem hm this
      rw [h2] at h3
      exact h3
    · rw [h2]
      exact rowB_none (fun x hx => h1 x ((mem x).1 hx).1)
theorem drop_right {d : List Bk} {l : List Int} (h : rightB d = true) : rightB (dropL d l) = true := right_filter h _
theorem drop_twice (d : List Bk) (l : List Int) : dropL (dropL d l) l = dropL d l := by unfold dropL; rw [List.filter_filter]; simp
theorem bump_id (x : Bk) (cl sz : Int) : (bump x cl sz).id = x.id := by
  unfold bump
  split
  · rfl
  · split <;> rfl
theorem more_len (d : List Bk) (id : Int) (y : Bk) : (moreB d id y).length ≤ d.length + 1 := by
  unfold moreB
  have := pl_le d id
  rw [List.length_append, List.length_append, List.length_take, List.length_drop]
  split <;> simp <;> omega
def bookL (d : List Bk) (c : Ct) (cl sz : Int) : List Bk := if bookB d c cl sz = true then moreB d c.id (bump (rowB d c.id) cl sz) else d
def relL (d : List Bk) (id cl sz : Int) : List Bk := if relB d id cl sz = true then moreB d id (bump (rowB d id) cl (-sz)) else d
theorem bookL_len (d : List Bk) (c : Ct) (cl sz : Int) : (bookL d c cl sz).length ≤ d.length + 1 := by
  unfold bookL
  split
  · exact more_len _ _ _
  · omega
theorem relL_len (d : List Bk) (id cl sz : Int) : (relL d id cl sz).length ≤ d.length + 1 := by
  unfold relL
  split
  · exact more_len _ _ _
  · omega
theorem okC_id {c : Ct} (h : okC c = true) : 1 ≤ c.id ∧ c.id ≤ 1048576 := by
  unfold okC contactB inB at h
  simp only [Bool.and_eq_true, decide_eq_true_eq] at h
  omega
theorem bump_ok {x : Bk} {cl sz : Int} (hx : okU x) (hc : inB cl 0 2 = true) (h0 : 0 ≤ getU x cl + sz) (h1 : getU x cl + sz ≤ 4611686018427387904) : okU (bump x cl sz) := by
  unfold okU at hx
  unfold getU at h0 h1
  unfold bump
  rcases class_cases hc with rfl | rfl | rfl
  · simp at h0 h1 ⊢; unfold okU; simp only; omega
  · simp at h0 h1 ⊢; unfold okU; simp only; omega
  · simp at h0 h1 ⊢; unfold okU; simp only; omega
theorem book_facts {d : List Bk} {c : Ct} {cl sz : Int} (hr : rightB d = true) (hb : bookB d c cl sz = true) : okC c = true ∧ inB cl 0 2 = true ∧ 0 ≤ sz ∧ sz ≤ roomF c (rowB d c.id) cl ∧ roomF c (rowB d c.id) cl = max 0 (volC c - backF (rowB d c.id) cl) := by
  unfold bookB at hb
  simp only [Bool.and_eq_true] at hb
  obtain ⟨h1, h2, h3⟩ := hb
  have h4 : 0 ≤ sz ∧ sz ≤ roomF c (rowB d c.id) cl := by unfold inB at h3; simpa using h3
  exact ⟨h1, h2, h4.1, h4.2, by unfold roomF; rw [if_pos h2]⟩
theorem book_bump {d : List Bk} {c : Ct} {cl sz : Int} (hr : rightB d = true) (hb : bookB d c cl sz = true) : okU (bump (rowB d c.id) cl sz) := by
  obtain ⟨h1, h2, h3, h4, h5⟩ := book_facts hr hb
  have hok := right_ok hr c.id
  have hvc := volC_ok c
  have hge := back_ge hok h2
  have hgu := getU_ok hok cl
  exact bump_ok hok h2 (by omega) (by omega)
theorem book_right {d : List Bk} {c : Ct} {cl sz : Int} (hr : rightB d = true) : rightB (bookL d c cl sz) = true := by
  unfold bookL
  split
  · rename_i hb
    have hok := book_bump hr hb
    have hid : (bump (rowB d c.id) cl sz).id = c.id := by rw [bump_id, rowB_id (right_sort hr)]
    have hci := okC_id (book_facts hr hb).1
    refine more_right hr hid ?_
    cases hz : zeroU (bump (rowB d c.id) cl sz)
    · exact .inr (okRow_of hok (by omega) (by omega) hz)
    · exact .inl rfl
  · exact hr
theorem book_row {d : List Bk} {c : Ct} {cl sz : Int} (hr : rightB d = true) (j : Int) : rowB (bookL d c cl sz) j = if bookB d c cl sz = true ∧ j = c.id then bump (rowB d c.id) cl sz else rowB d j := by
  unfold bookL
  split
  · rename_i hb
    rw [more_row (right_sort hr) (by rw [bump_id, rowB_id (right_sort hr)])]
    simp [hb]
  · rename_i hb
    rw [if_neg (fun h => hb h.1)]
theorem book_same {d e : List Bk} {c : Ct} {cl sz : Int} (h : rowB d c.id = rowB e c.id) : bookB d c cl sz = bookB e c cl sz := by unfold bookB; rw [h]
theorem rel_facts {d : List Bk} {id cl sz : Int} (hb : relB d id cl sz = true) : inB cl 0 2 = true ∧ 0 ≤ sz ∧ sz ≤ getU (rowB d id) cl := by
  unfold relB at hb
  simp only [Bool.and_eq_true] at hb
  obtain ⟨h2, h3⟩ := hb
  have h4 : 0 ≤ sz ∧ sz ≤ getU (rowB d id) cl := by unfold inB at h3; simpa using h3
  exact ⟨h2, h4⟩
theorem rel_bump {d : List Bk} {id cl sz : Int} (hr : rightB d = true) (hb : relB d id cl sz = true) : okU (bump (rowB d id) cl (-sz)) := by
  obtain ⟨h2, h3, h4⟩ := rel_facts hb
  have hok := right_ok hr id
  have hgu := getU_ok hok cl
  exact bump_ok hok h2 (by omega) (by omega)
theorem bump_zero (x : Bk) (cl : Int) : bump x cl 0 = x := by
  unfold bump
  split
  · simp
  · split <;> simp
theorem rel_right {d : List Bk} {id cl sz : Int} (hr : rightB d = true) : rightB (relL d id cl sz) = true := by
  unfold relL
  split
  · rename_i hb
    have hok := rel_bump hr hb
    have hid : (bump (rowB d id) cl (-sz)).id = id := by rw [bump_id, rowB_id (right_sort hr)]
    refine more_right hr hid ?_
    cases hz : zeroU (bump (rowB d id) cl (-sz))
    · right
      have hci : 1 ≤ id ∧ id ≤ 1048576 := by
        rcases rowB_cases (right_sort hr) id with ⟨h1, h2⟩ | ⟨_, h2⟩
        · have := (okRow_ok ((right_iff.1 hr).2 _ h1)).2.1
          rw [h2] at this
          exact this
        · exfalso
          obtain ⟨h3, h4, h5⟩ := rel_facts hb
          have h6 : getU (rowB d id) cl = 0 := by rw [h2]; unfold getU; simp
          have h7 : sz = 0 := by omega
          rw [h7, Int.neg_zero, bump_zero, h2] at hz
          simp [zeroU] at hz
      exact okRow_of hok (by omega) (by omega) hz
    · exact .inl rfl
  · exact hr
theorem rel_row {d : List Bk} {id cl sz : Int} (hr : rightB d = true) (j : Int) : rowB (relL d id cl sz) j = if relB d id cl sz = true ∧ j = id then bump (rowB d id) cl (-sz) else rowB d j := by
  unfold relL
  split
  · rename_i hb
    rw [more_row (right_sort hr) (by rw [bump_id, rowB_id (right_sort hr)])]
    simp [hb]
  · rename_i hb
    rw [if_neg (fun h => hb h.1)]
end Go.Proofs.Ytfdphpmcgidmiaa.Kb

/- Package ranges: compareWays. -/
namespace Go.Proofs.Ytfdphpmcgidmiaa.Kr
open Go.ChangeShapes Go.WideShapes Go.ChangeAt Go.RowKit Go.Sort
set_option linter.unusedSimpArgs false
set_option linter.unusedVariables false
def waysI (a b : Rg) : Int := orF [cmpI a.fr b.fr, cmpI a.tn b.tn]
set_option maxHeartbeats 1000000 in
set_option maxRecDepth 100000 in
theorem ways_any (a b : Rg) (w : World) : Calls Try.prog 58 #[.agg #[.int .i64 a.fr, .int .i64 a.tn, .int .i64 a.st, .int .i64 a.en, .int .i64 a.ow], .agg #[.int .i64 b.fr, .int .i64 b.tn, .int .i64 b.st, .int .i64 b.en, .int .i64 b.ow]] w fun e w' => e = .returned (.int .i64 (waysI a b)) ∧ Below w.heap.size w w' := by
  obtain ⟨p, hp⟩ : ∃ p, cmpI a.fr b.fr = p := ⟨_, rfl⟩
  obtain ⟨q, hq⟩ : ∃ q, cmpI a.tn b.tn = q := ⟨_, rfl⟩
  have hfin : waysI a b = orF [p, q] := by rw [← hp, ← hq]; rfl
  have HP := Lib.hid hp
  have HQ := Lib.hid hq
  rw [hfin]
  clear hp hq hfin
  go_enter Try.func58, Try.ntmps58
  go_wp2_with fail
  refine wp_region_still_tail 10 (by kernel_rfl) (by kernel_rfl) ?_
  change wpStill _ _ (World.drew _) (fun a' => wpList _ _ _ _ a' (World.drew _)) _ _
  simp only [List.take_succ_cons, List.take_zero, List.drop_succ_cons, List.drop_zero]
  repeat still_step
  still_call ((HP.out ▸ cmp_any a.fr b.fr _).mono fun _ _ h => ⟨h.1, h.2.symm⟩)
  repeat still_step
  still_call ((HQ.out ▸ cmp_any a.tn b.tn _).mono fun _ _ h => ⟨h.1, h.2.symm⟩)
  refine wpStill_nil ?_
  have hB : Below w.heap.size w (((w.alloc (.cells #[.int .i64 a.fr, .int .i64 a.tn, .int .i64 a.st, .int .i64 a.en, .int .i64 a.ow] 59)).alloc (.cells #[.int .i64 b.fr, .int .i64 b.tn, .int .i64 b.st, .int .i64 b.en, .int .i64 b.ow] 59)).drew) := by (repeat (first | exact Below.refl _ _ | refine Below.alloc ?_ (by first | omega | (simp; done) | (simp; omega)) _ | refine Below.setCell ?_ (by first | omega | (simp; done) | (simp; omega)) _ | refine Below.drew ?_))
  have hs := hB.size
  generalize (((w.alloc (.cells #[.int .i64 a.fr, .int .i64 a.tn, .int .i64 a.st, .int .i64 a.en, .int .i64 a.ow] 59)).alloc (.cells #[.int .i64 b.fr, .int .i64 b.tn, .int .i64 b.st, .int .i64 b.en, .int .i64 b.ow] 59)).drew) = w2 at *
  go_wp2_with fail
  have hX := Blok.new w2 3 #[.int .i64 p, .int .i64 q]
  refine (or_any w2.heap.size 2 2 [p, q] _ rfl (by omega) (fun k hk => by
    have hc := hX.cell k
    have hk2 : k = 0 ∨ k = 1 := by omega
    rcases hk2 with rfl | rfl <;> exact hc)).mono ?_
  rintro e w3 ⟨rfl, rfl⟩
  go_wp2
  go_ret
  exact ⟨rfl, hB.alloc hs _⟩
def cmpR (a b : Rg) : Int := orF [waysI a b, cmpI a.st b.st]
set_option maxHeartbeats 2000000 in
set_option maxRecDepth 100000 in
theorem cmpR_any (a b : Rg) (w : World) : Calls Try.prog 78 #[.agg #[.int .i64 a.fr, .int .i64 a.tn, .int .i64 a.st, .int .i64 a.en, .int .i64 a.ow], .agg #[.int .i64 b.fr, .int .i64 b.tn, .int .i64 b.st, .int .i64 b.en, .int .i64 b.ow]] w fun e w' => e = .returned (.int .i64 (cmpR a b)) ∧ Below w.heap.size w w' := by
  obtain ⟨p, hp⟩ : ∃ p, waysI a b = p := ⟨_, rfl⟩
  obtain ⟨q, hq⟩ : ∃ q, cmpI a.st b.st = q := ⟨_, rfl⟩
  have hfin : cmpR a b = orF [p, q] := by rw [← hp, ← hq]; rfl
  have HP := Lib.hid hp
  have HQ := Lib.hid hq
  rw [hfin]
  clear hp hq hfin
  go_enter Try.func78, Try.ntmps78
  go_wp2_with fail
  have hB : Below w.heap.size w ((w.alloc (.cells #[.int .i64 a.fr, .int .i64 a.tn, .int .i64 a.st, .int .i64 a.en, .int .i64 a.ow] 59)).alloc (.cells #[.int .i64 b.fr, .int .i64 b.tn, .int .i64 b.st, .int .i64 b.en, .int .i64 b.ow] 59)) := by (repeat (first | exact Below.refl _ _ | refine Below.alloc ?_ (by first | omega | (simp; done) | (simp; omega)) _ | refine Below.setCell ?_ (by first | omega | (simp; done) | (simp; omega)) _ | refine Below.drew ?_))
  have hXa := (Blok.new w 59 #[.int .i64 a.fr, .int .i64 a.tn, .int .i64 a.st, .int .i64 a.en, .int .i64 a.ow]).alloc (.cells #[.int .i64 b.fr, .int .i64 b.tn, .int .i64 b.st, .int .i64 b.en, .int .i64 b.ow] 59)
  have hXb := Blok.new (w.alloc (.cells #[.int .i64 a.fr, .int .i64 a.tn, .int .i64 a.st, .int .i64 a.en, .int .i64 a.ow] 59)) 59 #[.int .i64 b.fr, .int .i64 b.tn, .int .i64 b.st, .int .i64 b.en, .int .i64 b.ow]
  simp only [World.size_alloc] at hXb
  generalize ((w.alloc (.cells #[.int .i64 a.fr, .int .i64 a.tn, .int .i64 a.st, .int .i64 a.en, .int .i64 a.ow] 59)).alloc (.cells #[.int .i64 b.fr, .int .i64 b.tn, .int .i64 b.st, .int .i64 b.en, .int .i64 b.ow] 59)) = w2 at *
  have hs := hB.size
  have hla := hXa.lt
  have hlb := hXb.lt
  have ha0 : w2.cell? ⟨w.heap.size, 0, none⟩ = some (.int .i64 a.fr) := hXa.cell 0
  have ha1 : w2.cell? ⟨w.heap.size, 1, none⟩ = some (.int .i64 a.tn) := hXa.cell 1
  have ha2 : w2.cell? ⟨w.heap.size, 2, none⟩ = some (.int .i64 a.st) := hXa.cell 2
  have ha3 : w2.cell? ⟨w.heap.size, 3, none⟩ = some (.int .i64 a.en) := hXa.cell 3
  have ha4 : w2.cell? ⟨w.heap.size, 4, none⟩ = some (.int .i64 a.ow) := hXa.cell 4
  have hb0 : w2.cell? ⟨w.heap.size + 1, 0, none⟩ = some (.int .i64 b.fr) := hXb.cell 0
  have hb1 : w2.cell? ⟨w.heap.size + 1, 1, none⟩ = some (.int .i64 b.tn) := hXb.cell 1
  have hb2 : w2.cell? ⟨w.heap.size + 1, 2, none⟩ = some (.int .i64 b.st) := hXb.cell 2
  have hb3 : w2.cell? ⟨w.heap.size + 1, 3, none⟩ = some (.int .i64 b.en) := hXb.cell 3
  have hb4 : w2.cell? ⟨w.heap.size + 1, 4, none⟩ = some (.int .i64 b.ow) := hXb.cell 4
  go_region_held3 (fun w' => w'.cell? ⟨w.heap.size, 0, none⟩ = some (.int .i64 a.fr) ∧ w'.cell? ⟨w.heap.size, 1, none⟩ = some (.int .i64 a.tn) ∧ w'.cell? ⟨w.heap.size, 2, none⟩ = some (.int .i64 a.st) ∧ w'.cell? ⟨w.heap.size, 3, none⟩ = some (.int .i64 a.en) ∧ w'.cell? ⟨w.heap.size, 4, none⟩ = some (.int .i64 a.ow) ∧ w'.cell? ⟨w.heap.size + 1, 0, none⟩ = some (.int .i64 b.fr) ∧ w'.cell? ⟨w.heap.size + 1, 1, none⟩ = some (.int .i64 b.tn) ∧ w'.cell? ⟨w.heap.size + 1, 2, none⟩ = some (.int .i64 b.st) ∧ w'.cell? ⟨w.heap.size + 1, 3, none⟩ = some (.int .i64 b.en) ∧ w'.cell? ⟨w.heap.size + 1, 4, none⟩ = some (.int .i64 b.ow))
    (first | go_keep | (refine ⟨?_, ?_, ?_, ?_, ?_, ?_, ?_, ?_, ?_, ?_⟩ <;> first | assumption | (rw [hc _ _ (by simp; omega)]; assumption)))
    (first
      | (go_at_call 58; (with_reducible refine Calls.mono (HP.out ▸ ways_any a b _) ?_); rintro e w3 ⟨rfl, hb3⟩; obtain ⟨hc, hf⟩ := bcell hb3)
      | (go_at_call 44; (with_reducible refine Calls.mono (HQ.out ▸ cmp_any a.st b.st _) ?_); rintro e w3 ⟨rfl, rfl⟩)
      | (go_at_call 82; (with_reducible refine Calls.mono (or_any _ 2 2 [p, q] _ rfl (by omega) (fun k hk => by
            have hk2 : k = 0 ∨ k = 1 := by omega
            rcases hk2 with rfl | rfl <;> simp)) ?_); rintro e w4 ⟨rfl, rfl⟩))
  go_wp2
  go_ret
  exact ⟨rfl, (hB.drew.trans (hb3.mono hs)).alloc (by have := hb3.size; simp at this; omega) _⟩
theorem waysI_zero {a b : Rg} : waysI a b = 0 ↔ a.fr = b.fr ∧ a.tn = b.tn := by
  unfold waysI orF
  split
  · rename_i h
    rw [cmpI_zero] at h
    unfold orF
    split
    · rename_i h2; rw [cmpI_zero] at h2; simp [h, h2, orF]
    · rename_i h2; rw [cmpI_zero] at h2; constructor
      · intro e; exact absurd (cmpI_zero.1 e) h2
      · intro e; exact absurd e.2 h2
  · rename_i h
    rw [cmpI_zero] at h
    constructor
    · intro e; exact absurd (cmpI_zero.1 e) h
    · intro e; exact absurd e.1 h
def ltR (a b : Rg) : Prop := a.fr < b.fr ∨ a.fr = b.fr ∧ (a.tn < b.tn ∨ a.tn = b.tn ∧ a.st < b.st)
theorem cmpI_spec (a b : Int) : (a < b ∧ cmpI a b = -1) ∨ (a = b ∧ cmpI a b = 0) ∨ (b < a ∧ cmpI a b = 1) := by
  rcases Int.lt_trichotomy a b with h | h | h
  · exact .inl ⟨h, cmpI_lt h⟩
  · exact .inr (.inl ⟨h, cmpI_zero.2 h⟩)
  · exact .inr (.inr ⟨h, cmpI_gt h⟩)
theorem cmpR_spec (a b : Rg) : (ltR a b ∧ cmpR a b = -1) ∨ (a.fr = b.fr ∧ a.tn = b.tn ∧ a.st = b.st ∧ cmpR a b = 0) ∨ (ltR b a ∧ cmpR a b = 1) := by
  unfold cmpR waysI ltR
  rcases cmpI_spec a.fr b.fr with ⟨h1, e1⟩ | ⟨h1, e1⟩ | ⟨h1, e1⟩ <;> rcases cmpI_spec a.tn b.tn with ⟨h2, e2⟩ | ⟨h2, e2⟩ | ⟨h2, e2⟩ <;> rcases cmpI_spec a.st b.st with ⟨h3, e3⟩ | ⟨h3, e3⟩ | ⟨h3, e3⟩ <;>
    simp only [e1, e2, e3, orF] <;> simp <;> omega
def overR (a b : Rg) : Bool := decide (a.fr = b.fr ∧ a.tn = b.tn ∧ a.st < b.en ∧ b.st < a.en)
def sameR (a b : Rg) : Bool := decide (a.fr = b.fr ∧ a.tn = b.tn ∧ a.st = b.st)
theorem cmpR_zero {a b : Rg} : cmpR a b = 0 ↔ a.fr = b.fr ∧ a.tn = b.tn ∧ a.st = b.st := by
  rcases cmpR_spec a b with ⟨h, e⟩ | ⟨h1, h2, h3, e⟩ | ⟨h, e⟩
  · rw [e]; unfold ltR at h; constructor
    · intro h'; omega
    · intro h'; omega
  · simp [h1, h2, h3, e]
  · rw [e]; unfold ltR at h; constructor
    · intro h'; omega
    · intro h'; omega
set_option maxHeartbeats 1000000 in
set_option maxRecDepth 100000 in
theorem over_any (a b : Rg) (w : World) : Calls Try.prog 79 #[.agg #[.int .i64 a.fr, .int .i64 a.tn, .int .i64 a.st, .int .i64 a.en, .int .i64 a.ow], .agg #[.int .i64 b.fr, .int .i64 b.tn, .int .i64 b.st, .int .i64 b.en, .int .i64 b.ow]] w fun e w' => e = .returned (.bool (overR a b)) ∧ Below w.heap.size w w' := by
  have hB : Below w.heap.size w ((w.alloc (.cells #[.int .i64 a.fr, .int .i64 a.tn, .int .i64 a.st, .int .i64 a.en, .int .i64 a.ow] 59)).alloc (.cells #[.int .i64 b.fr, .int .i64 b.tn, .int .i64 b.st, .int .i64 b.en, .int .i64 b.ow] 59)) := by (repeat (first | exact Below.refl _ _ | refine Below.alloc ?_ (by first | omega | (simp; done) | (simp; omega)) _ | refine Below.setCell ?_ (by first | omega | (simp; done) | (simp; omega)) _ | refine Below.drew ?_))
  have hXa := (Blok.new w 59 #[.int .i64 a.fr, .int .i64 a.tn, .int .i64 a.st, .int .i64 a.en, .int .i64 a.ow]).alloc (.cells #[.int .i64 b.fr, .int .i64 b.tn, .int .i64 b.st, .int .i64 b.en, .int .i64 b.ow] 59)
  have hXb := Blok.new (w.alloc (.cells #[.int .i64 a.fr, .int .i64 a.tn, .int .i64 a.st, .int .i64 a.en, .int .i64 a.ow] 59)) 59 #[.int .i64 b.fr, .int .i64 b.tn, .int .i64 b.st, .int .i64 b.en, .int .i64 b.ow]
  have hs := hB.size
  simp only [World.size_alloc] at hXb
  by_cases h0 : waysI a b = 0
  · have h0' := waysI_zero.1 h0
    by_cases h1 : a.st < b.en
    all_goals
      by_cases h2 : b.st < a.en
      all_goals
        have hres : overR a b = (decide (a.st < b.en) && decide (b.st < a.en)) := by simp [overR, h0'.1, h0'.2]
        rw [hres]
        have H0 := Lib.hid h0
        clear h0 h0' hres
        go_enter Try.func79, Try.ntmps79
        go_wp2_with fail
        generalize ((w.alloc (.cells #[.int .i64 a.fr, .int .i64 a.tn, .int .i64 a.st, .int .i64 a.en, .int .i64 a.ow] 59)).alloc (.cells #[.int .i64 b.fr, .int .i64 b.tn, .int .i64 b.st, .int .i64 b.en, .int .i64 b.ow] 59)) = w2 at *
        refine (H0.out ▸ ways_any a b w2).mono ?_
        rintro e w3 ⟨rfl, hb3⟩
        replace hXa := hXa.below hb3 hXa.lt
        replace hXb := hXb.below hb3 hXb.lt
        have ha2 : w3.cell? ⟨w.heap.size, 2, none⟩ = some (.int .i64 a.st) := hXa.cell 2
        have ha3 : w3.cell? ⟨w.heap.size, 3, none⟩ = some (.int .i64 a.en) := hXa.cell 3
        have hb2 : w3.cell? ⟨w.heap.size + 1, 2, none⟩ = some (.int .i64 b.st) := hXb.cell 2
        have hb3' : w3.cell? ⟨w.heap.size + 1, 3, none⟩ = some (.int .i64 b.en) := hXb.cell 3
        replace hB := hB.trans (hb3.mono hs)
        clear hXa hXb hb3
        go_wp2
        go_ret
        exact ⟨by simp [h1, h2], hB⟩
  · have hz : (waysI a b == 0) = false := by simpa using h0
    have hres : overR a b = false := by
      have h3 := fun h => h0 (waysI_zero.2 h)
      simp only [overR, decide_eq_false_iff_not]
      intro h; exact h3 ⟨h.1, h.2.1⟩
    rw [hres]
    generalize hy : waysI a b = y at *
    have HY := Lib.hid hy
    clear h0 hres hy
    go_enter Try.func79, Try.ntmps79
    go_wp2_with fail
    generalize ((w.alloc (.cells #[.int .i64 a.fr, .int .i64 a.tn, .int .i64 a.st, .int .i64 a.en, .int .i64 a.ow] 59)).alloc (.cells #[.int .i64 b.fr, .int .i64 b.tn, .int .i64 b.st, .int .i64 b.en, .int .i64 b.ow] 59)) = w2 at *
    refine (HY.out ▸ ways_any a b w2).mono ?_
    rintro e w3 ⟨rfl, hb3⟩
    replace hB := hB.trans (hb3.mono hs)
    clear hXa hXb hb3
    go_wp2
    go_ret
    exact ⟨rfl, hB⟩
theorem cmp_ranges (t : Rg) (w : World) : CmpRg 78 #[] t w (fun x => cmpR x t) :=
  ⟨enter_run Try.func78 rfl rfl, fun w' _ x => cmpR_any x t w'⟩
end Go.Proofs.Ytfdphpmcgidmiaa.Kr

/- Package ranges: begins, mayAdd, Add, Delete, Change, Expire, Same. -/
namespace Go.Proofs.Ytfdphpmcgidmiaa.Kr
open Go.ChangeShapes Go.WideShapes Go.ChangeAt Go.RowKit Go.Sort
set_option linter.unusedSimpArgs false
set_option linter.unusedVariables false
def delCode (q n : Nat) : Int := if q = n then 6 else 0
end Go.Proofs.Ytfdphpmcgidmiaa.Kr

/- Package ranges: mayAdd, Add, Change. -/
namespace Go.Proofs.Ytfdphpmcgidmiaa.Kr
open Go.ChangeShapes Go.WideShapes Go.ChangeAt Go.RowKit Go.Sort
set_option linter.unusedSimpArgs false
set_option linter.unusedVariables false
def okR (r : Rg) : Bool := rangeB r.fr r.tn r.st r.en r.ow
def mayF (d : List Rg) (r : Rg) : Int := if okR r = false then 1 else if 4096 ≤ d.length then 3 else if d.any (fun o => overR o r) = true then 5 else 0
theorem okR_call (r : Rg) (w : World) (b : Bool) (h : okR r = b) : Calls Try.prog 77 #[.agg #[.int .i64 r.fr, .int .i64 r.tn, .int .i64 r.st, .int .i64 r.en, .int .i64 r.ow]] w fun e w' => e = .returned (.bool b) ∧ Below w.heap.size w w' := range_is b h w
end Go.Proofs.Ytfdphpmcgidmiaa.Kr

/- Package ranges: Change, Right. -/
namespace Go.Proofs.Ytfdphpmcgidmiaa.Kr
open Go.ChangeShapes Go.WideShapes Go.ChangeAt Go.RowKit Go.Sort
set_option linter.unusedSimpArgs false
set_option linter.unusedVariables false
def withOw (p : Rg) (x : Int) : Rg := ⟨p.fr, p.tn, p.st, p.en, x⟩
theorem flatRg_ow : ∀ (d : List Rg) (i : Nat) (x : Int), i < d.length → (flatRg d).set (i * 5 + 4) (.int .i64 x) = flatRg (d.set i (withOw (gRg d i) x))
  | p :: d, 0, x, _ => rfl
  | p :: d, i + 1, x, h => by
    rw [flatRg_cons, show (i + 1) * 5 + 4 = i * 5 + 4 + 1 + 1 + 1 + 1 + 1 from by omega]
    simp only [List.set_cons_succ]
    rw [flatRg_ow d i x (by simpa using h)]
    rfl
end Go.Proofs.Ytfdphpmcgidmiaa.Kr

/- Package ranges: Right. -/
namespace Go.Proofs.Ytfdphpmcgidmiaa.Kr
open Go.ChangeShapes Go.WideShapes Go.ChangeAt Go.RowKit Go.Sort
set_option linter.unusedSimpArgs false
set_option linter.unusedVariables false
def stepB (d : List Rg) (i : Nat) : Bool := okR (gRg d i) && (i == 0 || (decide (cmpR (gRg d (i - 1)) (gRg d i) < 0) && !overR (gRg d (i - 1)) (gRg d i)))
def rightB (d : List Rg) : Bool := decide (d.length ≤ 4096) && (List.range d.length).all (stepB d)
theorem rightB_true {d : List Rg} : rightB d = true ↔ d.length ≤ 4096 ∧ ∀ i, i < d.length → stepB d i = true := by
  simp [rightB, List.all_eq_true]
theorem rightB_false {d : List Rg} {i : Nat} (hi : i < d.length) (h : stepB d i = false) : rightB d = false := by
  rw [Bool.eq_false_iff]
  intro e
  rw [(rightB_true.1 e).2 i hi] at h
  cases h
set_option maxHeartbeats 4000000 in
set_option maxRecDepth 100000 in
theorem right_any (A : Option Addr) (n c : Nat) (d : List Rg) (w : World) (hd : d.length = n) (hn : n ≤ 1000000) (h : Sl w w.heap.size 5 A n c (flatRg d)) :
    Calls Try.prog 47 #[.slice A n c] w fun e w' => e = .returned (.bool (rightB d)) ∧ Below w.heap.size w w' := by
  have HD := Lib.hid hd
  by_cases hbig : 4096 < n
  · have hf : rightB d = false := by
      rw [Bool.eq_false_iff]; intro e; have := (rightB_true.1 e).1; omega
    have HF := Lib.hid hf
    clear hf hd
    go_enter Try.func47, Try.ntmps47
    go_wp2
    go_ret
    exact ⟨by rw [HF.out]; rfl, Below.refl _ _⟩
  · clear hd
    go_enter Try.func47, Try.ntmps47
    go_wp2
    go_loopw [10] (fun i wr => ∃ k : Nat, k ≤ n ∧ i = .int .i64 k ∧ Hid (∀ j, j < k → stepB d j = true) ∧ Below w.heap.size w wr) (fun i _ => n - (intOf i).toNat)
    case atStart => exact ⟨0, by omega, rfl, (fun j hj => by omega), Below.refl _ _⟩
    case round =>
      obtain ⟨k, hk, rfl, HQ, hB⟩ := hrel
      by_cases hkn : k < n
      · obtain ⟨ad, rfl, hab, c0, c1, c2, c3, c4⟩ := (h.below hB).lst.atRg HD.out hkn
        obtain ⟨x, hx⟩ : ∃ x, gRg d k = x := ⟨_, rfl⟩
        rw [hx] at c0 c1 c2 c3 c4
        have HX := Lib.hid hx
        clear hx
        have hBa : Below wr.heap.size wr (wr.alloc (.cells #[.int .i64 x.fr, .int .i64 x.tn, .int .i64 x.st, .int .i64 x.en, .int .i64 x.ow] 59)) := by (repeat (first | exact Below.refl _ _ | refine Below.alloc ?_ (by first | omega | (simp; done) | (simp; omega)) _ | refine Below.setCell ?_ (by first | omega | (simp; done) | (simp; omega)) _ | refine Below.drew ?_))
        have hX := Blok.new wr 59 #[.int .i64 x.fr, .int .i64 x.tn, .int .i64 x.st, .int .i64 x.en, .int .i64 x.ow]
        have hB2 := hB.trans (hBa.mono hB.size)
        have hsx := hB2.size
        have hbb : wr.heap.size < (wr.alloc (.cells #[.int .i64 x.fr, .int .i64 x.tn, .int .i64 x.st, .int .i64 x.en, .int .i64 x.ow] 59)).heap.size := by simp
        have habw : ad.block < (wr.alloc (.cells #[.int .i64 x.fr, .int .i64 x.tn, .int .i64 x.st, .int .i64 x.en, .int .i64 x.ow] 59)).heap.size := by have := hB.size; simp; omega
        clear hBa
        go_wp2_with fail
        clear c0 c1 c2 c3 c4 hB
        have hB := hB2
        clear hB2
        generalize wr.alloc (.cells #[.int .i64 x.fr, .int .i64 x.tn, .int .i64 x.st, .int .i64 x.en, .int .i64 x.ow] 59) = wx at *
        generalize wr.heap.size = bb at *
        have x0 : wx.cell? ⟨bb, 0, none⟩ = some (.int .i64 x.fr) := hX.cell 0
        have x1 : wx.cell? ⟨bb, 1, none⟩ = some (.int .i64 x.tn) := hX.cell 1
        have x2 : wx.cell? ⟨bb, 2, none⟩ = some (.int .i64 x.st) := hX.cell 2
        have x3 : wx.cell? ⟨bb, 3, none⟩ = some (.int .i64 x.en) := hX.cell 3
        have x4 : wx.cell? ⟨bb, 4, none⟩ = some (.int .i64 x.ow) := hX.cell 4
        clear hX
        cases ho : okR x with
        | false =>
          have HO := Lib.hid ho
          have hf : rightB d = false := rightB_false (i := k) (by have := HD.out; omega) (by unfold stepB; rw [HX.out, ho]; rfl)
          have HF := Lib.hid hf
          clear ho hf
          go_wp2_with fail
          have q_x0 := fun d os => cell_regrown x0 d os
          have q_x1 := fun d os => cell_regrown x1 d os
          have q_x2 := fun d os => cell_regrown x2 d os
          have q_x3 := fun d os => cell_regrown x3 d os
          have q_x4 := fun d os => cell_regrown x4 d os
          try simp only [List.append]
          first | refine wp_region_text_below ?_ | refine wp_region_quiet_below (by kernel_rfl) (by kernel_rfl) ?_
          repeat (go_big_quiet_step ((first | (go_at_call 77; with_reducible exact Calls.regrown_of (okR_call x _ _ HO.out)) | (go_at_call 78; with_reducible exact Calls.regrown_of (HY.out ▸ cmpR_any z x _)) | (go_at_call 79; with_reducible exact Calls.regrown_of (HV.out ▸ over_any z x _)))))
          refine wpQuiet_nil ?_
          intro _ hqw
          obtain ⟨pq, hqw⟩ := hqw
          subst hqw
          clear q_x0 q_x1 q_x2 q_x3 q_x4
          have hbel := below_regrown wx pq.d pq.os
          replace hB := hB.trans (hbel.mono hsx)
          clear hbel x0 x1 x2 x3 x4
          generalize grow (redrawn wx pq.d) pq.os = wq at *
          go_wp2
          go_ret
          exact ⟨by rw [HF.out]; rfl, hB⟩
        | true =>
          have HO := Lib.hid ho
          clear ho
          have hcase : k = 0 ∨ ∃ p, k = p + 1 := by cases k with | zero => exact .inl rfl | succ p => exact .inr ⟨p, rfl⟩
          rcases hcase with rfl | ⟨p, rfl⟩
          · have hd0 : decide (((0 : Nat) : Int) > 0) = false := by simp
            have hN : ∀ j, j < 0 + 1 → stepB d j = true := fun j hj => by
              obtain rfl : j = 0 := by omega
              unfold stepB
              rw [HX.out, HO.out]; rfl
            have HN := Lib.hid hN
            clear hN
            go_wp2_with fail
            have q_x0 := fun d os => cell_regrown x0 d os
            have q_x1 := fun d os => cell_regrown x1 d os
            have q_x2 := fun d os => cell_regrown x2 d os
            have q_x3 := fun d os => cell_regrown x3 d os
            have q_x4 := fun d os => cell_regrown x4 d os
            try simp only [List.append]
            first | refine wp_region_text_below ?_ | refine wp_region_quiet_below (by kernel_rfl) (by kernel_rfl) ?_
            repeat (go_big_quiet_step ((first | (go_at_call 77; with_reducible exact Calls.regrown_of (okR_call x _ _ HO.out)) | (go_at_call 78; with_reducible exact Calls.regrown_of (HY.out ▸ cmpR_any z x _)) | (go_at_call 79; with_reducible exact Calls.regrown_of (HV.out ▸ over_any z x _)))))
            refine wpQuiet_nil ?_
            intro _ hqw
            obtain ⟨pq, hqw⟩ := hqw
            subst hqw
            clear q_x0 q_x1 q_x2 q_x3 q_x4
            have hbel := below_regrown wx pq.d pq.os
            replace hB := hB.trans (hbel.mono hsx)
            clear hbel x0 x1 x2 x3 x4
            generalize grow (redrawn wx pq.d) pq.os = wq at *
            go_wp2
            go_roundw
            case rel => exact ⟨0 + 1, by omega, by go_num, HN.out, hB⟩
            case measure => simp [intOf]; omega
          · have hd0 : decide (((p + 1 : Nat) : Int) > 0) = true := decide_eq_true (by omega)
            obtain ⟨ad', hae, hab', z0, z1, z2, z3, z4⟩ := (h.below hB).lst.atRg HD.out (k := p) (by omega)
            injection hae with hae
            subst hae
            obtain ⟨z, hz⟩ : ∃ z, gRg d p = z := ⟨_, rfl⟩
            rw [hz] at z0 z1 z2 z3 z4
            obtain ⟨y, hy⟩ : ∃ y, cmpR z x = y := ⟨_, rfl⟩
            obtain ⟨v, hv⟩ : ∃ v, overR z x = v := ⟨_, rfl⟩
            have hst : stepB d (p + 1) = (decide (y < 0) && !v) := by
              unfold stepB
              rw [Nat.add_sub_cancel, HX.out, hz, hy, hv, HO.out]; simp
            have HY := Lib.hid hy
            have HV := Lib.hid hv
            have HST := Lib.hid hst
            clear hz hy hv hst
            by_cases hy0 : y < 0
            · have hdy : decide (0 ≤ y) = false := by simp; omega
              cases v
              · have hN : ∀ j, j < p + 1 + 1 → stepB d j = true := fun j hj => by
                  by_cases e : j = p + 1
                  · rw [e, HST.out]; simp [hy0]
                  · exact HQ.out j (by omega)
                have HN := Lib.hid hN
                clear hN
                go_wp2_with fail
                have q_x0 := fun d os => cell_regrown x0 d os
                have q_x1 := fun d os => cell_regrown x1 d os
                have q_x2 := fun d os => cell_regrown x2 d os
                have q_x3 := fun d os => cell_regrown x3 d os
                have q_x4 := fun d os => cell_regrown x4 d os
                have q_z0 := fun d os => cell_regrown z0 d os
                have q_z1 := fun d os => cell_regrown z1 d os
                have q_z2 := fun d os => cell_regrown z2 d os
                have q_z3 := fun d os => cell_regrown z3 d os
                have q_z4 := fun d os => cell_regrown z4 d os
                try simp only [List.append]
                first | refine wp_region_text_below ?_ | refine wp_region_quiet_below (by kernel_rfl) (by kernel_rfl) ?_
                repeat (go_big_quiet_step ((first | (go_at_call 77; with_reducible exact Calls.regrown_of (okR_call x _ _ HO.out)) | (go_at_call 78; with_reducible exact Calls.regrown_of (HY.out ▸ cmpR_any z x _)) | (go_at_call 79; with_reducible exact Calls.regrown_of (HV.out ▸ over_any z x _)))))
                refine wpQuiet_nil ?_
                intro _ hqw
                obtain ⟨pq, hqw⟩ := hqw
                subst hqw
                clear q_x0 q_x1 q_x2 q_x3 q_x4 q_z0 q_z1 q_z2 q_z3 q_z4
                have hbel := below_regrown wx pq.d pq.os
                replace hB := hB.trans (hbel.mono hsx)
                clear hbel x0 x1 x2 x3 x4 z0 z1 z2 z3 z4
                generalize grow (redrawn wx pq.d) pq.os = wq at *
                go_wp2
                go_roundw
                case rel => exact ⟨(p + 1) + 1, by omega, by go_num, HN.out, hB⟩
                case measure => simp [intOf]; omega
              · have hf : rightB d = false := rightB_false (i := p + 1) (by have := HD.out; omega) (by rw [HST.out]; simp)
                have HF := Lib.hid hf
                clear hf
                go_wp2_with fail
                have q_x0 := fun d os => cell_regrown x0 d os
                have q_x1 := fun d os => cell_regrown x1 d os
                have q_x2 := fun d os => cell_regrown x2 d os
                have q_x3 := fun d os => cell_regrown x3 d os
                have q_x4 := fun d os => cell_regrown x4 d os
                have q_z0 := fun d os => cell_regrown z0 d os
                have q_z1 := fun d os => cell_regrown z1 d os
                have q_z2 := fun d os => cell_regrown z2 d os
                have q_z3 := fun d os => cell_regrown z3 d os
                have q_z4 := fun d os => cell_regrown z4 d os
                try simp only [List.append]
                first | refine wp_region_text_below ?_ | refine wp_region_quiet_below (by kernel_rfl) (by kernel_rfl) ?_
                repeat (go_big_quiet_step ((first | (go_at_call 77; with_reducible exact Calls.regrown_of (okR_call x _ _ HO.out)) | (go_at_call 78; with_reducible exact Calls.regrown_of (HY.out ▸ cmpR_any z x _)) | (go_at_call 79; with_reducible exact Calls.regrown_of (HV.out ▸ over_any z x _)))))
                refine wpQuiet_nil ?_
                intro _ hqw
                obtain ⟨pq, hqw⟩ := hqw
                subst hqw
                clear q_x0 q_x1 q_x2 q_x3 q_x4 q_z0 q_z1 q_z2 q_z3 q_z4
                have hbel := below_regrown wx pq.d pq.os
                replace hB := hB.trans (hbel.mono hsx)
                clear hbel x0 x1 x2 x3 x4 z0 z1 z2 z3 z4
                generalize grow (redrawn wx pq.d) pq.os = wq at *
                go_wp2
                go_ret
                exact ⟨by rw [HF.out]; rfl, hB⟩
            · have hdy : decide (0 ≤ y) = true := by simp; omega
              have hf : rightB d = false := rightB_false (i := p + 1) (by have := HD.out; omega) (by rw [HST.out]; simp; omega)
              have HF := Lib.hid hf
              clear hf
              go_wp2_with fail
              have q_x0 := fun d os => cell_regrown x0 d os
              have q_x1 := fun d os => cell_regrown x1 d os
              have q_x2 := fun d os => cell_regrown x2 d os
              have q_x3 := fun d os => cell_regrown x3 d os
              have q_x4 := fun d os => cell_regrown x4 d os
              have q_z0 := fun d os => cell_regrown z0 d os
              have q_z1 := fun d os => cell_regrown z1 d os
              have q_z2 := fun d os => cell_regrown z2 d os
              have q_z3 := fun d os => cell_regrown z3 d os
              have q_z4 := fun d os => cell_regrown z4 d os
              try simp only [List.append]
              first | refine wp_region_text_below ?_ | refine wp_region_quiet_below (by kernel_rfl) (by kernel_rfl) ?_
              repeat (go_big_quiet_step ((first | (go_at_call 77; with_reducible exact Calls.regrown_of (okR_call x _ _ HO.out)) | (go_at_call 78; with_reducible exact Calls.regrown_of (HY.out ▸ cmpR_any z x _)) | (go_at_call 79; with_reducible exact Calls.regrown_of (HV.out ▸ over_any z x _)))))
              refine wpQuiet_nil ?_
              intro _ hqw
              obtain ⟨pq, hqw⟩ := hqw
              subst hqw
              clear q_x0 q_x1 q_x2 q_x3 q_x4 q_z0 q_z1 q_z2 q_z3 q_z4
              have hbel := below_regrown wx pq.d pq.os
              replace hB := hB.trans (hbel.mono hsx)
              clear hbel x0 x1 x2 x3 x4 z0 z1 z2 z3 z4
              generalize grow (redrawn wx pq.d) pq.os = wq at *
              go_wp2
              go_ret
              exact ⟨by rw [HF.out]; rfl, hB⟩
      · obtain rfl : k = n := by omega
        have hf : rightB d = true := rightB_true.2 ⟨by have := HD.out; omega, fun i hi => HQ.out i (by have := HD.out; omega)⟩
        have HF := Lib.hid hf
        clear hf
        go_wp2
        go_ret
        exact ⟨by rw [HF.out]; rfl, hB⟩
end Go.Proofs.Ytfdphpmcgidmiaa.Kr

/- sort.Search; package ranges: Owlt. -/
namespace Go.Proofs.Ytfdphpmcgidmiaa.Kr
open Go.ChangeShapes Go.WideShapes Go.ChangeAt Go.RowKit Go.Sort
set_option linter.unusedSimpArgs false
set_option linter.unusedVariables false
/-- A function value that tells p of places below n, in whatever world that has grown from W. -/
structure PredI (g : FuncId) (lb : Array Value) (n : Nat) (W : World) (p : Nat → Bool) : Prop where
  run : ∀ vals w, (callFunc g vals).run Try.prog w = .ok (.enter g vals) w
  tells : ∀ w', Below W.heap.size W w' → ∀ i : Nat, i < n → Calls Try.prog g (#[.int .i64 i] ++ lb) w' fun e w'' => e = .returned (.bool (p i)) ∧ Below w'.heap.size w' w''
set_option maxHeartbeats 1000000 in
set_option maxRecDepth 100000 in
theorem search_any (n : Nat) (g : FuncId) (lb : Array Value) (p : Nat → Bool) (w : World) (hn : n ≤ 1000000) (hp : PredI g lb n w p) :
    Calls Try.prog 56 #[.int .i64 n, .func (.func g) #[] lb] w fun e w' => ∃ i : Nat, e = .returned (.int .i64 i) ∧ i ≤ n ∧ (i = 0 ∨ p (i - 1) = false) ∧ (i = n ∨ p i = true) ∧ Below w.heap.size w w' := by
  have hcf := hp.run
  have HP := Lib.hid hp
  clear hp
  go_enter Try.func56, Try.ntmps56
  go_wp2
  go_loopw [5, 6] (fun iv jv wr => ∃ i j : Nat, iv = .int .i64 i ∧ jv = .int .i64 j ∧ i ≤ j ∧ j ≤ n ∧ Hid (i = 0 ∨ p (i - 1) = false) ∧ Hid (j = n ∨ p j = true) ∧ Below w.heap.size w wr) (fun iv jv _ => (intOf jv - intOf iv).toNat)
  case atStart => exact ⟨0, n, rfl, rfl, by omega, Nat.le_refl _, .inl rfl, .inl rfl, Below.refl _ _⟩
  case round =>
    obtain ⟨i, j, rfl, rfl, hij, hjn, HI, HJ, hB⟩ := hrel
    have hs := hB.size
    by_cases hlt : i < j
    · obtain ⟨m, hm⟩ : ∃ m : Nat, (i + j) / 2 = m := ⟨_, rfl⟩
      have hmi : ((i : Int) + (j : Int)) / 2 = (m : Int) := by omega
      have hm1 : i ≤ m := by omega
      have hm2 : m < j := by omega
      have HM := Lib.hid hmi
      clear hm hmi
      have ht := HP.out.tells wr hB m (by omega)
      cases hpm : p m
      all_goals
        rw [hpm] at ht
        have HPM := Lib.hid hpm
        have HT := Lib.hid ht
        clear hpm ht
        go_wp2_with fail
        rw [HM.out]
        refine HT.out.mono ?_
        rintro e w1 ⟨rfl, hb1⟩
        have hB2 := hB.trans (hb1.mono hs)
        clear hb1 hB
        go_wp2
        go_roundw
        case rel => first
          | exact ⟨m + 1, j, by go_num, rfl, by omega, by omega, (.inr (by rw [Nat.add_sub_cancel]; exact HPM.out)), HJ, hB2⟩
          | exact ⟨i, m, rfl, rfl, by omega, by omega, HI, (.inr HPM.out), hB2⟩
        case measure => simp [intOf]; omega
    · obtain rfl : i = j := by omega
      go_wp2
      go_ret
      exact ⟨i, rfl, hjn, HI.out, HJ.out, hB⟩
def passP (d : List Rg) (cf ct ce : Int) (i : Nat) : Bool := decide (0 < waysI (gRg d i) ⟨cf, ct, 0, 0, 0⟩) || (waysI (gRg d i) ⟨cf, ct, 0, 0, 0⟩ == 0 && decide (ce ≤ (gRg d i).en))
set_option maxHeartbeats 1000000 in
set_option maxRecDepth 100000 in
theorem owlt1_any (A : Option Addr) (n c : Nat) (d : List Rg) (ci cf ct cs ce cr : Int) (i gl gw gc : Nat) (w : World) (hd : d.length = n) (hn : n ≤ 1000000) (h : Sl w w.heap.size 5 A n c (flatRg d)) (hi : i < n)
    (hL : Blok w gl 23 #[.slice A n c]) (hW : Blok w gw 59 #[.int .i64 cf, .int .i64 ct, .int .i64 0, .int .i64 0, .int .i64 0]) (hC : Blok w gc 28 #[.int .i64 ci, .int .i64 cf, .int .i64 ct, .int .i64 cs, .int .i64 ce, .int .i64 cr]) :
    Calls Try.prog 57 #[.int .i64 i, .pointer (some ⟨gl, 0, none⟩), .pointer (some ⟨gw, 0, none⟩), .pointer (some ⟨gc, 0, none⟩)] w fun e w' => e = .returned (.bool (passP d cf ct ce i)) ∧ Below w.heap.size w w' := by
  obtain ⟨ad, rfl, hab, c0, c1, c2, c3, c4⟩ := h.lst.atRg hd hi
  obtain ⟨x, hx⟩ : ∃ x, gRg d i = x := ⟨_, rfl⟩
  rw [hx] at c0 c1 c2 c3 c4
  obtain ⟨y, hy⟩ : ∃ y, waysI x ⟨cf, ct, 0, 0, 0⟩ = y := ⟨_, rfl⟩
  have hfin : passP d cf ct ce i = (decide (0 < y) || (y == 0 && decide (ce ≤ x.en))) := by unfold passP; rw [hx, hy]
  rw [hfin]
  have HY := Lib.hid hy
  have l0 : w.cell? ⟨gl, 0, none⟩ = some (.slice (some ad) n c) := hL.cell 0
  have w0 : w.cell? ⟨gw, 0, none⟩ = some (.int .i64 cf) := hW.cell 0
  have w1 : w.cell? ⟨gw, 1, none⟩ = some (.int .i64 ct) := hW.cell 1
  have w2 : w.cell? ⟨gw, 2, none⟩ = some (.int .i64 0) := hW.cell 2
  have w3 : w.cell? ⟨gw, 3, none⟩ = some (.int .i64 0) := hW.cell 3
  have w4 : w.cell? ⟨gw, 4, none⟩ = some (.int .i64 0) := hW.cell 4
  have k4 : w.cell? ⟨gc, 4, none⟩ = some (.int .i64 ce) := hC.cell 4
  have hil : (i : Int) < (n : Int) := by omega
  clear hx hy hfin hd hL hW hC
  go_enter Try.func57, Try.ntmps57
  go_wp2_with fail
  have q_l0 := fun d os => cell_regrown l0 d os
  have q_w0 := fun d os => cell_regrown w0 d os
  have q_w1 := fun d os => cell_regrown w1 d os
  have q_w2 := fun d os => cell_regrown w2 d os
  have q_w3 := fun d os => cell_regrown w3 d os
  have q_w4 := fun d os => cell_regrown w4 d os
  have q_c0 := fun d os => cell_regrown c0 d os
  have q_c1 := fun d os => cell_regrown c1 d os
  have q_c2 := fun d os => cell_regrown c2 d os
  have q_c3 := fun d os => cell_regrown c3 d os
  have q_c4 := fun d os => cell_regrown c4 d os
  try simp only [List.append]
  first | refine wp_region_text_below ?_ | refine wp_region_quiet_below (by kernel_rfl) (by kernel_rfl) ?_
  repeat (go_big_quiet_step ((go_at_call 58; with_reducible exact Calls.regrown_of (HY.out ▸ ways_any x ⟨cf, ct, 0, 0, 0⟩ _))))
  refine wpQuiet_nil ?_
  intro _ hqw
  obtain ⟨pq, hqw⟩ := hqw
  subst hqw
  clear q_l0 q_w0 q_w1 q_w2 q_w3 q_w4 q_c0 q_c1 q_c2 q_c3 q_c4
  have hB := below_regrown w pq.d pq.os
  have l0' : (grow (redrawn w pq.d) pq.os).cell? ⟨gl, 0, none⟩ = some (.slice (some ad) n c) := cell_regrown l0 _ _
  have k4' : (grow (redrawn w pq.d) pq.os).cell? ⟨gc, 4, none⟩ = some (.int .i64 ce) := cell_regrown k4 _ _
  have c3' : (grow (redrawn w pq.d) pq.os).cell? ⟨(ad.add (i * 5)).block, (ad.add (i * 5)).off + 3, none⟩ = some (.int .i64 x.en) := cell_regrown c3 _ _
  clear l0 w0 w1 w2 w3 w4 c0 c1 c2 c3 c4 k4 h
  generalize grow (redrawn w pq.d) pq.os = wq at *
  have hs := hB.size
  by_cases hy1 : 0 < y
  · have hd1 : decide (0 < y) = true := by simpa using hy1
    go_wp2_with fail
    have q_l0' := fun d os => cell_regrown l0' d os
    have q_k4' := fun d os => cell_regrown k4' d os
    have q_c3' := fun d os => cell_regrown c3' d os
    try simp only [List.append]
    first | refine wp_region_text_below ?_ | refine wp_region_quiet_below (by kernel_rfl) (by kernel_rfl) ?_
    repeat (go_big_quiet_step ((fail)))
    refine wpQuiet_nil ?_
    intro _ hqw
    obtain ⟨pq, hqw⟩ := hqw
    subst hqw
    clear q_l0' q_k4' q_c3'
    have hb2 := below_regrown wq pq.d pq.os
    go_wp2
    go_ret
    exact ⟨by simp [hd1], hB.trans (hb2.mono hs)⟩
  · have hd1 : decide (0 < y) = false := by simpa using hy1
    by_cases hy0 : y = 0
    · have hd2 : (y == 0) = true := by simpa using hy0
      go_wp2_with fail
      have q_l0' := fun d os => cell_regrown l0' d os
      have q_k4' := fun d os => cell_regrown k4' d os
      have q_c3' := fun d os => cell_regrown c3' d os
      try simp only [List.append]
      first | refine wp_region_text_below ?_ | refine wp_region_quiet_below (by kernel_rfl) (by kernel_rfl) ?_
      repeat (go_big_quiet_step ((fail)))
      refine wpQuiet_nil ?_
      intro _ hqw
      obtain ⟨pq, hqw⟩ := hqw
      subst hqw
      clear q_l0' q_k4' q_c3'
      have hb2 := below_regrown wq pq.d pq.os
      go_wp2
      go_ret
      exact ⟨by simp [hd1, hd2], hB.trans (hb2.mono hs)⟩
    · have hd2 : (y == 0) = false := by simpa using hy0
      go_wp2_with fail
      have q_l0' := fun d os => cell_regrown l0' d os
      have q_k4' := fun d os => cell_regrown k4' d os
      have q_c3' := fun d os => cell_regrown c3' d os
      try simp only [List.append]
      first | refine wp_region_text_below ?_ | refine wp_region_quiet_below (by kernel_rfl) (by kernel_rfl) ?_
      repeat (go_big_quiet_step ((fail)))
      refine wpQuiet_nil ?_
      intro _ hqw
      obtain ⟨pq, hqw⟩ := hqw
      subst hqw
      clear q_l0' q_k4' q_c3'
      have hb2 := below_regrown wq pq.d pq.os
      go_wp2
      go_ret
      exact ⟨by simp [hd1, hd2], hB.trans (hb2.mono hs)⟩
theorem pred_owlt (A : Option Addr) (n c : Nat) (d : List Rg) (ci cf ct cs ce cr : Int) (gl gw gc : Nat) (w : World) (hd : d.length = n) (hn : n ≤ 1000000) (h : Sl w w.heap.size 5 A n c (flatRg d))
    (hL : Blok w gl 23 #[.slice A n c]) (hW : Blok w gw 59 #[.int .i64 cf, .int .i64 ct, .int .i64 0, .int .i64 0, .int .i64 0]) (hC : Blok w gc 28 #[.int .i64 ci, .int .i64 cf, .int .i64 ct, .int .i64 cs, .int .i64 ce, .int .i64 cr]) :
    PredI 57 #[.pointer (some ⟨gl, 0, none⟩), .pointer (some ⟨gw, 0, none⟩), .pointer (some ⟨gc, 0, none⟩)] n w (passP d cf ct ce) :=
  ⟨enter_run Try.func57 rfl rfl, fun w' hb i hi => owlt1_any A n c d ci cf ct cs ce cr i gl gw gc w' hd hn (h.up hb) hi (hL.below hb hL.lt) (hW.below hb hW.lt) (hC.below hb hC.lt)⟩
end Go.Proofs.Ytfdphpmcgidmiaa.Kr

/- Package ranges: Owlt. -/
namespace Go.Proofs.Ytfdphpmcgidmiaa.Kr
open Go.ChangeShapes Go.WideShapes Go.ChangeAt Go.RowKit Go.Sort
set_option linter.unusedSimpArgs false
set_option linter.unusedVariables false
def owR (d : List Rg) (cf ct cs : Int) (n i : Nat) : Int × Bool := if i = n ∨ waysI (gRg d i) ⟨cf, ct, 0, 0, 0⟩ ≠ 0 ∨ cs < (gRg d i).st then (0, false) else ((gRg d i).ow, true)
/-- The place that is asked. -/
def AskAt (d : List Rg) (cf ct ce : Int) (n i : Nat) : Prop := i ≤ n ∧ (i = 0 ∨ passP d cf ct ce (i - 1) = false) ∧ (i = n ∨ passP d cf ct ce i = true)
set_option maxHeartbeats 2000000 in
set_option maxRecDepth 100000 in
theorem owlt_any (A : Option Addr) (n c : Nat) (d : List Rg) (ci cf ct cs ce cr : Int) (w : World) (hd : d.length = n) (hn : n ≤ 1000000) (h : Sl w w.heap.size 5 A n c (flatRg d)) :
    Calls Try.prog 28 #[.slice A n c, .agg #[.int .i64 ci, .int .i64 cf, .int .i64 ct, .int .i64 cs, .int .i64 ce, .int .i64 cr]] w fun e w' => ∃ i o b, e = .returned (.tuple #[.int .i64 o, .bool b]) ∧ AskAt d cf ct ce n i ∧ owR d cf ct cs n i = (o, b) ∧ Below w.heap.size w w' := by
  have HD := Lib.hid hd
  have hB : Below w.heap.size w (((w.alloc (.cells #[.slice A n c] 23)).alloc (.cells #[.int .i64 ci, .int .i64 cf, .int .i64 ct, .int .i64 cs, .int .i64 ce, .int .i64 cr] 28)).alloc (.cells #[.int .i64 cf, .int .i64 ct, .int .i64 0, .int .i64 0, .int .i64 0] 59)) := by (repeat (first | exact Below.refl _ _ | refine Below.alloc ?_ (by first | omega | (simp; done) | (simp; omega)) _ | refine Below.setCell ?_ (by first | omega | (simp; done) | (simp; omega)) _ | refine Below.drew ?_))
  have hL := ((Blok.new w 23 #[.slice A n c]).alloc (.cells #[.int .i64 ci, .int .i64 cf, .int .i64 ct, .int .i64 cs, .int .i64 ce, .int .i64 cr] 28)).alloc (.cells #[.int .i64 cf, .int .i64 ct, .int .i64 0, .int .i64 0, .int .i64 0] 59)
  have hC := (Blok.new (w.alloc (.cells #[.slice A n c] 23)) 28 #[.int .i64 ci, .int .i64 cf, .int .i64 ct, .int .i64 cs, .int .i64 ce, .int .i64 cr]).alloc (.cells #[.int .i64 cf, .int .i64 ct, .int .i64 0, .int .i64 0, .int .i64 0] 59)
  have hW := Blok.new ((w.alloc (.cells #[.slice A n c] 23)).alloc (.cells #[.int .i64 ci, .int .i64 cf, .int .i64 ct, .int .i64 cs, .int .i64 ce, .int .i64 cr] 28)) 59 #[.int .i64 cf, .int .i64 ct, .int .i64 0, .int .i64 0, .int .i64 0]
  simp only [World.size_alloc] at hC hW
  have hs := h.up hB
  have hz := hB.size
  clear h hd
  go_enter Try.func28, Try.ntmps28
  go_wp2_with fail
  generalize (((w.alloc (.cells #[.slice A n c] 23)).alloc (.cells #[.int .i64 ci, .int .i64 cf, .int .i64 ct, .int .i64 cs, .int .i64 ce, .int .i64 cr] 28)).alloc (.cells #[.int .i64 cf, .int .i64 ct, .int .i64 0, .int .i64 0, .int .i64 0] 59)) = w2 at *
  refine (search_any n _ _ _ w2 hn (pred_owlt A n c d ci cf ct cs ce cr _ _ _ w2 HD.out hn hs hL hW hC)).mono ?_
  rintro e w3 ⟨i, rfl, hi, h1, h2, hb3⟩
  have HA : Hid (AskAt d cf ct ce n i) := ⟨hi, h1, h2⟩
  replace hL := hL.below hb3 hL.lt
  replace hC := hC.below hb3 hC.lt
  replace hW := hW.below hb3 hW.lt
  replace hs := hs.up hb3
  replace hB := hB.trans (hb3.mono hz)
  replace hz := hB.size
  clear hb3 h1 h2
  have l0 : w3.cell? ⟨w.heap.size, 0, none⟩ = some (.slice A n c) := hL.cell 0
  by_cases hin : i = n
  · subst hin
    have hib : ((i : Int) == (i : Int)) = true := by simp
    have hr : owR d cf ct cs i i = (0, false) := by unfold owR; rw [if_pos (.inl rfl)]
    have HR := Lib.hid hr
    clear hr hL hC hW hs
    go_wp2_with fail
    have q_l0 := fun d os => cell_regrown l0 d os
    try simp only [List.append]
    first | refine wp_region_text_below ?_ | refine wp_region_quiet_below (by kernel_rfl) (by kernel_rfl) ?_
    repeat (go_big_quiet_step ((fail)))
    refine wpQuiet_nil ?_
    intro _ hqw
    obtain ⟨pq, hqw⟩ := hqw
    subst hqw
    clear q_l0
    have hb4 := below_regrown w3 pq.d pq.os
    go_wp2
    go_ret2
    exact ⟨i, 0, false, rfl, HA.out, HR.out, hB.trans (hb4.mono hz)⟩
  · have hib : ((i : Int) == (n : Int)) = false := beq_eq_false_iff_ne.2 (by omega)
    have hil : i < n := by omega
    have hilI : (i : Int) < (n : Int) := by omega
    obtain ⟨ad, rfl, hab, c0, c1, c2, c3, c4⟩ := hs.lst.atRg HD.out hil
    obtain ⟨x, hx⟩ : ∃ x, gRg d i = x := ⟨_, rfl⟩
    rw [hx] at c0 c1 c2 c3 c4
    obtain ⟨y, hy⟩ : ∃ y, waysI x ⟨cf, ct, 0, 0, 0⟩ = y := ⟨_, rfl⟩
    have w0 : w3.cell? ⟨w.heap.size + 1 + 1, 0, none⟩ = some (.int .i64 cf) := hW.cell 0
    have w1 : w3.cell? ⟨w.heap.size + 1 + 1, 1, none⟩ = some (.int .i64 ct) := hW.cell 1
    have w2' : w3.cell? ⟨w.heap.size + 1 + 1, 2, none⟩ = some (.int .i64 0) := hW.cell 2
    have w3' : w3.cell? ⟨w.heap.size + 1 + 1, 3, none⟩ = some (.int .i64 0) := hW.cell 3
    have w4' : w3.cell? ⟨w.heap.size + 1 + 1, 4, none⟩ = some (.int .i64 0) := hW.cell 4
    have k3 : w3.cell? ⟨w.heap.size + 1, 3, none⟩ = some (.int .i64 cs) := hC.cell 3
    have HX := Lib.hid hx
    have HY := Lib.hid hy
    clear hL hC hW
    by_cases hy0 : y = 0
    · have hyb : (y != 0) = false := by simp [hy0]
      by_cases hst : cs < x.st
      · have hdst : decide (cs < x.st) = true := by simpa using hst
        have hr : owR d cf ct cs n i = (0, false) := by unfold owR; rw [if_pos (.inr (.inr (by rw [hx]; exact hst)))]
        have HR := Lib.hid hr
        clear hr hx hy hy0 hs
        go_wp2_with fail
        have q_l0 := fun d os => cell_regrown l0 d os
        have q_w0 := fun d os => cell_regrown w0 d os
        have q_w1 := fun d os => cell_regrown w1 d os
        have q_w2' := fun d os => cell_regrown w2' d os
        have q_w3' := fun d os => cell_regrown w3' d os
        have q_w4' := fun d os => cell_regrown w4' d os
        have q_k3 := fun d os => cell_regrown k3 d os
        have q_c0 := fun d os => cell_regrown c0 d os
        have q_c1 := fun d os => cell_regrown c1 d os
        have q_c2 := fun d os => cell_regrown c2 d os
        have q_c3 := fun d os => cell_regrown c3 d os
        have q_c4 := fun d os => cell_regrown c4 d os
        try simp only [List.append]
        first | refine wp_region_text_below ?_ | refine wp_region_quiet_below (by kernel_rfl) (by kernel_rfl) ?_
        repeat (go_big_quiet_step ((go_at_call 58; with_reducible exact Calls.regrown_of (HY.out ▸ ways_any x ⟨cf, ct, 0, 0, 0⟩ _))))
        refine wpQuiet_nil ?_
        intro _ hqw
        obtain ⟨pq, hqw⟩ := hqw
        subst hqw
        clear q_l0 q_w0 q_w1 q_w2' q_w3' q_w4' q_k3 q_c0 q_c1 q_c2 q_c3 q_c4
        have hb4 := below_regrown w3 pq.d pq.os
        clear c0 c1 c2 c3 c4 w0 w1 w2' w3' w4' k3 l0
        go_wp2
        go_ret2
        exact ⟨i, 0, false, rfl, HA.out, HR.out, hB.trans (hb4.mono hz)⟩
      · have hdst : decide (cs < x.st) = false := by simpa using hst
        have hr : owR d cf ct cs n i = (x.ow, true) := by
          unfold owR
          rw [if_neg, hx]
          rw [hx, hy]
          rintro (e | e | e)
          · exact hin e
          · exact e hy0
          · exact hst e
        have HR := Lib.hid hr
        clear hr hx hy hy0
        go_wp2_with fail
        have q_l0 := fun d os => cell_regrown l0 d os
        have q_w0 := fun d os => cell_regrown w0 d os
        have q_w1 := fun d os => cell_regrown w1 d os
        have q_w2' := fun d os => cell_regrown w2' d os
        have q_w3' := fun d os => cell_regrown w3' d os
        have q_w4' := fun d os => cell_regrown w4' d os
        have q_k3 := fun d os => cell_regrown k3 d os
        have q_c0 := fun d os => cell_regrown c0 d os
        have q_c1 := fun d os => cell_regrown c1 d os
        have q_c2 := fun d os => cell_regrown c2 d os
        have q_c3 := fun d os => cell_regrown c3 d os
        have q_c4 := fun d os => cell_regrown c4 d os
        try simp only [List.append]
        first | refine wp_region_text_below ?_ | refine wp_region_quiet_below (by kernel_rfl) (by kernel_rfl) ?_
        repeat (go_big_quiet_step ((go_at_call 58; with_reducible exact Calls.regrown_of (HY.out ▸ ways_any x ⟨cf, ct, 0, 0, 0⟩ _))))
        refine wpQuiet_nil ?_
        intro _ hqw
        obtain ⟨pq, hqw⟩ := hqw
        subst hqw
        clear q_l0 q_w0 q_w1 q_w2' q_w3' q_w4' q_k3 q_c0 q_c1 q_c2 q_c3 q_c4
        have hb4 := below_regrown w3 pq.d pq.os
        have l0' : (grow (redrawn w3 pq.d) pq.os).cell? ⟨w.heap.size, 0, none⟩ = some (.slice (some ad) n c) := cell_regrown l0 _ _
        have c4' : (grow (redrawn w3 pq.d) pq.os).cell? ⟨(ad.add (i * 5)).block, (ad.add (i * 5)).off + 4, none⟩ = some (.int .i64 x.ow) := cell_regrown c4 _ _
        clear c0 c1 c2 c3 c4 w0 w1 w2' w3' w4' k3 l0 hs
        generalize grow (redrawn w3 pq.d) pq.os = wq at *
        go_wp2
        go_ret2
        exact ⟨i, x.ow, true, rfl, HA.out, HR.out, hB.trans (hb4.mono hz)⟩
    · have hyb : (y != 0) = true := by simpa using hy0
      have hr : owR d cf ct cs n i = (0, false) := by unfold owR; rw [if_pos (.inr (.inl (by rw [hx, hy]; exact hy0)))]
      have HR := Lib.hid hr
      clear hr hx hy hy0 hs
      go_wp2_with fail
      have q_l0 := fun d os => cell_regrown l0 d os
      have q_w0 := fun d os => cell_regrown w0 d os
      have q_w1 := fun d os => cell_regrown w1 d os
      have q_w2' := fun d os => cell_regrown w2' d os
      have q_w3' := fun d os => cell_regrown w3' d os
      have q_w4' := fun d os => cell_regrown w4' d os
      have q_k3 := fun d os => cell_regrown k3 d os
      have q_c0 := fun d os => cell_regrown c0 d os
      have q_c1 := fun d os => cell_regrown c1 d os
      have q_c2 := fun d os => cell_regrown c2 d os
      have q_c3 := fun d os => cell_regrown c3 d os
      have q_c4 := fun d os => cell_regrown c4 d os
      try simp only [List.append]
      first | refine wp_region_text_below ?_ | refine wp_region_quiet_below (by kernel_rfl) (by kernel_rfl) ?_
      repeat (go_big_quiet_step ((go_at_call 58; with_reducible exact Calls.regrown_of (HY.out ▸ ways_any x ⟨cf, ct, 0, 0, 0⟩ _))))
      refine wpQuiet_nil ?_
      intro _ hqw
      obtain ⟨pq, hqw⟩ := hqw
      subst hqw
      clear q_l0 q_w0 q_w1 q_w2' q_w3' q_w4' q_k3 q_c0 q_c1 q_c2 q_c3 q_c4
      have hb4 := below_regrown w3 pq.d pq.os
      clear c0 c1 c2 c3 c4 w0 w1 w2' w3' w4' k3 l0
      go_wp2
      go_ret2
      exact ⟨i, 0, false, rfl, HA.out, HR.out, hB.trans (hb4.mono hz)⟩
end Go.Proofs.Ytfdphpmcgidmiaa.Kr

/- Contracts of the document's answer for layer 3: it answers what package check answers, at all arguments. -/
namespace Go.Proofs.Ytfdphpmcgidmiaa
open Go.ChangeShapes Go.WideShapes Go.ChangeAt Go.RowKit Go.Sort
set_option linter.unusedSimpArgs false
set_option linter.unusedVariables false

theorem ret_bool {a b : Bool} (h : a = b) : Ending.returned (.bool a) = .returned (.bool b) := by rw [h]

theorem rnode_any (n : Int) (w : World) :
    Calls Try.prog 84 #[.int .i64 n] w fun e w' => e = .returned (.bool (nodeB n)) ∧ w = w' := by
  by_cases h1 : 1 ≤ n <;> by_cases h2 : n ≤ 255 <;>
  · go_enter Try.func84, Try.ntmps84
    go_wp2
    go_ret
    exact ⟨by simp [nodeB, inB, h1, h2], rfl⟩

def pairB (fr tn st en : Int) : Bool := wayB fr tn && spanB st en
theorem pairB_spec {fr tn st en : Int} : pairB fr tn st en = true ↔ (1 ≤ fr ∧ fr ≤ 255) ∧ (1 ≤ tn ∧ tn ≤ 255) ∧ fr ≠ tn ∧ 0 ≤ st ∧ st < en ∧ en ≤ 2147483647 := by
  simp [pairB, wayB, nodeB, spanB, inB, and_assoc]

theorem pair_any (fr tn st en : Int) (w : World) :
    Calls Try.prog 68 #[.int .i64 fr, .int .i64 tn, .int .i64 st, .int .i64 en] w fun e w' => e = .returned (.bool (pairB fr tn st en)) ∧ w = w' := by
  go_enter Try.func68, Try.ntmps68
  go_wp2_with (go_at_call 84; refine (rnode_any _ _).mono ?_; rintro e w' ⟨rfl, rfl⟩)
  all_goals go_ret
  all_goals refine ⟨ret_bool ?_, rfl⟩
  all_goals first
    | (simp [pairB, wayB, spanB, *]; done)
    | (simp [pairB, wayB, spanB, *]; omega)
theorem pair_is {fr tn st en : Int} (b : Bool) (h : pairB fr tn st en = b) (w : World) :
    Calls Try.prog 68 #[.int .i64 fr, .int .i64 tn, .int .i64 st, .int .i64 en] w fun e w' => e = .returned (.bool b) ∧ w = w' := h ▸ pair_any fr tn st en w
theorem rcontact_any (id fr tn st en ra : Int) (w : World) :
    Calls Try.prog 38 #[.agg #[.int .i64 id, .int .i64 fr, .int .i64 tn, .int .i64 st, .int .i64 en, .int .i64 ra]] w fun e w' => e = .returned (.bool (contactB id fr tn st en ra)) ∧ Below w.heap.size w w' := by
  by_cases hp : pairB fr tn st en = true
  · have HP := Lib.hid hp
    have Hp := Lib.hid (pairB_spec.1 hp)
    clear hp
    go_enter Try.func38, Try.ntmps38
    go_wp2_with (go_at_call 68; refine (pair_is true HP.out _).mono ?_; rintro e w' ⟨rfl, rfl⟩)
    all_goals go_ret
    all_goals refine ⟨ret_bool ?_, (Below.refl _ _).alloc (Nat.le_refl _) _⟩
    all_goals
      have hp := Hp.out
      rw [Bool.eq_iff_iff, contactB_spec]
      simp only [decide_eq_true_eq, Bool.false_eq_true, iff_true, false_iff, true_iff]
      omega
  · have HP := Lib.hid (show pairB fr tn st en = false by simpa using hp)
    rw [pairB_spec] at hp
    have Hp := Lib.hid hp
    clear hp
    go_enter Try.func38, Try.ntmps38
    go_wp2_with (go_at_call 68; refine (pair_is false HP.out _).mono ?_; rintro e w' ⟨rfl, rfl⟩)
    go_ret
    have hp := Hp.out
    exact ⟨ret_bool (by symm; rw [Bool.eq_false_iff, ne_eq, contactB_spec]; omega), (Below.refl _ _).alloc (Nat.le_refl _) _⟩
theorem rcontact_is {id fr tn st en ra : Int} (b : Bool) (h : contactB id fr tn st en ra = b) (w : World) :
    Calls Try.prog 38 #[.agg #[.int .i64 id, .int .i64 fr, .int .i64 tn, .int .i64 st, .int .i64 en, .int .i64 ra]] w fun e w' => e = .returned (.bool b) ∧ Below w.heap.size w w' := h ▸ rcontact_any id fr tn st en ra w
theorem rrange_any (fr tn st en ow : Int) (w : World) :
    Calls Try.prog 61 #[.agg #[.int .i64 fr, .int .i64 tn, .int .i64 st, .int .i64 en, .int .i64 ow]] w fun e w' => e = .returned (.bool (rangeB fr tn st en ow)) ∧ Below w.heap.size w w' := by
  by_cases hp : pairB fr tn st en = true
  · have HP := Lib.hid hp
    have Hp := Lib.hid (pairB_spec.1 hp)
    clear hp
    go_enter Try.func61, Try.ntmps61
    go_wp2_with (go_at_call 68; refine (pair_is true HP.out _).mono ?_; rintro e w' ⟨rfl, rfl⟩)
    all_goals go_ret
    all_goals refine ⟨ret_bool ?_, (Below.refl _ _).alloc (Nat.le_refl _) _⟩
    all_goals
      have hp := Hp.out
      rw [Bool.eq_iff_iff, rangeB_spec]
      simp only [decide_eq_true_eq, Bool.false_eq_true, iff_true, false_iff, true_iff]
      omega
  · have HP := Lib.hid (show pairB fr tn st en = false by simpa using hp)
    rw [pairB_spec] at hp
    have Hp := Lib.hid hp
    clear hp
    go_enter Try.func61, Try.ntmps61
    go_wp2_with (go_at_call 68; refine (pair_is false HP.out _).mono ?_; rintro e w' ⟨rfl, rfl⟩)
    go_ret
    have hp := Hp.out
    exact ⟨ret_bool (by symm; rw [Bool.eq_false_iff, ne_eq, rangeB_spec]; omega), (Below.refl _ _).alloc (Nat.le_refl _) _⟩
theorem rvolume_any (id fr tn st en ra : Int) (w : World) :
    Calls Try.prog 71 #[.agg #[.int .i64 id, .int .i64 fr, .int .i64 tn, .int .i64 st, .int .i64 en, .int .i64 ra]] w fun e w' => e = .returned (.int .i64 (volumeF id fr tn st en ra)) ∧ Below w.heap.size w w' := by
  by_cases h : contactB id fr tn st en ra = true
  · have hv := volume_bounds h
    have hs := contactB_spec.1 h
    go_enter Try.func71, Try.ntmps71
    go_wp2_with (go_at_call 38; refine (rcontact_any _ _ _ _ _ _ _).mono ?_; rintro e w' ⟨rfl, hb⟩; obtain ⟨hc, hf⟩ := bcell hb)
    go_ret
    exact ⟨by simp [volumeF, h], ((Below.refl _ _).alloc (Nat.le_refl _) _).trans (hb.mono (by simp))⟩
  · go_enter Try.func71, Try.ntmps71
    go_wp2_with (go_at_call 38; refine (rcontact_any _ _ _ _ _ _ _).mono ?_; rintro e w' ⟨rfl, hb⟩)
    go_ret
    exact ⟨by simp [volumeF, h], ((Below.refl _ _).alloc (Nat.le_refl _) _).trans (hb.mono (by simp))⟩
end Go.Proofs.Ytfdphpmcgidmiaa

/- Layer 7's small case comes out right. No condition. -/
namespace Go.Proofs.Ytfdphpmcgidmiaa.Kr
open Go.ChangeShapes Go.WideShapes Go.ChangeAt Go.RowKit Go.Sort
set_option linter.unusedSimpArgs false
set_option linter.unusedVariables false
theorem own_below {w w' : World} {base : Nat} {e : TypeId} {size n : Nat} {v : Value} {xs : List Value} (h : w.ownsRow base e size v n xs) (hb : Below w.heap.size w w') : w'.ownsRow base e size v n xs :=
  h.kept (grown_of_below (row := some w.heap.size) hb) (.inr (fun e => by have := (h.lt _ e).2; omega))
instance (d : List Rg) (cf ct ce : Int) (n i : Nat) : Decidable (AskAt d cf ct ce n i) := by unfold AskAt; infer_instance
theorem add_first {d : List Rg} {r : Rg} {n i : Nat} (q : Nat) (hi : i ≤ n) (h1 : i = 0 ∨ cmpR (gRg d (i - 1)) r < 0) (h2 : i = n ∨ 0 ≤ cmpR (gRg d i) r) (hq : ∀ j, j ≤ n → (j = 0 ∨ cmpR (gRg d (j - 1)) r < 0) → (j = n ∨ 0 ≤ cmpR (gRg d j) r) → j = q) : i = q := hq i hi h1 h2
end Go.Proofs.Ytfdphpmcgidmiaa.Kr

/- What was added, changed and deleted leaves all as it was. No condition. -/
namespace Go.Proofs.Ytfdphpmcgidmiaa.Kr
open Go.ChangeShapes Go.WideShapes Go.ChangeAt Go.RowKit Go.Sort
set_option linter.unusedSimpArgs false
set_option linter.unusedVariables false
def insR (d : List Rg) (i : Nat) (r : Rg) : List Rg := d.take i ++ [r] ++ d.drop i
theorem insR_length {d : List Rg} {i : Nat} (r : Rg) (hi : i ≤ d.length) : (insR d i r).length = d.length + 1 := by
  unfold insR
  simp only [List.length_append, List.length_take, List.length_drop, List.length_cons, List.length_nil]
  omega
theorem insR_lt {d : List Rg} {i j : Nat} (r : Rg) (hi : i ≤ d.length) (hj : j < i) : gRg (insR d i r) j = gRg d j := by
  unfold gRg insR
  rw [List.append_assoc, List.getD_eq_getElem?_getD, List.getD_eq_getElem?_getD, List.getElem?_append_left (by simp; omega), List.getElem?_take_of_lt hj]
theorem insR_at {d : List Rg} {i : Nat} (r : Rg) (hi : i ≤ d.length) : gRg (insR d i r) i = r := by
  unfold gRg insR
  rw [List.append_assoc, List.getD_eq_getElem?_getD, List.getElem?_append_right (by simp; omega)]
  have : i - (d.take i).length = 0 := by simp; omega
  rw [this]
  rfl
theorem insR_set {d : List Rg} {i : Nat} (r x : Rg) (hi : i ≤ d.length) : (insR d i r).set i x = insR d i x := by
  unfold insR
  rw [List.append_assoc, List.append_assoc, List.set_append, if_neg (by simp; omega)]
  have : i - (d.take i).length = 0 := by simp; omega
  rw [this]
  rfl
theorem insR_filter {d : List Rg} {i : Nat} (x : Rg) (p : Rg → Bool) (hd : ∀ y ∈ d, p y = true) (hx : p x = false) : (insR d i x).filter p = d := by
  unfold insR
  rw [List.filter_append, List.filter_append, List.filter_eq_self.2 (fun y hy => hd y (List.mem_of_mem_take hy)), List.filter_eq_self.2 (fun y hy => hd y (List.mem_of_mem_drop hy)), List.filter_cons, if_neg (by simp [hx])]
  simp
theorem okR_span {r : Rg} (h : okR r = true) : r.st < r.en ∧ 0 ≤ r.ow ∧ r.ow ≤ 2147483647 := by
  unfold okR rangeB spanB inB at h
  simp at h
  omega
theorem mem_gRg {d : List Rg} {y : Rg} (h : y ∈ d) : ∃ j, j < d.length ∧ gRg d j = y := by
  obtain ⟨j, hj, e⟩ := List.mem_iff_getElem.1 h
  exact ⟨j, hj, by unfold gRg; rw [List.getD_eq_getElem?_getD, List.getElem?_eq_getElem hj, e]; rfl⟩
/-- Who may be added is like no range that is there. -/
theorem fresh_of {d : List Rg} {r : Rg} (hr : rightB d = true) (hm : mayF d r = 0) : okR r = true ∧ ∀ y ∈ d, sameR y r = false := by
  have hok : okR r = true := by
    unfold mayF at hm
    cases h : okR r
    · rw [h] at hm; simp at hm
    · rfl
  refine ⟨hok, fun y hy => ?_⟩
  have hy2 : overR y r = false := by
    unfold mayF at hm
    rw [if_neg (by rw [hok]; decide)] at hm
    split at hm
    · cases hm
    · by_cases h : d.any (fun o => overR o r) = true
      · rw [if_pos h] at hm; cases hm
      · rw [List.any_eq_true] at h
        cases e : overR y r
        · rfl
        · exact absurd ⟨y, hy, e⟩ h
  obtain ⟨j, hj, rfl⟩ := mem_gRg hy
  have hok2 : okR (gRg d j) = true := by
    have := (rightB_true.1 hr).2 j hj
    unfold stepB at this
    simp at this
    exact this.1
  have h1 := okR_span hok
  have h2 := okR_span hok2
  unfold overR at hy2
  unfold sameR
  simp at hy2 ⊢
  intro e1 e2 e3
  have := hy2 e1 e2
  omega
theorem sameR_ow (y r : Rg) (x : Int) : sameR y ⟨r.fr, r.tn, r.st, r.en, x⟩ = sameR y r := rfl
theorem rangesTwice_own : ownKnob Try.prog.godebug = none := by kernel_rfl
theorem rangesTwice_laidOut : laidOutB Try.prog = true := by kernel_rfl

end Go.Proofs.Ytfdphpmcgidmiaa.Kr
