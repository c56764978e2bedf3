
/- api.Booked: its cells, lists of it. No condition. -/
import Derived.Test.YtfdphpmcgidmiaaChecked
import Derived.Test.YtfdphpmcgidmiaaSlLib
import Derived.Test.YtfdphpmcgidmiaaArr3
namespace Go.Proofs.Ytfdphpmcgidmiaa
open Go.ChangeShapes Go.WideShapes Go.ChangeAt Go.RowKit Go.Sort
set_option linter.unusedSimpArgs false
set_option linter.unusedVariables false
structure Bk where
  id : Int
  ua : Int
  ub : Int
  uc : Int
theorem Bk.ext_ {a b : Bk} (h0 : a.id = b.id) (h1 : a.ua = b.ua) (h2 : a.ub = b.ub) (h3 : a.uc = b.uc) : a = b := by cases a; cases b; simp_all
instance : DecidableEq Bk := fun a b => if h : a.id = b.id ∧ a.ua = b.ua ∧ a.ub = b.ub ∧ a.uc = b.uc then isTrue (Bk.ext_ h.1 h.2.1 h.2.2.1 h.2.2.2) else isFalse (by rintro rfl; simp at h)
def Bk.cs (r : Bk) : List Value := [.int .i64 r.id, .int .i64 r.ua, .int .i64 r.ub, .int .i64 r.uc]
def flatBk (d : List Bk) : List Value := d.flatMap Bk.cs
def gBk (d : List Bk) (i : Nat) : Bk := d.getD i ⟨0, 0, 0, 0⟩
theorem flatBk_cons (p : Bk) (d : List Bk) : flatBk (p :: d) = .int .i64 p.id :: .int .i64 p.ua :: .int .i64 p.ub :: .int .i64 p.uc :: flatBk d := rfl
theorem flatBk_length (d : List Bk) : (flatBk d).length = d.length * 4 := by
  induction d with
  | nil => rfl
  | cons p d ih => rw [flatBk_cons]; simp only [List.length_cons, ih]; omega
theorem flatBk_append (d e : List Bk) : flatBk (d ++ e) = flatBk d ++ flatBk e := by simp [flatBk]
theorem flatBk_at0 : ∀ (d : List Bk) (i : Nat), i < d.length → (flatBk d)[i * 4]? = some (.int .i64 (gBk d i).id)
  | p :: d, 0, _ => rfl
  | p :: d, i + 1, h => by
    rw [flatBk_cons, show (i + 1) * 4 = i * 4 + 1 + 1 + 1 + 1 from by omega]
    simp only [List.getElem?_cons_succ]
    exact flatBk_at0 d i (by simpa using h)
theorem flatBk_at1 : ∀ (d : List Bk) (i : Nat), i < d.length → (flatBk d)[i * 4 + 1]? = some (.int .i64 (gBk d i).ua)
  | p :: d, 0, _ => rfl
  | p :: d, i + 1, h => by
    rw [flatBk_cons, show (i + 1) * 4 + 1 = i * 4 + 1 + 1 + 1 + 1 + 1 from by omega]
    simp only [List.getElem?_cons_succ]
    exact flatBk_at1 d i (by simpa using h)
theorem flatBk_at2 : ∀ (d : List Bk) (i : Nat), i < d.length → (flatBk d)[i * 4 + 2]? = some (.int .i64 (gBk d i).ub)
  | p :: d, 0, _ => rfl
  | p :: d, i + 1, h => by
    rw [flatBk_cons, show (i + 1) * 4 + 2 = i * 4 + 2 + 1 + 1 + 1 + 1 from by omega]
    simp only [List.getElem?_cons_succ]
    exact flatBk_at2 d i (by simpa using h)
theorem flatBk_at3 : ∀ (d : List Bk) (i : Nat), i < d.length → (flatBk d)[i * 4 + 3]? = some (.int .i64 (gBk d i).uc)
  | p :: d, 0, _ => rfl
  | p :: d, i + 1, h => by
    rw [flatBk_cons, show (i + 1) * 4 + 3 = i * 4 + 3 + 1 + 1 + 1 + 1 from by omega]
    simp only [List.getElem?_cons_succ]
    exact flatBk_at3 d i (by simpa using h)
theorem flatBk_set : ∀ (d : List Bk) (i : Nat) (p : Bk), (((((flatBk d).set (i * 4) (.int .i64 p.id)).set (i * 4 + 1) (.int .i64 p.ua)).set (i * 4 + 2) (.int .i64 p.ub)).set (i * 4 + 3) (.int .i64 p.uc)) = flatBk (d.set i p)
  | [], i, p => by simp [flatBk]
  | q :: d, 0, p => rfl
  | q :: d, i + 1, p => by
    rw [flatBk_cons]
    rw [show (i + 1) * 4 = i * 4 + 1 + 1 + 1 + 1 from by omega]
    rw [show i * 4 + 1 + 1 + 1 + 1 + 1 = i * 4 + 1 + 1 + 1 + 1 + 1 from by omega]
    rw [show i * 4 + 1 + 1 + 1 + 1 + 2 = i * 4 + 2 + 1 + 1 + 1 + 1 from by omega]
    rw [show i * 4 + 1 + 1 + 1 + 1 + 3 = i * 4 + 3 + 1 + 1 + 1 + 1 from by omega]
    simp only [List.set_cons_succ]
    rw [flatBk_set d i p]
    rfl
theorem flatBk_take : ∀ (d : List Bk) (n : Nat), (flatBk d).take (n * 4) = flatBk (d.take n)
  | _, 0 => by simp [flatBk]
  | [], n + 1 => by simp [flatBk]
  | p :: d, n + 1 => by
    rw [flatBk_cons, show (n + 1) * 4 = n * 4 + 1 + 1 + 1 + 1 from by omega]
    simp only [List.take_succ_cons]
    rw [flatBk_take d n]
    rfl
theorem flatBk_drop : ∀ (d : List Bk) (n : Nat), (flatBk d).drop (n * 4) = flatBk (d.drop n)
  | _, 0 => by simp
  | [], n + 1 => by simp [flatBk]
  | p :: d, n + 1 => by
    rw [flatBk_cons, show (n + 1) * 4 = n * 4 + 1 + 1 + 1 + 1 from by omega]
    simp only [List.drop_succ_cons]
    rw [flatBk_drop d n]
theorem flatBk_one : ∀ (l : List Bk), ∀ u ∈ flatBk l, u.oneCell' = true
  | [], u, h => by simp [flatBk] at h
  | p :: l, u, h => by
    rw [flatBk_cons] at h
    simp only [List.mem_cons] at h
    rcases h with rfl | rfl | rfl | rfl | h
    all_goals first | rfl | exact flatBk_one l u h
theorem rowsBk_of : ∀ (n : Nat) (ns : List Int), ns.length = n * 4 → ∃ d : List Bk, d.length = n ∧ ns.map (Value.int .i64) = flatBk d
  | 0, [], _ => ⟨[], rfl, rfl⟩
  | 0, _ :: _, h => by simp at h
  | n + 1, a0 :: a1 :: a2 :: a3 :: ns, h => by
    obtain ⟨d, h1, h2⟩ := rowsBk_of n ns (by simp at h; omega)
    exact ⟨⟨a0, a1, a2, a3⟩ :: d, by simp [h1], by simp [flatBk_cons, h2]⟩
  | n + 1, [], h => by simp at h <;> omega
  | n + 1, [_], h => by simp at h <;> omega
  | n + 1, [_, _], h => by simp at h <;> omega
  | n + 1, [_, _, _], h => by simp at h <;> omega

theorem Lst.atBk {w : World} {B : Nat} {A : Option Addr} {n : Nat} {l : List Bk} (h : Lst w B 4 A n (flatBk l)) (hl : l.length = n) {k : Nat} (hk : k < n) : ∃ ad, A = some ad ∧ ad.block < B ∧ w.cell? (ad.add (k * 4)) = some (.int .i64 (gBk l k).id) ∧ w.cell? ⟨(ad.add (k * 4)).block, (ad.add (k * 4)).off + 1, none⟩ = some (.int .i64 (gBk l k).ua) ∧ w.cell? ⟨(ad.add (k * 4)).block, (ad.add (k * 4)).off + 2, none⟩ = some (.int .i64 (gBk l k).ub) ∧ w.cell? ⟨(ad.add (k * 4)).block, (ad.add (k * 4)).off + 3, none⟩ = some (.int .i64 (gBk l k).uc) := by
  obtain ⟨ad, e, hb, hc⟩ := h.at_ (by omega)
  exact ⟨ad, e, hb, hc _ _ (flatBk_at0 l k (by omega)), by rw [addr_next _ _ _ (by omega)]; exact hc _ _ (flatBk_at1 l k (by omega)), by rw [addr_next _ _ _ (by omega)]; exact hc _ _ (flatBk_at2 l k (by omega)), by rw [addr_next _ _ _ (by omega)]; exact hc _ _ (flatBk_at3 l k (by omega))⟩
theorem ownBk_at {w : World} {base : Nat} {t : TypeId} {g n c : Nat} {d : List Bk} (h : w.ownsRow base t 4 (.slice (some ⟨g, 0, none⟩) n c) n (flatBk d)) (hd : d.length = n) {k : Nat} (hk : k < n) : w.cell? ⟨g, k * 4, none⟩ = some (.int .i64 (gBk d k).id) ∧ w.cell? ⟨g, k * 4 + 1, none⟩ = some (.int .i64 (gBk d k).ua) ∧ w.cell? ⟨g, k * 4 + 2, none⟩ = some (.int .i64 (gBk d k).ub) ∧ w.cell? ⟨g, k * 4 + 3, none⟩ = some (.int .i64 (gBk d k).uc) :=
  ⟨(h.cellAt (k * 4) (by omega)).trans (flatBk_at0 d k (by omega)), (h.cellAt (k * 4 + 1) (by omega)).trans (flatBk_at1 d k (by omega)), (h.cellAt (k * 4 + 2) (by omega)).trans (flatBk_at2 d k (by omega)), (h.cellAt (k * 4 + 3) (by omega)).trans (flatBk_at3 d k (by omega))⟩
theorem ownBk_store {w : World} {base : Nat} {t : TypeId} {g n c : Nat} {d : List Bk} (h : w.ownsRow base t 4 (.slice (some ⟨g, 0, none⟩) n c) n (flatBk d)) (i : Nat) (p : Bk) : ((((w.setCell ⟨g, i * 4, none⟩ (.int .i64 p.id)).setCell ⟨g, i * 4 + 1, none⟩ (.int .i64 p.ua)).setCell ⟨g, i * 4 + 2, none⟩ (.int .i64 p.ub)).setCell ⟨g, i * 4 + 3, none⟩ (.int .i64 p.uc)).ownsRow base t 4 (.slice (some ⟨g, 0, none⟩) n c) n (flatBk (d.set i p)) ∧ w.grownBy ((((w.setCell ⟨g, i * 4, none⟩ (.int .i64 p.id)).setCell ⟨g, i * 4 + 1, none⟩ (.int .i64 p.ua)).setCell ⟨g, i * 4 + 2, none⟩ (.int .i64 p.ub)).setCell ⟨g, i * 4 + 3, none⟩ (.int .i64 p.uc)) (some g) := by
  obtain ⟨r0, g0⟩ := h.stored (i * 4) (.int .i64 p.id)
  obtain ⟨r1, g1⟩ := r0.stored (i * 4 + 1) (.int .i64 p.ua)
  obtain ⟨r2, g2⟩ := r1.stored (i * 4 + 2) (.int .i64 p.ub)
  obtain ⟨r3, g3⟩ := r2.stored (i * 4 + 3) (.int .i64 p.uc)
  rw [flatBk_set] at r3
  exact ⟨r3, grown_trans (grown_trans (grown_trans (g0) g1) g2) g3⟩
theorem gBk_mem {d : List Bk} {i : Nat} (h : i < d.length) : gBk d i ∈ d := by
  unfold gBk; rw [List.getD_eq_getElem?_getD, List.getElem?_eq_getElem h]; simp
theorem gBk_eq {d : List Bk} {i : Nat} (h : i < d.length) : gBk d i = d[i] := by
  unfold gBk; rw [List.getD_eq_getElem?_getD, List.getElem?_eq_getElem h]; rfl
theorem take_nextBk {l : List Bk} {k : Nat} (h : k < l.length) : l.take (k + 1) = l.take k ++ [gBk l k] := by
  rw [List.take_succ_eq_append_getElem h, gBk_eq h]
theorem extBk {a b : List Bk} (hl : a.length = b.length) (h : ∀ i, i < a.length → gBk a i = gBk b i) : a = b := by
  refine List.ext_getElem hl fun i h1 h2 => ?_
  have := h i h1
  rw [gBk_eq h1, gBk_eq h2] at this
  exact this
theorem eqlBk (a b : Bk) (w : World) : (binOp .eql 55 (.agg #[.int .i64 a.id, .int .i64 a.ua, .int .i64 a.ub, .int .i64 a.uc]) (.agg #[.int .i64 b.id, .int .i64 b.ua, .int .i64 b.ub, .int .i64 b.uc])).run Try.prog w = .ok (.bool (decide (a = b))) w := by
  have e3 := fun (a b c x y z : Int) (w : World) => eq3 9997 a b c x y z w
  simp only [Nat.reduceAdd] at e3
  have u3 := Try.underlying3
  have a3 := Try.isAgg3
  have z3 := Try.sizeOf3
  have hS : Try.prog.underlying 55 = some (.struct (Try.prog.fieldsOf 55)) := by kernel_rfl
  have hp : Try.prog.stoodInHeld 55 = false := by kernel_rfl
  rw [run_eql_struct, show (10000 : Nat) = 9999 + 1 from rfl, run_equalIn_agg w 9999 55 _ _ hS hp]
  simp only [Program.fieldsOf, Try.underlying55]
  go_simp
  by_cases hab : a = b
  · subst hab; simp
  · simp only [hab, decide_false]
    have hx : ¬ (a.id = b.id ∧ a.ua = b.ua ∧ a.ub = b.ub ∧ a.uc = b.uc) := fun h => hab (Bk.ext_ h.1 h.2.1 h.2.2.1 h.2.2.2)
    by_cases h0 : a.id = b.id <;> by_cases h1 : a.ua = b.ua <;> by_cases h2 : a.ub = b.ub <;> by_cases h3 : a.uc = b.uc
    all_goals simp_all
theorem neqBk (a b : Bk) (w : World) : (binOp .neq 55 (.agg #[.int .i64 a.id, .int .i64 a.ua, .int .i64 a.ub, .int .i64 a.uc]) (.agg #[.int .i64 b.id, .int .i64 b.ua, .int .i64 b.ub, .int .i64 b.uc])).run Try.prog w = .ok (.bool (!decide (a = b))) w := by
  have e3 := fun (a b c x y z : Int) (w : World) => eq3 9997 a b c x y z w
  simp only [Nat.reduceAdd] at e3
  have u3 := Try.underlying3
  have a3 := Try.isAgg3
  have z3 := Try.sizeOf3
  have hS : Try.prog.underlying 55 = some (.struct (Try.prog.fieldsOf 55)) := by kernel_rfl
  have hp : Try.prog.stoodInHeld 55 = false := by kernel_rfl
  rw [run_neq_struct, show (10000 : Nat) = 9999 + 1 from rfl, run_equalIn_agg w 9999 55 _ _ hS hp]
  simp only [Program.fieldsOf, Try.underlying55]
  go_simp
  by_cases hab : a = b
  · subst hab; simp
  · simp only [hab, decide_false]
    have hx : ¬ (a.id = b.id ∧ a.ua = b.ua ∧ a.ub = b.ub ∧ a.uc = b.uc) := fun h => hab (Bk.ext_ h.1 h.2.1 h.2.2.1 h.2.2.2)
    by_cases h0 : a.id = b.id <;> by_cases h1 : a.ua = b.ua <;> by_cases h2 : a.ub = b.ub <;> by_cases h3 : a.uc = b.uc
    all_goals simp_all
theorem infoBk : (Try.prog.info? 55).map (fun i => (i.zero, i.size, i.bytes)) = some (some (.agg #[.int .i64 0, .int .i64 0, .int .i64 0, .int .i64 0]), 4, 32) := by kernel_rfl
end Go.Proofs.Ytfdphpmcgidmiaa
