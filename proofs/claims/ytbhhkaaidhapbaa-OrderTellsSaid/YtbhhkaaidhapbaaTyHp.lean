/- api.Hop: its cells, lists of it. No condition. -/
import Derived.Test.YtbhhkaaidhapbaaChecked
import Derived.Test.YtbhhkaaidhapbaaSlLib
namespace Go.Proofs.Ytbhhkaaidhapbaa
open Go.ChangeShapes Go.WideShapes Go.ChangeAt Go.RowKit Go.Sort
set_option linter.unusedSimpArgs false
set_option linter.unusedVariables false
structure Hp where
  id : Int
  se : Int
  ar : Int
theorem Hp.ext_ {a b : Hp} (h0 : a.id = b.id) (h1 : a.se = b.se) (h2 : a.ar = b.ar) : a = b := by cases a; cases b; simp_all
instance : DecidableEq Hp := fun a b => if h : a.id = b.id ∧ a.se = b.se ∧ a.ar = b.ar then isTrue (Hp.ext_ h.1 h.2.1 h.2.2) else isFalse (by rintro rfl; simp at h)
def Hp.cs (r : Hp) : List Value := [.int .i64 r.id, .int .i64 r.se, .int .i64 r.ar]
def flatHp (d : List Hp) : List Value := d.flatMap Hp.cs
def gHp (d : List Hp) (i : Nat) : Hp := d.getD i ⟨0, 0, 0⟩
theorem flatHp_cons (p : Hp) (d : List Hp) : flatHp (p :: d) = .int .i64 p.id :: .int .i64 p.se :: .int .i64 p.ar :: flatHp d := rfl
theorem flatHp_length (d : List Hp) : (flatHp d).length = d.length * 3 := by
  induction d with
  | nil => rfl
  | cons p d ih => rw [flatHp_cons]; simp only [List.length_cons, ih]; omega
theorem flatHp_append (d e : List Hp) : flatHp (d ++ e) = flatHp d ++ flatHp e := by simp [flatHp]
theorem flatHp_at0 : ∀ (d : List Hp) (i : Nat), i < d.length → (flatHp d)[i * 3]? = some (.int .i64 (gHp d i).id)
  | p :: d, 0, _ => rfl
  | p :: d, i + 1, h => by
    rw [flatHp_cons, show (i + 1) * 3 = i * 3 + 1 + 1 + 1 from by omega]
    simp only [List.getElem?_cons_succ]
    exact flatHp_at0 d i (by simpa using h)
theorem flatHp_at1 : ∀ (d : List Hp) (i : Nat), i < d.length → (flatHp d)[i * 3 + 1]? = some (.int .i64 (gHp d i).se)
  | p :: d, 0, _ => rfl
  | p :: d, i + 1, h => by
    rw [flatHp_cons, show (i + 1) * 3 + 1 = i * 3 + 1 + 1 + 1 + 1 from by omega]
    simp only [List.getElem?_cons_succ]
    exact flatHp_at1 d i (by simpa using h)
theorem flatHp_at2 : ∀ (d : List Hp) (i : Nat), i < d.length → (flatHp d)[i * 3 + 2]? = some (.int .i64 (gHp d i).ar)
  | p :: d, 0, _ => rfl
  | p :: d, i + 1, h => by
    rw [flatHp_cons, show (i + 1) * 3 + 2 = i * 3 + 2 + 1 + 1 + 1 from by omega]
    simp only [List.getElem?_cons_succ]
    exact flatHp_at2 d i (by simpa using h)
theorem flatHp_set : ∀ (d : List Hp) (i : Nat) (p : Hp), ((((flatHp d).set (i * 3) (.int .i64 p.id)).set (i * 3 + 1) (.int .i64 p.se)).set (i * 3 + 2) (.int .i64 p.ar)) = flatHp (d.set i p)
  | [], i, p => by simp [flatHp]
  | q :: d, 0, p => rfl
  | q :: d, i + 1, p => by
    rw [flatHp_cons]
    rw [show (i + 1) * 3 = i * 3 + 1 + 1 + 1 from by omega]
    rw [show i * 3 + 1 + 1 + 1 + 1 = i * 3 + 1 + 1 + 1 + 1 from by omega]
    rw [show i * 3 + 1 + 1 + 1 + 2 = i * 3 + 2 + 1 + 1 + 1 from by omega]
    simp only [List.set_cons_succ]
    rw [flatHp_set d i p]
    rfl
theorem flatHp_take : ∀ (d : List Hp) (n : Nat), (flatHp d).take (n * 3) = flatHp (d.take n)
  | _, 0 => by simp [flatHp]
  | [], n + 1 => by simp [flatHp]
  | p :: d, n + 1 => by
    rw [flatHp_cons, show (n + 1) * 3 = n * 3 + 1 + 1 + 1 from by omega]
    simp only [List.take_succ_cons]
    rw [flatHp_take d n]
    rfl
theorem flatHp_drop : ∀ (d : List Hp) (n : Nat), (flatHp d).drop (n * 3) = flatHp (d.drop n)
  | _, 0 => by simp
  | [], n + 1 => by simp [flatHp]
  | p :: d, n + 1 => by
    rw [flatHp_cons, show (n + 1) * 3 = n * 3 + 1 + 1 + 1 from by omega]
    simp only [List.drop_succ_cons]
    rw [flatHp_drop d n]
theorem flatHp_one : ∀ (l : List Hp), ∀ u ∈ flatHp l, u.oneCell' = true
  | [], u, h => by simp [flatHp] at h
  | p :: l, u, h => by
    rw [flatHp_cons] at h
    simp only [List.mem_cons] at h
    rcases h with rfl | rfl | rfl | h
    all_goals first | rfl | exact flatHp_one l u h
theorem rowsHp_of : ∀ (n : Nat) (ns : List Int), ns.length = n * 3 → ∃ d : List Hp, d.length = n ∧ ns.map (Value.int .i64) = flatHp d
  | 0, [], _ => ⟨[], rfl, rfl⟩
  | 0, _ :: _, h => by simp at h
  | n + 1, a0 :: a1 :: a2 :: ns, h => by
    obtain ⟨d, h1, h2⟩ := rowsHp_of n ns (by simp at h; omega)
    exact ⟨⟨a0, a1, a2⟩ :: d, by simp [h1], by simp [flatHp_cons, h2]⟩
  | n + 1, [], h => by simp at h <;> omega
  | n + 1, [_], h => by simp at h <;> omega
  | n + 1, [_, _], h => by simp at h <;> omega

theorem Lst.atHp {w : World} {B : Nat} {A : Option Addr} {n : Nat} {l : List Hp} (h : Lst w B 3 A n (flatHp l)) (hl : l.length = n) {k : Nat} (hk : k < n) : ∃ ad, A = some ad ∧ ad.block < B ∧ w.cell? (ad.add (k * 3)) = some (.int .i64 (gHp l k).id) ∧ w.cell? ⟨(ad.add (k * 3)).block, (ad.add (k * 3)).off + 1, none⟩ = some (.int .i64 (gHp l k).se) ∧ w.cell? ⟨(ad.add (k * 3)).block, (ad.add (k * 3)).off + 2, none⟩ = some (.int .i64 (gHp l k).ar) := by
  obtain ⟨ad, e, hb, hc⟩ := h.at_ (by omega)
  exact ⟨ad, e, hb, hc _ _ (flatHp_at0 l k (by omega)), by rw [addr_next _ _ _ (by omega)]; exact hc _ _ (flatHp_at1 l k (by omega)), by rw [addr_next _ _ _ (by omega)]; exact hc _ _ (flatHp_at2 l k (by omega))⟩
theorem ownHp_at {w : World} {base : Nat} {t : TypeId} {g n c : Nat} {d : List Hp} (h : w.ownsRow base t 3 (.slice (some ⟨g, 0, none⟩) n c) n (flatHp d)) (hd : d.length = n) {k : Nat} (hk : k < n) : w.cell? ⟨g, k * 3, none⟩ = some (.int .i64 (gHp d k).id) ∧ w.cell? ⟨g, k * 3 + 1, none⟩ = some (.int .i64 (gHp d k).se) ∧ w.cell? ⟨g, k * 3 + 2, none⟩ = some (.int .i64 (gHp d k).ar) :=
  ⟨(h.cellAt (k * 3) (by omega)).trans (flatHp_at0 d k (by omega)), (h.cellAt (k * 3 + 1) (by omega)).trans (flatHp_at1 d k (by omega)), (h.cellAt (k * 3 + 2) (by omega)).trans (flatHp_at2 d k (by omega))⟩
theorem ownHp_store {w : World} {base : Nat} {t : TypeId} {g n c : Nat} {d : List Hp} (h : w.ownsRow base t 3 (.slice (some ⟨g, 0, none⟩) n c) n (flatHp d)) (i : Nat) (p : Hp) : (((w.setCell ⟨g, i * 3, none⟩ (.int .i64 p.id)).setCell ⟨g, i * 3 + 1, none⟩ (.int .i64 p.se)).setCell ⟨g, i * 3 + 2, none⟩ (.int .i64 p.ar)).ownsRow base t 3 (.slice (some ⟨g, 0, none⟩) n c) n (flatHp (d.set i p)) ∧ w.grownBy (((w.setCell ⟨g, i * 3, none⟩ (.int .i64 p.id)).setCell ⟨g, i * 3 + 1, none⟩ (.int .i64 p.se)).setCell ⟨g, i * 3 + 2, none⟩ (.int .i64 p.ar)) (some g) := by
  obtain ⟨r0, g0⟩ := h.stored (i * 3) (.int .i64 p.id)
  obtain ⟨r1, g1⟩ := r0.stored (i * 3 + 1) (.int .i64 p.se)
  obtain ⟨r2, g2⟩ := r1.stored (i * 3 + 2) (.int .i64 p.ar)
  rw [flatHp_set] at r2
  exact ⟨r2, grown_trans (grown_trans (g0) g1) g2⟩
theorem gHp_mem {d : List Hp} {i : Nat} (h : i < d.length) : gHp d i ∈ d := by
  unfold gHp; rw [List.getD_eq_getElem?_getD, List.getElem?_eq_getElem h]; simp
theorem gHp_eq {d : List Hp} {i : Nat} (h : i < d.length) : gHp d i = d[i] := by
  unfold gHp; rw [List.getD_eq_getElem?_getD, List.getElem?_eq_getElem h]; rfl
theorem take_nextHp {l : List Hp} {k : Nat} (h : k < l.length) : l.take (k + 1) = l.take k ++ [gHp l k] := by
  rw [List.take_succ_eq_append_getElem h, gHp_eq h]
theorem extHp {a b : List Hp} (hl : a.length = b.length) (h : ∀ i, i < a.length → gHp a i = gHp b i) : a = b := by
  refine List.ext_getElem hl fun i h1 h2 => ?_
  have := h i h1
  rw [gHp_eq h1, gHp_eq h2] at this
  exact this
theorem eqlHp (a b : Hp) (w : World) : (binOp .eql 34 (.agg #[.int .i64 a.id, .int .i64 a.se, .int .i64 a.ar]) (.agg #[.int .i64 b.id, .int .i64 b.se, .int .i64 b.ar])).run Try.prog w = .ok (.bool (decide (a = b))) w := by
  have u3 := Try.underlying3
  have a3 := Try.isAgg3
  have z3 := Try.sizeOf3
  have hS : Try.prog.underlying 34 = some (.struct (Try.prog.fieldsOf 34)) := by kernel_rfl
  have hp : Try.prog.stoodInHeld 34 = false := by kernel_rfl
  rw [run_eql_struct, show (10000 : Nat) = 9999 + 1 from rfl, run_equalIn_agg w 9999 34 _ _ hS hp]
  simp only [Program.fieldsOf, Try.underlying34]
  go_simp
  by_cases hab : a = b
  · subst hab; simp
  · simp only [hab, decide_false]
    have hx : ¬ (a.id = b.id ∧ a.se = b.se ∧ a.ar = b.ar) := fun h => hab (Hp.ext_ h.1 h.2.1 h.2.2)
    by_cases h0 : a.id = b.id <;> by_cases h1 : a.se = b.se <;> by_cases h2 : a.ar = b.ar
    all_goals simp_all
theorem neqHp (a b : Hp) (w : World) : (binOp .neq 34 (.agg #[.int .i64 a.id, .int .i64 a.se, .int .i64 a.ar]) (.agg #[.int .i64 b.id, .int .i64 b.se, .int .i64 b.ar])).run Try.prog w = .ok (.bool (!decide (a = b))) w := by
  have u3 := Try.underlying3
  have a3 := Try.isAgg3
  have z3 := Try.sizeOf3
  have hS : Try.prog.underlying 34 = some (.struct (Try.prog.fieldsOf 34)) := by kernel_rfl
  have hp : Try.prog.stoodInHeld 34 = false := by kernel_rfl
  rw [run_neq_struct, show (10000 : Nat) = 9999 + 1 from rfl, run_equalIn_agg w 9999 34 _ _ hS hp]
  simp only [Program.fieldsOf, Try.underlying34]
  go_simp
  by_cases hab : a = b
  · subst hab; simp
  · simp only [hab, decide_false]
    have hx : ¬ (a.id = b.id ∧ a.se = b.se ∧ a.ar = b.ar) := fun h => hab (Hp.ext_ h.1 h.2.1 h.2.2)
    by_cases h0 : a.id = b.id <;> by_cases h1 : a.se = b.se <;> by_cases h2 : a.ar = b.ar
    all_goals simp_all
theorem infoHp : (Try.prog.info? 34).map (fun i => (i.zero, i.size, i.bytes)) = some (some (.agg #[.int .i64 0, .int .i64 0, .int .i64 0]), 3, 24) := by kernel_rfl
end Go.Proofs.Ytbhhkaaidhapbaa
