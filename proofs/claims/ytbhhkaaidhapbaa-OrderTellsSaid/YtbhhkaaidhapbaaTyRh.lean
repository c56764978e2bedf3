/- api.Route's head: its slice and when it is there; lists of it. No condition. -/
import Derived.Test.YtbhhkaaidhapbaaChecked
import Derived.Test.YtbhhkaaidhapbaaSlLib
namespace Go.Proofs.Ytbhhkaaidhapbaa
open Go.ChangeShapes Go.WideShapes Go.ChangeAt Go.RowKit Go.Sort
set_option linter.unusedSimpArgs false
set_option linter.unusedVariables false
structure Rh where
  A : Option Addr
  n : Nat
  c : Nat
  t : Int
def Rh.cs (r : Rh) : List Value := [.slice r.A r.n r.c, .int .i64 r.t]
def zeroRh : Rh := ⟨none, 0, 0, 0⟩
def flatRh (d : List Rh) : List Value := d.flatMap Rh.cs
def gRh (d : List Rh) (i : Nat) : Rh := d.getD i zeroRh
theorem flatRh_cons (p : Rh) (d : List Rh) : flatRh (p :: d) = .slice p.A p.n p.c :: .int .i64 p.t :: flatRh d := rfl
theorem flatRh_length (d : List Rh) : (flatRh d).length = d.length * 2 := by
  induction d with
  | nil => rfl
  | cons p d ih => rw [flatRh_cons]; simp only [List.length_cons, ih]; omega
theorem flatRh_append (d e : List Rh) : flatRh (d ++ e) = flatRh d ++ flatRh e := by simp [flatRh]
theorem flatRh_at0 : ∀ (d : List Rh) (i : Nat), i < d.length → (flatRh d)[i * 2]? = some (.slice (gRh d i).A (gRh d i).n (gRh d i).c)
  | p :: d, 0, _ => rfl
  | p :: d, i + 1, h => by
    rw [flatRh_cons, show (i + 1) * 2 = i * 2 + 1 + 1 from by omega]
    simp only [List.getElem?_cons_succ]
    exact flatRh_at0 d i (by simpa using h)
theorem flatRh_at1 : ∀ (d : List Rh) (i : Nat), i < d.length → (flatRh d)[i * 2 + 1]? = some (.int .i64 (gRh d i).t)
  | p :: d, 0, _ => rfl
  | p :: d, i + 1, h => by
    rw [flatRh_cons, show (i + 1) * 2 + 1 = i * 2 + 1 + 1 + 1 from by omega]
    simp only [List.getElem?_cons_succ]
    exact flatRh_at1 d i (by simpa using h)
theorem flatRh_set : ∀ (d : List Rh) (i : Nat) (p : Rh), (((flatRh d).set (i * 2) (.slice p.A p.n p.c)).set (i * 2 + 1) (.int .i64 p.t)) = flatRh (d.set i p)
  | [], i, p => by simp [flatRh]
  | q :: d, 0, p => rfl
  | q :: d, i + 1, p => by
    rw [flatRh_cons]
    rw [show (i + 1) * 2 = i * 2 + 1 + 1 from by omega]
    rw [show i * 2 + 1 + 1 + 1 = i * 2 + 1 + 1 + 1 from by omega]
    simp only [List.set_cons_succ]
    rw [flatRh_set d i p]
    rfl
theorem flatRh_set0 : ∀ (d : List Rh) (i : Nat) (A : Option Addr) (n c : Nat), i < d.length → (flatRh d).set (i * 2) (.slice A n c) = flatRh (d.set i ⟨A, n, c, (gRh d i).t⟩)
  | q :: d, 0, A, n, c, _ => rfl
  | q :: d, i + 1, A, n, c, h => by
    rw [flatRh_cons]
    rw [show (i + 1) * 2 = i * 2 + 1 + 1 from by omega]
    simp only [List.set_cons_succ]
    rw [flatRh_set0 d i A n c (by simpa using h)]
    rfl
theorem flatRh_take : ∀ (d : List Rh) (n : Nat), (flatRh d).take (n * 2) = flatRh (d.take n)
  | _, 0 => by simp [flatRh]
  | [], n + 1 => by simp [flatRh]
  | p :: d, n + 1 => by
    rw [flatRh_cons, show (n + 1) * 2 = n * 2 + 1 + 1 from by omega]
    simp only [List.take_succ_cons]
    rw [flatRh_take d n]
    rfl
theorem flatRh_drop : ∀ (d : List Rh) (n : Nat), (flatRh d).drop (n * 2) = flatRh (d.drop n)
  | _, 0 => by simp
  | [], n + 1 => by simp [flatRh]
  | p :: d, n + 1 => by
    rw [flatRh_cons, show (n + 1) * 2 = n * 2 + 1 + 1 from by omega]
    simp only [List.drop_succ_cons]
    rw [flatRh_drop d n]
theorem flatRh_one : ∀ (l : List Rh), ∀ u ∈ flatRh l, u.oneCell' = true
  | [], u, h => by simp [flatRh] at h
  | p :: l, u, h => by
    rw [flatRh_cons] at h
    simp only [List.mem_cons] at h
    rcases h with rfl | rfl | h
    all_goals first | rfl | exact flatRh_one l u h
theorem Lst.atRh {w : World} {B : Nat} {A : Option Addr} {n : Nat} {l : List Rh} (h : Lst w B 2 A n (flatRh l)) (hl : l.length = n) {k : Nat} (hk : k < n) : ∃ ad, A = some ad ∧ ad.block < B ∧ w.cell? (ad.add (k * 2)) = some (.slice (gRh l k).A (gRh l k).n (gRh l k).c) ∧ w.cell? ⟨(ad.add (k * 2)).block, (ad.add (k * 2)).off + 1, none⟩ = some (.int .i64 (gRh l k).t) := by
  obtain ⟨ad, e, hb, hc⟩ := h.at_ (by omega)
  exact ⟨ad, e, hb, hc _ _ (flatRh_at0 l k (by omega)), by rw [addr_next _ _ _ (by omega)]; exact hc _ _ (flatRh_at1 l k (by omega))⟩
theorem ownRh_at {w : World} {base : Nat} {t : TypeId} {g n c : Nat} {d : List Rh} (h : w.ownsRow base t 2 (.slice (some ⟨g, 0, none⟩) n c) n (flatRh d)) (hd : d.length = n) {k : Nat} (hk : k < n) : w.cell? ⟨g, k * 2, none⟩ = some (.slice (gRh d k).A (gRh d k).n (gRh d k).c) ∧ w.cell? ⟨g, k * 2 + 1, none⟩ = some (.int .i64 (gRh d k).t) :=
  ⟨(h.cellAt (k * 2) (by omega)).trans (flatRh_at0 d k (by omega)), (h.cellAt (k * 2 + 1) (by omega)).trans (flatRh_at1 d k (by omega))⟩
theorem gRh_mem {d : List Rh} {i : Nat} (h : i < d.length) : gRh d i ∈ d := by
  unfold gRh; rw [List.getD_eq_getElem?_getD, List.getElem?_eq_getElem h]; simp
theorem gRh_eq {d : List Rh} {i : Nat} (h : i < d.length) : gRh d i = d[i] := by
  unfold gRh; rw [List.getD_eq_getElem?_getD, List.getElem?_eq_getElem h]; rfl
theorem take_nextRh {l : List Rh} {k : Nat} (h : k < l.length) : l.take (k + 1) = l.take k ++ [gRh l k] := by
  rw [List.take_succ_eq_append_getElem h, gRh_eq h]
theorem infoRh : (Try.prog.info? 25).map (fun i => (i.zero, i.size, i.bytes)) = some (some (.agg #[.slice none 0 0, .int .i64 0]), 2, 32) := by kernel_rfl
end Go.Proofs.Ytbhhkaaidhapbaa
