/- feluccalaw06.Act: its cells, lists of it. No condition. -/
import Derived.Test.YtojjnbpgdegjiaaChecked
import Derived.Test.YtojjnbpgdegjiaaSlLib
namespace Go.Proofs.Ytojjnbpgdegjiaa
open Go.ChangeShapes Go.WideShapes Go.ChangeAt Go.RowKit Go.Sort
set_option linter.unusedSimpArgs false
set_option linter.unusedVariables false
structure Ac where
  wh : Int
  id : Int
  fr : Int
  tn : Int
  st : Int
  en : Int
  rt : Int
  nn : Int
theorem Ac.ext_ {a b : Ac} (h0 : a.wh = b.wh) (h1 : a.id = b.id) (h2 : a.fr = b.fr) (h3 : a.tn = b.tn) (h4 : a.st = b.st) (h5 : a.en = b.en) (h6 : a.rt = b.rt) (h7 : a.nn = b.nn) : a = b := by cases a; cases b; simp_all
instance : DecidableEq Ac := fun a b => if h : a.wh = b.wh ∧ a.id = b.id ∧ a.fr = b.fr ∧ a.tn = b.tn ∧ a.st = b.st ∧ a.en = b.en ∧ a.rt = b.rt ∧ a.nn = b.nn then isTrue (Ac.ext_ h.1 h.2.1 h.2.2.1 h.2.2.2.1 h.2.2.2.2.1 h.2.2.2.2.2.1 h.2.2.2.2.2.2.1 h.2.2.2.2.2.2.2) else isFalse (by rintro rfl; simp at h)
def Ac.cs (r : Ac) : List Value := [.int .i64 r.wh, .int .i64 r.id, .int .i64 r.fr, .int .i64 r.tn, .int .i64 r.st, .int .i64 r.en, .int .i64 r.rt, .int .i64 r.nn]
def flatAc (d : List Ac) : List Value := d.flatMap Ac.cs
def gAc (d : List Ac) (i : Nat) : Ac := d.getD i ⟨0, 0, 0, 0, 0, 0, 0, 0⟩
theorem flatAc_cons (p : Ac) (d : List Ac) : flatAc (p :: d) = .int .i64 p.wh :: .int .i64 p.id :: .int .i64 p.fr :: .int .i64 p.tn :: .int .i64 p.st :: .int .i64 p.en :: .int .i64 p.rt :: .int .i64 p.nn :: flatAc d := rfl
theorem flatAc_length (d : List Ac) : (flatAc d).length = d.length * 8 := by
  induction d with
  | nil => rfl
  | cons p d ih => rw [flatAc_cons]; simp only [List.length_cons, ih]; omega
theorem flatAc_append (d e : List Ac) : flatAc (d ++ e) = flatAc d ++ flatAc e := by simp [flatAc]
theorem flatAc_at0 : ∀ (d : List Ac) (i : Nat), i < d.length → (flatAc d)[i * 8]? = some (.int .i64 (gAc d i).wh)
  | p :: d, 0, _ => rfl
  | p :: d, i + 1, h => by
    rw [flatAc_cons, show (i + 1) * 8 = i * 8 + 1 + 1 + 1 + 1 + 1 + 1 + 1 + 1 from by omega]
    simp only [List.getElem?_cons_succ]
    exact flatAc_at0 d i (by simpa using h)
theorem flatAc_at1 : ∀ (d : List Ac) (i : Nat), i < d.length → (flatAc d)[i * 8 + 1]? = some (.int .i64 (gAc d i).id)
  | p :: d, 0, _ => rfl
  | p :: d, i + 1, h => by
    rw [flatAc_cons, show (i + 1) * 8 + 1 = i * 8 + 1 + 1 + 1 + 1 + 1 + 1 + 1 + 1 + 1 from by omega]
    simp only [List.getElem?_cons_succ]
    exact flatAc_at1 d i (by simpa using h)
theorem flatAc_at2 : ∀ (d : List Ac) (i : Nat), i < d.length → (flatAc d)[i * 8 + 2]? = some (.int .i64 (gAc d i).fr)
  | p :: d, 0, _ => rfl
  | p :: d, i + 1, h => by
    rw [flatAc_cons, show (i + 1) * 8 + 2 = i * 8 + 2 + 1 + 1 + 1 + 1 + 1 + 1 + 1 + 1 from by omega]
    simp only [List.getElem?_cons_succ]
    exact flatAc_at2 d i (by simpa using h)
theorem flatAc_at3 : ∀ (d : List Ac) (i : Nat), i < d.length → (flatAc d)[i * 8 + 3]? = some (.int .i64 (gAc d i).tn)
  | p :: d, 0, _ => rfl
  | p :: d, i + 1, h => by
    rw [flatAc_cons, show (i + 1) * 8 + 3 = i * 8 + 3 + 1 + 1 + 1 + 1 + 1 + 1 + 1 + 1 from by omega]
    simp only [List.getElem?_cons_succ]
    exact flatAc_at3 d i (by simpa using h)
theorem flatAc_at4 : ∀ (d : List Ac) (i : Nat), i < d.length → (flatAc d)[i * 8 + 4]? = some (.int .i64 (gAc d i).st)
  | p :: d, 0, _ => rfl
  | p :: d, i + 1, h => by
    rw [flatAc_cons, show (i + 1) * 8 + 4 = i * 8 + 4 + 1 + 1 + 1 + 1 + 1 + 1 + 1 + 1 from by omega]
    simp only [List.getElem?_cons_succ]
    exact flatAc_at4 d i (by simpa using h)
theorem flatAc_at5 : ∀ (d : List Ac) (i : Nat), i < d.length → (flatAc d)[i * 8 + 5]? = some (.int .i64 (gAc d i).en)
  | p :: d, 0, _ => rfl
  | p :: d, i + 1, h => by
    rw [flatAc_cons, show (i + 1) * 8 + 5 = i * 8 + 5 + 1 + 1 + 1 + 1 + 1 + 1 + 1 + 1 from by omega]
    simp only [List.getElem?_cons_succ]
    exact flatAc_at5 d i (by simpa using h)
theorem flatAc_at6 : ∀ (d : List Ac) (i : Nat), i < d.length → (flatAc d)[i * 8 + 6]? = some (.int .i64 (gAc d i).rt)
  | p :: d, 0, _ => rfl
  | p :: d, i + 1, h => by
    rw [flatAc_cons, show (i + 1) * 8 + 6 = i * 8 + 6 + 1 + 1 + 1 + 1 + 1 + 1 + 1 + 1 from by omega]
    simp only [List.getElem?_cons_succ]
    exact flatAc_at6 d i (by simpa using h)
theorem flatAc_at7 : ∀ (d : List Ac) (i : Nat), i < d.length → (flatAc d)[i * 8 + 7]? = some (.int .i64 (gAc d i).nn)
  | p :: d, 0, _ => rfl
  | p :: d, i + 1, h => by
    rw [flatAc_cons, show (i + 1) * 8 + 7 = i * 8 + 7 + 1 + 1 + 1 + 1 + 1 + 1 + 1 + 1 from by omega]
    simp only [List.getElem?_cons_succ]
    exact flatAc_at7 d i (by simpa using h)
theorem flatAc_set : ∀ (d : List Ac) (i : Nat) (p : Ac), (((((((((flatAc d).set (i * 8) (.int .i64 p.wh)).set (i * 8 + 1) (.int .i64 p.id)).set (i * 8 + 2) (.int .i64 p.fr)).set (i * 8 + 3) (.int .i64 p.tn)).set (i * 8 + 4) (.int .i64 p.st)).set (i * 8 + 5) (.int .i64 p.en)).set (i * 8 + 6) (.int .i64 p.rt)).set (i * 8 + 7) (.int .i64 p.nn)) = flatAc (d.set i p)
  | [], i, p => by simp [flatAc]
  | q :: d, 0, p => rfl
  | q :: d, i + 1, p => by
    rw [flatAc_cons]
    rw [show (i + 1) * 8 = i * 8 + 1 + 1 + 1 + 1 + 1 + 1 + 1 + 1 from by omega]
    rw [show i * 8 + 1 + 1 + 1 + 1 + 1 + 1 + 1 + 1 + 1 = i * 8 + 1 + 1 + 1 + 1 + 1 + 1 + 1 + 1 + 1 from by omega]
    rw [show i * 8 + 1 + 1 + 1 + 1 + 1 + 1 + 1 + 1 + 2 = i * 8 + 2 + 1 + 1 + 1 + 1 + 1 + 1 + 1 + 1 from by omega]
    rw [show i * 8 + 1 + 1 + 1 + 1 + 1 + 1 + 1 + 1 + 3 = i * 8 + 3 + 1 + 1 + 1 + 1 + 1 + 1 + 1 + 1 from by omega]
    rw [show i * 8 + 1 + 1 + 1 + 1 + 1 + 1 + 1 + 1 + 4 = i * 8 + 4 + 1 + 1 + 1 + 1 + 1 + 1 + 1 + 1 from by omega]
    rw [show i * 8 + 1 + 1 + 1 + 1 + 1 + 1 + 1 + 1 + 5 = i * 8 + 5 + 1 + 1 + 1 + 1 + 1 + 1 + 1 + 1 from by omega]
    rw [show i * 8 + 1 + 1 + 1 + 1 + 1 + 1 + 1 + 1 + 6 = i * 8 + 6 + 1 + 1 + 1 + 1 + 1 + 1 + 1 + 1 from by omega]
    rw [show i * 8 + 1 + 1 + 1 + 1 + 1 + 1 + 1 + 1 + 7 = i * 8 + 7 + 1 + 1 + 1 + 1 + 1 + 1 + 1 + 1 from by omega]
    simp only [List.set_cons_succ]
    rw [flatAc_set d i p]
    rfl
theorem flatAc_take : ∀ (d : List Ac) (n : Nat), (flatAc d).take (n * 8) = flatAc (d.take n)
  | _, 0 => by simp [flatAc]
  | [], n + 1 => by simp [flatAc]
  | p :: d, n + 1 => by
    rw [flatAc_cons, show (n + 1) * 8 = n * 8 + 1 + 1 + 1 + 1 + 1 + 1 + 1 + 1 from by omega]
    simp only [List.take_succ_cons]
    rw [flatAc_take d n]
    rfl
theorem flatAc_drop : ∀ (d : List Ac) (n : Nat), (flatAc d).drop (n * 8) = flatAc (d.drop n)
  | _, 0 => by simp
  | [], n + 1 => by simp [flatAc]
  | p :: d, n + 1 => by
    rw [flatAc_cons, show (n + 1) * 8 = n * 8 + 1 + 1 + 1 + 1 + 1 + 1 + 1 + 1 from by omega]
    simp only [List.drop_succ_cons]
    rw [flatAc_drop d n]
theorem flatAc_one : ∀ (l : List Ac), ∀ u ∈ flatAc l, u.oneCell' = true
  | [], u, h => by simp [flatAc] at h
  | p :: l, u, h => by
    rw [flatAc_cons] at h
    simp only [List.mem_cons] at h
    rcases h with rfl | rfl | rfl | rfl | rfl | rfl | rfl | rfl | h
    all_goals first | rfl | exact flatAc_one l u h
theorem rowsAc_of : ∀ (n : Nat) (ns : List Int), ns.length = n * 8 → ∃ d : List Ac, d.length = n ∧ ns.map (Value.int .i64) = flatAc d
  | 0, [], _ => ⟨[], rfl, rfl⟩
  | 0, _ :: _, h => by simp at h
  | n + 1, a0 :: a1 :: a2 :: a3 :: a4 :: a5 :: a6 :: a7 :: ns, h => by
    obtain ⟨d, h1, h2⟩ := rowsAc_of n ns (by simp at h; omega)
    exact ⟨⟨a0, a1, a2, a3, a4, a5, a6, a7⟩ :: d, by simp [h1], by simp [flatAc_cons, h2]⟩
  | n + 1, [], h => by simp at h <;> omega
  | n + 1, [_], h => by simp at h <;> omega
  | n + 1, [_, _], h => by simp at h <;> omega
  | n + 1, [_, _, _], h => by simp at h <;> omega
  | n + 1, [_, _, _, _], h => by simp at h <;> omega
  | n + 1, [_, _, _, _, _], h => by simp at h <;> omega
  | n + 1, [_, _, _, _, _, _], h => by simp at h <;> omega
  | n + 1, [_, _, _, _, _, _, _], h => by simp at h <;> omega

theorem Lst.atAc {w : World} {B : Nat} {A : Option Addr} {n : Nat} {l : List Ac} (h : Lst w B 8 A n (flatAc l)) (hl : l.length = n) {k : Nat} (hk : k < n) : ∃ ad, A = some ad ∧ ad.block < B ∧ w.cell? (ad.add (k * 8)) = some (.int .i64 (gAc l k).wh) ∧ w.cell? ⟨(ad.add (k * 8)).block, (ad.add (k * 8)).off + 1, none⟩ = some (.int .i64 (gAc l k).id) ∧ w.cell? ⟨(ad.add (k * 8)).block, (ad.add (k * 8)).off + 2, none⟩ = some (.int .i64 (gAc l k).fr) ∧ w.cell? ⟨(ad.add (k * 8)).block, (ad.add (k * 8)).off + 3, none⟩ = some (.int .i64 (gAc l k).tn) ∧ w.cell? ⟨(ad.add (k * 8)).block, (ad.add (k * 8)).off + 4, none⟩ = some (.int .i64 (gAc l k).st) ∧ w.cell? ⟨(ad.add (k * 8)).block, (ad.add (k * 8)).off + 5, none⟩ = some (.int .i64 (gAc l k).en) ∧ w.cell? ⟨(ad.add (k * 8)).block, (ad.add (k * 8)).off + 6, none⟩ = some (.int .i64 (gAc l k).rt) ∧ w.cell? ⟨(ad.add (k * 8)).block, (ad.add (k * 8)).off + 7, none⟩ = some (.int .i64 (gAc l k).nn) := by
  obtain ⟨ad, e, hb, hc⟩ := h.at_ (by omega)
  exact ⟨ad, e, hb, hc _ _ (flatAc_at0 l k (by omega)), by rw [addr_next _ _ _ (by omega)]; exact hc _ _ (flatAc_at1 l k (by omega)), by rw [addr_next _ _ _ (by omega)]; exact hc _ _ (flatAc_at2 l k (by omega)), by rw [addr_next _ _ _ (by omega)]; exact hc _ _ (flatAc_at3 l k (by omega)), by rw [addr_next _ _ _ (by omega)]; exact hc _ _ (flatAc_at4 l k (by omega)), by rw [addr_next _ _ _ (by omega)]; exact hc _ _ (flatAc_at5 l k (by omega)), by rw [addr_next _ _ _ (by omega)]; exact hc _ _ (flatAc_at6 l k (by omega)), by rw [addr_next _ _ _ (by omega)]; exact hc _ _ (flatAc_at7 l k (by omega))⟩
theorem ownAc_at {w : World} {base : Nat} {t : TypeId} {g n c : Nat} {d : List Ac} (h : w.ownsRow base t 8 (.slice (some ⟨g, 0, none⟩) n c) n (flatAc d)) (hd : d.length = n) {k : Nat} (hk : k < n) : w.cell? ⟨g, k * 8, none⟩ = some (.int .i64 (gAc d k).wh) ∧ w.cell? ⟨g, k * 8 + 1, none⟩ = some (.int .i64 (gAc d k).id) ∧ w.cell? ⟨g, k * 8 + 2, none⟩ = some (.int .i64 (gAc d k).fr) ∧ w.cell? ⟨g, k * 8 + 3, none⟩ = some (.int .i64 (gAc d k).tn) ∧ w.cell? ⟨g, k * 8 + 4, none⟩ = some (.int .i64 (gAc d k).st) ∧ w.cell? ⟨g, k * 8 + 5, none⟩ = some (.int .i64 (gAc d k).en) ∧ w.cell? ⟨g, k * 8 + 6, none⟩ = some (.int .i64 (gAc d k).rt) ∧ w.cell? ⟨g, k * 8 + 7, none⟩ = some (.int .i64 (gAc d k).nn) :=
  ⟨(h.cellAt (k * 8) (by omega)).trans (flatAc_at0 d k (by omega)), (h.cellAt (k * 8 + 1) (by omega)).trans (flatAc_at1 d k (by omega)), (h.cellAt (k * 8 + 2) (by omega)).trans (flatAc_at2 d k (by omega)), (h.cellAt (k * 8 + 3) (by omega)).trans (flatAc_at3 d k (by omega)), (h.cellAt (k * 8 + 4) (by omega)).trans (flatAc_at4 d k (by omega)), (h.cellAt (k * 8 + 5) (by omega)).trans (flatAc_at5 d k (by omega)), (h.cellAt (k * 8 + 6) (by omega)).trans (flatAc_at6 d k (by omega)), (h.cellAt (k * 8 + 7) (by omega)).trans (flatAc_at7 d k (by omega))⟩
theorem ownAc_store {w : World} {base : Nat} {t : TypeId} {g n c : Nat} {d : List Ac} (h : w.ownsRow base t 8 (.slice (some ⟨g, 0, none⟩) n c) n (flatAc d)) (i : Nat) (p : Ac) : ((((((((w.setCell ⟨g, i * 8, none⟩ (.int .i64 p.wh)).setCell ⟨g, i * 8 + 1, none⟩ (.int .i64 p.id)).setCell ⟨g, i * 8 + 2, none⟩ (.int .i64 p.fr)).setCell ⟨g, i * 8 + 3, none⟩ (.int .i64 p.tn)).setCell ⟨g, i * 8 + 4, none⟩ (.int .i64 p.st)).setCell ⟨g, i * 8 + 5, none⟩ (.int .i64 p.en)).setCell ⟨g, i * 8 + 6, none⟩ (.int .i64 p.rt)).setCell ⟨g, i * 8 + 7, none⟩ (.int .i64 p.nn)).ownsRow base t 8 (.slice (some ⟨g, 0, none⟩) n c) n (flatAc (d.set i p)) ∧ w.grownBy ((((((((w.setCell ⟨g, i * 8, none⟩ (.int .i64 p.wh)).setCell ⟨g, i * 8 + 1, none⟩ (.int .i64 p.id)).setCell ⟨g, i * 8 + 2, none⟩ (.int .i64 p.fr)).setCell ⟨g, i * 8 + 3, none⟩ (.int .i64 p.tn)).setCell ⟨g, i * 8 + 4, none⟩ (.int .i64 p.st)).setCell ⟨g, i * 8 + 5, none⟩ (.int .i64 p.en)).setCell ⟨g, i * 8 + 6, none⟩ (.int .i64 p.rt)).setCell ⟨g, i * 8 + 7, none⟩ (.int .i64 p.nn)) (some g) := by
  obtain ⟨r0, g0⟩ := h.stored (i * 8) (.int .i64 p.wh)
  obtain ⟨r1, g1⟩ := r0.stored (i * 8 + 1) (.int .i64 p.id)
  obtain ⟨r2, g2⟩ := r1.stored (i * 8 + 2) (.int .i64 p.fr)
  obtain ⟨r3, g3⟩ := r2.stored (i * 8 + 3) (.int .i64 p.tn)
  obtain ⟨r4, g4⟩ := r3.stored (i * 8 + 4) (.int .i64 p.st)
  obtain ⟨r5, g5⟩ := r4.stored (i * 8 + 5) (.int .i64 p.en)
  obtain ⟨r6, g6⟩ := r5.stored (i * 8 + 6) (.int .i64 p.rt)
  obtain ⟨r7, g7⟩ := r6.stored (i * 8 + 7) (.int .i64 p.nn)
  rw [flatAc_set] at r7
  exact ⟨r7, grown_trans (grown_trans (grown_trans (grown_trans (grown_trans (grown_trans (grown_trans (g0) g1) g2) g3) g4) g5) g6) g7⟩
theorem gAc_mem {d : List Ac} {i : Nat} (h : i < d.length) : gAc d i ∈ d := by
  unfold gAc; rw [List.getD_eq_getElem?_getD, List.getElem?_eq_getElem h]; simp
theorem gAc_eq {d : List Ac} {i : Nat} (h : i < d.length) : gAc d i = d[i] := by
  unfold gAc; rw [List.getD_eq_getElem?_getD, List.getElem?_eq_getElem h]; rfl
theorem take_nextAc {l : List Ac} {k : Nat} (h : k < l.length) : l.take (k + 1) = l.take k ++ [gAc l k] := by
  rw [List.take_succ_eq_append_getElem h, gAc_eq h]
theorem extAc {a b : List Ac} (hl : a.length = b.length) (h : ∀ i, i < a.length → gAc a i = gAc b i) : a = b := by
  refine List.ext_getElem hl fun i h1 h2 => ?_
  have := h i h1
  rw [gAc_eq h1, gAc_eq h2] at this
  exact this
theorem eqlAc (a b : Ac) (w : World) : (binOp .eql 30 (.agg #[.int .i64 a.wh, .int .i64 a.id, .int .i64 a.fr, .int .i64 a.tn, .int .i64 a.st, .int .i64 a.en, .int .i64 a.rt, .int .i64 a.nn]) (.agg #[.int .i64 b.wh, .int .i64 b.id, .int .i64 b.fr, .int .i64 b.tn, .int .i64 b.st, .int .i64 b.en, .int .i64 b.rt, .int .i64 b.nn])).run Try.prog w = .ok (.bool (decide (a = b))) w := by
  have u3 := Try.underlying3
  have a3 := Try.isAgg3
  have z3 := Try.sizeOf3
  have hS : Try.prog.underlying 30 = some (.struct (Try.prog.fieldsOf 30)) := by kernel_rfl
  have hp : Try.prog.stoodInHeld 30 = false := by kernel_rfl
  rw [run_eql_struct, show (10000 : Nat) = 9999 + 1 from rfl, run_equalIn_agg w 9999 30 _ _ hS hp]
  simp only [Program.fieldsOf, Try.underlying30]
  go_simp
  by_cases hab : a = b
  · subst hab; simp
  · simp only [hab, decide_false]
    have hx : ¬ (a.wh = b.wh ∧ a.id = b.id ∧ a.fr = b.fr ∧ a.tn = b.tn ∧ a.st = b.st ∧ a.en = b.en ∧ a.rt = b.rt ∧ a.nn = b.nn) := fun h => hab (Ac.ext_ h.1 h.2.1 h.2.2.1 h.2.2.2.1 h.2.2.2.2.1 h.2.2.2.2.2.1 h.2.2.2.2.2.2.1 h.2.2.2.2.2.2.2)
    by_cases h0 : a.wh = b.wh <;> by_cases h1 : a.id = b.id <;> by_cases h2 : a.fr = b.fr <;> by_cases h3 : a.tn = b.tn <;> by_cases h4 : a.st = b.st <;> by_cases h5 : a.en = b.en <;> by_cases h6 : a.rt = b.rt <;> by_cases h7 : a.nn = b.nn
    all_goals simp_all
theorem neqAc (a b : Ac) (w : World) : (binOp .neq 30 (.agg #[.int .i64 a.wh, .int .i64 a.id, .int .i64 a.fr, .int .i64 a.tn, .int .i64 a.st, .int .i64 a.en, .int .i64 a.rt, .int .i64 a.nn]) (.agg #[.int .i64 b.wh, .int .i64 b.id, .int .i64 b.fr, .int .i64 b.tn, .int .i64 b.st, .int .i64 b.en, .int .i64 b.rt, .int .i64 b.nn])).run Try.prog w = .ok (.bool (!decide (a = b))) w := by
  have u3 := Try.underlying3
  have a3 := Try.isAgg3
  have z3 := Try.sizeOf3
  have hS : Try.prog.underlying 30 = some (.struct (Try.prog.fieldsOf 30)) := by kernel_rfl
  have hp : Try.prog.stoodInHeld 30 = false := by kernel_rfl
  rw [run_neq_struct, show (10000 : Nat) = 9999 + 1 from rfl, run_equalIn_agg w 9999 30 _ _ hS hp]
  simp only [Program.fieldsOf, Try.underlying30]
  go_simp
  by_cases hab : a = b
  · subst hab; simp
  · simp only [hab, decide_false]
    have hx : ¬ (a.wh = b.wh ∧ a.id = b.id ∧ a.fr = b.fr ∧ a.tn = b.tn ∧ a.st = b.st ∧ a.en = b.en ∧ a.rt = b.rt ∧ a.nn = b.nn) := fun h => hab (Ac.ext_ h.1 h.2.1 h.2.2.1 h.2.2.2.1 h.2.2.2.2.1 h.2.2.2.2.2.1 h.2.2.2.2.2.2.1 h.2.2.2.2.2.2.2)
    by_cases h0 : a.wh = b.wh <;> by_cases h1 : a.id = b.id <;> by_cases h2 : a.fr = b.fr <;> by_cases h3 : a.tn = b.tn <;> by_cases h4 : a.st = b.st <;> by_cases h5 : a.en = b.en <;> by_cases h6 : a.rt = b.rt <;> by_cases h7 : a.nn = b.nn
    all_goals simp_all
theorem infoAc : (Try.prog.info? 30).map (fun i => (i.zero, i.size, i.bytes)) = some (some (.agg #[.int .i64 0, .int .i64 0, .int .i64 0, .int .i64 0, .int .i64 0, .int .i64 0, .int .i64 0, .int .i64 0]), 8, 64) := by kernel_rfl
end Go.Proofs.Ytojjnbpgdegjiaa
