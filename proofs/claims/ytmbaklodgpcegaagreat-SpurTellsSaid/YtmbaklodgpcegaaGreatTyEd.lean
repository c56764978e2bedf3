/- api.Edge: its cells, lists of it. No condition. -/
import Derived.Test.YtmbaklodgpcegaaGreatChecked
import Derived.Test.YtmbaklodgpcegaaGreatGQ21
import Derived.Test.YtmbaklodgpcegaaGreatHop
namespace Go.Proofs.YtmbaklodgpcegaaGreat
open Go.ChangeShapes Go.WideShapes Go.ChangeAt Go.RowKit Go.Sort
set_option linter.unusedSimpArgs false
set_option linter.unusedVariables false
theorem Ed.ext_ {a b : Ed} (h0 : a.id = b.id) (h1 : a.fr = b.fr) (h2 : a.tn = b.tn) (h3 : a.op = b.op) (h4 : a.en = b.en) (h5 : a.ra = b.ra) (h6 : a.ow = b.ow) (h7 : a.ro = b.ro) : a = b := by cases a; cases b; simp_all
instance : DecidableEq Ed := fun a b => if h : a.id = b.id ∧ a.fr = b.fr ∧ a.tn = b.tn ∧ a.op = b.op ∧ a.en = b.en ∧ a.ra = b.ra ∧ a.ow = b.ow ∧ a.ro = b.ro then isTrue (Ed.ext_ h.1 h.2.1 h.2.2.1 h.2.2.2.1 h.2.2.2.2.1 h.2.2.2.2.2.1 h.2.2.2.2.2.2.1 h.2.2.2.2.2.2.2) else isFalse (by rintro rfl; simp at h)
def Ed.cs (r : Ed) : List Value := [.int .i64 r.id, .int .i64 r.fr, .int .i64 r.tn, .int .i64 r.op, .int .i64 r.en, .int .i64 r.ra, .int .i64 r.ow, .int .i64 r.ro]
def flatEd (d : List Ed) : List Value := d.flatMap Ed.cs
def gEd (d : List Ed) (i : Nat) : Ed := d.getD i ⟨0, 0, 0, 0, 0, 0, 0, 0⟩
theorem flatEd_cons (p : Ed) (d : List Ed) : flatEd (p :: d) = .int .i64 p.id :: .int .i64 p.fr :: .int .i64 p.tn :: .int .i64 p.op :: .int .i64 p.en :: .int .i64 p.ra :: .int .i64 p.ow :: .int .i64 p.ro :: flatEd d := rfl
theorem flatEd_length (d : List Ed) : (flatEd d).length = d.length * 8 := by
  induction d with
  | nil => rfl
  | cons p d ih => rw [flatEd_cons]; simp only [List.length_cons, ih]; omega
theorem flatEd_append (d e : List Ed) : flatEd (d ++ e) = flatEd d ++ flatEd e := by simp [flatEd]
theorem flatEd_at0 : ∀ (d : List Ed) (i : Nat), i < d.length → (flatEd d)[i * 8]? = some (.int .i64 (gEd d i).id)
  | p :: d, 0, _ => rfl
  | p :: d, i + 1, h => by
    rw [flatEd_cons, show (i + 1) * 8 = i * 8 + 1 + 1 + 1 + 1 + 1 + 1 + 1 + 1 from by omega]
    simp only [List.getElem?_cons_succ]
    exact flatEd_at0 d i (by simpa using h)
theorem flatEd_at1 : ∀ (d : List Ed) (i : Nat), i < d.length → (flatEd d)[i * 8 + 1]? = some (.int .i64 (gEd d i).fr)
  | p :: d, 0, _ => rfl
  | p :: d, i + 1, h => by
    rw [flatEd_cons, show (i + 1) * 8 + 1 = i * 8 + 1 + 1 + 1 + 1 + 1 + 1 + 1 + 1 + 1 from by omega]
    simp only [List.getElem?_cons_succ]
    exact flatEd_at1 d i (by simpa using h)
theorem flatEd_at2 : ∀ (d : List Ed) (i : Nat), i < d.length → (flatEd d)[i * 8 + 2]? = some (.int .i64 (gEd d i).tn)
  | p :: d, 0, _ => rfl
  | p :: d, i + 1, h => by
    rw [flatEd_cons, show (i + 1) * 8 + 2 = i * 8 + 2 + 1 + 1 + 1 + 1 + 1 + 1 + 1 + 1 from by omega]
    simp only [List.getElem?_cons_succ]
    exact flatEd_at2 d i (by simpa using h)
theorem flatEd_at3 : ∀ (d : List Ed) (i : Nat), i < d.length → (flatEd d)[i * 8 + 3]? = some (.int .i64 (gEd d i).op)
  | p :: d, 0, _ => rfl
  | p :: d, i + 1, h => by
    rw [flatEd_cons, show (i + 1) * 8 + 3 = i * 8 + 3 + 1 + 1 + 1 + 1 + 1 + 1 + 1 + 1 from by omega]
    simp only [List.getElem?_cons_succ]
    exact flatEd_at3 d i (by simpa using h)
theorem flatEd_at4 : ∀ (d : List Ed) (i : Nat), i < d.length → (flatEd d)[i * 8 + 4]? = some (.int .i64 (gEd d i).en)
  | p :: d, 0, _ => rfl
  | p :: d, i + 1, h => by
    rw [flatEd_cons, show (i + 1) * 8 + 4 = i * 8 + 4 + 1 + 1 + 1 + 1 + 1 + 1 + 1 + 1 from by omega]
    simp only [List.getElem?_cons_succ]
    exact flatEd_at4 d i (by simpa using h)
theorem flatEd_at5 : ∀ (d : List Ed) (i : Nat), i < d.length → (flatEd d)[i * 8 + 5]? = some (.int .i64 (gEd d i).ra)
  | p :: d, 0, _ => rfl
  | p :: d, i + 1, h => by
    rw [flatEd_cons, show (i + 1) * 8 + 5 = i * 8 + 5 + 1 + 1 + 1 + 1 + 1 + 1 + 1 + 1 from by omega]
    simp only [List.getElem?_cons_succ]
    exact flatEd_at5 d i (by simpa using h)
theorem flatEd_at6 : ∀ (d : List Ed) (i : Nat), i < d.length → (flatEd d)[i * 8 + 6]? = some (.int .i64 (gEd d i).ow)
  | p :: d, 0, _ => rfl
  | p :: d, i + 1, h => by
    rw [flatEd_cons, show (i + 1) * 8 + 6 = i * 8 + 6 + 1 + 1 + 1 + 1 + 1 + 1 + 1 + 1 from by omega]
    simp only [List.getElem?_cons_succ]
    exact flatEd_at6 d i (by simpa using h)
theorem flatEd_at7 : ∀ (d : List Ed) (i : Nat), i < d.length → (flatEd d)[i * 8 + 7]? = some (.int .i64 (gEd d i).ro)
  | p :: d, 0, _ => rfl
  | p :: d, i + 1, h => by
    rw [flatEd_cons, show (i + 1) * 8 + 7 = i * 8 + 7 + 1 + 1 + 1 + 1 + 1 + 1 + 1 + 1 from by omega]
    simp only [List.getElem?_cons_succ]
    exact flatEd_at7 d i (by simpa using h)
theorem flatEd_set : ∀ (d : List Ed) (i : Nat) (p : Ed), (((((((((flatEd d).set (i * 8) (.int .i64 p.id)).set (i * 8 + 1) (.int .i64 p.fr)).set (i * 8 + 2) (.int .i64 p.tn)).set (i * 8 + 3) (.int .i64 p.op)).set (i * 8 + 4) (.int .i64 p.en)).set (i * 8 + 5) (.int .i64 p.ra)).set (i * 8 + 6) (.int .i64 p.ow)).set (i * 8 + 7) (.int .i64 p.ro)) = flatEd (d.set i p)
  | [], i, p => by simp [flatEd]
  | q :: d, 0, p => rfl
  | q :: d, i + 1, p => by
    rw [flatEd_cons]
    rw [show (i + 1) * 8 = i * 8 + 1 + 1 + 1 + 1 + 1 + 1 + 1 + 1 from by omega]
    rw [show i * 8 + 1 + 1 + 1 + 1 + 1 + 1 + 1 + 1 + 1 = i * 8 + 1 + 1 + 1 + 1 + 1 + 1 + 1 + 1 + 1 from by omega]
    rw [show i * 8 + 1 + 1 + 1 + 1 + 1 + 1 + 1 + 1 + 2 = i * 8 + 2 + 1 + 1 + 1 + 1 + 1 + 1 + 1 + 1 from by omega]
    rw [show i * 8 + 1 + 1 + 1 + 1 + 1 + 1 + 1 + 1 + 3 = i * 8 + 3 + 1 + 1 + 1 + 1 + 1 + 1 + 1 + 1 from by omega]
    rw [show i * 8 + 1 + 1 + 1 + 1 + 1 + 1 + 1 + 1 + 4 = i * 8 + 4 + 1 + 1 + 1 + 1 + 1 + 1 + 1 + 1 from by omega]
    rw [show i * 8 + 1 + 1 + 1 + 1 + 1 + 1 + 1 + 1 + 5 = i * 8 + 5 + 1 + 1 + 1 + 1 + 1 + 1 + 1 + 1 from by omega]
    rw [show i * 8 + 1 + 1 + 1 + 1 + 1 + 1 + 1 + 1 + 6 = i * 8 + 6 + 1 + 1 + 1 + 1 + 1 + 1 + 1 + 1 from by omega]
    rw [show i * 8 + 1 + 1 + 1 + 1 + 1 + 1 + 1 + 1 + 7 = i * 8 + 7 + 1 + 1 + 1 + 1 + 1 + 1 + 1 + 1 from by omega]
    simp only [List.set_cons_succ]
    rw [flatEd_set d i p]
    rfl
theorem flatEd_take : ∀ (d : List Ed) (n : Nat), (flatEd d).take (n * 8) = flatEd (d.take n)
  | _, 0 => by simp [flatEd]
  | [], n + 1 => by simp [flatEd]
  | p :: d, n + 1 => by
    rw [flatEd_cons, show (n + 1) * 8 = n * 8 + 1 + 1 + 1 + 1 + 1 + 1 + 1 + 1 from by omega]
    simp only [List.take_succ_cons]
    rw [flatEd_take d n]
    rfl
theorem flatEd_drop : ∀ (d : List Ed) (n : Nat), (flatEd d).drop (n * 8) = flatEd (d.drop n)
  | _, 0 => by simp
  | [], n + 1 => by simp [flatEd]
  | p :: d, n + 1 => by
    rw [flatEd_cons, show (n + 1) * 8 = n * 8 + 1 + 1 + 1 + 1 + 1 + 1 + 1 + 1 from by omega]
    simp only [List.drop_succ_cons]
    rw [flatEd_drop d n]
theorem flatEd_one : ∀ (l : List Ed), ∀ u ∈ flatEd l, u.oneCell' = true
  | [], u, h => by simp [flatEd] at h
  | p :: l, u, h => by
    rw [flatEd_cons] at h
    simp only [List.mem_cons] at h
    rcases h with rfl | rfl | rfl | rfl | rfl | rfl | rfl | rfl | h
    all_goals first | rfl | exact flatEd_one l u h
theorem rowsEd_of : ∀ (n : Nat) (ns : List Int), ns.length = n * 8 → ∃ d : List Ed, d.length = n ∧ ns.map (Value.int .i64) = flatEd d
  | 0, [], _ => ⟨[], rfl, rfl⟩
  | 0, _ :: _, h => by simp at h
  | n + 1, a0 :: a1 :: a2 :: a3 :: a4 :: a5 :: a6 :: a7 :: ns, h => by
    obtain ⟨d, h1, h2⟩ := rowsEd_of n ns (by simp at h; omega)
    exact ⟨⟨a0, a1, a2, a3, a4, a5, a6, a7⟩ :: d, by simp [h1], by simp [flatEd_cons, h2]⟩
  | n + 1, [], h => by simp at h <;> omega
  | n + 1, [_], h => by simp at h <;> omega
  | n + 1, [_, _], h => by simp at h <;> omega
  | n + 1, [_, _, _], h => by simp at h <;> omega
  | n + 1, [_, _, _, _], h => by simp at h <;> omega
  | n + 1, [_, _, _, _, _], h => by simp at h <;> omega
  | n + 1, [_, _, _, _, _, _], h => by simp at h <;> omega
  | n + 1, [_, _, _, _, _, _, _], h => by simp at h <;> omega

theorem Lst.atEd {w : World} {B : Nat} {A : Option Addr} {n : Nat} {l : List Ed} (h : Lst w B 8 A n (flatEd l)) (hl : l.length = n) {k : Nat} (hk : k < n) : ∃ ad, A = some ad ∧ ad.block < B ∧ w.cell? (ad.add (k * 8)) = some (.int .i64 (gEd l k).id) ∧ w.cell? ⟨(ad.add (k * 8)).block, (ad.add (k * 8)).off + 1, none⟩ = some (.int .i64 (gEd l k).fr) ∧ w.cell? ⟨(ad.add (k * 8)).block, (ad.add (k * 8)).off + 2, none⟩ = some (.int .i64 (gEd l k).tn) ∧ w.cell? ⟨(ad.add (k * 8)).block, (ad.add (k * 8)).off + 3, none⟩ = some (.int .i64 (gEd l k).op) ∧ w.cell? ⟨(ad.add (k * 8)).block, (ad.add (k * 8)).off + 4, none⟩ = some (.int .i64 (gEd l k).en) ∧ w.cell? ⟨(ad.add (k * 8)).block, (ad.add (k * 8)).off + 5, none⟩ = some (.int .i64 (gEd l k).ra) ∧ w.cell? ⟨(ad.add (k * 8)).block, (ad.add (k * 8)).off + 6, none⟩ = some (.int .i64 (gEd l k).ow) ∧ w.cell? ⟨(ad.add (k * 8)).block, (ad.add (k * 8)).off + 7, none⟩ = some (.int .i64 (gEd l k).ro) := by
  obtain ⟨ad, e, hb, hc⟩ := h.at_ (by omega)
  exact ⟨ad, e, hb, hc _ _ (flatEd_at0 l k (by omega)), by rw [addr_next _ _ _ (by omega)]; exact hc _ _ (flatEd_at1 l k (by omega)), by rw [addr_next _ _ _ (by omega)]; exact hc _ _ (flatEd_at2 l k (by omega)), by rw [addr_next _ _ _ (by omega)]; exact hc _ _ (flatEd_at3 l k (by omega)), by rw [addr_next _ _ _ (by omega)]; exact hc _ _ (flatEd_at4 l k (by omega)), by rw [addr_next _ _ _ (by omega)]; exact hc _ _ (flatEd_at5 l k (by omega)), by rw [addr_next _ _ _ (by omega)]; exact hc _ _ (flatEd_at6 l k (by omega)), by rw [addr_next _ _ _ (by omega)]; exact hc _ _ (flatEd_at7 l k (by omega))⟩
theorem ownEd_at {w : World} {base : Nat} {t : TypeId} {g n c : Nat} {d : List Ed} (h : w.ownsRow base t 8 (.slice (some ⟨g, 0, none⟩) n c) n (flatEd d)) (hd : d.length = n) {k : Nat} (hk : k < n) : w.cell? ⟨g, k * 8, none⟩ = some (.int .i64 (gEd d k).id) ∧ w.cell? ⟨g, k * 8 + 1, none⟩ = some (.int .i64 (gEd d k).fr) ∧ w.cell? ⟨g, k * 8 + 2, none⟩ = some (.int .i64 (gEd d k).tn) ∧ w.cell? ⟨g, k * 8 + 3, none⟩ = some (.int .i64 (gEd d k).op) ∧ w.cell? ⟨g, k * 8 + 4, none⟩ = some (.int .i64 (gEd d k).en) ∧ w.cell? ⟨g, k * 8 + 5, none⟩ = some (.int .i64 (gEd d k).ra) ∧ w.cell? ⟨g, k * 8 + 6, none⟩ = some (.int .i64 (gEd d k).ow) ∧ w.cell? ⟨g, k * 8 + 7, none⟩ = some (.int .i64 (gEd d k).ro) :=
  ⟨(h.cellAt (k * 8) (by omega)).trans (flatEd_at0 d k (by omega)), (h.cellAt (k * 8 + 1) (by omega)).trans (flatEd_at1 d k (by omega)), (h.cellAt (k * 8 + 2) (by omega)).trans (flatEd_at2 d k (by omega)), (h.cellAt (k * 8 + 3) (by omega)).trans (flatEd_at3 d k (by omega)), (h.cellAt (k * 8 + 4) (by omega)).trans (flatEd_at4 d k (by omega)), (h.cellAt (k * 8 + 5) (by omega)).trans (flatEd_at5 d k (by omega)), (h.cellAt (k * 8 + 6) (by omega)).trans (flatEd_at6 d k (by omega)), (h.cellAt (k * 8 + 7) (by omega)).trans (flatEd_at7 d k (by omega))⟩
theorem ownEd_store {w : World} {base : Nat} {t : TypeId} {g n c : Nat} {d : List Ed} (h : w.ownsRow base t 8 (.slice (some ⟨g, 0, none⟩) n c) n (flatEd d)) (i : Nat) (p : Ed) : ((((((((w.setCell ⟨g, i * 8, none⟩ (.int .i64 p.id)).setCell ⟨g, i * 8 + 1, none⟩ (.int .i64 p.fr)).setCell ⟨g, i * 8 + 2, none⟩ (.int .i64 p.tn)).setCell ⟨g, i * 8 + 3, none⟩ (.int .i64 p.op)).setCell ⟨g, i * 8 + 4, none⟩ (.int .i64 p.en)).setCell ⟨g, i * 8 + 5, none⟩ (.int .i64 p.ra)).setCell ⟨g, i * 8 + 6, none⟩ (.int .i64 p.ow)).setCell ⟨g, i * 8 + 7, none⟩ (.int .i64 p.ro)).ownsRow base t 8 (.slice (some ⟨g, 0, none⟩) n c) n (flatEd (d.set i p)) ∧ w.grownBy ((((((((w.setCell ⟨g, i * 8, none⟩ (.int .i64 p.id)).setCell ⟨g, i * 8 + 1, none⟩ (.int .i64 p.fr)).setCell ⟨g, i * 8 + 2, none⟩ (.int .i64 p.tn)).setCell ⟨g, i * 8 + 3, none⟩ (.int .i64 p.op)).setCell ⟨g, i * 8 + 4, none⟩ (.int .i64 p.en)).setCell ⟨g, i * 8 + 5, none⟩ (.int .i64 p.ra)).setCell ⟨g, i * 8 + 6, none⟩ (.int .i64 p.ow)).setCell ⟨g, i * 8 + 7, none⟩ (.int .i64 p.ro)) (some g) := by
  obtain ⟨r0, g0⟩ := h.stored (i * 8) (.int .i64 p.id)
  obtain ⟨r1, g1⟩ := r0.stored (i * 8 + 1) (.int .i64 p.fr)
  obtain ⟨r2, g2⟩ := r1.stored (i * 8 + 2) (.int .i64 p.tn)
  obtain ⟨r3, g3⟩ := r2.stored (i * 8 + 3) (.int .i64 p.op)
  obtain ⟨r4, g4⟩ := r3.stored (i * 8 + 4) (.int .i64 p.en)
  obtain ⟨r5, g5⟩ := r4.stored (i * 8 + 5) (.int .i64 p.ra)
  obtain ⟨r6, g6⟩ := r5.stored (i * 8 + 6) (.int .i64 p.ow)
  obtain ⟨r7, g7⟩ := r6.stored (i * 8 + 7) (.int .i64 p.ro)
  rw [flatEd_set] at r7
  exact ⟨r7, grown_trans (grown_trans (grown_trans (grown_trans (grown_trans (grown_trans (grown_trans (g0) g1) g2) g3) g4) g5) g6) g7⟩
theorem gEd_mem {d : List Ed} {i : Nat} (h : i < d.length) : gEd d i ∈ d := by
  unfold gEd; rw [List.getD_eq_getElem?_getD, List.getElem?_eq_getElem h]; simp
theorem gEd_eq {d : List Ed} {i : Nat} (h : i < d.length) : gEd d i = d[i] := by
  unfold gEd; rw [List.getD_eq_getElem?_getD, List.getElem?_eq_getElem h]; rfl
theorem take_nextEd {l : List Ed} {k : Nat} (h : k < l.length) : l.take (k + 1) = l.take k ++ [gEd l k] := by
  rw [List.take_succ_eq_append_getElem h, gEd_eq h]
theorem extEd {a b : List Ed} (hl : a.length = b.length) (h : ∀ i, i < a.length → gEd a i = gEd b i) : a = b := by
  refine List.ext_getElem hl fun i h1 h2 => ?_
  have := h i h1
  rw [gEd_eq h1, gEd_eq h2] at this
  exact this
theorem eqlEd (a b : Ed) (w : World) : (binOp .eql 47 (.agg #[.int .i64 a.id, .int .i64 a.fr, .int .i64 a.tn, .int .i64 a.op, .int .i64 a.en, .int .i64 a.ra, .int .i64 a.ow, .int .i64 a.ro]) (.agg #[.int .i64 b.id, .int .i64 b.fr, .int .i64 b.tn, .int .i64 b.op, .int .i64 b.en, .int .i64 b.ra, .int .i64 b.ow, .int .i64 b.ro])).run Tryz.prog w = .ok (.bool (decide (a = b))) w := by
  have u3 := Tryz.underlying3
  have a3 := Tryz.isAgg3
  have z3 := Tryz.sizeOf3
  have hS : Tryz.prog.underlying 47 = some (.struct (Tryz.prog.fieldsOf 47)) := by kernel_rfl
  have hp : Tryz.prog.stoodInHeld 47 = false := by kernel_rfl
  rw [run_eql_struct, show (10000 : Nat) = 9999 + 1 from rfl, run_equalIn_agg w 9999 47 _ _ hS hp]
  simp only [Program.fieldsOf, Tryz.underlying47]
  go_simp
  by_cases hab : a = b
  · subst hab; simp
  · simp only [hab, decide_false]
    have hx : ¬ (a.id = b.id ∧ a.fr = b.fr ∧ a.tn = b.tn ∧ a.op = b.op ∧ a.en = b.en ∧ a.ra = b.ra ∧ a.ow = b.ow ∧ a.ro = b.ro) := fun h => hab (Ed.ext_ h.1 h.2.1 h.2.2.1 h.2.2.2.1 h.2.2.2.2.1 h.2.2.2.2.2.1 h.2.2.2.2.2.2.1 h.2.2.2.2.2.2.2)
    by_cases h0 : a.id = b.id <;> by_cases h1 : a.fr = b.fr <;> by_cases h2 : a.tn = b.tn <;> by_cases h3 : a.op = b.op <;> by_cases h4 : a.en = b.en <;> by_cases h5 : a.ra = b.ra <;> by_cases h6 : a.ow = b.ow <;> by_cases h7 : a.ro = b.ro
    all_goals simp_all
theorem neqEd (a b : Ed) (w : World) : (binOp .neq 47 (.agg #[.int .i64 a.id, .int .i64 a.fr, .int .i64 a.tn, .int .i64 a.op, .int .i64 a.en, .int .i64 a.ra, .int .i64 a.ow, .int .i64 a.ro]) (.agg #[.int .i64 b.id, .int .i64 b.fr, .int .i64 b.tn, .int .i64 b.op, .int .i64 b.en, .int .i64 b.ra, .int .i64 b.ow, .int .i64 b.ro])).run Tryz.prog w = .ok (.bool (!decide (a = b))) w := by
  have u3 := Tryz.underlying3
  have a3 := Tryz.isAgg3
  have z3 := Tryz.sizeOf3
  have hS : Tryz.prog.underlying 47 = some (.struct (Tryz.prog.fieldsOf 47)) := by kernel_rfl
  have hp : Tryz.prog.stoodInHeld 47 = false := by kernel_rfl
  rw [run_neq_struct, show (10000 : Nat) = 9999 + 1 from rfl, run_equalIn_agg w 9999 47 _ _ hS hp]
  simp only [Program.fieldsOf, Tryz.underlying47]
  go_simp
  by_cases hab : a = b
  · subst hab; simp
  · simp only [hab, decide_false]
    have hx : ¬ (a.id = b.id ∧ a.fr = b.fr ∧ a.tn = b.tn ∧ a.op = b.op ∧ a.en = b.en ∧ a.ra = b.ra ∧ a.ow = b.ow ∧ a.ro = b.ro) := fun h => hab (Ed.ext_ h.1 h.2.1 h.2.2.1 h.2.2.2.1 h.2.2.2.2.1 h.2.2.2.2.2.1 h.2.2.2.2.2.2.1 h.2.2.2.2.2.2.2)
    by_cases h0 : a.id = b.id <;> by_cases h1 : a.fr = b.fr <;> by_cases h2 : a.tn = b.tn <;> by_cases h3 : a.op = b.op <;> by_cases h4 : a.en = b.en <;> by_cases h5 : a.ra = b.ra <;> by_cases h6 : a.ow = b.ow <;> by_cases h7 : a.ro = b.ro
    all_goals simp_all
theorem infoEd : (Tryz.prog.info? 47).map (fun i => (i.zero, i.size, i.bytes)) = some (some (.agg #[.int .i64 0, .int .i64 0, .int .i64 0, .int .i64 0, .int .i64 0, .int .i64 0, .int .i64 0, .int .i64 0]), 8, 64) := by kernel_rfl
end Go.Proofs.YtmbaklodgpcegaaGreat
