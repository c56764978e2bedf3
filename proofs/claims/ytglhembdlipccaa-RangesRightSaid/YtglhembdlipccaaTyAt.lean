/- feluccalaw07.Act: its cells, lists of it. No condition. -/
import Derived.Test.YtglhembdlipccaaChecked
import Derived.Test.YtglhembdlipccaaSlLib
namespace Go.Proofs.Ytglhembdlipccaa
open Go.ChangeShapes Go.WideShapes Go.ChangeAt Go.RowKit Go.Sort
set_option linter.unusedSimpArgs false
set_option linter.unusedVariables false
structure At where
  wh : Int
  fr : Int
  tn : Int
  st : Int
  en : Int
  ow : Int
  nw : Int
theorem At.ext_ {a b : At} (h0 : a.wh = b.wh) (h1 : a.fr = b.fr) (h2 : a.tn = b.tn) (h3 : a.st = b.st) (h4 : a.en = b.en) (h5 : a.ow = b.ow) (h6 : a.nw = b.nw) : a = b := by cases a; cases b; simp_all
instance : DecidableEq At := fun a b => if h : a.wh = b.wh ∧ a.fr = b.fr ∧ a.tn = b.tn ∧ a.st = b.st ∧ a.en = b.en ∧ a.ow = b.ow ∧ a.nw = b.nw then isTrue (At.ext_ h.1 h.2.1 h.2.2.1 h.2.2.2.1 h.2.2.2.2.1 h.2.2.2.2.2.1 h.2.2.2.2.2.2) else isFalse (by rintro rfl; simp at h)
def At.cs (r : At) : List Value := [.int .i64 r.wh, .int .i64 r.fr, .int .i64 r.tn, .int .i64 r.st, .int .i64 r.en, .int .i64 r.ow, .int .i64 r.nw]
def flatAt (d : List At) : List Value := d.flatMap At.cs
def gAt (d : List At) (i : Nat) : At := d.getD i ⟨0, 0, 0, 0, 0, 0, 0⟩
theorem flatAt_cons (p : At) (d : List At) : flatAt (p :: d) = .int .i64 p.wh :: .int .i64 p.fr :: .int .i64 p.tn :: .int .i64 p.st :: .int .i64 p.en :: .int .i64 p.ow :: .int .i64 p.nw :: flatAt d := rfl
theorem flatAt_length (d : List At) : (flatAt d).length = d.length * 7 := by
  induction d with
  | nil => rfl
  | cons p d ih => rw [flatAt_cons]; simp only [List.length_cons, ih]; omega
theorem flatAt_append (d e : List At) : flatAt (d ++ e) = flatAt d ++ flatAt e := by simp [flatAt]
theorem flatAt_at0 : ∀ (d : List At) (i : Nat), i < d.length → (flatAt d)[i * 7]? = some (.int .i64 (gAt d i).wh)
  | p :: d, 0, _ => rfl
  | p :: d, i + 1, h => by
    rw [flatAt_cons, show (i + 1) * 7 = i * 7 + 1 + 1 + 1 + 1 + 1 + 1 + 1 from by omega]
    simp only [List.getElem?_cons_succ]
    exact flatAt_at0 d i (by simpa using h)
theorem flatAt_at1 : ∀ (d : List At) (i : Nat), i < d.length → (flatAt d)[i * 7 + 1]? = some (.int .i64 (gAt d i).fr)
  | p :: d, 0, _ => rfl
  | p :: d, i + 1, h => by
    rw [flatAt_cons, show (i + 1) * 7 + 1 = i * 7 + 1 + 1 + 1 + 1 + 1 + 1 + 1 + 1 from by omega]
    simp only [List.getElem?_cons_succ]
    exact flatAt_at1 d i (by simpa using h)
theorem flatAt_at2 : ∀ (d : List At) (i : Nat), i < d.length → (flatAt d)[i * 7 + 2]? = some (.int .i64 (gAt d i).tn)
  | p :: d, 0, _ => rfl
  | p :: d, i + 1, h => by
    rw [flatAt_cons, show (i + 1) * 7 + 2 = i * 7 + 2 + 1 + 1 + 1 + 1 + 1 + 1 + 1 from by omega]
    simp only [List.getElem?_cons_succ]
    exact flatAt_at2 d i (by simpa using h)
theorem flatAt_at3 : ∀ (d : List At) (i : Nat), i < d.length → (flatAt d)[i * 7 + 3]? = some (.int .i64 (gAt d i).st)
  | p :: d, 0, _ => rfl
  | p :: d, i + 1, h => by
    rw [flatAt_cons, show (i + 1) * 7 + 3 = i * 7 + 3 + 1 + 1 + 1 + 1 + 1 + 1 + 1 from by omega]
    simp only [List.getElem?_cons_succ]
    exact flatAt_at3 d i (by simpa using h)
theorem flatAt_at4 : ∀ (d : List At) (i : Nat), i < d.length → (flatAt d)[i * 7 + 4]? = some (.int .i64 (gAt d i).en)
  | p :: d, 0, _ => rfl
  | p :: d, i + 1, h => by
    rw [flatAt_cons, show (i + 1) * 7 + 4 = i * 7 + 4 + 1 + 1 + 1 + 1 + 1 + 1 + 1 from by omega]
    simp only [List.getElem?_cons_succ]
    exact flatAt_at4 d i (by simpa using h)
theorem flatAt_at5 : ∀ (d : List At) (i : Nat), i < d.length → (flatAt d)[i * 7 + 5]? = some (.int .i64 (gAt d i).ow)
  | p :: d, 0, _ => rfl
  | p :: d, i + 1, h => by
    rw [flatAt_cons, show (i + 1) * 7 + 5 = i * 7 + 5 + 1 + 1 + 1 + 1 + 1 + 1 + 1 from by omega]
    simp only [List.getElem?_cons_succ]
    exact flatAt_at5 d i (by simpa using h)
theorem flatAt_at6 : ∀ (d : List At) (i : Nat), i < d.length → (flatAt d)[i * 7 + 6]? = some (.int .i64 (gAt d i).nw)
  | p :: d, 0, _ => rfl
  | p :: d, i + 1, h => by
    rw [flatAt_cons, show (i + 1) * 7 + 6 = i * 7 + 6 + 1 + 1 + 1 + 1 + 1 + 1 + 1 from by omega]
    simp only [List.getElem?_cons_succ]
    exact flatAt_at6 d i (by simpa using h)
theorem flatAt_set : ∀ (d : List At) (i : Nat) (p : At), ((((((((flatAt d).set (i * 7) (.int .i64 p.wh)).set (i * 7 + 1) (.int .i64 p.fr)).set (i * 7 + 2) (.int .i64 p.tn)).set (i * 7 + 3) (.int .i64 p.st)).set (i * 7 + 4) (.int .i64 p.en)).set (i * 7 + 5) (.int .i64 p.ow)).set (i * 7 + 6) (.int .i64 p.nw)) = flatAt (d.set i p)
  | [], i, p => by simp [flatAt]
  | q :: d, 0, p => rfl
  | q :: d, i + 1, p => by
    rw [flatAt_cons]
    rw [show (i + 1) * 7 = i * 7 + 1 + 1 + 1 + 1 + 1 + 1 + 1 from by omega]
    rw [show i * 7 + 1 + 1 + 1 + 1 + 1 + 1 + 1 + 1 = i * 7 + 1 + 1 + 1 + 1 + 1 + 1 + 1 + 1 from by omega]
    rw [show i * 7 + 1 + 1 + 1 + 1 + 1 + 1 + 1 + 2 = i * 7 + 2 + 1 + 1 + 1 + 1 + 1 + 1 + 1 from by omega]
    rw [show i * 7 + 1 + 1 + 1 + 1 + 1 + 1 + 1 + 3 = i * 7 + 3 + 1 + 1 + 1 + 1 + 1 + 1 + 1 from by omega]
    rw [show i * 7 + 1 + 1 + 1 + 1 + 1 + 1 + 1 + 4 = i * 7 + 4 + 1 + 1 + 1 + 1 + 1 + 1 + 1 from by omega]
    rw [show i * 7 + 1 + 1 + 1 + 1 + 1 + 1 + 1 + 5 = i * 7 + 5 + 1 + 1 + 1 + 1 + 1 + 1 + 1 from by omega]
    rw [show i * 7 + 1 + 1 + 1 + 1 + 1 + 1 + 1 + 6 = i * 7 + 6 + 1 + 1 + 1 + 1 + 1 + 1 + 1 from by omega]
    simp only [List.set_cons_succ]
    rw [flatAt_set d i p]
    rfl
theorem flatAt_take : ∀ (d : List At) (n : Nat), (flatAt d).take (n * 7) = flatAt (d.take n)
  | _, 0 => by simp [flatAt]
  | [], n + 1 => by simp [flatAt]
  | p :: d, n + 1 => by
    rw [flatAt_cons, show (n + 1) * 7 = n * 7 + 1 + 1 + 1 + 1 + 1 + 1 + 1 from by omega]
    simp only [List.take_succ_cons]
    rw [flatAt_take d n]
    rfl
theorem flatAt_drop : ∀ (d : List At) (n : Nat), (flatAt d).drop (n * 7) = flatAt (d.drop n)
  | _, 0 => by simp
  | [], n + 1 => by simp [flatAt]
  | p :: d, n + 1 => by
    rw [flatAt_cons, show (n + 1) * 7 = n * 7 + 1 + 1 + 1 + 1 + 1 + 1 + 1 from by omega]
    simp only [List.drop_succ_cons]
    rw [flatAt_drop d n]
theorem flatAt_one : ∀ (l : List At), ∀ u ∈ flatAt l, u.oneCell' = true
  | [], u, h => by simp [flatAt] at h
  | p :: l, u, h => by
    rw [flatAt_cons] at h
    simp only [List.mem_cons] at h
    rcases h with rfl | rfl | rfl | rfl | rfl | rfl | rfl | h
    all_goals first | rfl | exact flatAt_one l u h
theorem rowsAt_of : ∀ (n : Nat) (ns : List Int), ns.length = n * 7 → ∃ d : List At, d.length = n ∧ ns.map (Value.int .i64) = flatAt d
  | 0, [], _ => ⟨[], rfl, rfl⟩
  | 0, _ :: _, h => by simp at h
  | n + 1, a0 :: a1 :: a2 :: a3 :: a4 :: a5 :: a6 :: ns, h => by
    obtain ⟨d, h1, h2⟩ := rowsAt_of n ns (by simp at h; omega)
    exact ⟨⟨a0, a1, a2, a3, a4, a5, a6⟩ :: d, by simp [h1], by simp [flatAt_cons, h2]⟩
  | n + 1, [], h => by simp at h <;> omega
  | n + 1, [_], h => by simp at h <;> omega
  | n + 1, [_, _], h => by simp at h <;> omega
  | n + 1, [_, _, _], h => by simp at h <;> omega
  | n + 1, [_, _, _, _], h => by simp at h <;> omega
  | n + 1, [_, _, _, _, _], h => by simp at h <;> omega
  | n + 1, [_, _, _, _, _, _], h => by simp at h <;> omega

theorem Lst.atAt {w : World} {B : Nat} {A : Option Addr} {n : Nat} {l : List At} (h : Lst w B 7 A n (flatAt l)) (hl : l.length = n) {k : Nat} (hk : k < n) : ∃ ad, A = some ad ∧ ad.block < B ∧ w.cell? (ad.add (k * 7)) = some (.int .i64 (gAt l k).wh) ∧ w.cell? ⟨(ad.add (k * 7)).block, (ad.add (k * 7)).off + 1, none⟩ = some (.int .i64 (gAt l k).fr) ∧ w.cell? ⟨(ad.add (k * 7)).block, (ad.add (k * 7)).off + 2, none⟩ = some (.int .i64 (gAt l k).tn) ∧ w.cell? ⟨(ad.add (k * 7)).block, (ad.add (k * 7)).off + 3, none⟩ = some (.int .i64 (gAt l k).st) ∧ w.cell? ⟨(ad.add (k * 7)).block, (ad.add (k * 7)).off + 4, none⟩ = some (.int .i64 (gAt l k).en) ∧ w.cell? ⟨(ad.add (k * 7)).block, (ad.add (k * 7)).off + 5, none⟩ = some (.int .i64 (gAt l k).ow) ∧ w.cell? ⟨(ad.add (k * 7)).block, (ad.add (k * 7)).off + 6, none⟩ = some (.int .i64 (gAt l k).nw) := by
  obtain ⟨ad, e, hb, hc⟩ := h.at_ (by omega)
  exact ⟨ad, e, hb, hc _ _ (flatAt_at0 l k (by omega)), by rw [addr_next _ _ _ (by omega)]; exact hc _ _ (flatAt_at1 l k (by omega)), by rw [addr_next _ _ _ (by omega)]; exact hc _ _ (flatAt_at2 l k (by omega)), by rw [addr_next _ _ _ (by omega)]; exact hc _ _ (flatAt_at3 l k (by omega)), by rw [addr_next _ _ _ (by omega)]; exact hc _ _ (flatAt_at4 l k (by omega)), by rw [addr_next _ _ _ (by omega)]; exact hc _ _ (flatAt_at5 l k (by omega)), by rw [addr_next _ _ _ (by omega)]; exact hc _ _ (flatAt_at6 l k (by omega))⟩
theorem ownAt_at {w : World} {base : Nat} {t : TypeId} {g n c : Nat} {d : List At} (h : w.ownsRow base t 7 (.slice (some ⟨g, 0, none⟩) n c) n (flatAt d)) (hd : d.length = n) {k : Nat} (hk : k < n) : w.cell? ⟨g, k * 7, none⟩ = some (.int .i64 (gAt d k).wh) ∧ w.cell? ⟨g, k * 7 + 1, none⟩ = some (.int .i64 (gAt d k).fr) ∧ w.cell? ⟨g, k * 7 + 2, none⟩ = some (.int .i64 (gAt d k).tn) ∧ w.cell? ⟨g, k * 7 + 3, none⟩ = some (.int .i64 (gAt d k).st) ∧ w.cell? ⟨g, k * 7 + 4, none⟩ = some (.int .i64 (gAt d k).en) ∧ w.cell? ⟨g, k * 7 + 5, none⟩ = some (.int .i64 (gAt d k).ow) ∧ w.cell? ⟨g, k * 7 + 6, none⟩ = some (.int .i64 (gAt d k).nw) :=
  ⟨(h.cellAt (k * 7) (by omega)).trans (flatAt_at0 d k (by omega)), (h.cellAt (k * 7 + 1) (by omega)).trans (flatAt_at1 d k (by omega)), (h.cellAt (k * 7 + 2) (by omega)).trans (flatAt_at2 d k (by omega)), (h.cellAt (k * 7 + 3) (by omega)).trans (flatAt_at3 d k (by omega)), (h.cellAt (k * 7 + 4) (by omega)).trans (flatAt_at4 d k (by omega)), (h.cellAt (k * 7 + 5) (by omega)).trans (flatAt_at5 d k (by omega)), (h.cellAt (k * 7 + 6) (by omega)).trans (flatAt_at6 d k (by omega))⟩
theorem ownAt_store {w : World} {base : Nat} {t : TypeId} {g n c : Nat} {d : List At} (h : w.ownsRow base t 7 (.slice (some ⟨g, 0, none⟩) n c) n (flatAt d)) (i : Nat) (p : At) : (((((((w.setCell ⟨g, i * 7, none⟩ (.int .i64 p.wh)).setCell ⟨g, i * 7 + 1, none⟩ (.int .i64 p.fr)).setCell ⟨g, i * 7 + 2, none⟩ (.int .i64 p.tn)).setCell ⟨g, i * 7 + 3, none⟩ (.int .i64 p.st)).setCell ⟨g, i * 7 + 4, none⟩ (.int .i64 p.en)).setCell ⟨g, i * 7 + 5, none⟩ (.int .i64 p.ow)).setCell ⟨g, i * 7 + 6, none⟩ (.int .i64 p.nw)).ownsRow base t 7 (.slice (some ⟨g, 0, none⟩) n c) n (flatAt (d.set i p)) ∧ w.grownBy (((((((w.setCell ⟨g, i * 7, none⟩ (.int .i64 p.wh)).setCell ⟨g, i * 7 + 1, none⟩ (.int .i64 p.fr)).setCell ⟨g, i * 7 + 2, none⟩ (.int .i64 p.tn)).setCell ⟨g, i * 7 + 3, none⟩ (.int .i64 p.st)).setCell ⟨g, i * 7 + 4, none⟩ (.int .i64 p.en)).setCell ⟨g, i * 7 + 5, none⟩ (.int .i64 p.ow)).setCell ⟨g, i * 7 + 6, none⟩ (.int .i64 p.nw)) (some g) := by
  obtain ⟨r0, g0⟩ := h.stored (i * 7) (.int .i64 p.wh)
  obtain ⟨r1, g1⟩ := r0.stored (i * 7 + 1) (.int .i64 p.fr)
  obtain ⟨r2, g2⟩ := r1.stored (i * 7 + 2) (.int .i64 p.tn)
  obtain ⟨r3, g3⟩ := r2.stored (i * 7 + 3) (.int .i64 p.st)
  obtain ⟨r4, g4⟩ := r3.stored (i * 7 + 4) (.int .i64 p.en)
  obtain ⟨r5, g5⟩ := r4.stored (i * 7 + 5) (.int .i64 p.ow)
  obtain ⟨r6, g6⟩ := r5.stored (i * 7 + 6) (.int .i64 p.nw)
  rw [flatAt_set] at r6
  exact ⟨r6, grown_trans (grown_trans (grown_trans (grown_trans (grown_trans (grown_trans (g0) g1) g2) g3) g4) g5) g6⟩
theorem gAt_mem {d : List At} {i : Nat} (h : i < d.length) : gAt d i ∈ d := by
  unfold gAt; rw [List.getD_eq_getElem?_getD, List.getElem?_eq_getElem h]; simp
theorem gAt_eq {d : List At} {i : Nat} (h : i < d.length) : gAt d i = d[i] := by
  unfold gAt; rw [List.getD_eq_getElem?_getD, List.getElem?_eq_getElem h]; rfl
theorem take_nextAt {l : List At} {k : Nat} (h : k < l.length) : l.take (k + 1) = l.take k ++ [gAt l k] := by
  rw [List.take_succ_eq_append_getElem h, gAt_eq h]
theorem extAt {a b : List At} (hl : a.length = b.length) (h : ∀ i, i < a.length → gAt a i = gAt b i) : a = b := by
  refine List.ext_getElem hl fun i h1 h2 => ?_
  have := h i h1
  rw [gAt_eq h1, gAt_eq h2] at this
  exact this
theorem eqlAt (a b : At) (w : World) : (binOp .eql 29 (.agg #[.int .i64 a.wh, .int .i64 a.fr, .int .i64 a.tn, .int .i64 a.st, .int .i64 a.en, .int .i64 a.ow, .int .i64 a.nw]) (.agg #[.int .i64 b.wh, .int .i64 b.fr, .int .i64 b.tn, .int .i64 b.st, .int .i64 b.en, .int .i64 b.ow, .int .i64 b.nw])).run Try.prog w = .ok (.bool (decide (a = b))) w := by
  have u3 := Try.underlying3
  have a3 := Try.isAgg3
  have z3 := Try.sizeOf3
  have hS : Try.prog.underlying 29 = some (.struct (Try.prog.fieldsOf 29)) := by kernel_rfl
  have hp : Try.prog.stoodInHeld 29 = false := by kernel_rfl
  rw [run_eql_struct, show (10000 : Nat) = 9999 + 1 from rfl, run_equalIn_agg w 9999 29 _ _ hS hp]
  simp only [Program.fieldsOf, Try.underlying29]
  go_simp
  by_cases hab : a = b
  · subst hab; simp
  · simp only [hab, decide_false]
    have hx : ¬ (a.wh = b.wh ∧ a.fr = b.fr ∧ a.tn = b.tn ∧ a.st = b.st ∧ a.en = b.en ∧ a.ow = b.ow ∧ a.nw = b.nw) := fun h => hab (At.ext_ h.1 h.2.1 h.2.2.1 h.2.2.2.1 h.2.2.2.2.1 h.2.2.2.2.2.1 h.2.2.2.2.2.2)
    by_cases h0 : a.wh = b.wh <;> by_cases h1 : a.fr = b.fr <;> by_cases h2 : a.tn = b.tn <;> by_cases h3 : a.st = b.st <;> by_cases h4 : a.en = b.en <;> by_cases h5 : a.ow = b.ow <;> by_cases h6 : a.nw = b.nw
    all_goals simp_all
theorem infoAt : (Try.prog.info? 29).map (fun i => (i.zero, i.size, i.bytes)) = some (some (.agg #[.int .i64 0, .int .i64 0, .int .i64 0, .int .i64 0, .int .i64 0, .int .i64 0, .int .i64 0]), 7, 56) := by kernel_rfl
end Go.Proofs.Ytglhembdlipccaa
