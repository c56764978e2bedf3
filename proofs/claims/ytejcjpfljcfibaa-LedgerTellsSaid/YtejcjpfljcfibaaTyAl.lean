/- feluccalaw09.Act: its cells, lists of it. No condition. -/
import Derived.Test.YtejcjpfljcfibaaChecked
import Derived.Test.YtejcjpfljcfibaaSlLib
namespace Go.Proofs.Ytejcjpfljcfibaa
open Go.ChangeShapes Go.WideShapes Go.ChangeAt Go.RowKit Go.Sort
set_option linter.unusedSimpArgs false
set_option linter.unusedVariables false
structure Al where
  wh : Int
  id : Int
  fr : Int
  tn : Int
  st : Int
  en : Int
  rt : Int
  cl : Int
  sz : Int
theorem Al.ext_ {a b : Al} (h0 : a.wh = b.wh) (h1 : a.id = b.id) (h2 : a.fr = b.fr) (h3 : a.tn = b.tn) (h4 : a.st = b.st) (h5 : a.en = b.en) (h6 : a.rt = b.rt) (h7 : a.cl = b.cl) (h8 : a.sz = b.sz) : a = b := by cases a; cases b; simp_all
instance : DecidableEq Al := fun a b => if h : a.wh = b.wh ∧ a.id = b.id ∧ a.fr = b.fr ∧ a.tn = b.tn ∧ a.st = b.st ∧ a.en = b.en ∧ a.rt = b.rt ∧ a.cl = b.cl ∧ a.sz = b.sz then isTrue (Al.ext_ h.1 h.2.1 h.2.2.1 h.2.2.2.1 h.2.2.2.2.1 h.2.2.2.2.2.1 h.2.2.2.2.2.2.1 h.2.2.2.2.2.2.2.1 h.2.2.2.2.2.2.2.2) else isFalse (by rintro rfl; simp at h)
def Al.cs (r : Al) : List Value := [.int .i64 r.wh, .int .i64 r.id, .int .i64 r.fr, .int .i64 r.tn, .int .i64 r.st, .int .i64 r.en, .int .i64 r.rt, .int .i64 r.cl, .int .i64 r.sz]
def flatAl (d : List Al) : List Value := d.flatMap Al.cs
def gAl (d : List Al) (i : Nat) : Al := d.getD i ⟨0, 0, 0, 0, 0, 0, 0, 0, 0⟩
theorem flatAl_cons (p : Al) (d : List Al) : flatAl (p :: d) = .int .i64 p.wh :: .int .i64 p.id :: .int .i64 p.fr :: .int .i64 p.tn :: .int .i64 p.st :: .int .i64 p.en :: .int .i64 p.rt :: .int .i64 p.cl :: .int .i64 p.sz :: flatAl d := rfl
theorem flatAl_length (d : List Al) : (flatAl d).length = d.length * 9 := by
  induction d with
  | nil => rfl
  | cons p d ih => rw [flatAl_cons]; simp only [List.length_cons, ih]; omega
theorem flatAl_append (d e : List Al) : flatAl (d ++ e) = flatAl d ++ flatAl e := by simp [flatAl]
theorem flatAl_at0 : ∀ (d : List Al) (i : Nat), i < d.length → (flatAl d)[i * 9]? = some (.int .i64 (gAl d i).wh)
  | p :: d, 0, _ => rfl
  | p :: d, i + 1, h => by
    rw [flatAl_cons, show (i + 1) * 9 = i * 9 + 1 + 1 + 1 + 1 + 1 + 1 + 1 + 1 + 1 from by omega]
    simp only [List.getElem?_cons_succ]
    exact flatAl_at0 d i (by simpa using h)
theorem flatAl_at1 : ∀ (d : List Al) (i : Nat), i < d.length → (flatAl d)[i * 9 + 1]? = some (.int .i64 (gAl d i).id)
  | p :: d, 0, _ => rfl
  | p :: d, i + 1, h => by
    rw [flatAl_cons, show (i + 1) * 9 + 1 = i * 9 + 1 + 1 + 1 + 1 + 1 + 1 + 1 + 1 + 1 + 1 from by omega]
    simp only [List.getElem?_cons_succ]
    exact flatAl_at1 d i (by simpa using h)
theorem flatAl_at2 : ∀ (d : List Al) (i : Nat), i < d.length → (flatAl d)[i * 9 + 2]? = some (.int .i64 (gAl d i).fr)
  | p :: d, 0, _ => rfl
  | p :: d, i + 1, h => by
    rw [flatAl_cons, show (i + 1) * 9 + 2 = i * 9 + 2 + 1 + 1 + 1 + 1 + 1 + 1 + 1 + 1 + 1 from by omega]
    simp only [List.getElem?_cons_succ]
    exact flatAl_at2 d i (by simpa using h)
theorem flatAl_at3 : ∀ (d : List Al) (i : Nat), i < d.length → (flatAl d)[i * 9 + 3]? = some (.int .i64 (gAl d i).tn)
  | p :: d, 0, _ => rfl
  | p :: d, i + 1, h => by
    rw [flatAl_cons, show (i + 1) * 9 + 3 = i * 9 + 3 + 1 + 1 + 1 + 1 + 1 + 1 + 1 + 1 + 1 from by omega]
    simp only [List.getElem?_cons_succ]
    exact flatAl_at3 d i (by simpa using h)
theorem flatAl_at4 : ∀ (d : List Al) (i : Nat), i < d.length → (flatAl d)[i * 9 + 4]? = some (.int .i64 (gAl d i).st)
  | p :: d, 0, _ => rfl
  | p :: d, i + 1, h => by
    rw [flatAl_cons, show (i + 1) * 9 + 4 = i * 9 + 4 + 1 + 1 + 1 + 1 + 1 + 1 + 1 + 1 + 1 from by omega]
    simp only [List.getElem?_cons_succ]
    exact flatAl_at4 d i (by simpa using h)
theorem flatAl_at5 : ∀ (d : List Al) (i : Nat), i < d.length → (flatAl d)[i * 9 + 5]? = some (.int .i64 (gAl d i).en)
  | p :: d, 0, _ => rfl
  | p :: d, i + 1, h => by
    rw [flatAl_cons, show (i + 1) * 9 + 5 = i * 9 + 5 + 1 + 1 + 1 + 1 + 1 + 1 + 1 + 1 + 1 from by omega]
    simp only [List.getElem?_cons_succ]
    exact flatAl_at5 d i (by simpa using h)
theorem flatAl_at6 : ∀ (d : List Al) (i : Nat), i < d.length → (flatAl d)[i * 9 + 6]? = some (.int .i64 (gAl d i).rt)
  | p :: d, 0, _ => rfl
  | p :: d, i + 1, h => by
    rw [flatAl_cons, show (i + 1) * 9 + 6 = i * 9 + 6 + 1 + 1 + 1 + 1 + 1 + 1 + 1 + 1 + 1 from by omega]
    simp only [List.getElem?_cons_succ]
    exact flatAl_at6 d i (by simpa using h)
theorem flatAl_at7 : ∀ (d : List Al) (i : Nat), i < d.length → (flatAl d)[i * 9 + 7]? = some (.int .i64 (gAl d i).cl)
  | p :: d, 0, _ => rfl
  | p :: d, i + 1, h => by
    rw [flatAl_cons, show (i + 1) * 9 + 7 = i * 9 + 7 + 1 + 1 + 1 + 1 + 1 + 1 + 1 + 1 + 1 from by omega]
    simp only [List.getElem?_cons_succ]
    exact flatAl_at7 d i (by simpa using h)
theorem flatAl_at8 : ∀ (d : List Al) (i : Nat), i < d.length → (flatAl d)[i * 9 + 8]? = some (.int .i64 (gAl d i).sz)
  | p :: d, 0, _ => rfl
  | p :: d, i + 1, h => by
    rw [flatAl_cons, show (i + 1) * 9 + 8 = i * 9 + 8 + 1 + 1 + 1 + 1 + 1 + 1 + 1 + 1 + 1 from by omega]
    simp only [List.getElem?_cons_succ]
    exact flatAl_at8 d i (by simpa using h)
theorem flatAl_set : ∀ (d : List Al) (i : Nat) (p : Al), ((((((((((flatAl d).set (i * 9) (.int .i64 p.wh)).set (i * 9 + 1) (.int .i64 p.id)).set (i * 9 + 2) (.int .i64 p.fr)).set (i * 9 + 3) (.int .i64 p.tn)).set (i * 9 + 4) (.int .i64 p.st)).set (i * 9 + 5) (.int .i64 p.en)).set (i * 9 + 6) (.int .i64 p.rt)).set (i * 9 + 7) (.int .i64 p.cl)).set (i * 9 + 8) (.int .i64 p.sz)) = flatAl (d.set i p)
  | [], i, p => by simp [flatAl]
  | q :: d, 0, p => rfl
  | q :: d, i + 1, p => by
    rw [flatAl_cons]
    rw [show (i + 1) * 9 = i * 9 + 1 + 1 + 1 + 1 + 1 + 1 + 1 + 1 + 1 from by omega]
    rw [show i * 9 + 1 + 1 + 1 + 1 + 1 + 1 + 1 + 1 + 1 + 1 = i * 9 + 1 + 1 + 1 + 1 + 1 + 1 + 1 + 1 + 1 + 1 from by omega]
    rw [show i * 9 + 1 + 1 + 1 + 1 + 1 + 1 + 1 + 1 + 1 + 2 = i * 9 + 2 + 1 + 1 + 1 + 1 + 1 + 1 + 1 + 1 + 1 from by omega]
    rw [show i * 9 + 1 + 1 + 1 + 1 + 1 + 1 + 1 + 1 + 1 + 3 = i * 9 + 3 + 1 + 1 + 1 + 1 + 1 + 1 + 1 + 1 + 1 from by omega]
    rw [show i * 9 + 1 + 1 + 1 + 1 + 1 + 1 + 1 + 1 + 1 + 4 = i * 9 + 4 + 1 + 1 + 1 + 1 + 1 + 1 + 1 + 1 + 1 from by omega]
    rw [show i * 9 + 1 + 1 + 1 + 1 + 1 + 1 + 1 + 1 + 1 + 5 = i * 9 + 5 + 1 + 1 + 1 + 1 + 1 + 1 + 1 + 1 + 1 from by omega]
    rw [show i * 9 + 1 + 1 + 1 + 1 + 1 + 1 + 1 + 1 + 1 + 6 = i * 9 + 6 + 1 + 1 + 1 + 1 + 1 + 1 + 1 + 1 + 1 from by omega]
    rw [show i * 9 + 1 + 1 + 1 + 1 + 1 + 1 + 1 + 1 + 1 + 7 = i * 9 + 7 + 1 + 1 + 1 + 1 + 1 + 1 + 1 + 1 + 1 from by omega]
    rw [show i * 9 + 1 + 1 + 1 + 1 + 1 + 1 + 1 + 1 + 1 + 8 = i * 9 + 8 + 1 + 1 + 1 + 1 + 1 + 1 + 1 + 1 + 1 from by omega]
    simp only [List.set_cons_succ]
    rw [flatAl_set d i p]
    rfl
theorem flatAl_take : ∀ (d : List Al) (n : Nat), (flatAl d).take (n * 9) = flatAl (d.take n)
  | _, 0 => by simp [flatAl]
  | [], n + 1 => by simp [flatAl]
  | p :: d, n + 1 => by
    rw [flatAl_cons, show (n + 1) * 9 = n * 9 + 1 + 1 + 1 + 1 + 1 + 1 + 1 + 1 + 1 from by omega]
    simp only [List.take_succ_cons]
    rw [flatAl_take d n]
    rfl
theorem flatAl_drop : ∀ (d : List Al) (n : Nat), (flatAl d).drop (n * 9) = flatAl (d.drop n)
  | _, 0 => by simp
  | [], n + 1 => by simp [flatAl]
  | p :: d, n + 1 => by
    rw [flatAl_cons, show (n + 1) * 9 = n * 9 + 1 + 1 + 1 + 1 + 1 + 1 + 1 + 1 + 1 from by omega]
    simp only [List.drop_succ_cons]
    rw [flatAl_drop d n]
theorem flatAl_one : ∀ (l : List Al), ∀ u ∈ flatAl l, u.oneCell' = true
  | [], u, h => by simp [flatAl] at h
  | p :: l, u, h => by
    rw [flatAl_cons] at h
    simp only [List.mem_cons] at h
    rcases h with rfl | rfl | rfl | rfl | rfl | rfl | rfl | rfl | rfl | h
    all_goals first | rfl | exact flatAl_one l u h
theorem rowsAl_of : ∀ (n : Nat) (ns : List Int), ns.length = n * 9 → ∃ d : List Al, d.length = n ∧ ns.map (Value.int .i64) = flatAl d
  | 0, [], _ => ⟨[], rfl, rfl⟩
  | 0, _ :: _, h => by simp at h
  | n + 1, a0 :: a1 :: a2 :: a3 :: a4 :: a5 :: a6 :: a7 :: a8 :: ns, h => by
    obtain ⟨d, h1, h2⟩ := rowsAl_of n ns (by simp at h; omega)
    exact ⟨⟨a0, a1, a2, a3, a4, a5, a6, a7, a8⟩ :: d, by simp [h1], by simp [flatAl_cons, h2]⟩
  | n + 1, [], h => by simp at h <;> omega
  | n + 1, [_], h => by simp at h <;> omega
  | n + 1, [_, _], h => by simp at h <;> omega
  | n + 1, [_, _, _], h => by simp at h <;> omega
  | n + 1, [_, _, _, _], h => by simp at h <;> omega
  | n + 1, [_, _, _, _, _], h => by simp at h <;> omega
  | n + 1, [_, _, _, _, _, _], h => by simp at h <;> omega
  | n + 1, [_, _, _, _, _, _, _], h => by simp at h <;> omega
  | n + 1, [_, _, _, _, _, _, _, _], h => by simp at h <;> omega

theorem Lst.atAl {w : World} {B : Nat} {A : Option Addr} {n : Nat} {l : List Al} (h : Lst w B 9 A n (flatAl l)) (hl : l.length = n) {k : Nat} (hk : k < n) : ∃ ad, A = some ad ∧ ad.block < B ∧ w.cell? (ad.add (k * 9)) = some (.int .i64 (gAl l k).wh) ∧ w.cell? ⟨(ad.add (k * 9)).block, (ad.add (k * 9)).off + 1, none⟩ = some (.int .i64 (gAl l k).id) ∧ w.cell? ⟨(ad.add (k * 9)).block, (ad.add (k * 9)).off + 2, none⟩ = some (.int .i64 (gAl l k).fr) ∧ w.cell? ⟨(ad.add (k * 9)).block, (ad.add (k * 9)).off + 3, none⟩ = some (.int .i64 (gAl l k).tn) ∧ w.cell? ⟨(ad.add (k * 9)).block, (ad.add (k * 9)).off + 4, none⟩ = some (.int .i64 (gAl l k).st) ∧ w.cell? ⟨(ad.add (k * 9)).block, (ad.add (k * 9)).off + 5, none⟩ = some (.int .i64 (gAl l k).en) ∧ w.cell? ⟨(ad.add (k * 9)).block, (ad.add (k * 9)).off + 6, none⟩ = some (.int .i64 (gAl l k).rt) ∧ w.cell? ⟨(ad.add (k * 9)).block, (ad.add (k * 9)).off + 7, none⟩ = some (.int .i64 (gAl l k).cl) ∧ w.cell? ⟨(ad.add (k * 9)).block, (ad.add (k * 9)).off + 8, none⟩ = some (.int .i64 (gAl l k).sz) := by
  obtain ⟨ad, e, hb, hc⟩ := h.at_ (by omega)
  exact ⟨ad, e, hb, hc _ _ (flatAl_at0 l k (by omega)), by rw [addr_next _ _ _ (by omega)]; exact hc _ _ (flatAl_at1 l k (by omega)), by rw [addr_next _ _ _ (by omega)]; exact hc _ _ (flatAl_at2 l k (by omega)), by rw [addr_next _ _ _ (by omega)]; exact hc _ _ (flatAl_at3 l k (by omega)), by rw [addr_next _ _ _ (by omega)]; exact hc _ _ (flatAl_at4 l k (by omega)), by rw [addr_next _ _ _ (by omega)]; exact hc _ _ (flatAl_at5 l k (by omega)), by rw [addr_next _ _ _ (by omega)]; exact hc _ _ (flatAl_at6 l k (by omega)), by rw [addr_next _ _ _ (by omega)]; exact hc _ _ (flatAl_at7 l k (by omega)), by rw [addr_next _ _ _ (by omega)]; exact hc _ _ (flatAl_at8 l k (by omega))⟩
theorem ownAl_at {w : World} {base : Nat} {t : TypeId} {g n c : Nat} {d : List Al} (h : w.ownsRow base t 9 (.slice (some ⟨g, 0, none⟩) n c) n (flatAl d)) (hd : d.length = n) {k : Nat} (hk : k < n) : w.cell? ⟨g, k * 9, none⟩ = some (.int .i64 (gAl d k).wh) ∧ w.cell? ⟨g, k * 9 + 1, none⟩ = some (.int .i64 (gAl d k).id) ∧ w.cell? ⟨g, k * 9 + 2, none⟩ = some (.int .i64 (gAl d k).fr) ∧ w.cell? ⟨g, k * 9 + 3, none⟩ = some (.int .i64 (gAl d k).tn) ∧ w.cell? ⟨g, k * 9 + 4, none⟩ = some (.int .i64 (gAl d k).st) ∧ w.cell? ⟨g, k * 9 + 5, none⟩ = some (.int .i64 (gAl d k).en) ∧ w.cell? ⟨g, k * 9 + 6, none⟩ = some (.int .i64 (gAl d k).rt) ∧ w.cell? ⟨g, k * 9 + 7, none⟩ = some (.int .i64 (gAl d k).cl) ∧ w.cell? ⟨g, k * 9 + 8, none⟩ = some (.int .i64 (gAl d k).sz) :=
  ⟨(h.cellAt (k * 9) (by omega)).trans (flatAl_at0 d k (by omega)), (h.cellAt (k * 9 + 1) (by omega)).trans (flatAl_at1 d k (by omega)), (h.cellAt (k * 9 + 2) (by omega)).trans (flatAl_at2 d k (by omega)), (h.cellAt (k * 9 + 3) (by omega)).trans (flatAl_at3 d k (by omega)), (h.cellAt (k * 9 + 4) (by omega)).trans (flatAl_at4 d k (by omega)), (h.cellAt (k * 9 + 5) (by omega)).trans (flatAl_at5 d k (by omega)), (h.cellAt (k * 9 + 6) (by omega)).trans (flatAl_at6 d k (by omega)), (h.cellAt (k * 9 + 7) (by omega)).trans (flatAl_at7 d k (by omega)), (h.cellAt (k * 9 + 8) (by omega)).trans (flatAl_at8 d k (by omega))⟩
theorem ownAl_store {w : World} {base : Nat} {t : TypeId} {g n c : Nat} {d : List Al} (h : w.ownsRow base t 9 (.slice (some ⟨g, 0, none⟩) n c) n (flatAl d)) (i : Nat) (p : Al) : (((((((((w.setCell ⟨g, i * 9, none⟩ (.int .i64 p.wh)).setCell ⟨g, i * 9 + 1, none⟩ (.int .i64 p.id)).setCell ⟨g, i * 9 + 2, none⟩ (.int .i64 p.fr)).setCell ⟨g, i * 9 + 3, none⟩ (.int .i64 p.tn)).setCell ⟨g, i * 9 + 4, none⟩ (.int .i64 p.st)).setCell ⟨g, i * 9 + 5, none⟩ (.int .i64 p.en)).setCell ⟨g, i * 9 + 6, none⟩ (.int .i64 p.rt)).setCell ⟨g, i * 9 + 7, none⟩ (.int .i64 p.cl)).setCell ⟨g, i * 9 + 8, none⟩ (.int .i64 p.sz)).ownsRow base t 9 (.slice (some ⟨g, 0, none⟩) n c) n (flatAl (d.set i p)) ∧ w.grownBy (((((((((w.setCell ⟨g, i * 9, none⟩ (.int .i64 p.wh)).setCell ⟨g, i * 9 + 1, none⟩ (.int .i64 p.id)).setCell ⟨g, i * 9 + 2, none⟩ (.int .i64 p.fr)).setCell ⟨g, i * 9 + 3, none⟩ (.int .i64 p.tn)).setCell ⟨g, i * 9 + 4, none⟩ (.int .i64 p.st)).setCell ⟨g, i * 9 + 5, none⟩ (.int .i64 p.en)).setCell ⟨g, i * 9 + 6, none⟩ (.int .i64 p.rt)).setCell ⟨g, i * 9 + 7, none⟩ (.int .i64 p.cl)).setCell ⟨g, i * 9 + 8, none⟩ (.int .i64 p.sz)) (some g) := by
  obtain ⟨r0, g0⟩ := h.stored (i * 9) (.int .i64 p.wh)
  obtain ⟨r1, g1⟩ := r0.stored (i * 9 + 1) (.int .i64 p.id)
  obtain ⟨r2, g2⟩ := r1.stored (i * 9 + 2) (.int .i64 p.fr)
  obtain ⟨r3, g3⟩ := r2.stored (i * 9 + 3) (.int .i64 p.tn)
  obtain ⟨r4, g4⟩ := r3.stored (i * 9 + 4) (.int .i64 p.st)
  obtain ⟨r5, g5⟩ := r4.stored (i * 9 + 5) (.int .i64 p.en)
  obtain ⟨r6, g6⟩ := r5.stored (i * 9 + 6) (.int .i64 p.rt)
  obtain ⟨r7, g7⟩ := r6.stored (i * 9 + 7) (.int .i64 p.cl)
  obtain ⟨r8, g8⟩ := r7.stored (i * 9 + 8) (.int .i64 p.sz)
  rw [flatAl_set] at r8
  exact ⟨r8, grown_trans (grown_trans (grown_trans (grown_trans (grown_trans (grown_trans (grown_trans (grown_trans (g0) g1) g2) g3) g4) g5) g6) g7) g8⟩
theorem gAl_mem {d : List Al} {i : Nat} (h : i < d.length) : gAl d i ∈ d := by
  unfold gAl; rw [List.getD_eq_getElem?_getD, List.getElem?_eq_getElem h]; simp
theorem gAl_eq {d : List Al} {i : Nat} (h : i < d.length) : gAl d i = d[i] := by
  unfold gAl; rw [List.getD_eq_getElem?_getD, List.getElem?_eq_getElem h]; rfl
theorem take_nextAl {l : List Al} {k : Nat} (h : k < l.length) : l.take (k + 1) = l.take k ++ [gAl l k] := by
  rw [List.take_succ_eq_append_getElem h, gAl_eq h]
theorem extAl {a b : List Al} (hl : a.length = b.length) (h : ∀ i, i < a.length → gAl a i = gAl b i) : a = b := by
  refine List.ext_getElem hl fun i h1 h2 => ?_
  have := h i h1
  rw [gAl_eq h1, gAl_eq h2] at this
  exact this
theorem eqlAl (a b : Al) (w : World) : (binOp .eql 31 (.agg #[.int .i64 a.wh, .int .i64 a.id, .int .i64 a.fr, .int .i64 a.tn, .int .i64 a.st, .int .i64 a.en, .int .i64 a.rt, .int .i64 a.cl, .int .i64 a.sz]) (.agg #[.int .i64 b.wh, .int .i64 b.id, .int .i64 b.fr, .int .i64 b.tn, .int .i64 b.st, .int .i64 b.en, .int .i64 b.rt, .int .i64 b.cl, .int .i64 b.sz])).run Try.prog w = .ok (.bool (decide (a = b))) w := by
  have u3 := Try.underlying3
  have a3 := Try.isAgg3
  have z3 := Try.sizeOf3
  have hS : Try.prog.underlying 31 = some (.struct (Try.prog.fieldsOf 31)) := by kernel_rfl
  have hp : Try.prog.stoodInHeld 31 = false := by kernel_rfl
  rw [run_eql_struct, show (10000 : Nat) = 9999 + 1 from rfl, run_equalIn_agg w 9999 31 _ _ hS hp]
  simp only [Program.fieldsOf, Try.underlying31]
  go_simp
  by_cases hab : a = b
  · subst hab; simp
  · simp only [hab, decide_false]
    have hx : ¬ (a.wh = b.wh ∧ a.id = b.id ∧ a.fr = b.fr ∧ a.tn = b.tn ∧ a.st = b.st ∧ a.en = b.en ∧ a.rt = b.rt ∧ a.cl = b.cl ∧ a.sz = b.sz) := fun h => hab (Al.ext_ h.1 h.2.1 h.2.2.1 h.2.2.2.1 h.2.2.2.2.1 h.2.2.2.2.2.1 h.2.2.2.2.2.2.1 h.2.2.2.2.2.2.2.1 h.2.2.2.2.2.2.2.2)
    by_cases h0 : a.wh = b.wh <;> by_cases h1 : a.id = b.id <;> by_cases h2 : a.fr = b.fr <;> by_cases h3 : a.tn = b.tn <;> by_cases h4 : a.st = b.st <;> by_cases h5 : a.en = b.en <;> by_cases h6 : a.rt = b.rt <;> by_cases h7 : a.cl = b.cl <;> by_cases h8 : a.sz = b.sz
    all_goals simp_all
theorem neqAl (a b : Al) (w : World) : (binOp .neq 31 (.agg #[.int .i64 a.wh, .int .i64 a.id, .int .i64 a.fr, .int .i64 a.tn, .int .i64 a.st, .int .i64 a.en, .int .i64 a.rt, .int .i64 a.cl, .int .i64 a.sz]) (.agg #[.int .i64 b.wh, .int .i64 b.id, .int .i64 b.fr, .int .i64 b.tn, .int .i64 b.st, .int .i64 b.en, .int .i64 b.rt, .int .i64 b.cl, .int .i64 b.sz])).run Try.prog w = .ok (.bool (!decide (a = b))) w := by
  have u3 := Try.underlying3
  have a3 := Try.isAgg3
  have z3 := Try.sizeOf3
  have hS : Try.prog.underlying 31 = some (.struct (Try.prog.fieldsOf 31)) := by kernel_rfl
  have hp : Try.prog.stoodInHeld 31 = false := by kernel_rfl
  rw [run_neq_struct, show (10000 : Nat) = 9999 + 1 from rfl, run_equalIn_agg w 9999 31 _ _ hS hp]
  simp only [Program.fieldsOf, Try.underlying31]
  go_simp
  by_cases hab : a = b
  · subst hab; simp
  · simp only [hab, decide_false]
    have hx : ¬ (a.wh = b.wh ∧ a.id = b.id ∧ a.fr = b.fr ∧ a.tn = b.tn ∧ a.st = b.st ∧ a.en = b.en ∧ a.rt = b.rt ∧ a.cl = b.cl ∧ a.sz = b.sz) := fun h => hab (Al.ext_ h.1 h.2.1 h.2.2.1 h.2.2.2.1 h.2.2.2.2.1 h.2.2.2.2.2.1 h.2.2.2.2.2.2.1 h.2.2.2.2.2.2.2.1 h.2.2.2.2.2.2.2.2)
    by_cases h0 : a.wh = b.wh <;> by_cases h1 : a.id = b.id <;> by_cases h2 : a.fr = b.fr <;> by_cases h3 : a.tn = b.tn <;> by_cases h4 : a.st = b.st <;> by_cases h5 : a.en = b.en <;> by_cases h6 : a.rt = b.rt <;> by_cases h7 : a.cl = b.cl <;> by_cases h8 : a.sz = b.sz
    all_goals simp_all
theorem infoAl : (Try.prog.info? 31).map (fun i => (i.zero, i.size, i.bytes)) = some (some (.agg #[.int .i64 0, .int .i64 0, .int .i64 0, .int .i64 0, .int .i64 0, .int .i64 0, .int .i64 0, .int .i64 0, .int .i64 0]), 9, 72) := by kernel_rfl
end Go.Proofs.Ytejcjpfljcfibaa
