
/- api.Directive: its cells, lists of it. No condition. -/
import Derived.Test.YtggdomeeienjbaaDoorChecked
import Derived.Test.YtggdomeeienjbaaDoorSlLib
namespace Go.Proofs.YtggdomeeienjbaaDoor
open Go.ChangeShapes Go.WideShapes Go.ChangeAt Go.RowKit Go.Sort
set_option linter.unusedSimpArgs false
set_option linter.unusedVariables false
structure Dr where
  op : Int
  kd : Int
  id : Int
  fr : Int
  tn : Int
  st : Int
  en : Int
  rt : Int
  rf : Int
  rn : Int
  rs : Int
  re : Int
  ro : Int
theorem Dr.ext_ {a b : Dr} (h0 : a.op = b.op) (h1 : a.kd = b.kd) (h2 : a.id = b.id) (h3 : a.fr = b.fr) (h4 : a.tn = b.tn) (h5 : a.st = b.st) (h6 : a.en = b.en) (h7 : a.rt = b.rt) (h8 : a.rf = b.rf) (h9 : a.rn = b.rn) (h10 : a.rs = b.rs) (h11 : a.re = b.re) (h12 : a.ro = b.ro) : a = b := by cases a; cases b; simp_all
instance : DecidableEq Dr := fun a b => if h : a.op = b.op ∧ a.kd = b.kd ∧ a.id = b.id ∧ a.fr = b.fr ∧ a.tn = b.tn ∧ a.st = b.st ∧ a.en = b.en ∧ a.rt = b.rt ∧ a.rf = b.rf ∧ a.rn = b.rn ∧ a.rs = b.rs ∧ a.re = b.re ∧ a.ro = b.ro then isTrue (Dr.ext_ h.1 h.2.1 h.2.2.1 h.2.2.2.1 h.2.2.2.2.1 h.2.2.2.2.2.1 h.2.2.2.2.2.2.1 h.2.2.2.2.2.2.2.1 h.2.2.2.2.2.2.2.2.1 h.2.2.2.2.2.2.2.2.2.1 h.2.2.2.2.2.2.2.2.2.2.1 h.2.2.2.2.2.2.2.2.2.2.2.1 h.2.2.2.2.2.2.2.2.2.2.2.2) else isFalse (by rintro rfl; simp at h)
def Dr.cs (r : Dr) : List Value := [.int .i64 r.op, .int .i64 r.kd, .int .i64 r.id, .int .i64 r.fr, .int .i64 r.tn, .int .i64 r.st, .int .i64 r.en, .int .i64 r.rt, .int .i64 r.rf, .int .i64 r.rn, .int .i64 r.rs, .int .i64 r.re, .int .i64 r.ro]
def flatDr (d : List Dr) : List Value := d.flatMap Dr.cs
def gDr (d : List Dr) (i : Nat) : Dr := d.getD i ⟨0, 0, 0, 0, 0, 0, 0, 0, 0, 0, 0, 0, 0⟩
theorem flatDr_cons (p : Dr) (d : List Dr) : flatDr (p :: d) = .int .i64 p.op :: .int .i64 p.kd :: .int .i64 p.id :: .int .i64 p.fr :: .int .i64 p.tn :: .int .i64 p.st :: .int .i64 p.en :: .int .i64 p.rt :: .int .i64 p.rf :: .int .i64 p.rn :: .int .i64 p.rs :: .int .i64 p.re :: .int .i64 p.ro :: flatDr d := rfl
theorem flatDr_length (d : List Dr) : (flatDr d).length = d.length * 13 := by
  induction d with
  | nil => rfl
  | cons p d ih => rw [flatDr_cons]; simp only [List.length_cons, ih]; omega
theorem flatDr_append (d e : List Dr) : flatDr (d ++ e) = flatDr d ++ flatDr e := by simp [flatDr]
theorem flatDr_at0 : ∀ (d : List Dr) (i : Nat), i < d.length → (flatDr d)[i * 13]? = some (.int .i64 (gDr d i).op)
  | p :: d, 0, _ => rfl
  | p :: d, i + 1, h => by
    rw [flatDr_cons, show (i + 1) * 13 = i * 13 + 1 + 1 + 1 + 1 + 1 + 1 + 1 + 1 + 1 + 1 + 1 + 1 + 1 from by omega]
    simp only [List.getElem?_cons_succ]
    exact flatDr_at0 d i (by simpa using h)
theorem flatDr_at1 : ∀ (d : List Dr) (i : Nat), i < d.length → (flatDr d)[i * 13 + 1]? = some (.int .i64 (gDr d i).kd)
  | p :: d, 0, _ => rfl
  | p :: d, i + 1, h => by
    rw [flatDr_cons, show (i + 1) * 13 + 1 = i * 13 + 1 + 1 + 1 + 1 + 1 + 1 + 1 + 1 + 1 + 1 + 1 + 1 + 1 + 1 from by omega]
    simp only [List.getElem?_cons_succ]
    exact flatDr_at1 d i (by simpa using h)
theorem flatDr_at2 : ∀ (d : List Dr) (i : Nat), i < d.length → (flatDr d)[i * 13 + 2]? = some (.int .i64 (gDr d i).id)
  | p :: d, 0, _ => rfl
  | p :: d, i + 1, h => by
    rw [flatDr_cons, show (i + 1) * 13 + 2 = i * 13 + 2 + 1 + 1 + 1 + 1 + 1 + 1 + 1 + 1 + 1 + 1 + 1 + 1 + 1 from by omega]
    simp only [List.getElem?_cons_succ]
    exact flatDr_at2 d i (by simpa using h)
theorem flatDr_at3 : ∀ (d : List Dr) (i : Nat), i < d.length → (flatDr d)[i * 13 + 3]? = some (.int .i64 (gDr d i).fr)
  | p :: d, 0, _ => rfl
  | p :: d, i + 1, h => by
    rw [flatDr_cons, show (i + 1) * 13 + 3 = i * 13 + 3 + 1 + 1 + 1 + 1 + 1 + 1 + 1 + 1 + 1 + 1 + 1 + 1 + 1 from by omega]
    simp only [List.getElem?_cons_succ]
    exact flatDr_at3 d i (by simpa using h)
theorem flatDr_at4 : ∀ (d : List Dr) (i : Nat), i < d.length → (flatDr d)[i * 13 + 4]? = some (.int .i64 (gDr d i).tn)
  | p :: d, 0, _ => rfl
  | p :: d, i + 1, h => by
    rw [flatDr_cons, show (i + 1) * 13 + 4 = i * 13 + 4 + 1 + 1 + 1 + 1 + 1 + 1 + 1 + 1 + 1 + 1 + 1 + 1 + 1 from by omega]
    simp only [List.getElem?_cons_succ]
    exact flatDr_at4 d i (by simpa using h)
theorem flatDr_at5 : ∀ (d : List Dr) (i : Nat), i < d.length → (flatDr d)[i * 13 + 5]? = some (.int .i64 (gDr d i).st)
  | p :: d, 0, _ => rfl
  | p :: d, i + 1, h => by
    rw [flatDr_cons, show (i + 1) * 13 + 5 = i * 13 + 5 + 1 + 1 + 1 + 1 + 1 + 1 + 1 + 1 + 1 + 1 + 1 + 1 + 1 from by omega]
    simp only [List.getElem?_cons_succ]
    exact flatDr_at5 d i (by simpa using h)
theorem flatDr_at6 : ∀ (d : List Dr) (i : Nat), i < d.length → (flatDr d)[i * 13 + 6]? = some (.int .i64 (gDr d i).en)
  | p :: d, 0, _ => rfl
  | p :: d, i + 1, h => by
    rw [flatDr_cons, show (i + 1) * 13 + 6 = i * 13 + 6 + 1 + 1 + 1 + 1 + 1 + 1 + 1 + 1 + 1 + 1 + 1 + 1 + 1 from by omega]
    simp only [List.getElem?_cons_succ]
    exact flatDr_at6 d i (by simpa using h)
theorem flatDr_at7 : ∀ (d : List Dr) (i : Nat), i < d.length → (flatDr d)[i * 13 + 7]? = some (.int .i64 (gDr d i).rt)
  | p :: d, 0, _ => rfl
  | p :: d, i + 1, h => by
    rw [flatDr_cons, show (i + 1) * 13 + 7 = i * 13 + 7 + 1 + 1 + 1 + 1 + 1 + 1 + 1 + 1 + 1 + 1 + 1 + 1 + 1 from by omega]
    simp only [List.getElem?_cons_succ]
    exact flatDr_at7 d i (by simpa using h)
theorem flatDr_at8 : ∀ (d : List Dr) (i : Nat), i < d.length → (flatDr d)[i * 13 + 8]? = some (.int .i64 (gDr d i).rf)
  | p :: d, 0, _ => rfl
  | p :: d, i + 1, h => by
    rw [flatDr_cons, show (i + 1) * 13 + 8 = i * 13 + 8 + 1 + 1 + 1 + 1 + 1 + 1 + 1 + 1 + 1 + 1 + 1 + 1 + 1 from by omega]
    simp only [List.getElem?_cons_succ]
    exact flatDr_at8 d i (by simpa using h)
theorem flatDr_at9 : ∀ (d : List Dr) (i : Nat), i < d.length → (flatDr d)[i * 13 + 9]? = some (.int .i64 (gDr d i).rn)
  | p :: d, 0, _ => rfl
  | p :: d, i + 1, h => by
    rw [flatDr_cons, show (i + 1) * 13 + 9 = i * 13 + 9 + 1 + 1 + 1 + 1 + 1 + 1 + 1 + 1 + 1 + 1 + 1 + 1 + 1 from by omega]
    simp only [List.getElem?_cons_succ]
    exact flatDr_at9 d i (by simpa using h)
theorem flatDr_at10 : ∀ (d : List Dr) (i : Nat), i < d.length → (flatDr d)[i * 13 + 10]? = some (.int .i64 (gDr d i).rs)
  | p :: d, 0, _ => rfl
  | p :: d, i + 1, h => by
    rw [flatDr_cons, show (i + 1) * 13 + 10 = i * 13 + 10 + 1 + 1 + 1 + 1 + 1 + 1 + 1 + 1 + 1 + 1 + 1 + 1 + 1 from by omega]
    simp only [List.getElem?_cons_succ]
    exact flatDr_at10 d i (by simpa using h)
theorem flatDr_at11 : ∀ (d : List Dr) (i : Nat), i < d.length → (flatDr d)[i * 13 + 11]? = some (.int .i64 (gDr d i).re)
  | p :: d, 0, _ => rfl
  | p :: d, i + 1, h => by
    rw [flatDr_cons, show (i + 1) * 13 + 11 = i * 13 + 11 + 1 + 1 + 1 + 1 + 1 + 1 + 1 + 1 + 1 + 1 + 1 + 1 + 1 from by omega]
    simp only [List.getElem?_cons_succ]
    exact flatDr_at11 d i (by simpa using h)
theorem flatDr_at12 : ∀ (d : List Dr) (i : Nat), i < d.length → (flatDr d)[i * 13 + 12]? = some (.int .i64 (gDr d i).ro)
  | p :: d, 0, _ => rfl
  | p :: d, i + 1, h => by
    rw [flatDr_cons, show (i + 1) * 13 + 12 = i * 13 + 12 + 1 + 1 + 1 + 1 + 1 + 1 + 1 + 1 + 1 + 1 + 1 + 1 + 1 from by omega]
    simp only [List.getElem?_cons_succ]
    exact flatDr_at12 d i (by simpa using h)
theorem flatDr_set : ∀ (d : List Dr) (i : Nat) (p : Dr), ((((((((((((((flatDr d).set (i * 13) (.int .i64 p.op)).set (i * 13 + 1) (.int .i64 p.kd)).set (i * 13 + 2) (.int .i64 p.id)).set (i * 13 + 3) (.int .i64 p.fr)).set (i * 13 + 4) (.int .i64 p.tn)).set (i * 13 + 5) (.int .i64 p.st)).set (i * 13 + 6) (.int .i64 p.en)).set (i * 13 + 7) (.int .i64 p.rt)).set (i * 13 + 8) (.int .i64 p.rf)).set (i * 13 + 9) (.int .i64 p.rn)).set (i * 13 + 10) (.int .i64 p.rs)).set (i * 13 + 11) (.int .i64 p.re)).set (i * 13 + 12) (.int .i64 p.ro)) = flatDr (d.set i p)
  | [], i, p => by simp [flatDr]
  | q :: d, 0, p => rfl
  | q :: d, i + 1, p => by
    rw [flatDr_cons]
    rw [show (i + 1) * 13 = i * 13 + 1 + 1 + 1 + 1 + 1 + 1 + 1 + 1 + 1 + 1 + 1 + 1 + 1 from by omega]
    rw [show i * 13 + 1 + 1 + 1 + 1 + 1 + 1 + 1 + 1 + 1 + 1 + 1 + 1 + 1 + 1 = i * 13 + 1 + 1 + 1 + 1 + 1 + 1 + 1 + 1 + 1 + 1 + 1 + 1 + 1 + 1 from by omega]
    rw [show i * 13 + 1 + 1 + 1 + 1 + 1 + 1 + 1 + 1 + 1 + 1 + 1 + 1 + 1 + 2 = i * 13 + 2 + 1 + 1 + 1 + 1 + 1 + 1 + 1 + 1 + 1 + 1 + 1 + 1 + 1 from by omega]
    rw [show i * 13 + 1 + 1 + 1 + 1 + 1 + 1 + 1 + 1 + 1 + 1 + 1 + 1 + 1 + 3 = i * 13 + 3 + 1 + 1 + 1 + 1 + 1 + 1 + 1 + 1 + 1 + 1 + 1 + 1 + 1 from by omega]
    rw [show i * 13 + 1 + 1 + 1 + 1 + 1 + 1 + 1 + 1 + 1 + 1 + 1 + 1 + 1 + 4 = i * 13 + 4 + 1 + 1 + 1 + 1 + 1 + 1 + 1 + 1 + 1 + 1 + 1 + 1 + 1 from by omega]
    rw [show i * 13 + 1 + 1 + 1 + 1 + 1 + 1 + 1 + 1 + 1 + 1 + 1 + 1 + 1 + 5 = i * 13 + 5 + 1 + 1 + 1 + 1 + 1 + 1 + 1 + 1 + 1 + 1 + 1 + 1 + 1 from by omega]
    rw [show i * 13 + 1 + 1 + 1 + 1 + 1 + 1 + 1 + 1 + 1 + 1 + 1 + 1 + 1 + 6 = i * 13 + 6 + 1 + 1 + 1 + 1 + 1 + 1 + 1 + 1 + 1 + 1 + 1 + 1 + 1 from by omega]
    rw [show i * 13 + 1 + 1 + 1 + 1 + 1 + 1 + 1 + 1 + 1 + 1 + 1 + 1 + 1 + 7 = i * 13 + 7 + 1 + 1 + 1 + 1 + 1 + 1 + 1 + 1 + 1 + 1 + 1 + 1 + 1 from by omega]
    rw [show i * 13 + 1 + 1 + 1 + 1 + 1 + 1 + 1 + 1 + 1 + 1 + 1 + 1 + 1 + 8 = i * 13 + 8 + 1 + 1 + 1 + 1 + 1 + 1 + 1 + 1 + 1 + 1 + 1 + 1 + 1 from by omega]
    rw [show i * 13 + 1 + 1 + 1 + 1 + 1 + 1 + 1 + 1 + 1 + 1 + 1 + 1 + 1 + 9 = i * 13 + 9 + 1 + 1 + 1 + 1 + 1 + 1 + 1 + 1 + 1 + 1 + 1 + 1 + 1 from by omega]
    rw [show i * 13 + 1 + 1 + 1 + 1 + 1 + 1 + 1 + 1 + 1 + 1 + 1 + 1 + 1 + 10 = i * 13 + 10 + 1 + 1 + 1 + 1 + 1 + 1 + 1 + 1 + 1 + 1 + 1 + 1 + 1 from by omega]
    rw [show i * 13 + 1 + 1 + 1 + 1 + 1 + 1 + 1 + 1 + 1 + 1 + 1 + 1 + 1 + 11 = i * 13 + 11 + 1 + 1 + 1 + 1 + 1 + 1 + 1 + 1 + 1 + 1 + 1 + 1 + 1 from by omega]
    rw [show i * 13 + 1 + 1 + 1 + 1 + 1 + 1 + 1 + 1 + 1 + 1 + 1 + 1 + 1 + 12 = i * 13 + 12 + 1 + 1 + 1 + 1 + 1 + 1 + 1 + 1 + 1 + 1 + 1 + 1 + 1 from by omega]
    simp only [List.set_cons_succ]
    rw [flatDr_set d i p]
    rfl
theorem flatDr_take : ∀ (d : List Dr) (n : Nat), (flatDr d).take (n * 13) = flatDr (d.take n)
  | _, 0 => by simp [flatDr]
  | [], n + 1 => by simp [flatDr]
  | p :: d, n + 1 => by
    rw [flatDr_cons, show (n + 1) * 13 = n * 13 + 1 + 1 + 1 + 1 + 1 + 1 + 1 + 1 + 1 + 1 + 1 + 1 + 1 from by omega]
    simp only [List.take_succ_cons]
    rw [flatDr_take d n]
    rfl
theorem flatDr_drop : ∀ (d : List Dr) (n : Nat), (flatDr d).drop (n * 13) = flatDr (d.drop n)
  | _, 0 => by simp
  | [], n + 1 => by simp [flatDr]
  | p :: d, n + 1 => by
    rw [flatDr_cons, show (n + 1) * 13 = n * 13 + 1 + 1 + 1 + 1 + 1 + 1 + 1 + 1 + 1 + 1 + 1 + 1 + 1 from by omega]
    simp only [List.drop_succ_cons]
    rw [flatDr_drop d n]
theorem flatDr_one : ∀ (l : List Dr), ∀ u ∈ flatDr l, u.oneCell' = true
  | [], u, h => by simp [flatDr] at h
  | p :: l, u, h => by
    rw [flatDr_cons] at h
    simp only [List.mem_cons] at h
    rcases h with rfl | rfl | rfl | rfl | rfl | rfl | rfl | rfl | rfl | rfl | rfl | rfl | rfl | h
    all_goals first | rfl | exact flatDr_one l u h
theorem rowsDr_of : ∀ (n : Nat) (ns : List Int), ns.length = n * 13 → ∃ d : List Dr, d.length = n ∧ ns.map (Value.int .i64) = flatDr d
  | 0, [], _ => ⟨[], rfl, rfl⟩
  | 0, _ :: _, h => by simp at h
  | n + 1, a0 :: a1 :: a2 :: a3 :: a4 :: a5 :: a6 :: a7 :: a8 :: a9 :: a10 :: a11 :: a12 :: ns, h => by
    obtain ⟨d, h1, h2⟩ := rowsDr_of n ns (by simp at h; omega)
    exact ⟨⟨a0, a1, a2, a3, a4, a5, a6, a7, a8, a9, a10, a11, a12⟩ :: d, by simp [h1], by simp [flatDr_cons, h2]⟩
  | n + 1, [], h => by simp at h <;> omega
  | n + 1, [_], h => by simp at h <;> omega
  | n + 1, [_, _], h => by simp at h <;> omega
  | n + 1, [_, _, _], h => by simp at h <;> omega
  | n + 1, [_, _, _, _], h => by simp at h <;> omega
  | n + 1, [_, _, _, _, _], h => by simp at h <;> omega
  | n + 1, [_, _, _, _, _, _], h => by simp at h <;> omega
  | n + 1, [_, _, _, _, _, _, _], h => by simp at h <;> omega
  | n + 1, [_, _, _, _, _, _, _, _], h => by simp at h <;> omega
  | n + 1, [_, _, _, _, _, _, _, _, _], h => by simp at h <;> omega
  | n + 1, [_, _, _, _, _, _, _, _, _, _], h => by simp at h <;> omega
  | n + 1, [_, _, _, _, _, _, _, _, _, _, _], h => by simp at h <;> omega
  | n + 1, [_, _, _, _, _, _, _, _, _, _, _, _], h => by simp at h <;> omega

theorem Lst.atDr {w : World} {B : Nat} {A : Option Addr} {n : Nat} {l : List Dr} (h : Lst w B 13 A n (flatDr l)) (hl : l.length = n) {k : Nat} (hk : k < n) : ∃ ad, A = some ad ∧ ad.block < B ∧ w.cell? (ad.add (k * 13)) = some (.int .i64 (gDr l k).op) ∧ w.cell? ⟨(ad.add (k * 13)).block, (ad.add (k * 13)).off + 1, none⟩ = some (.int .i64 (gDr l k).kd) ∧ w.cell? ⟨(ad.add (k * 13)).block, (ad.add (k * 13)).off + 2, none⟩ = some (.int .i64 (gDr l k).id) ∧ w.cell? ⟨(ad.add (k * 13)).block, (ad.add (k * 13)).off + 3, none⟩ = some (.int .i64 (gDr l k).fr) ∧ w.cell? ⟨(ad.add (k * 13)).block, (ad.add (k * 13)).off + 4, none⟩ = some (.int .i64 (gDr l k).tn) ∧ w.cell? ⟨(ad.add (k * 13)).block, (ad.add (k * 13)).off + 5, none⟩ = some (.int .i64 (gDr l k).st) ∧ w.cell? ⟨(ad.add (k * 13)).block, (ad.add (k * 13)).off + 6, none⟩ = some (.int .i64 (gDr l k).en) ∧ w.cell? ⟨(ad.add (k * 13)).block, (ad.add (k * 13)).off + 7, none⟩ = some (.int .i64 (gDr l k).rt) ∧ w.cell? ⟨(ad.add (k * 13)).block, (ad.add (k * 13)).off + 8, none⟩ = some (.int .i64 (gDr l k).rf) ∧ w.cell? ⟨(ad.add (k * 13)).block, (ad.add (k * 13)).off + 9, none⟩ = some (.int .i64 (gDr l k).rn) ∧ w.cell? ⟨(ad.add (k * 13)).block, (ad.add (k * 13)).off + 10, none⟩ = some (.int .i64 (gDr l k).rs) ∧ w.cell? ⟨(ad.add (k * 13)).block, (ad.add (k * 13)).off + 11, none⟩ = some (.int .i64 (gDr l k).re) ∧ w.cell? ⟨(ad.add (k * 13)).block, (ad.add (k * 13)).off + 12, none⟩ = some (.int .i64 (gDr l k).ro) := by
  obtain ⟨ad, e, hb, hc⟩ := h.at_ (by omega)
  exact ⟨ad, e, hb, hc _ _ (flatDr_at0 l k (by omega)), by rw [addr_next _ _ _ (by omega)]; exact hc _ _ (flatDr_at1 l k (by omega)), by rw [addr_next _ _ _ (by omega)]; exact hc _ _ (flatDr_at2 l k (by omega)), by rw [addr_next _ _ _ (by omega)]; exact hc _ _ (flatDr_at3 l k (by omega)), by rw [addr_next _ _ _ (by omega)]; exact hc _ _ (flatDr_at4 l k (by omega)), by rw [addr_next _ _ _ (by omega)]; exact hc _ _ (flatDr_at5 l k (by omega)), by rw [addr_next _ _ _ (by omega)]; exact hc _ _ (flatDr_at6 l k (by omega)), by rw [addr_next _ _ _ (by omega)]; exact hc _ _ (flatDr_at7 l k (by omega)), by rw [addr_next _ _ _ (by omega)]; exact hc _ _ (flatDr_at8 l k (by omega)), by rw [addr_next _ _ _ (by omega)]; exact hc _ _ (flatDr_at9 l k (by omega)), by rw [addr_next _ _ _ (by omega)]; exact hc _ _ (flatDr_at10 l k (by omega)), by rw [addr_next _ _ _ (by omega)]; exact hc _ _ (flatDr_at11 l k (by omega)), by rw [addr_next _ _ _ (by omega)]; exact hc _ _ (flatDr_at12 l k (by omega))⟩
theorem ownDr_at {w : World} {base : Nat} {t : TypeId} {g n c : Nat} {d : List Dr} (h : w.ownsRow base t 13 (.slice (some ⟨g, 0, none⟩) n c) n (flatDr d)) (hd : d.length = n) {k : Nat} (hk : k < n) : w.cell? ⟨g, k * 13, none⟩ = some (.int .i64 (gDr d k).op) ∧ w.cell? ⟨g, k * 13 + 1, none⟩ = some (.int .i64 (gDr d k).kd) ∧ w.cell? ⟨g, k * 13 + 2, none⟩ = some (.int .i64 (gDr d k).id) ∧ w.cell? ⟨g, k * 13 + 3, none⟩ = some (.int .i64 (gDr d k).fr) ∧ w.cell? ⟨g, k * 13 + 4, none⟩ = some (.int .i64 (gDr d k).tn) ∧ w.cell? ⟨g, k * 13 + 5, none⟩ = some (.int .i64 (gDr d k).st) ∧ w.cell? ⟨g, k * 13 + 6, none⟩ = some (.int .i64 (gDr d k).en) ∧ w.cell? ⟨g, k * 13 + 7, none⟩ = some (.int .i64 (gDr d k).rt) ∧ w.cell? ⟨g, k * 13 + 8, none⟩ = some (.int .i64 (gDr d k).rf) ∧ w.cell? ⟨g, k * 13 + 9, none⟩ = some (.int .i64 (gDr d k).rn) ∧ w.cell? ⟨g, k * 13 + 10, none⟩ = some (.int .i64 (gDr d k).rs) ∧ w.cell? ⟨g, k * 13 + 11, none⟩ = some (.int .i64 (gDr d k).re) ∧ w.cell? ⟨g, k * 13 + 12, none⟩ = some (.int .i64 (gDr d k).ro) :=
  ⟨(h.cellAt (k * 13) (by omega)).trans (flatDr_at0 d k (by omega)), (h.cellAt (k * 13 + 1) (by omega)).trans (flatDr_at1 d k (by omega)), (h.cellAt (k * 13 + 2) (by omega)).trans (flatDr_at2 d k (by omega)), (h.cellAt (k * 13 + 3) (by omega)).trans (flatDr_at3 d k (by omega)), (h.cellAt (k * 13 + 4) (by omega)).trans (flatDr_at4 d k (by omega)), (h.cellAt (k * 13 + 5) (by omega)).trans (flatDr_at5 d k (by omega)), (h.cellAt (k * 13 + 6) (by omega)).trans (flatDr_at6 d k (by omega)), (h.cellAt (k * 13 + 7) (by omega)).trans (flatDr_at7 d k (by omega)), (h.cellAt (k * 13 + 8) (by omega)).trans (flatDr_at8 d k (by omega)), (h.cellAt (k * 13 + 9) (by omega)).trans (flatDr_at9 d k (by omega)), (h.cellAt (k * 13 + 10) (by omega)).trans (flatDr_at10 d k (by omega)), (h.cellAt (k * 13 + 11) (by omega)).trans (flatDr_at11 d k (by omega)), (h.cellAt (k * 13 + 12) (by omega)).trans (flatDr_at12 d k (by omega))⟩
theorem ownDr_store {w : World} {base : Nat} {t : TypeId} {g n c : Nat} {d : List Dr} (h : w.ownsRow base t 13 (.slice (some ⟨g, 0, none⟩) n c) n (flatDr d)) (i : Nat) (p : Dr) : (((((((((((((w.setCell ⟨g, i * 13, none⟩ (.int .i64 p.op)).setCell ⟨g, i * 13 + 1, none⟩ (.int .i64 p.kd)).setCell ⟨g, i * 13 + 2, none⟩ (.int .i64 p.id)).setCell ⟨g, i * 13 + 3, none⟩ (.int .i64 p.fr)).setCell ⟨g, i * 13 + 4, none⟩ (.int .i64 p.tn)).setCell ⟨g, i * 13 + 5, none⟩ (.int .i64 p.st)).setCell ⟨g, i * 13 + 6, none⟩ (.int .i64 p.en)).setCell ⟨g, i * 13 + 7, none⟩ (.int .i64 p.rt)).setCell ⟨g, i * 13 + 8, none⟩ (.int .i64 p.rf)).setCell ⟨g, i * 13 + 9, none⟩ (.int .i64 p.rn)).setCell ⟨g, i * 13 + 10, none⟩ (.int .i64 p.rs)).setCell ⟨g, i * 13 + 11, none⟩ (.int .i64 p.re)).setCell ⟨g, i * 13 + 12, none⟩ (.int .i64 p.ro)).ownsRow base t 13 (.slice (some ⟨g, 0, none⟩) n c) n (flatDr (d.set i p)) ∧ w.grownBy (((((((((((((w.setCell ⟨g, i * 13, none⟩ (.int .i64 p.op)).setCell ⟨g, i * 13 + 1, none⟩ (.int .i64 p.kd)).setCell ⟨g, i * 13 + 2, none⟩ (.int .i64 p.id)).setCell ⟨g, i * 13 + 3, none⟩ (.int .i64 p.fr)).setCell ⟨g, i * 13 + 4, none⟩ (.int .i64 p.tn)).setCell ⟨g, i * 13 + 5, none⟩ (.int .i64 p.st)).setCell ⟨g, i * 13 + 6, none⟩ (.int .i64 p.en)).setCell ⟨g, i * 13 + 7, none⟩ (.int .i64 p.rt)).setCell ⟨g, i * 13 + 8, none⟩ (.int .i64 p.rf)).setCell ⟨g, i * 13 + 9, none⟩ (.int .i64 p.rn)).setCell ⟨g, i * 13 + 10, none⟩ (.int .i64 p.rs)).setCell ⟨g, i * 13 + 11, none⟩ (.int .i64 p.re)).setCell ⟨g, i * 13 + 12, none⟩ (.int .i64 p.ro)) (some g) := by
  obtain ⟨r0, g0⟩ := h.stored (i * 13) (.int .i64 p.op)
  obtain ⟨r1, g1⟩ := r0.stored (i * 13 + 1) (.int .i64 p.kd)
  obtain ⟨r2, g2⟩ := r1.stored (i * 13 + 2) (.int .i64 p.id)
  obtain ⟨r3, g3⟩ := r2.stored (i * 13 + 3) (.int .i64 p.fr)
  obtain ⟨r4, g4⟩ := r3.stored (i * 13 + 4) (.int .i64 p.tn)
  obtain ⟨r5, g5⟩ := r4.stored (i * 13 + 5) (.int .i64 p.st)
  obtain ⟨r6, g6⟩ := r5.stored (i * 13 + 6) (.int .i64 p.en)
  obtain ⟨r7, g7⟩ := r6.stored (i * 13 + 7) (.int .i64 p.rt)
  obtain ⟨r8, g8⟩ := r7.stored (i * 13 + 8) (.int .i64 p.rf)
  obtain ⟨r9, g9⟩ := r8.stored (i * 13 + 9) (.int .i64 p.rn)
  obtain ⟨r10, g10⟩ := r9.stored (i * 13 + 10) (.int .i64 p.rs)
  obtain ⟨r11, g11⟩ := r10.stored (i * 13 + 11) (.int .i64 p.re)
  obtain ⟨r12, g12⟩ := r11.stored (i * 13 + 12) (.int .i64 p.ro)
  rw [flatDr_set] at r12
  exact ⟨r12, grown_trans (grown_trans (grown_trans (grown_trans (grown_trans (grown_trans (grown_trans (grown_trans (grown_trans (grown_trans (grown_trans (grown_trans (g0) g1) g2) g3) g4) g5) g6) g7) g8) g9) g10) g11) g12⟩
theorem gDr_mem {d : List Dr} {i : Nat} (h : i < d.length) : gDr d i ∈ d := by
  unfold gDr; rw [List.getD_eq_getElem?_getD, List.getElem?_eq_getElem h]; simp
theorem gDr_eq {d : List Dr} {i : Nat} (h : i < d.length) : gDr d i = d[i] := by
  unfold gDr; rw [List.getD_eq_getElem?_getD, List.getElem?_eq_getElem h]; rfl
theorem take_nextDr {l : List Dr} {k : Nat} (h : k < l.length) : l.take (k + 1) = l.take k ++ [gDr l k] := by
  rw [List.take_succ_eq_append_getElem h, gDr_eq h]
theorem extDr {a b : List Dr} (hl : a.length = b.length) (h : ∀ i, i < a.length → gDr a i = gDr b i) : a = b := by
  refine List.ext_getElem hl fun i h1 h2 => ?_
  have := h i h1
  rw [gDr_eq h1, gDr_eq h2] at this
  exact this
theorem eqlDr (a b : Dr) (w : World) : (binOp .eql 31 (.agg #[.int .i64 a.op, .int .i64 a.kd, .int .i64 a.id, .int .i64 a.fr, .int .i64 a.tn, .int .i64 a.st, .int .i64 a.en, .int .i64 a.rt, .int .i64 a.rf, .int .i64 a.rn, .int .i64 a.rs, .int .i64 a.re, .int .i64 a.ro]) (.agg #[.int .i64 b.op, .int .i64 b.kd, .int .i64 b.id, .int .i64 b.fr, .int .i64 b.tn, .int .i64 b.st, .int .i64 b.en, .int .i64 b.rt, .int .i64 b.rf, .int .i64 b.rn, .int .i64 b.rs, .int .i64 b.re, .int .i64 b.ro])).run Tryd.prog w = .ok (.bool (decide (a = b))) w := by
  have u3 := Tryd.underlying3
  have a3 := Tryd.isAgg3
  have z3 := Tryd.sizeOf3
  have hS : Tryd.prog.underlying 31 = some (.struct (Tryd.prog.fieldsOf 31)) := by kernel_rfl
  have hp : Tryd.prog.stoodInHeld 31 = false := by kernel_rfl
  rw [run_eql_struct, show (10000 : Nat) = 9999 + 1 from rfl, run_equalIn_agg w 9999 31 _ _ hS hp]
  simp only [Program.fieldsOf, Tryd.underlying31]
  go_simp
  by_cases hab : a = b
  · subst hab; simp
  · simp only [hab, decide_false]
    by_cases h0 : ¬ a.op = b.op
    · simp [h0]
    replace h0 := Decidable.not_not.1 h0
    by_cases h1 : ¬ a.kd = b.kd
    · simp [h0, h1]
    replace h1 := Decidable.not_not.1 h1
    by_cases h2 : ¬ a.id = b.id
    · simp [h0, h1, h2]
    replace h2 := Decidable.not_not.1 h2
    by_cases h3 : ¬ a.fr = b.fr
    · simp [h0, h1, h2, h3]
    replace h3 := Decidable.not_not.1 h3
    by_cases h4 : ¬ a.tn = b.tn
    · simp [h0, h1, h2, h3, h4]
    replace h4 := Decidable.not_not.1 h4
    by_cases h5 : ¬ a.st = b.st
    · simp [h0, h1, h2, h3, h4, h5]
    replace h5 := Decidable.not_not.1 h5
    by_cases h6 : ¬ a.en = b.en
    · simp [h0, h1, h2, h3, h4, h5, h6]
    replace h6 := Decidable.not_not.1 h6
    by_cases h7 : ¬ a.rt = b.rt
    · simp [h0, h1, h2, h3, h4, h5, h6, h7]
    replace h7 := Decidable.not_not.1 h7
    by_cases h8 : ¬ a.rf = b.rf
    · simp [h0, h1, h2, h3, h4, h5, h6, h7, h8]
    replace h8 := Decidable.not_not.1 h8
    by_cases h9 : ¬ a.rn = b.rn
    · simp [h0, h1, h2, h3, h4, h5, h6, h7, h8, h9]
    replace h9 := Decidable.not_not.1 h9
    by_cases h10 : ¬ a.rs = b.rs
    · simp [h0, h1, h2, h3, h4, h5, h6, h7, h8, h9, h10]
    replace h10 := Decidable.not_not.1 h10
    by_cases h11 : ¬ a.re = b.re
    · simp [h0, h1, h2, h3, h4, h5, h6, h7, h8, h9, h10, h11]
    replace h11 := Decidable.not_not.1 h11
    by_cases h12 : ¬ a.ro = b.ro
    · simp [h0, h1, h2, h3, h4, h5, h6, h7, h8, h9, h10, h11, h12]
    replace h12 := Decidable.not_not.1 h12
    exact absurd (Dr.ext_ h0 h1 h2 h3 h4 h5 h6 h7 h8 h9 h10 h11 h12) hab
theorem neqDr (a b : Dr) (w : World) : (binOp .neq 31 (.agg #[.int .i64 a.op, .int .i64 a.kd, .int .i64 a.id, .int .i64 a.fr, .int .i64 a.tn, .int .i64 a.st, .int .i64 a.en, .int .i64 a.rt, .int .i64 a.rf, .int .i64 a.rn, .int .i64 a.rs, .int .i64 a.re, .int .i64 a.ro]) (.agg #[.int .i64 b.op, .int .i64 b.kd, .int .i64 b.id, .int .i64 b.fr, .int .i64 b.tn, .int .i64 b.st, .int .i64 b.en, .int .i64 b.rt, .int .i64 b.rf, .int .i64 b.rn, .int .i64 b.rs, .int .i64 b.re, .int .i64 b.ro])).run Tryd.prog w = .ok (.bool (!decide (a = b))) w := by
  have u3 := Tryd.underlying3
  have a3 := Tryd.isAgg3
  have z3 := Tryd.sizeOf3
  have hS : Tryd.prog.underlying 31 = some (.struct (Tryd.prog.fieldsOf 31)) := by kernel_rfl
  have hp : Tryd.prog.stoodInHeld 31 = false := by kernel_rfl
  rw [run_neq_struct, show (10000 : Nat) = 9999 + 1 from rfl, run_equalIn_agg w 9999 31 _ _ hS hp]
  simp only [Program.fieldsOf, Tryd.underlying31]
  go_simp
  by_cases hab : a = b
  · subst hab; simp
  · simp only [hab, decide_false]
    by_cases h0 : ¬ a.op = b.op
    · simp [h0]
    replace h0 := Decidable.not_not.1 h0
    by_cases h1 : ¬ a.kd = b.kd
    · simp [h0, h1]
    replace h1 := Decidable.not_not.1 h1
    by_cases h2 : ¬ a.id = b.id
    · simp [h0, h1, h2]
    replace h2 := Decidable.not_not.1 h2
    by_cases h3 : ¬ a.fr = b.fr
    · simp [h0, h1, h2, h3]
    replace h3 := Decidable.not_not.1 h3
    by_cases h4 : ¬ a.tn = b.tn
    · simp [h0, h1, h2, h3, h4]
    replace h4 := Decidable.not_not.1 h4
    by_cases h5 : ¬ a.st = b.st
    · simp [h0, h1, h2, h3, h4, h5]
    replace h5 := Decidable.not_not.1 h5
    by_cases h6 : ¬ a.en = b.en
    · simp [h0, h1, h2, h3, h4, h5, h6]
    replace h6 := Decidable.not_not.1 h6
    by_cases h7 : ¬ a.rt = b.rt
    · simp [h0, h1, h2, h3, h4, h5, h6, h7]
    replace h7 := Decidable.not_not.1 h7
    by_cases h8 : ¬ a.rf = b.rf
    · simp [h0, h1, h2, h3, h4, h5, h6, h7, h8]
    replace h8 := Decidable.not_not.1 h8
    by_cases h9 : ¬ a.rn = b.rn
    · simp [h0, h1, h2, h3, h4, h5, h6, h7, h8, h9]
    replace h9 := Decidable.not_not.1 h9
    by_cases h10 : ¬ a.rs = b.rs
    · simp [h0, h1, h2, h3, h4, h5, h6, h7, h8, h9, h10]
    replace h10 := Decidable.not_not.1 h10
    by_cases h11 : ¬ a.re = b.re
    · simp [h0, h1, h2, h3, h4, h5, h6, h7, h8, h9, h10, h11]
    replace h11 := Decidable.not_not.1 h11
    by_cases h12 : ¬ a.ro = b.ro
    · simp [h0, h1, h2, h3, h4, h5, h6, h7, h8, h9, h10, h11, h12]
    replace h12 := Decidable.not_not.1 h12
    exact absurd (Dr.ext_ h0 h1 h2 h3 h4 h5 h6 h7 h8 h9 h10 h11 h12) hab
theorem infoDr : (Tryd.prog.info? 31).map (fun i => (i.zero, i.size, i.bytes)) = some (some (.agg #[.int .i64 0, .int .i64 0, .int .i64 0, .int .i64 0, .int .i64 0, .int .i64 0, .int .i64 0, .int .i64 0, .int .i64 0, .int .i64 0, .int .i64 0, .int .i64 0, .int .i64 0]), 13, 104) := by kernel_rfl
end Go.Proofs.YtggdomeeienjbaaDoor
