/- Several texts of mine in one: Order2, OrderMath, KeptJ, TyRh, SlRh, Rx, RtRow. No condition. -/
import Derived.Test.YtmbaklodgpcegaaGreatGQ16
import Derived.Test.YtmbaklodgpcegaaGreatGQ21
import Derived.Test.YtmbaklodgpcegaaGreatGQ2
import Derived.Test.YtmbaklodgpcegaaGreatChecked
import Derived.Test.YtmbaklodgpcegaaGreatPath5

/- Contracts of package order: Compare, Less. No condition but on sizes. -/
namespace Go.Proofs.YtmbaklodgpcegaaGreat
open Go.ChangeShapes Go.WideShapes Go.ChangeAt Go.RowKit Go.Sort
set_option linter.unusedSimpArgs false
set_option linter.unusedVariables false
theorem cmpI_ne {a b : Int} (h : a ≠ b) : (cmpI a b != 0) = true := by
  have : cmpI a b ≠ 0 := fun e => h (cmpI_zero.1 e)
  simpa using this
end Go.Proofs.YtmbaklodgpcegaaGreat

/- The order of routes is one. No condition. -/
namespace Go.Proofs.YtmbaklodgpcegaaGreat
open Go.ChangeShapes Go.WideShapes Go.ChangeAt Go.RowKit Go.Sort
set_option linter.unusedSimpArgs false
set_option linter.unusedVariables false
def cmpL : List Int → List Int → Int
  | [], [] => 0
  | [], _ :: _ => -1
  | _ :: _, [] => 1
  | a :: t, b :: u => if cmpI a b = 0 then cmpL t u else cmpI a b
theorem cmpI_anti (a b : Int) : cmpI a b = - cmpI b a := by unfold cmpI; repeat' split
                                                            all_goals omega
theorem cmpI_range (a b : Int) : -1 ≤ cmpI a b ∧ cmpI a b ≤ 1 := by unfold cmpI; repeat' split
                                                                    all_goals omega
theorem cmpI_neg {a b : Int} : cmpI a b < 0 ↔ a < b := by unfold cmpI; repeat' split
                                                          all_goals omega
theorem cmpL_self : ∀ a, cmpL a a = 0
  | [] => rfl
  | x :: a => by rw [cmpL, if_pos (cmpI_eq x)]; exact cmpL_self a
theorem cmpL_zero : ∀ {a b}, cmpL a b = 0 → a = b
  | [], [], _ => rfl
  | [], _ :: _, h => by simp [cmpL] at h
  | _ :: _, [], h => by simp [cmpL] at h
  | x :: a, y :: b, h => by
    rw [cmpL] at h
    by_cases e : cmpI x y = 0
    · rw [if_pos e] at h
      rw [cmpI_zero.1 e, cmpL_zero h]
    · rw [if_neg e] at h; exact absurd h e
theorem cmpL_anti : ∀ a b, cmpL a b = - cmpL b a
  | [], [] => rfl
  | [], _ :: _ => rfl
  | _ :: _, [] => rfl
  | x :: a, y :: b => by
    rw [cmpL, cmpL]
    have h := cmpI_anti x y
    by_cases e : cmpI x y = 0
    · rw [if_pos e, if_pos (by omega)]; exact cmpL_anti a b
    · rw [if_neg e, if_neg (by omega)]; exact h
theorem cmpL_range : ∀ a b, -1 ≤ cmpL a b ∧ cmpL a b ≤ 1
  | [], [] => by simp [cmpL]
  | [], _ :: _ => by simp [cmpL]
  | _ :: _, [] => by simp [cmpL]
  | x :: a, y :: b => by
    rw [cmpL]
    split
    · exact cmpL_range a b
    · exact cmpI_range x y
theorem cmpL_trans : ∀ {a b c}, cmpL a b ≤ 0 → cmpL b c ≤ 0 → cmpL a c ≤ 0
  | [], _, [], _, _ => by simp [cmpL]
  | [], _, _ :: _, _, _ => by simp [cmpL]
  | _ :: _, [], _, h, _ => by simp [cmpL] at h
  | _ :: _, _ :: _, [], _, h => by simp [cmpL] at h
  | x :: a, y :: b, z :: c, h1, h2 => by
    rw [cmpL] at h1 h2 ⊢
    by_cases e1 : cmpI x y = 0
    · rw [if_pos e1] at h1
      rw [cmpI_zero.1 e1]
      by_cases e2 : cmpI y z = 0
      · rw [if_pos e2] at h2 ⊢; exact cmpL_trans h1 h2
      · rw [if_neg e2] at h2 ⊢; exact h2
    · rw [if_neg e1] at h1
      have l1 : x < y := cmpI_neg.1 (by omega)
      by_cases e2 : cmpI y z = 0
      · rw [← cmpI_zero.1 e2, if_neg e1]; exact h1
      · rw [if_neg e2] at h2
        have l2 : y < z := cmpI_neg.1 (by omega)
        have l3 : cmpI x z < 0 := cmpI_neg.2 (by omega)
        rw [if_neg (by omega)]; omega
/-- When it is there, how many hops, their IDs. -/
def keyR (t : Int) (d : List Hp) : List Int := t :: (d.length : Int) :: d.map Hp.id
theorem cmpH_key : ∀ (d d' : List Hp), cmpH d d' = cmpL (d.map Hp.id) (d'.map Hp.id)
  | [], [] => rfl
  | [], _ :: _ => rfl
  | _ :: _, [] => rfl
  | x :: d, y :: d' => by rw [cmpH, List.map_cons, List.map_cons, cmpL, cmpH_key d d']
theorem cmpR_key (t : Int) (d : List Hp) (t' : Int) (d' : List Hp) : cmpR t d t' d' = cmpL (keyR t d) (keyR t' d') := by
  unfold cmpR keyR
  rw [cmpL, cmpL, cmpH_key]
/-- Who goes on, or is there later, is behind. -/
theorem cmpR_longer (t u : Int) (d e : List Hp) (hu : 0 ≤ u) : cmpR t d (t + u) (d ++ e) = if u = 0 ∧ e = [] then 0 else -1 := by
  rw [cmpR_key]
  unfold keyR
  rw [cmpL, cmpL]
  by_cases h0 : u = 0
  · subst h0
    rw [if_pos (by rw [Int.add_zero]; exact cmpI_eq t)]
    cases e with
    | nil =>
      rw [List.append_nil, if_pos (cmpI_eq _), cmpL_self, if_pos ⟨rfl, rfl⟩]
    | cons y e =>
      have hl : (d.length : Int) < ((d ++ y :: e).length : Int) := by simp only [List.length_append, List.length_cons]; omega
      rw [if_neg (by have := cmpI_neg.2 hl; omega), cmpI_lt hl, if_neg (by simp)]
  · have hl : t < t + u := by omega
    rw [if_neg (by have := cmpI_neg.2 hl; omega), cmpI_lt hl, if_neg (fun h => h0 h.1)]
end Go.Proofs.YtmbaklodgpcegaaGreat

/- Rows and worlds kept but for some blocks. No condition. -/
namespace Go.Proofs.YtmbaklodgpcegaaGreat
open Go.ChangeShapes Go.WideShapes Go.ChangeAt Go.RowKit Go.Sort
set_option linter.unusedSimpArgs false
set_option linter.unusedVariables false
theorem own_keptJ {S : Nat → Prop} {w w' : World} {base : Nat} {e : TypeId} {size n : Nat} {v : Value} {xs : List Value} (h : w.ownsRow base e size v n xs) (hk : Kept S w w') (hv : ∀ g, v.ownBlock = some g → ¬ S g) : w'.ownsRow base e size v n xs := by
  refine ⟨h.1, ?_⟩
  rcases h.2 with hn | ⟨g, cap, cur, rfl, hb, hgg, rest⟩
  · exact .inl hn
  · refine .inr ⟨g, cap, cur, rfl, hb, ?_, rest⟩
    rw [hk.block g (Array.getElem?_eq_some_iff.1 hgg).1 (hv g rfl)]
    exact hgg
theorem below_keptJ {S : Nat → Prop} {B : Nat} {w w1 w2 : World} (hb : Below B w w1) (hB : B ≤ w.heap.size) (hk : Kept S w1 w2) (hS : ∀ k, S k → B ≤ k) : Below B w w2 :=
  ⟨hk.os.trans hb.os, hk.tape.trans hb.tape, hk.output.trans hb.output, Nat.le_trans hb.size hk.size, fun k hkB => (hk.block k (by have := hb.size; omega) (fun h => by have := hS k h; omega)).trans (hb.block k hkB)⟩
theorem own_posJ {w : World} {base : Nat} {e : TypeId} {size n : Nat} {v : Value} {xs : List Value} (h : w.ownsRow base e size v n xs) (hn : 0 < n) : ∃ g c, v = .slice (some ⟨g, 0, none⟩) n c ∧ n ≤ c := by
  rcases h.2 with ⟨rfl, rfl⟩ | ⟨g', cap, cur, rfl, _, _, hc, _⟩
  · omega
  · exact ⟨_, _, rfl, hc⟩
theorem own_belowK {w w' : World} {base : Nat} {e : TypeId} {size n : Nat} {v : Value} {xs : List Value} (h : w.ownsRow base e size v n xs) (hb : Below w.heap.size w w') : w'.ownsRow base e size v n xs :=
  own_keptJ h (S := fun _ => False) (Kept.of_below hb) (fun _ _ f => f)
theorem Sl.keptJ {S : Nat → Prop} {w w' : World} {k n c : Nat} {A : Option Addr} {xs : List Value} (h : Sl w w.heap.size k A n c xs) (hk : Kept S w w') (ho : 0 < n → ∀ ad, A = some ad → ¬ S ad.block) : Sl w' w'.heap.size k A n c xs :=
  ⟨⟨h.lst.len, fun hn => by
    obtain ⟨ad, e, hb, hc⟩ := h.lst.at_ hn
    exact ⟨ad, e, Nat.lt_of_lt_of_le hb hk.size, fun j u hu => (World.cell?_of_block (by rw [add_block]; exact hk.block _ hb (ho hn ad e))).trans (hc j u hu)⟩⟩, h.cap, h.max, h.nil⟩
theorem Sl.off_newJ {w : World} {B k n c : Nat} {A : Option Addr} {xs : List Value} (h : Sl w B k A n c xs) (hn : 0 < n) {ad : Addr} (e : A = some ad) : ad.block < B := by
  obtain ⟨ad', e', hb, _⟩ := h.lst.at_ hn
  rw [e] at e'; simp only [Option.some.injEq] at e'; subst e'; exact hb
end Go.Proofs.YtmbaklodgpcegaaGreat

/- api.Route's head: its slice and when it is there; lists of it. No condition. -/
namespace Go.Proofs.YtmbaklodgpcegaaGreat
open Go.ChangeShapes Go.WideShapes Go.ChangeAt Go.RowKit Go.Sort
set_option linter.unusedSimpArgs false
set_option linter.unusedVariables false
structure Rh where
  A : Option Addr
  n : Nat
  c : Nat
  t : Int
def Rh.cs (r : Rh) : List Value := [.slice r.A r.n r.c, .int .i64 r.t]
def zeroRh : Rh := ⟨none, 0, 0, 0⟩
def flatRh (d : List Rh) : List Value := d.flatMap Rh.cs
def gRh (d : List Rh) (i : Nat) : Rh := d.getD i zeroRh
theorem flatRh_cons (p : Rh) (d : List Rh) : flatRh (p :: d) = .slice p.A p.n p.c :: .int .i64 p.t :: flatRh d := rfl
theorem flatRh_length (d : List Rh) : (flatRh d).length = d.length * 2 := by
  induction d with
  | nil => rfl
  | cons p d ih => rw [flatRh_cons]; simp only [List.length_cons, ih]; omega
theorem flatRh_append (d e : List Rh) : flatRh (d ++ e) = flatRh d ++ flatRh e := by simp [flatRh]
theorem flatRh_at0 : ∀ (d : List Rh) (i : Nat), i < d.length → (flatRh d)[i * 2]? = some (.slice (gRh d i).A (gRh d i).n (gRh d i).c)
  | p :: d, 0, _ => rfl
  | p :: d, i + 1, h => by
    rw [flatRh_cons, show (i + 1) * 2 = i * 2 + 1 + 1 from by omega]
    simp only [List.getElem?_cons_succ]
    exact flatRh_at0 d i (by simpa using h)
theorem flatRh_at1 : ∀ (d : List Rh) (i : Nat), i < d.length → (flatRh d)[i * 2 + 1]? = some (.int .i64 (gRh d i).t)
  | p :: d, 0, _ => rfl
  | p :: d, i + 1, h => by
    rw [flatRh_cons, show (i + 1) * 2 + 1 = i * 2 + 1 + 1 + 1 from by omega]
    simp only [List.getElem?_cons_succ]
    exact flatRh_at1 d i (by simpa using h)
theorem flatRh_set : ∀ (d : List Rh) (i : Nat) (p : Rh), (((flatRh d).set (i * 2) (.slice p.A p.n p.c)).set (i * 2 + 1) (.int .i64 p.t)) = flatRh (d.set i p)
  | [], i, p => by simp [flatRh]
  | q :: d, 0, p => rfl
  | q :: d, i + 1, p => by
    rw [flatRh_cons]
    rw [show (i + 1) * 2 = i * 2 + 1 + 1 from by omega]
    rw [show i * 2 + 1 + 1 + 1 = i * 2 + 1 + 1 + 1 from by omega]
    simp only [List.set_cons_succ]
    rw [flatRh_set d i p]
    rfl
theorem flatRh_set0 : ∀ (d : List Rh) (i : Nat) (A : Option Addr) (n c : Nat), i < d.length → (flatRh d).set (i * 2) (.slice A n c) = flatRh (d.set i ⟨A, n, c, (gRh d i).t⟩)
  | q :: d, 0, A, n, c, _ => rfl
  | q :: d, i + 1, A, n, c, h => by
    rw [flatRh_cons]
    rw [show (i + 1) * 2 = i * 2 + 1 + 1 from by omega]
    simp only [List.set_cons_succ]
    rw [flatRh_set0 d i A n c (by simpa using h)]
    rfl
theorem flatRh_take : ∀ (d : List Rh) (n : Nat), (flatRh d).take (n * 2) = flatRh (d.take n)
  | _, 0 => by simp [flatRh]
  | [], n + 1 => by simp [flatRh]
  | p :: d, n + 1 => by
    rw [flatRh_cons, show (n + 1) * 2 = n * 2 + 1 + 1 from by omega]
    simp only [List.take_succ_cons]
    rw [flatRh_take d n]
    rfl
theorem flatRh_drop : ∀ (d : List Rh) (n : Nat), (flatRh d).drop (n * 2) = flatRh (d.drop n)
  | _, 0 => by simp
  | [], n + 1 => by simp [flatRh]
  | p :: d, n + 1 => by
    rw [flatRh_cons, show (n + 1) * 2 = n * 2 + 1 + 1 from by omega]
    simp only [List.drop_succ_cons]
    rw [flatRh_drop d n]
theorem flatRh_one : ∀ (l : List Rh), ∀ u ∈ flatRh l, u.oneCell' = true
  | [], u, h => by simp [flatRh] at h
  | p :: l, u, h => by
    rw [flatRh_cons] at h
    simp only [List.mem_cons] at h
    rcases h with rfl | rfl | h
    all_goals first | rfl | exact flatRh_one l u h
theorem Lst.atRh {w : World} {B : Nat} {A : Option Addr} {n : Nat} {l : List Rh} (h : Lst w B 2 A n (flatRh l)) (hl : l.length = n) {k : Nat} (hk : k < n) : ∃ ad, A = some ad ∧ ad.block < B ∧ w.cell? (ad.add (k * 2)) = some (.slice (gRh l k).A (gRh l k).n (gRh l k).c) ∧ w.cell? ⟨(ad.add (k * 2)).block, (ad.add (k * 2)).off + 1, none⟩ = some (.int .i64 (gRh l k).t) := by
  obtain ⟨ad, e, hb, hc⟩ := h.at_ (by omega)
  exact ⟨ad, e, hb, hc _ _ (flatRh_at0 l k (by omega)), by rw [addr_next _ _ _ (by omega)]; exact hc _ _ (flatRh_at1 l k (by omega))⟩
theorem ownRh_at {w : World} {base : Nat} {t : TypeId} {g n c : Nat} {d : List Rh} (h : w.ownsRow base t 2 (.slice (some ⟨g, 0, none⟩) n c) n (flatRh d)) (hd : d.length = n) {k : Nat} (hk : k < n) : w.cell? ⟨g, k * 2, none⟩ = some (.slice (gRh d k).A (gRh d k).n (gRh d k).c) ∧ w.cell? ⟨g, k * 2 + 1, none⟩ = some (.int .i64 (gRh d k).t) :=
  ⟨(h.cellAt (k * 2) (by omega)).trans (flatRh_at0 d k (by omega)), (h.cellAt (k * 2 + 1) (by omega)).trans (flatRh_at1 d k (by omega))⟩
theorem gRh_mem {d : List Rh} {i : Nat} (h : i < d.length) : gRh d i ∈ d := by
  unfold gRh; rw [List.getD_eq_getElem?_getD, List.getElem?_eq_getElem h]; simp
theorem gRh_eq {d : List Rh} {i : Nat} (h : i < d.length) : gRh d i = d[i] := by
  unfold gRh; rw [List.getD_eq_getElem?_getD, List.getElem?_eq_getElem h]; rfl
theorem take_nextRh {l : List Rh} {k : Nat} (h : k < l.length) : l.take (k + 1) = l.take k ++ [gRh l k] := by
  rw [List.take_succ_eq_append_getElem h, gRh_eq h]
theorem infoRh : (Tryz.prog.info? 27).map (fun i => (i.zero, i.size, i.bytes)) = some (some (.agg #[.slice none 0 0, .int .i64 0]), 2, 32) := by kernel_rfl
end Go.Proofs.YtmbaklodgpcegaaGreat

/- The generic library's functions at routes' heads: Clone, Grow, Concat. No condition but on sizes. -/
namespace Go.Proofs.YtmbaklodgpcegaaGreat
open Go.ChangeShapes Go.WideShapes Go.ChangeAt Go.RowKit Go.Sort
set_option linter.unusedSimpArgs false
set_option linter.unusedVariables false
/-- Lists, one behind the other. -/
def catRh (d : Nat → List Rh) : Nat → List Rh
  | 0 => []
  | k + 1 => catRh d k ++ d k
theorem catRh_le (d : Nat → List Rh) : ∀ {k m : Nat}, k ≤ m → (catRh d k).length ≤ (catRh d m).length
  | k, 0, h => by
    obtain rfl : k = 0 := by omega
    exact Nat.le_refl _
  | k, m + 1, h => by
    by_cases e : k = m + 1
    · subst e; exact Nat.le_refl _
    · have := catRh_le d (k := k) (m := m) (by omega)
      simp only [catRh, List.length_append]
      omega
end Go.Proofs.YtmbaklodgpcegaaGreat

/- Routes in memory, rows of them; order.Same, Compare, Less by values. No condition but on sizes. -/
namespace Go.Proofs.YtmbaklodgpcegaaGreat
open Go.ChangeShapes Go.WideShapes Go.ChangeAt Go.RowKit Go.Sort
set_option linter.unusedSimpArgs false
set_option linter.unusedVariables false
/-- A route: its head, its hops. -/
structure Rx where
  h : Rh
  d : List Hp
def Rx.ok (w : World) (x : Rx) : Prop := x.d.length = x.h.n ∧ x.h.n ≤ 1000000 ∧ Sl w w.heap.size 3 x.h.A x.h.n x.h.c (flatHp x.d)
/-- Its hops do not lie in block g. -/
def Rx.off (g : Nat) (x : Rx) : Prop := ∀ ad, x.h.A = some ad → ad.block ≠ g
def zeroRx : Rx := ⟨zeroRh, []⟩
instance inhRx : Inhabited Rx := ⟨zeroRx⟩
def gRx (l : List Rx) (i : Nat) : Rx := l.getD i zeroRx
def hdRx (l : List Rx) : List Rh := l.map Rx.h
theorem gRx_mem {d : List Rx} {i : Nat} (h : i < d.length) : gRx d i ∈ d := by
  unfold gRx; rw [List.getD_eq_getElem?_getD, List.getElem?_eq_getElem h]; simp
theorem gRx_hd {d : List Rx} {i : Nat} (h : i < d.length) : gRh (hdRx d) i = (gRx d i).h := by
  unfold gRh gRx hdRx
  rw [List.getD_eq_getElem?_getD, List.getD_eq_getElem?_getD, List.getElem?_map, List.getElem?_eq_getElem h]
  rfl
theorem Rx.ok_zero (w : World) : zeroRx.ok w := ⟨rfl, by show 0 ≤ 1000000; omega, Sl.nil0 _ _ _⟩
theorem Rx.ok.below {w w' : World} {x : Rx} (h : x.ok w) (hb : Below w.heap.size w w') : x.ok w' := ⟨h.1, h.2.1, h.2.2.up hb⟩
theorem Sl.on_ {w w' : World} {B B' k n c : Nat} {A : Option Addr} {xs : List Value} (h : Sl w B k A n c xs) (hk : ∀ ad, A = some ad → ad.block < B → w'.heap[ad.block]? = w.heap[ad.block]? ∧ ad.block < B') : Sl w' B' k A n c xs :=
  ⟨⟨h.lst.len, fun hn => by
    obtain ⟨ad, e, hb, hc⟩ := h.lst.at_ hn
    obtain ⟨h1, h2⟩ := hk ad e hb
    exact ⟨ad, e, h2, fun j u hu => (World.cell?_of_block (by rw [add_block]; exact h1)).trans (hc j u hu)⟩⟩, h.cap, h.max, h.nil⟩
theorem Rx.ok.kept {w w' : World} {x : Rx} {g : Nat} (h : x.ok w) (hg : w.grownBy w' (some g)) (ho : x.off g) : x.ok w' :=
  ⟨h.1, h.2.1, h.2.2.on_ fun ad e hb => ⟨hg.block _ hb (fun e2 => ho ad e (by injection e2)), Nat.lt_of_lt_of_le hb hg.size⟩⟩
def Rx.rt (x : Rx) : List Hp × Int := (x.d, x.h.t)
theorem Lst.atRx {w : World} {B : Nat} {A : Option Addr} {n : Nat} {l : List Rx} (h : Lst w B 2 A n (flatRh (hdRx l))) (hl : l.length = n) {k : Nat} (hk : k < n) : ∃ ad, A = some ad ∧ ad.block < B ∧ w.cell? (ad.add (k * 2)) = some (.slice (gRx l k).h.A (gRx l k).h.n (gRx l k).h.c) ∧ w.cell? ⟨(ad.add (k * 2)).block, (ad.add (k * 2)).off + 1, none⟩ = some (.int .i64 (gRx l k).h.t) := by
  have := h.atRh (by simp [hdRx, hl]) hk
  rw [gRx_hd (by omega)] at this
  exact this
/-- The value is that route, in that world. -/
def RV (w : World) (v : Value) (t : List Hp × Int) : Prop := ∃ A n c, v = .agg #[.slice A n c, .int .i64 t.2] ∧ t.1.length = n ∧ n ≤ 1000000 ∧ Sl w w.heap.size 3 A n c (flatHp t.1)
/-- The value is a row of those routes. -/
def RL (w : World) (v : Value) (l : List (List Hp × Int)) : Prop := ∃ A n c, ∃ L : List Rx, v = .slice A n c ∧ L.length = n ∧ L.map Rx.rt = l ∧ Sl w w.heap.size 2 A n c (flatRh (hdRx L)) ∧ ∀ x ∈ L, x.ok w
theorem RV.below {w w' : World} {v : Value} {t : List Hp × Int} (h : RV w v t) (hb : Below w.heap.size w w') : RV w' v t := by
  obtain ⟨A, n, c, h1, h2, h3, h4⟩ := h
  exact ⟨A, n, c, h1, h2, h3, h4.up hb⟩
theorem RL.below {w w' : World} {v : Value} {l : List (List Hp × Int)} (h : RL w v l) (hb : Below w.heap.size w w') : RL w' v l := by
  obtain ⟨A, n, c, L, h1, h2, h3, h4, h5⟩ := h
  exact ⟨A, n, c, L, h1, h2, h3, h4.up hb, fun x hx => (h5 x hx).below hb⟩
theorem RL.nil0 (w : World) : RL w (.slice none 0 0) [] := ⟨none, 0, 0, [], rfl, rfl, rfl, Sl.nil0 _ _ _, fun x hx => by cases hx⟩
theorem RL.len0 {w : World} {v : Value} (h : RL w v []) : ∃ A c, v = .slice A 0 c := by
  obtain ⟨A, n, c, L, h1, h2, h3, _, _⟩ := h
  have : L = [] := by simpa using h3
  subst this
  obtain rfl : n = 0 := by simpa using h2.symm
  exact ⟨A, c, h1⟩
theorem RL.len {w : World} {v : Value} {l : List (List Hp × Int)} {k : Nat} (h : RL w v l) (hk : l.length = k) : ∃ A c, v = .slice A k c := by
  obtain ⟨A, n, c, L, h1, h2, h3, _, _⟩ := h
  obtain rfl : n = k := by rw [← h2, ← hk, ← h3, List.length_map]
  exact ⟨A, c, h1⟩
/-- A route out of its parts. -/
theorem RV.mk' {w : World} {A : Option Addr} {n c : Nat} {d : List Hp} {t : Int} (hd : d.length = n) (hn : n ≤ 1000000) (h : Sl w w.heap.size 3 A n c (flatHp d)) : RV w (.agg #[.slice A n c, .int .i64 t]) (d, t) := ⟨A, n, c, rfl, hd, hn, h⟩
/-- A row made of routes: as many as there are heads. -/
theorem RL.lit {w : World} (T : TypeId) (L : List Rx) (n : Nat) (cs : Array Value) (l : List (List Hp × Int)) (hT : T = 27) (hn : L.length = n) (hm : n ≤ 1000000) (hc : cs.toList = flatRh (hdRx L)) (hl : L.map Rx.rt = l) (hok : ∀ x ∈ L, x.ok w) : RL (w.alloc (.cells cs T)) (.slice (some ⟨w.heap.size, 0, none⟩) n n) l := by
  subst hT
  refine ⟨_, n, n, L, rfl, hn, hl, ?_, fun x hx => (hok x hx).below ((Below.refl _ _).alloc (Nat.le_refl _) _)⟩
  have hz : cs.size = n * 2 := by rw [← Array.length_toList, hc, flatRh_length]; simp [hdRx, hn]
  have h := Sl.of_own (own_lit w 0 27 2 n cs (Nat.zero_le _) hz (by unfold maxLen; omega))
  rw [hc] at h
  exact h
/-- A route's value as a head and hops. -/
theorem RV.rx {w : World} {A : Option Addr} {n c : Nat} {x t : Int} {d : List Hp} (h : RV w (.agg #[.slice A n c, .int .i64 x]) (d, t)) : (⟨⟨A, n, c, x⟩, d⟩ : Rx).ok w ∧ x = t := by
  obtain ⟨A', n', c', h1, h2, h3, h4⟩ := h
  injection h1 with h1
  simp at h1
  obtain ⟨⟨rfl, rfl, rfl⟩, rfl⟩ := h1
  exact ⟨⟨h2, h3, h4⟩, rfl⟩
end Go.Proofs.YtmbaklodgpcegaaGreat

/- Rows of routes in memory of the call's own. No condition. -/
namespace Go.Proofs.YtmbaklodgpcegaaGreat
open Go.ChangeShapes Go.WideShapes Go.ChangeAt Go.RowKit Go.Sort
set_option linter.unusedSimpArgs false
set_option linter.unusedVariables false
def Rx.offP (g : Nat) (x : Rx) : Prop := 0 < x.h.n → ∀ ad, x.h.A = some ad → ad.block ≠ g
theorem Rx.ok.keptP {S : Nat → Prop} {w w' : World} {x : Rx} (h : x.ok w) (hk : Kept S w w') (ho : ∀ g, S g → x.offP g) : x.ok w' := ⟨h.1, h.2.1, h.2.2.keptJ hk (fun hn ad e hS => ho _ hS hn ad e rfl)⟩
theorem Rx.ok.offP_new {w : World} {x : Rx} (h : x.ok w) {g : Nat} (hg : w.heap.size ≤ g) : x.offP g := fun hn ad e => by
  have := h.2.2.off_newJ hn e
  omega
structure RtRow (w : World) (base : Nat) (rv : Value) (L : List Rx) : Prop where
  row : w.ownsRow base 27 2 rv L.length (flatRh (hdRx L))
  ok : ∀ x ∈ L, x.ok w
  off : ∀ x ∈ L, ∀ g, rv.ownBlock = some g → x.offP g
theorem RtRow.kept {S : Nat → Prop} {w w' : World} {base : Nat} {rv : Value} {L : List Rx} (h : RtRow w base rv L) (hk : Kept S w w') (ho : ∀ x ∈ L, ∀ g, S g → x.offP g) (hv : ∀ g, rv.ownBlock = some g → ¬ S g) : RtRow w' base rv L := ⟨own_keptJ h.row hk hv, fun x hx => (h.ok x hx).keptP hk (ho x hx), h.off⟩
theorem RtRow.below {w w' : World} {base : Nat} {rv : Value} {L : List Rx} (h : RtRow w base rv L) (hb : Below w.heap.size w w') : RtRow w' base rv L := h.kept (S := fun _ => False) (Kept.of_below hb) (fun _ _ _ f => f.elim) (fun _ _ f => f)
/-- A row of those routes in memory of the call's own. -/
def RO (w : World) (base : Nat) (v : Value) (R : List (List Hp × Int)) : Prop := ∃ L : List Rx, w.ownsRow base 27 2 v L.length (flatRh (hdRx L)) ∧ L.map Rx.rt = R ∧ ∀ x ∈ L, x.ok w
theorem RO.nil (w : World) (base : Nat) : RO w base (.slice none 0 0) [] := ⟨[], World.ownsRow_nil _ _ _ _, rfl, fun x hx => by cases hx⟩
theorem RO.below {w w' : World} {base : Nat} {v : Value} {R : List (List Hp × Int)} (h : RO w base v R) (hb : Below w.heap.size w w') : RO w' base v R := by
  obtain ⟨L, h1, h2, h3⟩ := h
  exact ⟨L, own_belowK h1 hb, h2, fun x hx => (h3 x hx).below hb⟩
theorem RO.rl {w : World} {base : Nat} {v : Value} {R : List (List Hp × Int)} (h : RO w base v R) : RL w v R := by
  obtain ⟨L, h1, h2, h3⟩ := h
  obtain ⟨A', c', rfl⟩ := slice_of_own h1
  exact ⟨A', _, c', L, rfl, rfl, h2, Sl.of_own h1, h3⟩
/-- As a slice. -/
theorem RO.sl {w : World} {base : Nat} {v : Value} {R : List (List Hp × Int)} (h : RO w base v R) : ∃ A c, v = .slice A R.length c := by
  obtain ⟨L, h1, rfl, h3⟩ := h
  obtain ⟨A', c', rfl⟩ := slice_of_own h1
  rw [List.length_map]
  exact ⟨_, _, rfl⟩
/-- Its address. -/
theorem RO.addr {w : World} {base n c : Nat} {A : Option Addr} {R : List (List Hp × Int)} (h : RO w base (.slice A n c) R) (hn : 0 < n) : ∃ g, A = some ⟨g, 0, none⟩ ∧ base ≤ g ∧ g < w.heap.size ∧ n ≤ c := by
  obtain ⟨L, h1, rfl, h3⟩ := h
  have hnL : n = L.length := by
    obtain ⟨A', c', e⟩ := slice_of_own h1
    simp only [Value.slice.injEq] at e
    exact e.2.1
  obtain ⟨g, c', e, hc⟩ := own_posJ h1 (by omega)
  simp only [Value.slice.injEq] at e
  obtain ⟨rfl, rfl, rfl⟩ := e
  exact ⟨g, rfl, (h1.lt g rfl).1, (h1.lt g rfl).2, hc⟩
/-- One of its routes. -/
theorem RO.cells {w : World} {base g n c k : Nat} {R : List (List Hp × Int)} (h : RO w base (.slice (some ⟨g, 0, none⟩) n c) R) (hk : k < n) : ∃ An nn cn, w.cell? ⟨g, k * 2, none⟩ = some (.slice An nn cn) ∧ w.cell? ⟨g, k * 2 + 1, none⟩ = some (.int .i64 (R.getD k ([], 0)).2) ∧ (R.getD k ([], 0)).1.length = nn ∧ nn ≤ 1000000 ∧ Sl w w.heap.size 3 An nn cn (flatHp (R.getD k ([], 0)).1) := by
  obtain ⟨L, h1, rfl, h3⟩ := h
  have hnL : n = L.length := by
    obtain ⟨A', c', e⟩ := slice_of_own h1
    simp only [Value.slice.injEq] at e
    exact e.2.1
  subst hnL
  have hl : (hdRx L).length = L.length := by simp [hdRx]
  obtain ⟨a1, a2⟩ := ownRh_at h1 hl hk
  rw [gRx_hd hk] at a1 a2
  have e2 : (L.map Rx.rt).getD k ([], 0) = (gRx L k).rt := by
    unfold gRx
    rw [List.getD_eq_getElem?_getD, List.getD_eq_getElem?_getD, List.getElem?_map, List.getElem?_eq_getElem hk]
    rfl
  rw [e2]
  obtain ⟨b1, b2, b3⟩ := h3 _ (gRx_mem hk)
  exact ⟨_, _, _, a1, a2, b1, b2, b3⟩
/-- Its first ones. -/
theorem RO.first {w : World} {base n c m : Nat} {A : Option Addr} {R : List (List Hp × Int)} (h : RO w base (.slice A n c) R) (hm : m ≤ n) : RL w (.slice A m c) (R.take m) := by
  obtain ⟨L, h1, rfl, h3⟩ := h
  have hnL : n = L.length := by
    obtain ⟨A', c', e⟩ := slice_of_own h1
    simp only [Value.slice.injEq] at e
    exact e.2.1
  subst hnL
  refine ⟨A, m, c, L.take m, rfl, by rw [List.length_take]; omega, by rw [List.map_take], ?_, fun x hx => h3 x (List.mem_of_mem_take hx)⟩
  have hs := (Sl.of_own h1).upto hm
  rw [flatRh_take] at hs
  have e : (hdRx L).take m = hdRx (L.take m) := by simp [hdRx, List.map_take]
  rw [e] at hs
  exact hs
end Go.Proofs.YtmbaklodgpcegaaGreat
