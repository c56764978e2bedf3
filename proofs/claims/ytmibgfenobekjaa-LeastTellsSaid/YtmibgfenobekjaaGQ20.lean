/- Several texts of mine in one: Order2, TyRh, SlRh, Rx. No condition. -/
import Derived.Test.YtmibgfenobekjaaGQ16
import Derived.Test.YtmibgfenobekjaaChecked
import Derived.Test.YtmibgfenobekjaaGQ19
import Derived.Test.YtmibgfenobekjaaPath5

/- Contracts of package order: Compare, Less. No condition but on sizes. -/
namespace Go.Proofs.Ytmibgfenobekjaa
open Go.ChangeShapes Go.WideShapes Go.ChangeAt Go.RowKit Go.Sort
set_option linter.unusedSimpArgs false
set_option linter.unusedVariables false
theorem cmpI_ne {a b : Int} (h : a ≠ b) : (cmpI a b != 0) = true := by
  have : cmpI a b ≠ 0 := fun e => h (cmpI_zero.1 e)
  simpa using this
set_option maxHeartbeats 2000000 in
set_option maxRecDepth 100000 in
theorem ocmp_grow (A A' : Option Addr) (n c n' c' : Nat) (d d' : List Hp) (t t' : Int) (w : World) (hd : d.length = n) (hd' : d'.length = n') (hn : n ≤ 1000000) (hn' : n' ≤ 1000000) (h : Sl w w.heap.size 3 A n c (flatHp d)) (h' : Sl w w.heap.size 3 A' n' c' (flatHp d')) (z : Int) (hz : cmpR t d t' d' = z) :
    Calls Try.prog 18 #[.agg #[.slice A n c, .int .i64 t], .agg #[.slice A' n' c', .int .i64 t']] w fun e w' => e = .returned (.int .i64 z) ∧ UpG w w' := by
  have HZ := Lib.hid hz
  clear hz
  by_cases h1 : t = t'
  · subst h1
    have b1 : (cmpI t t != 0) = false := by rw [cmpI_eq]; rfl
    by_cases h2 : n = n'
    · subst h2
      have b2 : (cmpI (n : Int) (n : Int) != 0) = false := by rw [cmpI_eq]; rfl
      have HF : Hid (cmpH d d' = z) := by
        have := HZ.out
        unfold cmpR at this
        rw [if_pos (cmpI_eq t), hd, hd', if_pos (cmpI_eq _)] at this
        exact this
      clear HZ
      go_enter Try.func18, Try.ntmps18
      go_wp2_with (go_at_call 41; refine (cmp_any _ _ _).mono ?_; rintro e w' ⟨rfl, rfl⟩)
      have hUa : UpG w ((w.alloc (.cells #[.slice A n c, .int .i64 t] 27)).alloc (.cells #[.slice A' n c', .int .i64 t] 27)) := ((UpG.refl w).alloc _).alloc _
      have hBa : Below w.heap.size w ((w.alloc (.cells #[.slice A n c, .int .i64 t] 27)).alloc (.cells #[.slice A' n c', .int .i64 t] 27)) := by (repeat (first | exact Below.refl _ _ | refine Below.alloc ?_ (by first | omega | (simp; done) | (simp; omega)) _ | refine Below.setCell ?_ (by first | omega | (simp; done) | (simp; omega)) _ | refine Below.drew ?_))
      refine (cmpHops_any A A' n c n c' d d' _ hd hd' hn hn (h.up hBa) (h'.up hBa)).mono ?_
      rintro e w4 ⟨rfl, hb4⟩
      have hU4 := hUa.trans hb4
      clear hb4
      go_wp2
      go_ret
      exact ⟨by rw [HF.out]; rfl, hU4⟩
    · have b2 : (cmpI (n : Int) (n' : Int) != 0) = true := cmpI_ne (by omega)
      have HF : Hid (cmpI (n : Int) (n' : Int) = z) := by
        have := HZ.out
        unfold cmpR at this
        rw [if_pos (cmpI_eq t), hd, hd', if_neg (by simpa using b2)] at this
        exact this
      clear HZ
      go_enter Try.func18, Try.ntmps18
      go_wp2_with (go_at_call 41; refine (cmp_any _ _ _).mono ?_; rintro e w' ⟨rfl, rfl⟩)
      go_ret
      exact ⟨by rw [← HF.out]; rfl, ((UpG.refl w).alloc _).alloc _⟩
  · have b1 : (cmpI t t' != 0) = true := cmpI_ne h1
    have HF : Hid (cmpI t t' = z) := by
      have := HZ.out
      unfold cmpR at this
      rw [if_neg (by simpa using b1)] at this
      exact this
    clear HZ
    go_enter Try.func18, Try.ntmps18
    go_wp2_with (go_at_call 41; refine (cmp_any _ _ _).mono ?_; rintro e w' ⟨rfl, rfl⟩)
    go_ret
    exact ⟨by rw [← HF.out]; rfl, ((UpG.refl w).alloc _).alloc _⟩
theorem ocmp_any (A A' : Option Addr) (n c n' c' : Nat) (d d' : List Hp) (t t' : Int) (w : World) (hd : d.length = n) (hd' : d'.length = n') (hn : n ≤ 1000000) (hn' : n' ≤ 1000000) (h : Sl w w.heap.size 3 A n c (flatHp d)) (h' : Sl w w.heap.size 3 A' n' c' (flatHp d')) (z : Int) (hz : cmpR t d t' d' = z) :
    Calls Try.prog 18 #[.agg #[.slice A n c, .int .i64 t], .agg #[.slice A' n' c', .int .i64 t']] w fun e w' => e = .returned (.int .i64 z) ∧ Below w.heap.size w w' := (ocmp_grow A A' n c n' c' d d' t t' w hd hd' hn hn' h h' z hz).mono fun e w' k => ⟨k.1, k.2.below⟩
end Go.Proofs.Ytmibgfenobekjaa

/- api.Route's head: its slice and when it is there; lists of it. No condition. -/
namespace Go.Proofs.Ytmibgfenobekjaa
open Go.ChangeShapes Go.WideShapes Go.ChangeAt Go.RowKit Go.Sort
set_option linter.unusedSimpArgs false
set_option linter.unusedVariables false
structure Rh where
  A : Option Addr
  n : Nat
  c : Nat
  t : Int
def Rh.cs (r : Rh) : List Value := [.slice r.A r.n r.c, .int .i64 r.t]
def zeroRh : Rh := ⟨none, 0, 0, 0⟩
def flatRh (d : List Rh) : List Value := d.flatMap Rh.cs
def gRh (d : List Rh) (i : Nat) : Rh := d.getD i zeroRh
theorem flatRh_cons (p : Rh) (d : List Rh) : flatRh (p :: d) = .slice p.A p.n p.c :: .int .i64 p.t :: flatRh d := rfl
theorem flatRh_length (d : List Rh) : (flatRh d).length = d.length * 2 := by
  induction d with
  | nil => rfl
  | cons p d ih => rw [flatRh_cons]; simp only [List.length_cons, ih]; omega
theorem flatRh_append (d e : List Rh) : flatRh (d ++ e) = flatRh d ++ flatRh e := by simp [flatRh]
theorem flatRh_at0 : ∀ (d : List Rh) (i : Nat), i < d.length → (flatRh d)[i * 2]? = some (.slice (gRh d i).A (gRh d i).n (gRh d i).c)
  | p :: d, 0, _ => rfl
  | p :: d, i + 1, h => by
    rw [flatRh_cons, show (i + 1) * 2 = i * 2 + 1 + 1 from by omega]
    simp only [List.getElem?_cons_succ]
    exact flatRh_at0 d i (by simpa using h)
theorem flatRh_at1 : ∀ (d : List Rh) (i : Nat), i < d.length → (flatRh d)[i * 2 + 1]? = some (.int .i64 (gRh d i).t)
  | p :: d, 0, _ => rfl
  | p :: d, i + 1, h => by
    rw [flatRh_cons, show (i + 1) * 2 + 1 = i * 2 + 1 + 1 + 1 from by omega]
    simp only [List.getElem?_cons_succ]
    exact flatRh_at1 d i (by simpa using h)
theorem flatRh_set : ∀ (d : List Rh) (i : Nat) (p : Rh), (((flatRh d).set (i * 2) (.slice p.A p.n p.c)).set (i * 2 + 1) (.int .i64 p.t)) = flatRh (d.set i p)
  | [], i, p => by simp [flatRh]
  | q :: d, 0, p => rfl
  | q :: d, i + 1, p => by
    rw [flatRh_cons]
    rw [show (i + 1) * 2 = i * 2 + 1 + 1 from by omega]
    rw [show i * 2 + 1 + 1 + 1 = i * 2 + 1 + 1 + 1 from by omega]
    simp only [List.set_cons_succ]
    rw [flatRh_set d i p]
    rfl
theorem flatRh_set0 : ∀ (d : List Rh) (i : Nat) (A : Option Addr) (n c : Nat), i < d.length → (flatRh d).set (i * 2) (.slice A n c) = flatRh (d.set i ⟨A, n, c, (gRh d i).t⟩)
  | q :: d, 0, A, n, c, _ => rfl
  | q :: d, i + 1, A, n, c, h => by
    rw [flatRh_cons]
    rw [show (i + 1) * 2 = i * 2 + 1 + 1 from by omega]
    simp only [List.set_cons_succ]
    rw [flatRh_set0 d i A n c (by simpa using h)]
    rfl
theorem flatRh_take : ∀ (d : List Rh) (n : Nat), (flatRh d).take (n * 2) = flatRh (d.take n)
  | _, 0 => by simp [flatRh]
  | [], n + 1 => by simp [flatRh]
  | p :: d, n + 1 => by
    rw [flatRh_cons, show (n + 1) * 2 = n * 2 + 1 + 1 from by omega]
    simp only [List.take_succ_cons]
    rw [flatRh_take d n]
    rfl
theorem flatRh_drop : ∀ (d : List Rh) (n : Nat), (flatRh d).drop (n * 2) = flatRh (d.drop n)
  | _, 0 => by simp
  | [], n + 1 => by simp [flatRh]
  | p :: d, n + 1 => by
    rw [flatRh_cons, show (n + 1) * 2 = n * 2 + 1 + 1 from by omega]
    simp only [List.drop_succ_cons]
    rw [flatRh_drop d n]
theorem flatRh_one : ∀ (l : List Rh), ∀ u ∈ flatRh l, u.oneCell' = true
  | [], u, h => by simp [flatRh] at h
  | p :: l, u, h => by
    rw [flatRh_cons] at h
    simp only [List.mem_cons] at h
    rcases h with rfl | rfl | h
    all_goals first | rfl | exact flatRh_one l u h
theorem Lst.atRh {w : World} {B : Nat} {A : Option Addr} {n : Nat} {l : List Rh} (h : Lst w B 2 A n (flatRh l)) (hl : l.length = n) {k : Nat} (hk : k < n) : ∃ ad, A = some ad ∧ ad.block < B ∧ w.cell? (ad.add (k * 2)) = some (.slice (gRh l k).A (gRh l k).n (gRh l k).c) ∧ w.cell? ⟨(ad.add (k * 2)).block, (ad.add (k * 2)).off + 1, none⟩ = some (.int .i64 (gRh l k).t) := by
  obtain ⟨ad, e, hb, hc⟩ := h.at_ (by omega)
  exact ⟨ad, e, hb, hc _ _ (flatRh_at0 l k (by omega)), by rw [addr_next _ _ _ (by omega)]; exact hc _ _ (flatRh_at1 l k (by omega))⟩
theorem ownRh_at {w : World} {base : Nat} {t : TypeId} {g n c : Nat} {d : List Rh} (h : w.ownsRow base t 2 (.slice (some ⟨g, 0, none⟩) n c) n (flatRh d)) (hd : d.length = n) {k : Nat} (hk : k < n) : w.cell? ⟨g, k * 2, none⟩ = some (.slice (gRh d k).A (gRh d k).n (gRh d k).c) ∧ w.cell? ⟨g, k * 2 + 1, none⟩ = some (.int .i64 (gRh d k).t) :=
  ⟨(h.cellAt (k * 2) (by omega)).trans (flatRh_at0 d k (by omega)), (h.cellAt (k * 2 + 1) (by omega)).trans (flatRh_at1 d k (by omega))⟩
theorem gRh_mem {d : List Rh} {i : Nat} (h : i < d.length) : gRh d i ∈ d := by
  unfold gRh; rw [List.getD_eq_getElem?_getD, List.getElem?_eq_getElem h]; simp
theorem gRh_eq {d : List Rh} {i : Nat} (h : i < d.length) : gRh d i = d[i] := by
  unfold gRh; rw [List.getD_eq_getElem?_getD, List.getElem?_eq_getElem h]; rfl
theorem take_nextRh {l : List Rh} {k : Nat} (h : k < l.length) : l.take (k + 1) = l.take k ++ [gRh l k] := by
  rw [List.take_succ_eq_append_getElem h, gRh_eq h]
theorem infoRh : (Try.prog.info? 27).map (fun i => (i.zero, i.size, i.bytes)) = some (some (.agg #[.slice none 0 0, .int .i64 0]), 2, 32) := by kernel_rfl
end Go.Proofs.Ytmibgfenobekjaa

/- The generic library's functions at routes' heads: Clone, Grow, Concat. No condition but on sizes. -/
namespace Go.Proofs.Ytmibgfenobekjaa
open Go.ChangeShapes Go.WideShapes Go.ChangeAt Go.RowKit Go.Sort
set_option linter.unusedSimpArgs false
set_option linter.unusedVariables false
/-- Lists, one behind the other. -/
def catRh (d : Nat → List Rh) : Nat → List Rh
  | 0 => []
  | k + 1 => catRh d k ++ d k
theorem catRh_le (d : Nat → List Rh) : ∀ {k m : Nat}, k ≤ m → (catRh d k).length ≤ (catRh d m).length
  | k, 0, h => by
    obtain rfl : k = 0 := by omega
    exact Nat.le_refl _
  | k, m + 1, h => by
    by_cases e : k = m + 1
    · subst e; exact Nat.le_refl _
    · have := catRh_le d (k := k) (m := m) (by omega)
      simp only [catRh, List.length_append]
      omega
end Go.Proofs.Ytmibgfenobekjaa

/- Routes in memory, rows of them; order.Same, Compare, Less by values. No condition but on sizes. -/
namespace Go.Proofs.Ytmibgfenobekjaa
open Go.ChangeShapes Go.WideShapes Go.ChangeAt Go.RowKit Go.Sort
set_option linter.unusedSimpArgs false
set_option linter.unusedVariables false
/-- A route: its head, its hops. -/
structure Rx where
  h : Rh
  d : List Hp
def Rx.ok (w : World) (x : Rx) : Prop := x.d.length = x.h.n ∧ x.h.n ≤ 1000000 ∧ Sl w w.heap.size 3 x.h.A x.h.n x.h.c (flatHp x.d)
/-- Its hops do not lie in block g. -/
def Rx.off (g : Nat) (x : Rx) : Prop := ∀ ad, x.h.A = some ad → ad.block ≠ g
def zeroRx : Rx := ⟨zeroRh, []⟩
instance inhRx : Inhabited Rx := ⟨zeroRx⟩
def gRx (l : List Rx) (i : Nat) : Rx := l.getD i zeroRx
def hdRx (l : List Rx) : List Rh := l.map Rx.h
theorem gRx_mem {d : List Rx} {i : Nat} (h : i < d.length) : gRx d i ∈ d := by
  unfold gRx; rw [List.getD_eq_getElem?_getD, List.getElem?_eq_getElem h]; simp
theorem gRx_hd {d : List Rx} {i : Nat} (h : i < d.length) : gRh (hdRx d) i = (gRx d i).h := by
  unfold gRh gRx hdRx
  rw [List.getD_eq_getElem?_getD, List.getD_eq_getElem?_getD, List.getElem?_map, List.getElem?_eq_getElem h]
  rfl
theorem Rx.ok_zero (w : World) : zeroRx.ok w := ⟨rfl, by show 0 ≤ 1000000; omega, Sl.nil0 _ _ _⟩
theorem Rx.ok.below {w w' : World} {x : Rx} (h : x.ok w) (hb : Below w.heap.size w w') : x.ok w' := ⟨h.1, h.2.1, h.2.2.up hb⟩
theorem Sl.on_ {w w' : World} {B B' k n c : Nat} {A : Option Addr} {xs : List Value} (h : Sl w B k A n c xs) (hk : ∀ ad, A = some ad → ad.block < B → w'.heap[ad.block]? = w.heap[ad.block]? ∧ ad.block < B') : Sl w' B' k A n c xs :=
  ⟨⟨h.lst.len, fun hn => by
    obtain ⟨ad, e, hb, hc⟩ := h.lst.at_ hn
    obtain ⟨h1, h2⟩ := hk ad e hb
    exact ⟨ad, e, h2, fun j u hu => (World.cell?_of_block (by rw [add_block]; exact h1)).trans (hc j u hu)⟩⟩, h.cap, h.max, h.nil⟩
theorem Rx.ok.kept {w w' : World} {x : Rx} {g : Nat} (h : x.ok w) (hg : w.grownBy w' (some g)) (ho : x.off g) : x.ok w' :=
  ⟨h.1, h.2.1, h.2.2.on_ fun ad e hb => ⟨hg.block _ hb (fun e2 => ho ad e (by injection e2)), Nat.lt_of_lt_of_le hb hg.size⟩⟩
def Rx.rt (x : Rx) : List Hp × Int := (x.d, x.h.t)
theorem Lst.atRx {w : World} {B : Nat} {A : Option Addr} {n : Nat} {l : List Rx} (h : Lst w B 2 A n (flatRh (hdRx l))) (hl : l.length = n) {k : Nat} (hk : k < n) : ∃ ad, A = some ad ∧ ad.block < B ∧ w.cell? (ad.add (k * 2)) = some (.slice (gRx l k).h.A (gRx l k).h.n (gRx l k).h.c) ∧ w.cell? ⟨(ad.add (k * 2)).block, (ad.add (k * 2)).off + 1, none⟩ = some (.int .i64 (gRx l k).h.t) := by
  have := h.atRh (by simp [hdRx, hl]) hk
  rw [gRx_hd (by omega)] at this
  exact this
/-- The value is that route, in that world. -/
def RV (w : World) (v : Value) (t : List Hp × Int) : Prop := ∃ A n c, v = .agg #[.slice A n c, .int .i64 t.2] ∧ t.1.length = n ∧ n ≤ 1000000 ∧ Sl w w.heap.size 3 A n c (flatHp t.1)
/-- The value is a row of those routes. -/
def RL (w : World) (v : Value) (l : List (List Hp × Int)) : Prop := ∃ A n c, ∃ L : List Rx, v = .slice A n c ∧ L.length = n ∧ L.map Rx.rt = l ∧ Sl w w.heap.size 2 A n c (flatRh (hdRx L)) ∧ ∀ x ∈ L, x.ok w
theorem RV.below {w w' : World} {v : Value} {t : List Hp × Int} (h : RV w v t) (hb : Below w.heap.size w w') : RV w' v t := by
  obtain ⟨A, n, c, h1, h2, h3, h4⟩ := h
  exact ⟨A, n, c, h1, h2, h3, h4.up hb⟩
theorem RL.below {w w' : World} {v : Value} {l : List (List Hp × Int)} (h : RL w v l) (hb : Below w.heap.size w w') : RL w' v l := by
  obtain ⟨A, n, c, L, h1, h2, h3, h4, h5⟩ := h
  exact ⟨A, n, c, L, h1, h2, h3, h4.up hb, fun x hx => (h5 x hx).below hb⟩
theorem RL.nil0 (w : World) : RL w (.slice none 0 0) [] := ⟨none, 0, 0, [], rfl, rfl, rfl, Sl.nil0 _ _ _, fun x hx => by cases hx⟩
theorem RL.len0 {w : World} {v : Value} (h : RL w v []) : ∃ A c, v = .slice A 0 c := by
  obtain ⟨A, n, c, L, h1, h2, h3, _, _⟩ := h
  have : L = [] := by simpa using h3
  subst this
  obtain rfl : n = 0 := by simpa using h2.symm
  exact ⟨A, c, h1⟩
theorem RL.len {w : World} {v : Value} {l : List (List Hp × Int)} {k : Nat} (h : RL w v l) (hk : l.length = k) : ∃ A c, v = .slice A k c := by
  obtain ⟨A, n, c, L, h1, h2, h3, _, _⟩ := h
  obtain rfl : n = k := by rw [← h2, ← hk, ← h3, List.length_map]
  exact ⟨A, c, h1⟩
/-- A route out of its parts. -/
theorem RV.mk' {w : World} {A : Option Addr} {n c : Nat} {d : List Hp} {t : Int} (hd : d.length = n) (hn : n ≤ 1000000) (h : Sl w w.heap.size 3 A n c (flatHp d)) : RV w (.agg #[.slice A n c, .int .i64 t]) (d, t) := ⟨A, n, c, rfl, hd, hn, h⟩
/-- A row made of routes: as many as there are heads. -/
theorem RL.lit {w : World} (T : TypeId) (L : List Rx) (n : Nat) (cs : Array Value) (l : List (List Hp × Int)) (hT : T = 27) (hn : L.length = n) (hm : n ≤ 1000000) (hc : cs.toList = flatRh (hdRx L)) (hl : L.map Rx.rt = l) (hok : ∀ x ∈ L, x.ok w) : RL (w.alloc (.cells cs T)) (.slice (some ⟨w.heap.size, 0, none⟩) n n) l := by
  subst hT
  refine ⟨_, n, n, L, rfl, hn, hl, ?_, fun x hx => (hok x hx).below ((Below.refl _ _).alloc (Nat.le_refl _) _)⟩
  have hz : cs.size = n * 2 := by rw [← Array.length_toList, hc, flatRh_length]; simp [hdRx, hn]
  have h := Sl.of_own (own_lit w 0 27 2 n cs (Nat.zero_le _) hz (by unfold maxLen; omega))
  rw [hc] at h
  exact h
/-- A route's value as a head and hops. -/
theorem RV.rx {w : World} {A : Option Addr} {n c : Nat} {x t : Int} {d : List Hp} (h : RV w (.agg #[.slice A n c, .int .i64 x]) (d, t)) : (⟨⟨A, n, c, x⟩, d⟩ : Rx).ok w ∧ x = t := by
  obtain ⟨A', n', c', h1, h2, h3, h4⟩ := h
  injection h1 with h1
  simp at h1
  obtain ⟨⟨rfl, rfl, rfl⟩, rfl⟩ := h1
  exact ⟨⟨h2, h3, h4⟩, rfl⟩
theorem cmpV {w : World} {u v : Value} {a b : List Hp × Int} (hu : RV w u a) (hv : RV w v b) (z : Int) (hz : cmpR a.2 a.1 b.2 b.1 = z) : Calls Try.prog 18 #[u, v] w fun e w' => e = .returned (.int .i64 z) ∧ Below w.heap.size w w' := by
  obtain ⟨A, n, c, rfl, h2, h3, h4⟩ := hu
  obtain ⟨A', n', c', rfl, k2, k3, k4⟩ := hv
  exact ocmp_any A A' n c n' c' _ _ _ _ w h2 k2 h3 k3 h4 k4 z hz
end Go.Proofs.Ytmibgfenobekjaa
