/- Package order by values: routes and rows of routes, wherever they lie. No condition but on sizes. -/
import Derived.Test.YtbhhkaaidhapbaaGQ4
namespace Go.Proofs.Ytbhhkaaidhapbaa
open Go.ChangeShapes Go.WideShapes Go.ChangeAt Go.RowKit Go.Sort
set_option linter.unusedSimpArgs false
set_option linter.unusedVariables false
/-- The value is that route, in that world. -/
def RV (w : World) (v : Value) (t : Rt) : Prop := ∃ A n c, v = .agg #[.slice A n c, .int .i64 t.2] ∧ t.1.length = n ∧ n ≤ 1000000 ∧ Sl w w.heap.size 3 A n c (flatHp t.1)
/-- The value is a row of those routes. -/
def RL (w : World) (v : Value) (l : List Rt) : Prop := ∃ A n c, ∃ L : List Rx, v = .slice A n c ∧ L.length = n ∧ L.map Rx.rt = l ∧ Sl w w.heap.size 2 A n c (flatRh (hdRx L)) ∧ ∀ x ∈ L, x.ok w
theorem RV.below {w w' : World} {v : Value} {t : Rt} (h : RV w v t) (hb : Below w.heap.size w w') : RV w' v t := by
  obtain ⟨A, n, c, h1, h2, h3, h4⟩ := h
  exact ⟨A, n, c, h1, h2, h3, h4.up hb⟩
theorem RL.below {w w' : World} {v : Value} {l : List Rt} (h : RL w v l) (hb : Below w.heap.size w w') : RL w' v l := by
  obtain ⟨A, n, c, L, h1, h2, h3, h4, h5⟩ := h
  exact ⟨A, n, c, L, h1, h2, h3, h4.up hb, fun x hx => (h5 x hx).below hb⟩
theorem RL.nil0 (w : World) : RL w (.slice none 0 0) [] := ⟨none, 0, 0, [], rfl, rfl, rfl, Sl.nil0 _ _ _, fun x hx => by cases hx⟩
theorem RL.len0 {w : World} {v : Value} (h : RL w v []) : ∃ A c, v = .slice A 0 c := by
  obtain ⟨A, n, c, L, h1, h2, h3, _, _⟩ := h
  have : L = [] := by simpa using h3
  subst this
  obtain rfl : n = 0 := by simpa using h2.symm
  exact ⟨A, c, h1⟩
theorem RL.len {w : World} {v : Value} {l : List Rt} {k : Nat} (h : RL w v l) (hk : l.length = k) : ∃ A c, v = .slice A k c := by
  obtain ⟨A, n, c, L, h1, h2, h3, _, _⟩ := h
  obtain rfl : n = k := by rw [← h2, ← hk, ← h3, List.length_map]
  exact ⟨A, c, h1⟩
/-- A route out of its parts. -/
theorem RV.mk' {w : World} {A : Option Addr} {n c : Nat} {d : List Hp} {t : Int} (hd : d.length = n) (hn : n ≤ 1000000) (h : Sl w w.heap.size 3 A n c (flatHp d)) : RV w (.agg #[.slice A n c, .int .i64 t]) (d, t) := ⟨A, n, c, rfl, hd, hn, h⟩
/-- A row made of routes: as many as there are heads. -/
theorem RL.lit {w : World} (T : TypeId) (L : List Rx) (n : Nat) (cs : Array Value) (l : List Rt) (hT : T = 25) (hn : L.length = n) (hm : n ≤ 1000000) (hc : cs.toList = flatRh (hdRx L)) (hl : L.map Rx.rt = l) (hok : ∀ x ∈ L, x.ok w) : RL (w.alloc (.cells cs T)) (.slice (some ⟨w.heap.size, 0, none⟩) n n) l := by
  subst hT
  refine ⟨_, n, n, L, rfl, hn, hl, ?_, fun x hx => (hok x hx).below ((Below.refl _ _).alloc (Nat.le_refl _) _)⟩
  have hz : cs.size = n * 2 := by rw [← Array.length_toList, hc, flatRh_length]; simp [hdRx, hn]
  have h := Sl.of_own (own_lit w 0 25 2 n cs (Nat.zero_le _) hz (by unfold maxLen; omega))
  rw [hc] at h
  exact h
/-- A route's value as a head and hops. -/
theorem RV.rx {w : World} {A : Option Addr} {n c : Nat} {x t : Int} {d : List Hp} (h : RV w (.agg #[.slice A n c, .int .i64 x]) (d, t)) : (⟨⟨A, n, c, x⟩, d⟩ : Rx).ok w ∧ x = t := by
  obtain ⟨A', n', c', h1, h2, h3, h4⟩ := h
  injection h1 with h1
  simp at h1
  obtain ⟨⟨rfl, rfl, rfl⟩, rfl⟩ := h1
  exact ⟨⟨h2, h3, h4⟩, rfl⟩
theorem cmpV {w : World} {u v : Value} {a b : Rt} (hu : RV w u a) (hv : RV w v b) (z : Int) (hz : cmpR a.2 a.1 b.2 b.1 = z) : Calls Try.prog 17 #[u, v] w fun e w' => e = .returned (.int .i64 z) ∧ Below w.heap.size w w' := by
  obtain ⟨A, n, c, rfl, h2, h3, h4⟩ := hu
  obtain ⟨A', n', c', rfl, k2, k3, k4⟩ := hv
  exact ocmp_any A A' n c n' c' _ _ _ _ w h2 k2 h3 k3 h4 k4 z hz
theorem lessV {w : World} {u v : Value} {a b : Rt} (hu : RV w u a) (hv : RV w v b) (z : Bool) (hz : decide (cmpR a.2 a.1 b.2 b.1 < 0) = z) : Calls Try.prog 19 #[u, v] w fun e w' => e = .returned (.bool z) ∧ Below w.heap.size w w' := by
  obtain ⟨A, n, c, rfl, h2, h3, h4⟩ := hu
  obtain ⟨A', n', c', rfl, k2, k3, k4⟩ := hv
  exact oless_any A A' n c n' c' _ _ _ _ w h2 k2 h3 k3 h4 k4 z hz
theorem sameV {w : World} {u v : Value} {a b : List Rt} (hu : RL w u a) (hv : RL w v b) (ha : a.length ≤ 1000000) (hb : b.length ≤ 1000000) (z : Bool) (hz : decide (a = b) = z) : Calls Try.prog 16 #[u, v] w fun e w' => e = .returned (.bool z) ∧ Below w.heap.size w w' := by
  obtain ⟨A, n, c, L, rfl, h2, rfl, h4, h5⟩ := hu
  obtain ⟨A', n', c', L', rfl, k2, rfl, k4, k5⟩ := hv
  rw [List.length_map] at ha hb
  exact osame_any A A' n c n' c' L L' w h2 k2 (by omega) (by omega) h4 k4 h5 k5 z hz
theorem sortV {w : World} {u : Value} {l : List Rt} (hu : RL w u l) (h0 : 0 < l.length) (hn : l.length < 1000) (r : List Rt) (hr : compactT (sortT l) = r) : Calls Try.prog 11 #[u] w fun e w' => ∃ v, e = .returned v ∧ RL w' v r ∧ Below w.heap.size w w' := by
  obtain ⟨A, n, c, L, rfl, h2, rfl, h4, h5⟩ := hu
  rw [List.length_map] at h0 hn
  refine (osort_any A n c L w h2 (by omega) (by omega) h4 h5).mono ?_
  rintro e w' ⟨g, c', m, rfl, hm, hs, hok, hown, hb⟩
  have ho := out_rt h2 hm hs
  exact ⟨_, rfl, ⟨_, _, _, _, rfl, rfl, ho.trans hr, Sl.of_own hown, fun x hx => (hok x hx).1.1⟩, hb⟩
/-- A row of routes of the call's own, their hops, too. -/
def RLO (w : World) (base : Nat) (v : Value) (l : List Rt) : Prop := ∃ (g c : Nat) (L : List Rx), v = .slice (some ⟨g, 0, none⟩) L.length c ∧ base ≤ g ∧ L.map Rx.rt = l ∧ w.ownsRow base 25 2 v L.length (flatRh (hdRx L)) ∧ ∀ x ∈ L, x.ok w ∧ x.off g ∧ x.own w base
theorem RLO.rl {w : World} {base : Nat} {v : Value} {l : List Rt} (h : RLO w base v l) : RL w v l := by
  obtain ⟨g, c, L, rfl, _, h3, h4, h5⟩ := h
  exact ⟨_, _, _, L, rfl, rfl, h3, Sl.of_own h4, fun x hx => (h5 x hx).1⟩
theorem sortVO {w : World} {u : Value} {l : List Rt} (hu : RL w u l) (h0 : 0 < l.length) (hn : l.length < 1000) (r : List Rt) (hr : compactT (sortT l) = r) : Calls Try.prog 11 #[u] w fun e w' => ∃ v, e = .returned v ∧ RLO w' w.heap.size v r ∧ Below w.heap.size w w' := by
  obtain ⟨A, n, c, L, rfl, h2, rfl, h4, h5⟩ := hu
  rw [List.length_map] at h0 hn
  refine (osort_any A n c L w h2 (by omega) (by omega) h4 h5).mono ?_
  rintro e w' ⟨g, c', m, rfl, hm, hs, hok, hown, hb⟩
  have ho := out_rt h2 hm hs
  exact ⟨_, rfl, ⟨g, c', _, rfl, (hown.lt g rfl).1, ho.trans hr, hown, fun x hx => ⟨(hok x hx).1.1, (hok x hx).1.2, (hok x hx).2⟩⟩, hb⟩
theorem sort0V {w : World} {u : Value} (hu : RL w u []) : Calls Try.prog 11 #[u] w fun e w' => ∃ v, e = .returned v ∧ RL w' v [] ∧ Below w.heap.size w w' := by
  obtain ⟨A, n, c, L, rfl, h2, h3, h4, h5⟩ := hu
  obtain rfl : L = [] := by simpa using h3
  obtain rfl : n = 0 := by simpa using h2.symm
  refine (osort0_any A c w h4).mono ?_
  rintro e w' ⟨A', c', rfl, hs, hb⟩
  exact ⟨_, rfl, ⟨A', 0, c', [], rfl, rfl, rfl, hs, fun x hx => by cases hx⟩, hb⟩
/-- Sort, however many: in any case. -/
theorem sortV' {w : World} {u : Value} {l : List Rt} (hu : RL w u l) (hn : l.length < 1000) (r : List Rt) (hr : compactT (sortT l) = r) : Calls Try.prog 11 #[u] w fun e w' => ∃ v, e = .returned v ∧ RL w' v r ∧ Below w.heap.size w w' := by
  by_cases h0 : 0 < l.length
  · exact sortV hu h0 hn r hr
  · obtain rfl : l = [] := by simpa using h0
    rw [show compactT (sortT []) = [] from by decide +kernel] at hr
    subst hr
    exact sort0V hu
theorem insV {w : World} {u v : Value} {l : List Rt} {t : Rt} (hu : RL w u l) (hv : RV w v t) (hn : l.length < 999) (most : Int) (r : List Rt) (hr : (compactT (sortT (l ++ [t]))).take most.toNat = r) : Calls Try.prog 13 #[u, v, .int .i64 most] w fun e w' => ∃ z, e = .returned z ∧ RL w' z r ∧ Below w.heap.size w w' := by
  obtain ⟨A, n, c, L, rfl, h2, rfl, h4, h5⟩ := hu
  obtain ⟨A', n', c', rfl, k2, k3, k4⟩ := hv
  obtain ⟨td, tt⟩ := t
  rw [List.length_map] at hn
  have hx : (⟨⟨A', n', c', tt⟩, td⟩ : Rx).ok w := ⟨k2, k3, k4⟩
  refine (oins_any A n c L ⟨⟨A', n', c', tt⟩, td⟩ most (min most.toNat (compactT (sortT (L.map Rx.rt ++ [(td, tt)]))).length) w h2 (by omega) h4 h5 hx (by simp [Rx.rt])).mono ?_
  rintro e w' ⟨g, m, rfl, hm, hok, hsl, hb⟩
  have e1 : (L ++ [(⟨⟨A', n', c', tt⟩, td⟩ : Rx)]).map Rx.rt = L.map Rx.rt ++ [(td, tt)] := by simp [Rx.rt]
  rw [e1] at hm
  have e2 : m.map Rx.rt = r := by
    rw [hm, ← hr]
    rw [← List.take_take]
    simp
  have e3 : m.length = min most.toNat (compactT (sortT (L.map Rx.rt ++ [(td, tt)]))).length := by
    have := congrArg List.length hm
    rw [List.length_map, List.length_take] at this
    omega
  exact ⟨_, rfl, ⟨_, _, _, m, rfl, e3, e2, hsl, hok⟩, hb⟩
end Go.Proofs.Ytbhhkaaidhapbaa
