/- Several texts of mine in one: OrdRead, O13r. No condition. -/
import Derived.Test.YtbhhkaaidhapbaaOrdFew
import Derived.Test.YtbhhkaaidhapbaaKeptJ
namespace Go.Proofs.Ytbhhkaaidhapbaa
open Go.ChangeShapes Go.WideShapes Go.ChangeAt Go.RowKit Go.Sort
set_option linter.unusedSimpArgs false
set_option linter.unusedVariables false
theorem RL.take {w : World} {A : Option Addr} {n c m : Nat} {R : List Rt} (h : RL w (.slice A n c) R) (hm : m ≤ n) : RL w (.slice A m c) (R.take m) := by
  obtain ⟨A', n', c', L, e, h2, h3, h4, h5⟩ := h
  injection e with e1 e2 e3
  subst e1 e2 e3
  refine ⟨_, _, _, L.take m, rfl, by simp [h2, hm], by rw [List.map_take, h3], ?_, fun x hx => h5 x (List.mem_of_mem_take hx)⟩
  have hu := h4.upto (m := m) hm
  rw [hd_take] at hu
  exact hu
theorem compact_nil : compactT (sortT []) = [] := by decide +kernel
theorem few_ok {L : List Rx} {w : World} (hF : L.length ≤ 50 ∧ ∀ j, j < L.length → (gRx L j).h.n ≤ 50) (hr : ∀ x ∈ L, x.raw w) : ∀ x ∈ L, x.ok w := fun x hx => by
  obtain ⟨j, hj, e⟩ := List.getElem_of_mem hx
  have h1 := hF.2 j hj
  have e2 : gRx L j = x := by unfold gRx; rw [List.getD_eq_getElem?_getD, List.getElem?_eq_getElem hj]; exact e
  rw [e2] at h1
  exact ⟨(hr x hx).1, by omega, (hr x hx).2⟩
/-- The route at a place. -/
theorem RL.cells {w : World} {A : Option Addr} {n c : Nat} {R : List Rt} (h : RL w (.slice A n c) R) {k : Nat} (hk : k < n) : ∃ ad An nn cn, A = some ad ∧ w.cell? (ad.add (k * 2)) = some (.slice An nn cn) ∧ w.cell? ⟨(ad.add (k * 2)).block, (ad.add (k * 2)).off + 1, none⟩ = some (.int .i64 (gT R k).2) ∧ (gT R k).1.length = nn ∧ nn ≤ 1000000 ∧ Sl w w.heap.size 3 An nn cn (flatHp (gT R k).1) := by
  obtain ⟨A', n', c', L, e, h2, h3, h4, h5⟩ := h
  injection e with e1 e2 e3
  subst e1 e2 e3
  obtain ⟨ad, had, hb, x0, x1⟩ := h4.lst.atRx h2 hk
  have hx := h5 _ (gRx_mem (d := L) (i := k) (by omega))
  have e : gT R k = (gRx L k).rt := by rw [← h3, gT_rt]
  rw [e]
  exact ⟨ad, _, _, _, had, x0, x1, hx.1, hx.2.1, hx.2.2⟩
def Rx.offP (g : Nat) (x : Rx) : Prop := 0 < x.h.n → ∀ ad, x.h.A = some ad → ad.block ≠ g
theorem Rx.ok.keptP {S : Nat → Prop} {w w' : World} {x : Rx} (h : x.ok w) (hk : Kept S w w') (ho : ∀ g, S g → x.offP g) : x.ok w' := ⟨h.1, h.2.1, h.2.2.keptJ hk (fun hn ad e hS => ho _ hS hn ad e rfl)⟩
theorem Rx.ok.offP_new {w : World} {x : Rx} (h : x.ok w) {g : Nat} (hg : w.heap.size ≤ g) : x.offP g := fun hn ad e => by
  have := h.2.2.off_newJ hn e
  omega
structure RtRow (w : World) (base : Nat) (rv : Value) (L : List Rx) : Prop where
  row : w.ownsRow base 25 2 rv L.length (flatRh (hdRx L))
  ok : ∀ x ∈ L, x.ok w
  off : ∀ x ∈ L, ∀ g, rv.ownBlock = some g → x.offP g
theorem RtRow.kept {S : Nat → Prop} {w w' : World} {base : Nat} {rv : Value} {L : List Rx} (h : RtRow w base rv L) (hk : Kept S w w') (ho : ∀ x ∈ L, ∀ g, S g → x.offP g) (hv : ∀ g, rv.ownBlock = some g → ¬ S g) : RtRow w' base rv L := ⟨own_keptJ h.row hk hv, fun x hx => (h.ok x hx).keptP hk (ho x hx), h.off⟩
theorem RtRow.below {w w' : World} {base : Nat} {rv : Value} {L : List Rx} (h : RtRow w base rv L) (hb : Below w.heap.size w w') : RtRow w' base rv L := h.kept (S := fun _ => False) (Kept.of_below hb) (fun _ _ _ f => f.elim) (fun _ _ f => f)
/-- A row of those routes in memory of the call's own. -/
def RO (w : World) (base : Nat) (v : Value) (R : List (List Hp × Int)) : Prop := ∃ L : List Rx, w.ownsRow base 25 2 v L.length (flatRh (hdRx L)) ∧ L.map Rx.rt = R ∧ ∀ x ∈ L, x.ok w
theorem RO.nil (w : World) (base : Nat) : RO w base (.slice none 0 0) [] := ⟨[], World.ownsRow_nil _ _ _ _, rfl, fun x hx => by cases hx⟩
theorem RO.below {w w' : World} {base : Nat} {v : Value} {R : List (List Hp × Int)} (h : RO w base v R) (hb : Below w.heap.size w w') : RO w' base v R := by
  obtain ⟨L, h1, h2, h3⟩ := h
  exact ⟨L, own_belowK h1 hb, h2, fun x hx => (h3 x hx).below hb⟩
theorem RO.rl {w : World} {base : Nat} {v : Value} {R : List (List Hp × Int)} (h : RO w base v R) : RL w v R := by
  obtain ⟨L, h1, h2, h3⟩ := h
  obtain ⟨A', c', rfl⟩ := slice_of_own h1
  exact ⟨A', _, c', L, rfl, rfl, h2, Sl.of_own h1, h3⟩
/-- As a slice. -/
theorem RO.sl {w : World} {base : Nat} {v : Value} {R : List (List Hp × Int)} (h : RO w base v R) : ∃ A c, v = .slice A R.length c := by
  obtain ⟨L, h1, rfl, h3⟩ := h
  obtain ⟨A', c', rfl⟩ := slice_of_own h1
  rw [List.length_map]
  exact ⟨_, _, rfl⟩
/-- Its address. -/
theorem RO.addr {w : World} {base n c : Nat} {A : Option Addr} {R : List (List Hp × Int)} (h : RO w base (.slice A n c) R) (hn : 0 < n) : ∃ g, A = some ⟨g, 0, none⟩ ∧ base ≤ g ∧ g < w.heap.size ∧ n ≤ c := by
  obtain ⟨L, h1, rfl, h3⟩ := h
  have hnL : n = L.length := by
    obtain ⟨A', c', e⟩ := slice_of_own h1
    simp only [Value.slice.injEq] at e
    exact e.2.1
  obtain ⟨g, c', e, hc⟩ := own_posJ h1 (by omega)
  simp only [Value.slice.injEq] at e
  obtain ⟨rfl, rfl, rfl⟩ := e
  exact ⟨g, rfl, (h1.lt g rfl).1, (h1.lt g rfl).2, hc⟩
/-- One of its routes. -/
theorem RO.cells {w : World} {base g n c k : Nat} {R : List (List Hp × Int)} (h : RO w base (.slice (some ⟨g, 0, none⟩) n c) R) (hk : k < n) : ∃ An nn cn, w.cell? ⟨g, k * 2, none⟩ = some (.slice An nn cn) ∧ w.cell? ⟨g, k * 2 + 1, none⟩ = some (.int .i64 (R.getD k ([], 0)).2) ∧ (R.getD k ([], 0)).1.length = nn ∧ nn ≤ 1000000 ∧ Sl w w.heap.size 3 An nn cn (flatHp (R.getD k ([], 0)).1) := by
  obtain ⟨L, h1, rfl, h3⟩ := h
  have hnL : n = L.length := by
    obtain ⟨A', c', e⟩ := slice_of_own h1
    simp only [Value.slice.injEq] at e
    exact e.2.1
  subst hnL
  have hl : (hdRx L).length = L.length := by simp [hdRx]
  obtain ⟨a1, a2⟩ := ownRh_at h1 hl hk
  rw [gRx_hd hk] at a1 a2
  have e2 : (L.map Rx.rt).getD k ([], 0) = (gRx L k).rt := by
    unfold gRx
    rw [List.getD_eq_getElem?_getD, List.getD_eq_getElem?_getD, List.getElem?_map, List.getElem?_eq_getElem hk]
    rfl
  rw [e2]
  obtain ⟨b1, b2, b3⟩ := h3 _ (gRx_mem hk)
  exact ⟨_, _, _, a1, a2, b1, b2, b3⟩
/-- Its first ones. -/
theorem RO.first {w : World} {base n c m : Nat} {A : Option Addr} {R : List (List Hp × Int)} (h : RO w base (.slice A n c) R) (hm : m ≤ n) : RL w (.slice A m c) (R.take m) := by
  obtain ⟨L, h1, rfl, h3⟩ := h
  have hnL : n = L.length := by
    obtain ⟨A', c', e⟩ := slice_of_own h1
    simp only [Value.slice.injEq] at e
    exact e.2.1
  subst hnL
  refine ⟨A, m, c, L.take m, rfl, by rw [List.length_take]; omega, by rw [List.map_take], ?_, fun x hx => h3 x (List.mem_of_mem_take hx)⟩
  have hs := (Sl.of_own h1).upto hm
  rw [flatRh_take] at hs
  have e : (hdRx L).take m = hdRx (L.take m) := by simp [hdRx, List.map_take]
  rw [e] at hs
  exact hs
end Go.Proofs.Ytbhhkaaidhapbaa
