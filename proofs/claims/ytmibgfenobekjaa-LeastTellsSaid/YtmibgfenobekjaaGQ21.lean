/- Several texts of mine in one: KeptJ, RtRow. No condition. -/
import Derived.Test.YtmibgfenobekjaaGQ19
import Derived.Test.YtmibgfenobekjaaGQ1
import Derived.Test.YtmibgfenobekjaaGQ20

/- Rows and worlds kept but for some blocks. No condition. -/
namespace Go.Proofs.Ytmibgfenobekjaa
open Go.ChangeShapes Go.WideShapes Go.ChangeAt Go.RowKit Go.Sort
set_option linter.unusedSimpArgs false
set_option linter.unusedVariables false
theorem own_keptJ {S : Nat → Prop} {w w' : World} {base : Nat} {e : TypeId} {size n : Nat} {v : Value} {xs : List Value} (h : w.ownsRow base e size v n xs) (hk : Kept S w w') (hv : ∀ g, v.ownBlock = some g → ¬ S g) : w'.ownsRow base e size v n xs := by
  refine ⟨h.1, ?_⟩
  rcases h.2 with hn | ⟨g, cap, cur, rfl, hb, hgg, rest⟩
  · exact .inl hn
  · refine .inr ⟨g, cap, cur, rfl, hb, ?_, rest⟩
    rw [hk.block g (Array.getElem?_eq_some_iff.1 hgg).1 (hv g rfl)]
    exact hgg
theorem below_keptJ {S : Nat → Prop} {B : Nat} {w w1 w2 : World} (hb : Below B w w1) (hB : B ≤ w.heap.size) (hk : Kept S w1 w2) (hS : ∀ k, S k → B ≤ k) : Below B w w2 :=
  ⟨hk.os.trans hb.os, hk.tape.trans hb.tape, hk.output.trans hb.output, Nat.le_trans hb.size hk.size, fun k hkB => (hk.block k (by have := hb.size; omega) (fun h => by have := hS k h; omega)).trans (hb.block k hkB)⟩
theorem own_posJ {w : World} {base : Nat} {e : TypeId} {size n : Nat} {v : Value} {xs : List Value} (h : w.ownsRow base e size v n xs) (hn : 0 < n) : ∃ g c, v = .slice (some ⟨g, 0, none⟩) n c ∧ n ≤ c := by
  rcases h.2 with ⟨rfl, rfl⟩ | ⟨g', cap, cur, rfl, _, _, hc, _⟩
  · omega
  · exact ⟨_, _, rfl, hc⟩
theorem own_belowK {w w' : World} {base : Nat} {e : TypeId} {size n : Nat} {v : Value} {xs : List Value} (h : w.ownsRow base e size v n xs) (hb : Below w.heap.size w w') : w'.ownsRow base e size v n xs :=
  own_keptJ h (S := fun _ => False) (Kept.of_below hb) (fun _ _ f => f)
theorem Sl.keptJ {S : Nat → Prop} {w w' : World} {k n c : Nat} {A : Option Addr} {xs : List Value} (h : Sl w w.heap.size k A n c xs) (hk : Kept S w w') (ho : 0 < n → ∀ ad, A = some ad → ¬ S ad.block) : Sl w' w'.heap.size k A n c xs :=
  ⟨⟨h.lst.len, fun hn => by
    obtain ⟨ad, e, hb, hc⟩ := h.lst.at_ hn
    exact ⟨ad, e, Nat.lt_of_lt_of_le hb hk.size, fun j u hu => (World.cell?_of_block (by rw [add_block]; exact hk.block _ hb (ho hn ad e))).trans (hc j u hu)⟩⟩, h.cap, h.max, h.nil⟩
theorem Sl.off_newJ {w : World} {B k n c : Nat} {A : Option Addr} {xs : List Value} (h : Sl w B k A n c xs) (hn : 0 < n) {ad : Addr} (e : A = some ad) : ad.block < B := by
  obtain ⟨ad', e', hb, _⟩ := h.lst.at_ hn
  rw [e] at e'; simp only [Option.some.injEq] at e'; subst e'; exact hb
end Go.Proofs.Ytmibgfenobekjaa

/- Rows of routes in memory of the call's own. No condition. -/
namespace Go.Proofs.Ytmibgfenobekjaa
open Go.ChangeShapes Go.WideShapes Go.ChangeAt Go.RowKit Go.Sort
set_option linter.unusedSimpArgs false
set_option linter.unusedVariables false
def Rx.offP (g : Nat) (x : Rx) : Prop := 0 < x.h.n → ∀ ad, x.h.A = some ad → ad.block ≠ g
theorem Rx.ok.keptP {S : Nat → Prop} {w w' : World} {x : Rx} (h : x.ok w) (hk : Kept S w w') (ho : ∀ g, S g → x.offP g) : x.ok w' := ⟨h.1, h.2.1, h.2.2.keptJ hk (fun hn ad e hS => ho _ hS hn ad e rfl)⟩
theorem Rx.ok.offP_new {w : World} {x : Rx} (h : x.ok w) {g : Nat} (hg : w.heap.size ≤ g) : x.offP g := fun hn ad e => by
  have := h.2.2.off_newJ hn e
  omega
structure RtRow (w : World) (base : Nat) (rv : Value) (L : List Rx) : Prop where
  row : w.ownsRow base 27 2 rv L.length (flatRh (hdRx L))
  ok : ∀ x ∈ L, x.ok w
  off : ∀ x ∈ L, ∀ g, rv.ownBlock = some g → x.offP g
theorem RtRow.kept {S : Nat → Prop} {w w' : World} {base : Nat} {rv : Value} {L : List Rx} (h : RtRow w base rv L) (hk : Kept S w w') (ho : ∀ x ∈ L, ∀ g, S g → x.offP g) (hv : ∀ g, rv.ownBlock = some g → ¬ S g) : RtRow w' base rv L := ⟨own_keptJ h.row hk hv, fun x hx => (h.ok x hx).keptP hk (ho x hx), h.off⟩
theorem RtRow.below {w w' : World} {base : Nat} {rv : Value} {L : List Rx} (h : RtRow w base rv L) (hb : Below w.heap.size w w') : RtRow w' base rv L := h.kept (S := fun _ => False) (Kept.of_below hb) (fun _ _ _ f => f.elim) (fun _ _ f => f)
/-- A row of those routes in memory of the call's own. -/
def RO (w : World) (base : Nat) (v : Value) (R : List (List Hp × Int)) : Prop := ∃ L : List Rx, w.ownsRow base 27 2 v L.length (flatRh (hdRx L)) ∧ L.map Rx.rt = R ∧ ∀ x ∈ L, x.ok w
theorem RO.nil (w : World) (base : Nat) : RO w base (.slice none 0 0) [] := ⟨[], World.ownsRow_nil _ _ _ _, rfl, fun x hx => by cases hx⟩
theorem RO.below {w w' : World} {base : Nat} {v : Value} {R : List (List Hp × Int)} (h : RO w base v R) (hb : Below w.heap.size w w') : RO w' base v R := by
  obtain ⟨L, h1, h2, h3⟩ := h
  exact ⟨L, own_belowK h1 hb, h2, fun x hx => (h3 x hx).below hb⟩
theorem RO.rl {w : World} {base : Nat} {v : Value} {R : List (List Hp × Int)} (h : RO w base v R) : RL w v R := by
  obtain ⟨L, h1, h2, h3⟩ := h
  obtain ⟨A', c', rfl⟩ := slice_of_own h1
  exact ⟨A', _, c', L, rfl, rfl, h2, Sl.of_own h1, h3⟩
/-- As a slice. -/
theorem RO.sl {w : World} {base : Nat} {v : Value} {R : List (List Hp × Int)} (h : RO w base v R) : ∃ A c, v = .slice A R.length c := by
  obtain ⟨L, h1, rfl, h3⟩ := h
  obtain ⟨A', c', rfl⟩ := slice_of_own h1
  rw [List.length_map]
  exact ⟨_, _, rfl⟩
/-- Its address. -/
theorem RO.addr {w : World} {base n c : Nat} {A : Option Addr} {R : List (List Hp × Int)} (h : RO w base (.slice A n c) R) (hn : 0 < n) : ∃ g, A = some ⟨g, 0, none⟩ ∧ base ≤ g ∧ g < w.heap.size ∧ n ≤ c := by
  obtain ⟨L, h1, rfl, h3⟩ := h
  have hnL : n = L.length := by
    obtain ⟨A', c', e⟩ := slice_of_own h1
    simp only [Value.slice.injEq] at e
    exact e.2.1
  obtain ⟨g, c', e, hc⟩ := own_posJ h1 (by omega)
  simp only [Value.slice.injEq] at e
  obtain ⟨rfl, rfl, rfl⟩ := e
  exact ⟨g, rfl, (h1.lt g rfl).1, (h1.lt g rfl).2, hc⟩
/-- One of its routes. -/
theorem RO.cells {w : World} {base g n c k : Nat} {R : List (List Hp × Int)} (h : RO w base (.slice (some ⟨g, 0, none⟩) n c) R) (hk : k < n) : ∃ An nn cn, w.cell? ⟨g, k * 2, none⟩ = some (.slice An nn cn) ∧ w.cell? ⟨g, k * 2 + 1, none⟩ = some (.int .i64 (R.getD k ([], 0)).2) ∧ (R.getD k ([], 0)).1.length = nn ∧ nn ≤ 1000000 ∧ Sl w w.heap.size 3 An nn cn (flatHp (R.getD k ([], 0)).1) := by
  obtain ⟨L, h1, rfl, h3⟩ := h
  have hnL : n = L.length := by
    obtain ⟨A', c', e⟩ := slice_of_own h1
    simp only [Value.slice.injEq] at e
    exact e.2.1
  subst hnL
  have hl : (hdRx L).length = L.length := by simp [hdRx]
  obtain ⟨a1, a2⟩ := ownRh_at h1 hl hk
  rw [gRx_hd hk] at a1 a2
  have e2 : (L.map Rx.rt).getD k ([], 0) = (gRx L k).rt := by
    unfold gRx
    rw [List.getD_eq_getElem?_getD, List.getD_eq_getElem?_getD, List.getElem?_map, List.getElem?_eq_getElem hk]
    rfl
  rw [e2]
  obtain ⟨b1, b2, b3⟩ := h3 _ (gRx_mem hk)
  exact ⟨_, _, _, a1, a2, b1, b2, b3⟩
/-- Its first ones. -/
theorem RO.first {w : World} {base n c m : Nat} {A : Option Addr} {R : List (List Hp × Int)} (h : RO w base (.slice A n c) R) (hm : m ≤ n) : RL w (.slice A m c) (R.take m) := by
  obtain ⟨L, h1, rfl, h3⟩ := h
  have hnL : n = L.length := by
    obtain ⟨A', c', e⟩ := slice_of_own h1
    simp only [Value.slice.injEq] at e
    exact e.2.1
  subst hnL
  refine ⟨A, m, c, L.take m, rfl, by rw [List.length_take]; omega, by rw [List.map_take], ?_, fun x hx => h3 x (List.mem_of_mem_take hx)⟩
  have hs := (Sl.of_own h1).upto hm
  rw [flatRh_take] at hs
  have e : (hdRx L).take m = hdRx (L.take m) := by simp [hdRx, List.map_take]
  rw [e] at hs
  exact hs
end Go.Proofs.Ytmibgfenobekjaa
