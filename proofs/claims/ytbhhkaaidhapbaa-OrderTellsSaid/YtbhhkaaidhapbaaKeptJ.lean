/- Rows and worlds kept but for some blocks. No condition. -/
import Derived.Test.YtbhhkaaidhapbaaSlLib
import Derived.Test.YtbhhkaaidhapbaaGQ0
namespace Go.Proofs.Ytbhhkaaidhapbaa
open Go.ChangeShapes Go.WideShapes Go.ChangeAt Go.RowKit Go.Sort
set_option linter.unusedSimpArgs false
set_option linter.unusedVariables false
theorem own_keptJ {S : Nat → Prop} {w w' : World} {base : Nat} {e : TypeId} {size n : Nat} {v : Value} {xs : List Value} (h : w.ownsRow base e size v n xs) (hk : Kept S w w') (hv : ∀ g, v.ownBlock = some g → ¬ S g) : w'.ownsRow base e size v n xs := by
  refine ⟨h.1, ?_⟩
  rcases h.2 with hn | ⟨g, cap, cur, rfl, hb, hgg, rest⟩
  · exact .inl hn
  · refine .inr ⟨g, cap, cur, rfl, hb, ?_, rest⟩
    rw [hk.block g (Array.getElem?_eq_some_iff.1 hgg).1 (hv g rfl)]
    exact hgg
theorem below_keptJ {S : Nat → Prop} {B : Nat} {w w1 w2 : World} (hb : Below B w w1) (hB : B ≤ w.heap.size) (hk : Kept S w1 w2) (hS : ∀ k, S k → B ≤ k) : Below B w w2 :=
  ⟨hk.os.trans hb.os, hk.tape.trans hb.tape, hk.output.trans hb.output, Nat.le_trans hb.size hk.size, fun k hkB => (hk.block k (by have := hb.size; omega) (fun h => by have := hS k h; omega)).trans (hb.block k hkB)⟩
theorem own_posJ {w : World} {base : Nat} {e : TypeId} {size n : Nat} {v : Value} {xs : List Value} (h : w.ownsRow base e size v n xs) (hn : 0 < n) : ∃ g c, v = .slice (some ⟨g, 0, none⟩) n c ∧ n ≤ c := by
  rcases h.2 with ⟨rfl, rfl⟩ | ⟨g', cap, cur, rfl, _, _, hc, _⟩
  · omega
  · exact ⟨_, _, rfl, hc⟩
theorem own_belowK {w w' : World} {base : Nat} {e : TypeId} {size n : Nat} {v : Value} {xs : List Value} (h : w.ownsRow base e size v n xs) (hb : Below w.heap.size w w') : w'.ownsRow base e size v n xs :=
  own_keptJ h (S := fun _ => False) (Kept.of_below hb) (fun _ _ f => f)
theorem Sl.keptJ {S : Nat → Prop} {w w' : World} {k n c : Nat} {A : Option Addr} {xs : List Value} (h : Sl w w.heap.size k A n c xs) (hk : Kept S w w') (ho : 0 < n → ∀ ad, A = some ad → ¬ S ad.block) : Sl w' w'.heap.size k A n c xs :=
  ⟨⟨h.lst.len, fun hn => by
    obtain ⟨ad, e, hb, hc⟩ := h.lst.at_ hn
    exact ⟨ad, e, Nat.lt_of_lt_of_le hb hk.size, fun j u hu => (World.cell?_of_block (by rw [add_block]; exact hk.block _ hb (ho hn ad e))).trans (hc j u hu)⟩⟩, h.cap, h.max, h.nil⟩
theorem Sl.off_newJ {w : World} {B k n c : Nat} {A : Option Addr} {xs : List Value} (h : Sl w B k A n c xs) (hn : 0 < n) {ad : Addr} (e : A = some ad) : ad.block < B := by
  obtain ⟨ad', e', hb, _⟩ := h.lst.at_ hn
  rw [e] at e'; simp only [Option.some.injEq] at e'; subst e'; exact hb
end Go.Proofs.Ytbhhkaaidhapbaa
