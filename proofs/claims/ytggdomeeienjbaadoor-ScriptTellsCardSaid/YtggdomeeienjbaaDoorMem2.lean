
/- New blocks, read behind what a callee made. No condition. -/
import Derived.Test.YtggdomeeienjbaaDoorApp
namespace Go.Proofs.YtggdomeeienjbaaDoor
open Go.ChangeShapes Go.WideShapes Go.ChangeAt Go.RowKit Go.Sort
set_option linter.unusedSimpArgs false
set_option linter.unusedVariables false
theorem Blok.new (w : World) (t : TypeId) (cs : Array Value) : Blok (w.alloc (.cells cs t)) w.heap.size t cs := heap_alloc_new w _
theorem Blok.set_ {w : World} {g : Nat} {t : TypeId} {cs : Array Value} (h : Blok w g t cs) (i : Nat) (u : Value) : Blok (w.setCell ⟨g, i, none⟩ u) g t (cs.setIfInBounds i u) := by
  unfold Blok at h ⊢
  simp [World.setCell, Array.getElem?_modify, h]
theorem Blok.far {w : World} {g : Nat} {t : TypeId} {cs : Array Value} (h : Blok w g t cs) {p : Addr} (hp : g ≠ p.block) (u : Value) : Blok (w.setCell p u) g t cs := (Below.heap_setCell w p u g hp).trans h
theorem Blok.alloc {w : World} {g : Nat} {t : TypeId} {cs : Array Value} (h : Blok w g t cs) (o : Obj) : Blok (w.alloc o) g t cs := (Below.heap_alloc w o g h.lt).trans h
theorem Blok.kept {S : Nat → Prop} {w w' : World} {g : Nat} {t : TypeId} {cs : Array Value} (h : Blok w g t cs) (k : Kept S w w') (hn : ¬ S g) : Blok w' g t cs := k.blok h hn
end Go.Proofs.YtggdomeeienjbaaDoor
