/- Layer 3's small case comes out right. No condition. -/
import Derived.Test.YtalneihabdgafabCheck
namespace Go.Proofs.Ytalneihabdgafab
open Go.ChangeShapes Go.WideShapes Go.ChangeAt Go.RowKit Go.Sort
set_option linter.unusedSimpArgs false
set_option linter.unusedVariables false

set_option maxRecDepth 100000 in
theorem small03 (w : World) :
    Calls Try.prog 6 #[] w fun e w' => e = .returned (.bool true) ∧ Below w.heap.size w w' := by
  go_enter Try.func6, Try.ntmps6
  go_wp2_with fail
  ((with_reducible refine Calls.mono (contact_is true (by decide +kernel) _) ?_); rintro e w1 ⟨rfl, hB⟩; obtain ⟨hc, hf⟩ := bcell hB)
  go_wp2_with (first
    | (go_at_call 8; (with_reducible refine Calls.mono (contact_is true (by decide +kernel) _) ?_); rintro e w1 ⟨rfl, hb⟩; replace hB := hB.trans (hb.mono hB.size); clear hb hc hf; obtain ⟨hc, hf⟩ := bcell hB)
    | (go_at_call 8; (with_reducible refine Calls.mono (contact_is false (by decide +kernel) _) ?_); rintro e w1 ⟨rfl, hb⟩; replace hB := hB.trans (hb.mono hB.size); clear hb hc hf; obtain ⟨hc, hf⟩ := bcell hB)
    | (go_at_call 7; (with_reducible refine Calls.mono (volume_is 30 (by decide +kernel) _) ?_); rintro e w1 ⟨rfl, hb⟩; replace hB := hB.trans (hb.mono hB.size); clear hb hc hf; obtain ⟨hc, hf⟩ := bcell hB)
    | (go_at_call 7; (with_reducible refine Calls.mono (volume_is 0 (by decide +kernel) _) ?_); rintro e w1 ⟨rfl, hb⟩; replace hB := hB.trans (hb.mono hB.size); clear hb hc hf; obtain ⟨hc, hf⟩ := bcell hB)
    | (go_at_call 9; (with_reducible refine Calls.mono (range_is true (by decide +kernel) _) ?_); rintro e w1 ⟨rfl, hb⟩; replace hB := hB.trans (hb.mono hB.size); clear hb hc hf; obtain ⟨hc, hf⟩ := bcell hB)
    | (go_at_call 9; (with_reducible refine Calls.mono (range_is false (by decide +kernel) _) ?_); rintro e w1 ⟨rfl, hb⟩; replace hB := hB.trans (hb.mono hB.size); clear hb hc hf; obtain ⟨hc, hf⟩ := bcell hB)
    | (go_at_call 10; (with_reducible refine Calls.mono (bundle_is true (by decide +kernel) _) ?_); rintro e w1 ⟨rfl, hb⟩; replace hB := hB.trans (hb.mono hB.size); clear hb hc hf; obtain ⟨hc, hf⟩ := bcell hB)
    | (go_at_call 10; (with_reducible refine Calls.mono (bundle_is false (by decide +kernel) _) ?_); rintro e w1 ⟨rfl, hb⟩; replace hB := hB.trans (hb.mono hB.size); clear hb hc hf; obtain ⟨hc, hf⟩ := bcell hB)
    | (go_at_call 11; (with_reducible refine Calls.mono (node_is true (by decide +kernel) _) ?_); rintro e w1 ⟨rfl, rfl⟩)
    | (go_at_call 11; (with_reducible refine Calls.mono (node_is false (by decide +kernel) _) ?_); rintro e w1 ⟨rfl, rfl⟩))
  go_ret
  exact ⟨rfl, by (repeat (first | exact Below.refl _ _ | exact hB | refine Below.alloc ?_ (by first | omega | (simp; done) | (simp; omega)) _ | refine Below.setCell ?_ (by first | omega | (simp; done) | (simp; omega)) _ | refine Below.drew ?_ | refine Below.trans ?_ (hB.mono (by first | omega | (simp; done) | (simp; omega)))))⟩

end Go.Proofs.Ytalneihabdgafab
