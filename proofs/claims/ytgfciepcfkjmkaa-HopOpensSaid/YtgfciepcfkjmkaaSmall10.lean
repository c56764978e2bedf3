/- Layer 10's small case comes out right. No condition. -/
import Derived.Test.YtgfciepcfkjmkaaHop
namespace Go.Proofs.Ytgfciepcfkjmkaa
open Go.ChangeShapes Go.WideShapes Go.ChangeAt Go.RowKit Go.Sort
set_option linter.unusedSimpArgs false
set_option linter.unusedVariables false

set_option maxHeartbeats 1000000 in
set_option maxRecDepth 100000 in
theorem small10 (w : World) :
    Calls Try.prog 9 #[] w fun e w' => e = .returned (.bool true) ∧ Below w.heap.size w w' := by
  go_enter Try.func9, Try.ntmps9
  go_wp2_with fail
  ((with_reducible refine Calls.mono (pass_yes (a := 12) (b := 19) (by decide +kernel) _) ?_); rintro e w1 ⟨rfl, hB⟩; obtain ⟨hc, hf⟩ := bcell hB)
  go_wp2_with (first | (go_at_call 10; (with_reducible refine Calls.mono (pass_yes (a := 10) (b :=  23) (by decide +kernel) _) ?_); rintro e w1 ⟨rfl, hb⟩; replace hB := hB.trans (hb.mono hB.size); clear hb hc hf; obtain ⟨hc, hf⟩ := bcell hB) | (go_at_call 10; (with_reducible refine Calls.mono (pass_yes (a := 19) (b :=  23) (by decide +kernel) _) ?_); rintro e w1 ⟨rfl, hb⟩; replace hB := hB.trans (hb.mono hB.size); clear hb hc hf; obtain ⟨hc, hf⟩ := bcell hB) | (go_at_call 10; (with_reducible refine Calls.mono (pass_no (by decide +kernel) _) ?_); rintro e w1 ⟨rfl, hb⟩; replace hB := hB.trans (hb.mono hB.size); clear hb hc hf; obtain ⟨hc, hf⟩ := bcell hB) | (go_at_call 12; (with_reducible refine Calls.mono (latest_yes (t := 17) (by decide +kernel) _) ?_); rintro e w1 ⟨rfl, hb⟩; replace hB := hB.trans (hb.mono hB.size); clear hb hc hf; obtain ⟨hc, hf⟩ := bcell hB) | (go_at_call 12; (with_reducible refine Calls.mono (latest_yes (t := 12) (by decide +kernel) _) ?_); rintro e w1 ⟨rfl, hb⟩; replace hB := hB.trans (hb.mono hB.size); clear hb hc hf; obtain ⟨hc, hf⟩ := bcell hB) | (go_at_call 12; (with_reducible refine Calls.mono (latest_no (by decide +kernel) _) ?_); rintro e w1 ⟨rfl, hb⟩; replace hB := hB.trans (hb.mono hB.size); clear hb hc hf; obtain ⟨hc, hf⟩ := bcell hB) | (go_at_call 16; (with_reducible refine Calls.mono (htakes_is 3 (by decide +kernel) _) ?_); rintro e w1 ⟨rfl, hb⟩; replace hB := hB.trans (hb.mono hB.size); clear hb hc hf; obtain ⟨hc, hf⟩ := bcell hB) | (go_at_call 14; (with_reducible refine Calls.mono (hright_is true (by decide +kernel) _) ?_); rintro e w1 ⟨rfl, hb⟩; replace hB := hB.trans (hb.mono hB.size); clear hb hc hf; obtain ⟨hc, hf⟩ := bcell hB) | (go_at_call 14; (with_reducible refine Calls.mono (hright_is false (by decide +kernel) _) ?_); rintro e w1 ⟨rfl, hb⟩; replace hB := hB.trans (hb.mono hB.size); clear hb hc hf; obtain ⟨hc, hf⟩ := bcell hB))
  go_ret
  exact ⟨rfl, by (repeat (first | exact Below.refl _ _ | exact hB | refine Below.alloc ?_ (by first | omega | (simp; done) | (simp; omega)) _ | refine Below.setCell ?_ (by first | omega | (simp; done) | (simp; omega)) _ | refine Below.drew ?_ | refine Below.trans ?_ (hB.mono (by first | omega | (simp; done) | (simp; omega)))))⟩
end Go.Proofs.Ytgfciepcfkjmkaa
