
/- What is left of a plain region, in one quiet walk. No condition. -/
import Derived.Test.YtkdfloeglknmnaaDoorForced
namespace Go.Proofs.YtkdfloeglknmnaaDoor
open Go.Sort Go.RowKit
set_option linter.unusedSimpArgs false
set_option linter.unusedVariables false
section
variable {P : Program} {ops : Array Oper} {C : World → Prop} {Q : Exit → Act → World → Prop} {Lq : Act → Prop}
theorem wpList_quiet : ∀ (l : List Oper) (a : Act) (w : World), C w → wpQuiet P ops C Lq l a → (∀ a' w', C w' → Lq a' → Q .normal a' w') → wpList P ops Q l a w
  | [], a, w, hC, h, hL => hL a w hC h
  | o :: l, a, w, hC, h, hL => by
    unfold wpList
    unfold wpQuiet at h
    split
    · rename_i hw
      simp only [hw, if_true] at h
      exact .inl (Oper.wp_of_quiet hC (fun a' w' hC' h' => wpList_quiet l a' w' hC' h' hL) h)
    · rename_i hw
      simp only [hw] at h
      exact wpList_quiet l _ w hC h hL
theorem wpList_quietN {l : List Oper} {a : Act} {w : World} (h : wpQuiet P ops (fun w' => ∃ p : Regrown, w' = grow (redrawn w p.d) p.os) (fun a' => ∀ w', (∃ p : Regrown, w' = grow (redrawn w p.d) p.os) → Q .normal a' w') l a) : wpList P ops Q l a w :=
  wpList_quiet (C := fun w' => ∃ p : Regrown, w' = grow (redrawn w p.d) p.os) l a w ⟨⟨w.drawn, #[]⟩, by rw [grow_empty]; rfl⟩ h (fun a' w' hC hL => hL w' hC)
end
end Go.Proofs.YtkdfloeglknmnaaDoor
