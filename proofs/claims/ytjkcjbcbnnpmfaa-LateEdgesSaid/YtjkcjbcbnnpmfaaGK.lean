/- Several texts of mine in one: Ref15d, Ref15e. No condition. -/
import Derived.Test.YtjkcjbcbnnpmfaaRef15c
import Derived.Test.YtjkcjbcbnnpmfaaGE

/- The document's own earliest times: Times, Reaches. They make new memory alone. -/
namespace Go.Proofs.Ytjkcjbcbnnpmfaa
open Go.ChangeShapes Go.WideShapes Go.ChangeAt Go.RowKit Go.Sort Hp
set_option linter.unusedSimpArgs false
set_option linter.unusedVariables false
theorem infoI15 : (Try.prog.info? 3).map (fun i => (i.zero, i.size, i.bytes)) = some (some (.int .i64 0), 1, 8) := by kernel_rfl
theorem ints_one15 (l : List Int) : ∀ u ∈ l.map (Value.int .i64), u.oneCell' = true := by
  intro u hu
  obtain ⟨x, _, rfl⟩ := List.mem_map.1 hu
  rfl
/-- Nodes to which no edge is taken. -/
def shutE (sh : List Int) (q : Int) : Int → Bool := fun y => (sh ++ [q]).contains y
theorem rnds_next {size : Int} {no : Int → Bool} {l : List Ed} {k : Nat} {T : Int → Option Int} : rndsE size no l (k + 1) T = rndE size no l (rndsE size no l k T) := rfl
theorem atR_one (q now : Int) : atR [(q, now)] = oneT q now := by
  funext n
  rw [atR_cons, atR_nil]
  unfold oneT
  by_cases e : q = n
  · rw [if_pos e, if_pos e.symm]
  · rw [if_neg e, if_neg (fun h => e h.symm)]
/-- The times: none, if it is not right to ask, else the earliest ones, by rising nodes. -/
structure IsTimes (l : List Ed) (q now size : Int) (sh : List Int) (r : List (Int × Int)) : Prop where
  srt : Srt r
  no : askE l q now size = false → r = []
  yes : askE l q now size = true → Early l size (shutE sh q) q now (atR r)
theorem IsTimes.one {l : List Ed} {q now size : Int} {sh : List Int} {r r' : List (Int × Int)} (h : IsTimes l q now size sh r) (h' : IsTimes l q now size sh r') : r = r' := by
  cases ha : askE l q now size with
  | false => rw [h.no ha, h'.no ha]
  | true => exact Srt.ext h.srt h'.srt fun n => congrFun ((h.yes ha).one (h'.yes ha)) n
end Go.Proofs.Ytjkcjbcbnnpmfaa

/- The document's own earliest times: Reaches. It makes new memory alone. -/
namespace Go.Proofs.Ytjkcjbcbnnpmfaa
open Go.ChangeShapes Go.WideShapes Go.ChangeAt Go.RowKit Go.Sort Hp
set_option linter.unusedSimpArgs false
set_option linter.unusedVariables false
/-- Is there a time of that node, of by at the most? -/
def reachB (r : List (Int × Int)) (t b : Int) : Bool := match atR r t with | none => false | some u => decide (u ≤ b)
end Go.Proofs.Ytjkcjbcbnnpmfaa
