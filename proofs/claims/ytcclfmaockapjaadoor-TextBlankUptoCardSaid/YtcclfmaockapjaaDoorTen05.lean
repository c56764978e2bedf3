
/- From a row's list of package-level variables to the facts that the walks want. -/
import Derived.Test.YtcclfmaockapjaaDoorTie
import Derived.Test.YtcclfmaockapjaaDoorCards
import Derived.Test.YtcclfmaockapjaaDoorSmall05
import Derived.Test.YtcclfmaockapjaaDoorWOpen
import Derived.LaidMore
import Derived.LaidSub
import Derived.Stop.Joined
import Derived.SevenTiedAt
namespace Go.Proofs.YtcclfmaockapjaaDoor
open Go.ChangeShapes Go.WideShapes Go.ChangeAt Go.RowKit Go.Sort
set_option linter.unusedSimpArgs false
set_option linter.unusedVariables false

theorem ten_max {W : World} (h : laidMetH Tryd.prog Rows.textBackRow.laid W) (hs : W.ShapedOpen Tryd.prog) : TenTab W ∧ MaxAt W := by
  refine ⟨?_, max_of_shaped hs⟩
  have h1 := laidMetH.filter (fun x => x.1 == "internal/strconv.uint64pow10") h
  rw [MakeChecks.laidMetH_plain _ _ _ (by kernel_rfl)] at h1
  have h2 : laidMet Tryd.prog [("internal/strconv.uint64pow10", Lib.tabData .u64 Lib.pow10Tab)] W := h1
  exact Lib.tabIs_of_head (g := 3) (t := 119) (e := 109) (n := 20) (by kernel_rfl) (by kernel_rfl) Tryd.underlying119 Tryd.underlying109 (by kernel_rfl) (by kernel_rfl) h2
end Go.Proofs.YtcclfmaockapjaaDoor
