
/- Contracts of words.Lines and words.Words. They read a variable of the library's, of which it is known that it holds an int. -/
import Derived.Test.YtggdomeeienjbaaDoorWRef
import Derived.Test.YtggdomeeienjbaaDoorShelf
import Derived.Lib.OthersKept
import Derived.WalkSmall
namespace Go.Proofs.YtggdomeeienjbaaDoor
open Go.ChangeShapes Go.WideShapes Go.ChangeAt Go.RowKit Go.Sort
set_option linter.unusedSimpArgs false
set_option linter.unusedVariables false
end Go.Proofs.YtggdomeeienjbaaDoor
