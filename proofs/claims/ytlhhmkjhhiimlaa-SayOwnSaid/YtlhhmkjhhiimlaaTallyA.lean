
import Derived.Test.YtlhhmkjhhiimlaaRows
import Derived.Test.YtlhhmkjhhiimlaaTally0
import Derived.Test.YtlhhmkjhhiimlaaKit
import Derived.WalkKit
import Derived.WalkLawsBesides
import Derived.WalkSpells
import Derived.Outline
import Derived.Lib.Hide
namespace Go.Proofs.Ytlhhmkjhhiimlaa
set_option linter.unusedVariables false
open Go.ChangeShapes Go.WideShapes Go.RowKit

end Go.Proofs.Ytlhhmkjhhiimlaa
