import Derived.Test.YtgfafbanahiigaaGreatInfo
import Derived.Test.YtgfafbanahiigaaGreatM9
import Derived.Test.YtgfafbanahiigaaGreatShelf
import Derived.Laws.MathBits
set_option linter.unusedVariables false
set_option linter.unusedSimpArgs false
namespace Go.Proofs.YtgfafbanahiigaaGreat
open Go.RowKit Go.Chorus
end Go.Proofs.YtgfafbanahiigaaGreat
