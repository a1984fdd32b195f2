import Derived.Test.YtgfafbanahiigaaGreatVC
import Derived.Test.YtgfafbanahiigaaGreatM9
import Derived.Lib.ConvBytes
import Derived.Test.YtgfafbanahiigaaGreatW8
set_option linter.unusedVariables false
set_option linter.unusedSimpArgs false
namespace Go.Proofs.YtgfafbanahiigaaGreat
open Go.RowKit Go.Chorus
end Go.Proofs.YtgfafbanahiigaaGreat
set_option linter.unusedVariables false
set_option linter.unusedSimpArgs false
namespace Go.Proofs.YtgfafbanahiigaaGreat
open Go.RowKit Go.Chorus
end Go.Proofs.YtgfafbanahiigaaGreat
