import Derived.Deep.RegionWith
import Derived.BigRegion
import Derived.Deep.DeepCutAuto
import Derived.Test.YtgfafbanahiigaaGreatV1
import Derived.Test.YtgfafbanahiigaaGreatWB
set_option linter.unusedVariables false
set_option linter.unusedSimpArgs false
namespace Go.Proofs.YtgfafbanahiigaaGreat
open Go.RowKit Go.Chorus
end Go.Proofs.YtgfafbanahiigaaGreat
