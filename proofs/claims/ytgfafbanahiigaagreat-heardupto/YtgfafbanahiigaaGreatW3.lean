import Derived.Test.YtgfafbanahiigaaGreatW2
namespace Go.Proofs.YtgfafbanahiigaaGreat
open Go.RowKit Go.Chorus


end Go.Proofs.YtgfafbanahiigaaGreat
