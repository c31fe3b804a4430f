/- LtM: merged. -/
import Derived.Test.YtkkfkmoikcmhoaaGreatQaa
set_option linter.unusedVariables false
set_option linter.unusedSimpArgs false
namespace Go.Proofs.YtkkfkmoikcmhoaaGreat.Lzt
structure Tok where
 lit : UInt8
 len : Int
 dist : Int
end Go.Proofs.YtkkfkmoikcmhoaaGreat.Lzt
