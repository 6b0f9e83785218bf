/- Laws of chapter 18: PostMay. -/
import Derived.Test.YtcphapdjimeoaaaGreatB21
import Derived.Test.YtcphapdjimeoaaaGreatB24
import Derived.Deep.DeepCutAuto
namespace Go.Proofs.YtcphapdjimeoaaaGreat
open Go.RowKit Pst

end Go.Proofs.YtcphapdjimeoaaaGreat

