/- The document's functions of chapter 17: Weight, Check, Great, Same. -/
import Derived.Test.YtcphapdjimeoaaaGreatB02
import Derived.Test.YtcphapdjimeoaaaGreatB13
import Derived.BigQuiet
import Derived.OwnWalk
namespace Go.Proofs.YtcphapdjimeoaaaGreat
open Go.RowKit Rcs

attribute [local go_sem ↓] run_txtAt run_txtLen run_txtCut
end Go.Proofs.YtcphapdjimeoaaaGreat

