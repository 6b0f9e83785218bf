/- What the laws of chapter 15 ask of the program: its functions' contracts. -/
import Derived.Test.YtnkiopfpcddliaaWrdPOne
import Derived.Test.YtnkiopfpcddliaaWrdPList
import Derived.Test.YtnkiopfpcddliaaWrdPTerms
import Derived.Test.YtnkiopfpcddliaaWrdLaw
namespace Go.Proofs.Ytnkiopfpcddliaa
open Go.RowKit Wrd

theorem wWordsC_any (w : World) : WWordsC w := fun l W _ hl => pWords_any l W hl
theorem wOneC_any (w : World) : WOneC w := fun l W _ hl => pOne_any l W hl
theorem wTermC_any (w : World) : WTermC w := fun l W _ hl => pTerm_any l W hl
theorem wTermsC_any (w : World) : WTermsC w := fun t lv src text W _ hs ht => pTerms_any t lv src text W hs ht
end Go.Proofs.Ytnkiopfpcddliaa
