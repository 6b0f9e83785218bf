/- The laws of chapter 15 at the landed package: their walks. -/
import Derived.Test.YtnkiopfpcddliaaWrdC
import Derived.Test.YtnkiopfpcddliaaWrdLaw3
import Derived.Test.YtnkiopfpcddliaaWrdLaw4
import Derived.Test.YtnkiopfpcddliaaWrdLaw5
import Derived.Test.YtnkiopfpcddliaaRecVal
import Derived.OpenShut
namespace Go.Proofs.Ytnkiopfpcddliaa
open Go.RowKit Go.WideMaps Wrd

theorem wordsFinds_walk (s : ByteArray) (w : World) : Calls Try.prog 3 #[.string s] w fun e w' => e = .returned (.bool true) ∧ Below w.heap.size w w' := by
  obtain ⟨l, rfl⟩ := txt_of s
  exact wordsFinds_walk0 l w (wWordsC_any w)
theorem wordsOne_walk (s : ByteArray) (w : World) (hs : s.size ≤ maxLen) : Calls Try.prog 4 #[.string s] w fun e w' => e = .returned (.bool true) ∧ Below w.heap.size w w' := by
  obtain ⟨l, rfl⟩ := txt_of s
  exact wordsOne_walk0 l w (wWordsC_any w) (wOneC_any w) (wTermC_any w) (by rw [txt_size] at hs; exact hs)
theorem wordsTerms_walk (r : RecV) (w : World) (_ : r.ok) : Calls Try.prog 5 #[.agg #[.int .u64 r.time, .int .u8 r.lv, .string ⟨r.src.toArray⟩, .string ⟨r.text.toArray⟩]] w fun e w' => e = .returned (.bool true) ∧ Below w.heap.size w w' :=
  wordsTerms_walk0 r.time r.lv r.src r.text w (wWordsC_any w) (wTermsC_any w)
theorem wordsEach_walk (s : ByteArray) (x : Int) (w : World) (hx : (Lit.int .u16 x).wf = true) : Calls Try.prog 6 #[.string s, .int .u16 x] w fun e w' => e = .returned (.bool true) ∧ Below w.heap.size w w' := by
  obtain ⟨l, rfl⟩ := txt_of s
  obtain ⟨h0, h1⟩ := bounds_u16 hx
  exact wordsEach_walk0 l x w (wWordsC_any w) (wOneC_any w) (wTermC_any w) (by omega) (by omega)
theorem wordsCase_walk (s : ByteArray) (A : Option Addr) (n c : Nat) (L : List Bool) (w : World) (hn : n ≤ c) (hc : c ≤ maxLen) (h : BoolRow w w.heap.size A n L) : Calls Try.prog 7 #[.string s, .slice A n c] w fun e w' => e = .returned (.bool true) ∧ Below w.heap.size w w' := by
  obtain ⟨l, rfl⟩ := txt_of s
  exact wordsCase_walk0 l A n c L w (wWordsC_any w) hn hc h
theorem wordsJoin_walk (s : ByteArray) (x : Int) (t : ByteArray) (w : World) (hx : (Lit.int .u8 x).wf = true) : Calls Try.prog 8 #[.string s, .int .u8 x, .string t] w fun e w' => e = .returned (.bool true) ∧ Below w.heap.size w w' := by
  obtain ⟨l, rfl⟩ := txt_of s
  obtain ⟨k, rfl⟩ := txt_of t
  obtain ⟨h0, h1⟩ := bounds_u8 hx
  obtain ⟨z, rfl⟩ := Int.eq_ofNat_of_zero_le h0
  have e8 : ((UInt8.ofNat z).toNat : Int) = (z : Int) := by rw [UInt8.toNat_ofNat']; omega
  rw [← e8]
  exact wordsJoin_walk0 l _ k w (wWordsC_any w)
theorem wordsHas_walk (r : RecV) (s : ByteArray) (w : World) (_ : r.ok) : Calls Try.prog 9 #[.agg #[.int .u64 r.time, .int .u8 r.lv, .string ⟨r.src.toArray⟩, .string ⟨r.text.toArray⟩], .string s] w fun e w' => e = .returned (.bool true) ∧ Below w.heap.size w w' := by
  obtain ⟨l, rfl⟩ := txt_of s
  exact wordsHas_walk0 r.time r.lv r.src r.text l w (wWordsC_any w) (wTermC_any w) (wTermsC_any w)
end Go.Proofs.Ytnkiopfpcddliaa
