/- The laws of chapter 10 at the landed package: their walks. -/
import Derived.Test.YtklofjgfecpkiaaLzPFind
import Derived.Test.YtklofjgfecpkiaaLzPPlay
import Derived.Test.YtklofjgfecpkiaaLzLaw2
import Derived.Test.YtklofjgfecpkiaaTokOne
import Derived.OpenShut
namespace Go.Proofs.Ytklofjgfecpkiaa
open Go.RowKit Go.WideMaps Lz

theorem lzFindC (w : World) : FindC w := fun b A n c W _ hnc _ hn hB => lzFind_any A n c b W hn hnc hB
theorem lzPlayC (w : World) : PlayC w := fun L most A n c W _ _ _ hn hT h0 h1 => lzPlay_any A n c L most W hn h0 h1 hT
theorem lzTMayC (w : World) : TMayC w := fun t W _ _ => lzMay_any t W
theorem lzFinds_walk (A : Option Addr) (n c : Nat) (b : List UInt8) (w : World) (hn : n ≤ c) (hc : c ≤ maxLen) (hB : Bytes w w.heap.size A n b) : Calls Try.prog 3 #[.slice A n c] w fun e w' => e = .returned (.bool true) ∧ Below w.heap.size w w' := lzFinds_walk0 A n c b w (lzFindC w) hn hc hB
theorem lzPlays_walk (A : Option Addr) (n c : Nat) (L : List TokV) (most : Int) (w : World) (hn : n ≤ c) (hc : c ≤ maxLen) (hT : ToksAt w w.heap.size A n L) (hm : (Lit.int .i64 most).wf = true) : Calls Try.prog 5 #[.slice A n c, .int .i64 most] w fun e w' => e = .returned (.bool true) ∧ Below w.heap.size w w' := by
  obtain ⟨h0, h1⟩ := bounds_i64 hm
  exact lzPlays_walk0 most A n c L w (lzFindC w) (lzPlayC w) hn hc hT h0 h1
theorem lzBack_walk (A : Option Addr) (n c : Nat) (b : List UInt8) (m : Int) (w : World) (hn : n ≤ c) (hc : c ≤ maxLen) (hB : Bytes w w.heap.size A n b) (hm : (Lit.int .u16 m).wf = true) : Calls Try.prog 4 #[.slice A n c, .int .u16 m] w fun e w' => e = .returned (.bool true) ∧ Below w.heap.size w w' := by
  obtain ⟨h0, h1⟩ := bounds_u16 hm
  obtain ⟨m, rfl⟩ := Int.eq_ofNat_of_zero_le h0
  exact lzBack_walk0 m A n c b w (lzFindC w) (lzPlayC w) (by omega) hn hc hB
theorem lzMay_walk (t : TokV) (A : Option Addr) (n c : Nat) (b : List UInt8) (w : World) (ht : t.ok) (hn : n ≤ c) (hc : c ≤ maxLen) (hB : Bytes w w.heap.size A n b) : Calls Try.prog 6 #[.agg #[.int .u8 (t.lit.toNat : Int), .int .i64 t.len, .int .i64 t.dist], .slice A n c] w fun e w' => e = .returned (.bool true) ∧ Below w.heap.size w w' := lzMay_walk0 t A n c b w (lzFindC w) (lzTMayC w) ht hn hc hB
end Go.Proofs.Ytklofjgfecpkiaa
