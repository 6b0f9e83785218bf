/- The laws of chapter 18 at the landed package: their walks (but for those that read). -/
import Derived.Test.YtcphapdjimeoaaaB13
import Derived.Test.YtcphapdjimeoaaaB25
import Derived.Test.YtcphapdjimeoaaaB27
import Derived.Test.YtcphapdjimeoaaaB34
import Derived.Test.YtcphapdjimeoaaaB36
import Derived.OpenShut
namespace Go.Proofs.Ytcphapdjimeoaaa
open Go.RowKit Go.WideMaps Num Pst

theorem postBuilds_walk (A : Option Addr) (n c : Nat) (l : List Rc) (w : World) (hn : n ≤ c) (hc : c ≤ maxLen) (h : RcsAt w w.heap.size A n l) : Calls Try.prog 3 #[.slice A n c] w fun e w' => e = .returned (.bool true) ∧ Below w.heap.size w w' :=
  postBuilds_walk0 A n c l w (pBuildC_any w) hn hc h
theorem postHas_walk (A : Option Addr) (n c : Nat) (l : List Rc) (s : ByteArray) (x : Int) (w : World) (hn : n ≤ c) (hc : c ≤ maxLen) (h : RcsAt w w.heap.size A n l) (hx : (Lit.int .u16 x).wf = true) : Calls Try.prog 4 #[.slice A n c, .string s, .int .u16 x] w fun e w' => e = .returned (.bool true) ∧ Below w.heap.size w w' := by
  obtain ⟨h0, h1⟩ := bounds_u16 hx
  obtain ⟨z, rfl⟩ := Int.eq_ofNat_of_zero_le h0
  have := postHas_walk0 A n c l s.data.toList z w (pBuildC_any w) (pMayC_any w) (pTermsC_any w) (by omega) hn hc h
  rwa [Array.toArray_toList] at this
theorem postMay_walk (bound : Int) (m m2 : IxV) (w : World) (hb : (Lit.int .i64 bound).wf = true) (h : m.lies w) (h2 : m2.lies w) : Calls Try.prog 5 #[.int .i64 bound, .agg #[.slice m.a1 m.n1 m.c1, .slice m.a2 m.n2 m.c2], .agg #[.slice m2.a1 m2.n1 m2.c1, .slice m2.a2 m2.n2 m2.c2]] w fun e w' => e = .returned (.bool true) ∧ Below w.heap.size w w' :=
  postMay_walk0 bound m m2 w (pBuildC_any w) (pMayC_any w) (pSameC_any w) (isI64_of hb) h h2
theorem postBytes_walk (size bound : Int) (m : IxV) (w : World) (hs : (Lit.int .i64 size).wf = true) (hb : (Lit.int .i64 bound).wf = true) (h : m.lies w) : Calls Try.prog 6 #[.int .i64 size, .int .i64 bound, .agg #[.slice m.a1 m.n1 m.c1, .slice m.a2 m.n2 m.c2]] w fun e w' => e = .returned (.bool true) ∧ Below w.heap.size w w' :=
  postBytes_walk0 size bound m w (pBuildC_any w) (pBytesC_any w) (isI64_of hs) (isI64_of hb) h
theorem postMore_walk (A : Option Addr) (n c : Nat) (l : List Rc) (r : RecV) (w : World) (hn : n ≤ c) (hc : c ≤ maxLen) (h : RcsAt w w.heap.size A n l) (hr : r.ok) : Calls Try.prog 7 #[.slice A n c, .agg #[.int .u64 r.time, .int .u8 r.lv, .string ⟨r.src.toArray⟩, .string ⟨r.text.toArray⟩]] w fun e w' => e = .returned (.bool true) ∧ Below w.heap.size w w' := by
  obtain ⟨t, lv, s, x⟩ := r
  obtain ⟨⟨h1, h2⟩, ⟨h3, h4⟩, h5, h6⟩ := hr
  dsimp only at h1 h2 h3 h4 h5 h6 ⊢
  obtain ⟨tn, rfl⟩ := Int.eq_ofNat_of_zero_le h1
  obtain ⟨ln, rfl⟩ := Int.eq_ofNat_of_zero_le h3
  have e : (UInt8.ofNat ln).toNat = ln := by rw [UInt8.toNat_ofNat']; omega
  have := postMore_walk0 A n c l ⟨tn, UInt8.ofNat ln, s, x⟩ w (pBuildC_any w) (pTermsC_any w) hn hc h ⟨by dsimp only; omega, h5, h6⟩
  dsimp only at this
  rw [e] at this
  exact this
end Go.Proofs.Ytcphapdjimeoaaa

