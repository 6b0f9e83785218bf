/- The beginning of a slice of bytes; numbers of 64 bits. -/
import Derived.Test.YtlhncfjeleibmaaMod
import Derived.OpenShut
namespace Go.Proofs.Ytlhncfjeleibmaa
open Go.RowKit

/-- A number of 64 bits. -/
def IsI64 (x : Int) : Prop := -9223372036854775808 ≤ x ∧ x ≤ 9223372036854775807
open Go.WideMaps in
theorem isI64_of {x : Int} (h : (Lit.int .i64 x).wf = true) : IsI64 x := by
  have := bounds_i64 h
  unfold IsI64
  omega
/-- 'b[:n]' of bytes. -/
theorem run_headB (W : World) (a : Option Addr) (n c : Nat) (k : IntKind) (h : Int) (h0 : 0 ≤ h) (h1 : h ≤ c) :
    (Instr.slice 33 (.slice a n c) none (some (.int k h)) none).run Try.prog W = .ok (.slice (cutAt a c 0) h.toNat c) W := by
  rw [run_slice_h (P := Try.prog) (w := W) 33 a n c (by kernel_rfl) k h h0 h1]
  have hs : (sizeOf (Try.prog.elem 33)).run Try.prog W = .ok 1 W := by kernel_rfl
  rw [hs]
  simp [Result.andThen, sliced, cutAt]
theorem Ef.bytes_take {w : World} {B n k : Nat} {A : Option Addr} {l : List UInt8} (h : Bytes w B A n l) (hk : k ≤ n) : Bytes w B A k (l.take k) := by
  refine ⟨by rw [List.length_take, h.1]; omega, ?_⟩
  rcases h.2 with h0 | ⟨b, off, rfl, hB, hc⟩
  · exact .inl (by omega)
  · refine .inr ⟨b, off, rfl, hB, fun i hi => ?_⟩
    have := hc i (by omega)
    rw [List.getD_eq_getElem?_getD, List.getElem?_take, if_pos hi, ← List.getD_eq_getElem?_getD]
    exact this
theorem Ef.bytes_head {w : World} {B n c k : Nat} {A : Option Addr} {l : List UInt8} (h : Bytes w B A n l) (hk : k ≤ n) (hc : n ≤ c) : Bytes w B (cutAt A c 0) k (l.take k) := by
  have h1 := bytes_take (h.drop (k := 0) (c := c) (by omega) hc) (k := k) (by omega)
  rwa [List.drop_zero] at h1
end Go.Proofs.Ytlhncfjeleibmaa
