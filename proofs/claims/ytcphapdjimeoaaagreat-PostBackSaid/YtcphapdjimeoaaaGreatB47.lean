/- The laws of chapter 18 that read, at the landed package: their walks. -/
import Derived.Test.YtcphapdjimeoaaaGreatB24
import Derived.Test.YtcphapdjimeoaaaGreatB26
import Derived.Test.YtcphapdjimeoaaaGreatB29
import Derived.Test.YtcphapdjimeoaaaGreatB45
import Derived.Test.YtcphapdjimeoaaaGreatB46
import Derived.OpenShut
namespace Go.Proofs.YtcphapdjimeoaaaGreat
open Go.RowKit Go.WideMaps Num Pst

theorem postReads_walk (size bound : Int) (A : Option Addr) (n c : Nat) (b : List UInt8) (w : World) (hs : (Lit.int .i64 size).wf = true) (hb : (Lit.int .i64 bound).wf = true) (hn : n ≤ c) (hc : c ≤ maxLen) (h : Bytes w w.heap.size A n b) : Calls Tryz.prog 3 #[.int .i64 size, .int .i64 bound, .slice A n c] w fun e w' => e = .returned (.bool true) ∧ Below w.heap.size w w' :=
  postReads_walk0 size bound A n c b w (pBuildC_any w) (pReadC_any w) (d16C_any w) (isI64_of hs) (isI64_of hb) hn hc h
theorem postBack_walk (size bound : Int) (m : IxV) (A : Option Addr) (n c : Nat) (b : List UInt8) (w : World) (hs : (Lit.int .i64 size).wf = true) (hb : (Lit.int .i64 bound).wf = true) (hm : m.lies w) (hn : n ≤ c) (hc : c ≤ maxLen) (h : Bytes w w.heap.size A n b) : Calls Tryz.prog 4 #[.int .i64 size, .int .i64 bound, .agg #[.slice m.a1 m.n1 m.c1, .slice m.a2 m.n2 m.c2], .slice A n c] w fun e w' => e = .returned (.bool true) ∧ Below w.heap.size w w' :=
  postBack_walk0 size bound m A n c b w (pBuildC_any w) (pBytesC_any w) (pReadC_any w) (isI64_of hs) (isI64_of hb) hm hn hc h
end Go.Proofs.YtcphapdjimeoaaaGreat

