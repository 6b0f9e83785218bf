/- The law MatMakes at the landed matrices: its walk, its contracts filled in. -/
import Derived.Test.YtedkajpodepkiaaMatMakes
import Derived.Test.YtedkajpodepkiaaMatPCauchy
import Derived.Test.YtedkajpodepkiaaMatPIdentity
namespace Go.Proofs.Ytedkajpodepkiaa
open Go.RowKit

theorem matMakes_walk (n k m : Int) (w : World) (_ : (Lit.int .i64 n).wf = true) (_ : (Lit.int .i64 k).wf = true) (_ : (Lit.int .i64 m).wf = true) :
    Calls Try.prog 4 #[.int .i64 n, .int .i64 k, .int .i64 m] w fun e w' => e = .returned (.bool true) ∧ Below w.heap.size w w' := matMakes_walk0 n k m w (fun k m W _ => matCauchy_any k m W) (fun n W _ => matIdentity_any n W)
end Go.Proofs.Ytedkajpodepkiaa
