/- The contract of the document's Text; append of a string's bytes. -/
import Derived.Test.YtgnmdpklkmlpfaaNumRef2
namespace Go.Proofs.Ytgnmdpklkmlpfaa
open Go.RowKit

theorem strCells_bytes (s : ByteArray) : Lib.strCells s = s.data.toList.map byteV := rfl
/-- append of a string's bytes to bytes of the call's own. -/
theorem wpList_appS {ops : Array Oper} {rest : List Oper} {o : Oper} {a : Act} {Q : Exit → Act → World → Prop} {w : World} (hgd : o.guard = none) (s x : Operand) (ho : o.op = .call { callee := .builtin .append, args := #[s, x], argTypes := #[24, 9] })
    {base : Nat} {v : Value} {l : List UInt8} (hs : a.eval s = v) (hown : OwnB w base v l) {b : ByteArray} (hx : a.eval x = .string b) (hlen : l.length + b.size ≤ 140737488355328) (hbase : base ≤ w.heap.size)
    (h : ∀ v' w', OwnB w' base v' (l ++ b.data.toList) → w.grownBy w' v.ownBlock → wpList Try.prog ops Q rest (a.put o.dst v') w') : wpList Try.prog ops Q (o :: rest) a w := by
  obtain ⟨i, hi, hz, hsz, hby⟩ := info_parts byte_info
  refine Lib.wpList_append_own_string _ hgd s x 24 9 ho base 5 i Try.underlying24 Try.underlying9 hi hz hsz hby v l.length (l.map byteV) hs hown b hx (by unfold maxLen; omega) (by omega) hbase ?_
  intro v' w' h2 h3 _
  refine h v' w' ?_ h3
  unfold OwnB
  rw [List.length_append, List.map_append]
  exact h2

theorem refText_any (s : ByteArray) (w : World) (hs : s.size ≤ 1000000) : Calls Try.prog 17 #[.string s] w (MadeB w (Num.enc s.size ++ s.data.toList)) := by
  have hw : IntKind.u64.wrap (s.size : Int) = (s.size : Int) := by rw [IntKind.wrap_u64]; omega
  have hl := Num.enc_len s.size
  have hfit : (Num.enc s.size).length + s.size ≤ 140737488355328 := by omega
  have CN := refNum_any s.size w (by omega)
  generalize Num.enc s.size = E at *
  go_enter Try.func17, Try.ntmps17
  go_wp2_with (first
    | (go_at_call 15; refine CN.mono ?_; rintro e w2 ⟨v2, rfl, hO2, hE2⟩)
    | (at_builtin; refine wpList_appS rfl (.tmp 6) (.tmp 7) rfl rfl hO2 rfl hfit hE2.le ?_; intro v3 w3 hO3 hG3))
  go_ret
  exact ⟨v3, rfl, hO3, hO2.below hE2 hG3 hE2.le⟩
end Go.Proofs.Ytgnmdpklkmlpfaa
