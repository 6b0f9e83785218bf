/- The program's Words: the words of a text, kept in a variable of its own. -/
import Derived.Test.YtnkiopfpcddliaaWrdPEach
import Derived.Test.YtnkiopfpcddliaaMod
namespace Go.Proofs.Ytnkiopfpcddliaa
open Go.RowKit Wrd

/-- append of one text, at the operation. -/
theorem wpOper_appTx {o : Oper} {a : Act} {K : Act → World → Prop} {Q : Exit → Act → World → Prop} {w : World} {base : Nat} {v : Value} {L : List (List UInt8)} (s x : Operand) (ho : o.op = .call { callee := .builtin .append, args := #[s, x], argTypes := #[24, 24] }) (hs : a.eval s = v)
    (hown : OwnTx w base v L) {A : Option Addr} {m c : Nat} {k : List (List UInt8)} (hx : a.eval x = .slice A m c) (hI : TextsAt w w.heap.size A m k) (hlen : L.length + m ≤ 2000000) (hbase : base ≤ w.heap.size)
    (h : ∀ v' w', OwnTx w' base v' (L ++ k) → w.grownBy w' v.ownBlock → NewOb w v.ownBlock v'.ownBlock → K (a.put o.dst v') w') : Oper.wp Try.prog o a w K Q := by
  obtain ⟨v', w', hr, h2, h3, h4⟩ := appTx_run o.type hown c hI hlen hbase
  unfold Oper.wp execOp
  simp only [ho, resolve, invoke, builtin, Sem.run_bind, Sem.run_pure, Result.andThen_ok, List.map_toArray, List.map_cons, List.map_nil, hs, hx, hr]
  exact h v' w' h2 h3 h4
/-- The variable in block b holds these texts, which are the call's own; all that was there at w is as it was. -/
def Held (w W : World) (b : Nat) (L : List (List UInt8)) : Prop := ∃ v, Whole W b 24 #[v] ∧ OwnTx W w.heap.size v L ∧ w.heap.size ≤ b ∧ v.ownBlock ≠ some b ∧ Ext w W
theorem Held.ext {w W W' : World} {b : Nat} {L : List (List UInt8)} (h : Held w W b L) (hE : Ext W W') : Held w W' b L := by
  obtain ⟨v, h1, h2, h3, h4, h5⟩ := h
  exact ⟨v, h1.ext hE, h2.ext hE, h3, h4, h5.trans hE⟩
theorem entered_words1 : EnteredF 23 := enteredF_of Try.func23 (by kernel_rfl) rfl

set_option maxHeartbeats 2000000 in
set_option maxRecDepth 10000 in
theorem words1_any {w W : World} {b : Nat} {L : List (List UInt8)} (x : List UInt8) (h : Held w W b L) (hL : L.length ≤ 1000000) :
    Calls Try.prog 23 #[.string ⟨x.toArray⟩, .pointer (some ⟨b, 0, none⟩)] W fun e W' => (∃ v, e = .returned v) ∧ Held w W' b (L ++ [x]) := by
  obtain ⟨v, hW, hO, hb, hne, hE⟩ := h
  have HL := hide hL
  have HB := hide hb
  clear hL hb
  go_enter Try.func23, Try.ntmps23
  have s0 := hW.at 0 (u := v) rfl
  have hEb := extNew W (.cells #[.string ⟨x.toArray⟩] 9)
  have hTb := textsNew W [x] #[.string ⟨x.toArray⟩] 9 (0, 0) rfl 1 rfl
  have HSb := hide (hW.ext hEb)
  have HOb := hide (hO.ext hEb)
  have HE1 := hide (hE.trans hEb)
  have HTb := hide hTb
  have HNe := hide hne
  clear hTb hEb hE hO hW hne
  go_wp2_with (at_builtin; refine wpList_appTx rfl (.tmp 3) (.tmp 5) rfl rfl HOb.out rfl HTb.out (by have := HL.out; omega) HE1.out.le ?_; intro vn wa hOa hG hN; have HWa := hide (HSb.out.ownGrown hG HNe.out); have hc := HWa.out.at 0 (u := v) rfl; have hf := HWa.out.frozen 0; have HOa := hide hOa; have HN := hide hN; have HEa := hide (show Ext w wa from Below.grown HE1.out hG HE1.out.le (fun k hk => (HOb.out.lt k hk).1)); obtain ⟨An, cn, hvn, _, _, _⟩ := hOa.form; obtain ⟨nn, hnn⟩ : ∃ z, z = (L ++ [x]).length := ⟨_, rfl⟩; rw [← hnn] at hvn; have HVn := hide hvn; subst hvn; clear hOa hG hN hnn)
  go_end0
  generalize Value.slice An nn cn = vn at *
  have hnb : vn.ownBlock ≠ some b := by
    intro e
    rcases HN.out with h | ⟨k, h, hk⟩
    · exact HNe.out (h ▸ e)
    · rw [e] at h
      injection h with h
      have := HSb.out.lt
      omega
  have hGs := grown_setCell wa b 0 vn
  refine ⟨⟨_, rfl⟩, vn, HWa.out.set 0 vn, ?_, HB.out, hnb, Below.grown HEa.out hGs HEa.out.le (fun k hk => by cases hk; exact HB.out)⟩
  exact World.ownsRow.kept HOa.out hGs (by
    cases hv : vn.ownBlock with
    | none => exact .inl rfl
    | some k => exact .inr (fun e => hnb (by rw [hv, e])))

attribute [local go_sem ↓] run_txtAt run_txtLen run_txtCut run_txtTop
set_option maxHeartbeats 2000000 in
set_option maxRecDepth 10000 in
theorem pWords_any (l : List UInt8) (w : World) (hl : l.length ≤ 2001) : Calls Try.prog 12 #[.string ⟨l.toArray⟩] w (MadeTx w (wordsE l)) := by
  have C1 : ∀ W, Held w W w.heap.size [] → Calls Try.prog 22 #[.string ⟨l.toArray⟩, .func (.func 23) #[] #[.pointer (some ⟨w.heap.size, 0, none⟩)]] W fun e w' => (∃ v, e = .returned v) ∧ Held w w' w.heap.size ([] ++ wordsE l) :=
    fun W h => each_any entered_words1 (St := fun L W => Held w W w.heap.size L) 2001 (fun pre x W hS hp _ => words1_any x hS (by omega)) (fun _ _ _ h hE => h.ext hE) l [] W (by omega) (by simpa using hl) h
  unfold MadeTx
  simp only [List.nil_append] at C1
  generalize wordsE l = res at *
  have H0 : Held w (w.alloc (.cells #[.slice none 0 0] 24)) w.heap.size [] := ⟨.slice none 0 0, Whole.new w _ _, OwnTx.nil _ _, Nat.le_refl _, by simp [Value.ownBlock], extNew w _⟩
  have CC := C1 _ H0
  clear C1 H0 hl
  go_enter Try.func12, Try.ntmps12
  go_wp2_with fail
  refine CC.mono ?_
  rintro e w2 ⟨⟨v2, rfl⟩, v, hW, hO, _, _, hE⟩
  obtain ⟨A, c, rfl, h1, h2, h3⟩ := hO.form
  have s0 := hW.at 0 (u := .slice A res.length c) rfl
  have HE := hide hE
  have H3 := hide h3
  clear CC hW hO hE h3
  go_wp2
  go_ret
  exact ⟨A, c, rfl, h1, h2, H3.out, HE.out⟩
end Go.Proofs.Ytnkiopfpcddliaa
