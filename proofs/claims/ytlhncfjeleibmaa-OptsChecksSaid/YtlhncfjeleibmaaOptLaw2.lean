/- Laws of chapter 19: OptsChecks, OptsMarks. -/
import Derived.Test.YtlhncfjeleibmaaOptLaw
import Derived.Test.YtlhncfjeleibmaaOptMarked
import Derived.Test.YtlhncfjeleibmaaRegTail
namespace Go.Proofs.Ytlhncfjeleibmaa
open Go.RowKit Opt

theorem exec_loadO {a : Act} {oi : Oper} {W : World} (ty : TypeId) (x : Operand) (ho : oi.op = .load ty x) (b : Nat) (hx : a.eval x = .pointer (some ⟨b, 0, none⟩)) (cs : List Value) {t : TypeId} (hw : Whole W b t cs.toArray) {d : TypeDesc}
    (hu : Try.prog.underlying ty = some d) (hd : d.isRow = true) (hi : (Try.prog.info? ty).map (·.size) = some cs.length) : (execOp a.eval oi).run Try.prog W = .ok (.value (.agg cs.toArray)) W := by
  have hc : W.rangeAt b 0 cs := fun j v hv => by
    rw [Nat.zero_add]
    exact hw.at j (by simpa using hv)
  unfold execOp
  simp only [ho, hx, Instr.loadAt, Instr.sureAddr, Sem.run_bind, Sem.run_pure, Result.andThen_ok, run_loadVar_mid W b 0 ty cs d hc hu hd hi]
theorem opt_size : (Try.prog.info? 23).map (·.size) = some 6 := by kernel_rfl

set_option maxHeartbeats 2000000 in
set_option maxRecDepth 100000 in
theorem optsChecks_walk (v : Int) (o : OptV) (w : World) (_ : (Lit.int .i64 v).wf = true) (ho : o.ok) : Calls Try.prog 3 #[.int .i64 v, optV o] w fun e w' => e = .returned (.bool true) ∧ Ext w w' := by
  have hy := ho.2.2.2.1.2
  obtain ⟨b, p, k, d, y, c⟩ := o
  unfold optV
  dsimp only at *
  have C1 := fun W => pCheck_any v b p k d y c hy W
  have C2 := fun W => refCheck_any v b p k d y c W
  generalize chk v b k d y c = er at *
  unfold optC at *
  have hE1 := extNew w (.cells #[.int .i64 b, .bool p, .int .i64 k, .int .i64 d, .int .i64 y, .int .i64 c] 23)
  have hW1 := Whole.new w 23 #[.int .i64 b, .bool p, .int .i64 k, .int .i64 d, .int .i64 y, .int .i64 c]
  have C0 := fun W => alive19_any W
  obtain ⟨w1, hw1⟩ : ∃ x, x = w.alloc (.cells #[.int .i64 b, .bool p, .int .i64 k, .int .i64 d, .int .i64 y, .int .i64 c] 23) := ⟨_, rfl⟩
  rw [← hw1] at hE1 hW1
  have HWd := hide hw1
  obtain ⟨g, hg⟩ : ∃ g, g = w.heap.size := ⟨_, rfl⟩
  have HGd := hide hg
  clear ho hy hw1 hg
  go_enter Try.func3, Try.ntmps3
  go_wp2_with fail
  rw [← HWd.out]
  rw [← HGd.out] at hW1 ⊢
  refine wp_region_T (fun W => Ext w1 W) 10 11 #[false, false, false, false, false, false, false, false, false, false, false] (by kernel_rfl) rfl rfl (Ext.refl w1).drew ?_
  intro hS0
  refine wpAnyT_only 0 #[true, false, false, false, false, false, false, false, false, false, false] (by kernel_rfl) rfl rfl (by rfl) (fun K0 hK0 => ?_)
  go_simp
  go_at_call 8
  refine (C0 _).mono ?_
  rintro e w2 ⟨rfl, hE2⟩
  have hS2 := hS0.trans hE2
  refine hK0 _ _ (fun _ => hS2) ?_
  clear hK0 K0
  refine wpAnyT_take 1 (some 6) (.bool true) #[true, true, false, false, false, false, false, false, false, false, false] rfl rfl rfl (by kernel_rfl) (fun _ _ _ h => h) hS2 (by rfl) (fun W hX => by go_simp) ?_
  simp only [Act.put, List.setIfInBounds_toArray, List.set_cons_zero, List.set_cons_succ]
  refine wpAnyT_take 2 (some 7) (.int .i64 v) #[true, true, true, false, false, false, false, false, false, false, false] rfl rfl rfl (by kernel_rfl) (fun _ _ _ h => h) hS2 (by rfl) (fun W hX => by go_simp) ?_
  simp only [Act.put, List.setIfInBounds_toArray, List.set_cons_zero, List.set_cons_succ]
  refine wpAnyT_take 3 (some 8) (.agg #[.int .i64 b, .bool p, .int .i64 k, .int .i64 d, .int .i64 y, .int .i64 c]) #[true, true, true, true, false, false, false, false, false, false, false] rfl rfl rfl (by kernel_rfl) (fun _ _ _ h => h) hS2 (by rfl) (fun W hX => by exact exec_loadO 23 (.tmp 3) rfl g rfl [.int .i64 b, .bool p, .int .i64 k, .int .i64 d, .int .i64 y, .int .i64 c] (hW1.ext hX) Try.underlying23 rfl opt_size) ?_
  simp only [Act.put, List.setIfInBounds_toArray, List.set_cons_zero, List.set_cons_succ]
  refine wpAnyT_take 5 (some 10) (.int .i64 v) #[true, true, true, true, false, true, false, false, false, false, false] rfl rfl rfl (by kernel_rfl) (fun _ _ _ h => h) hS2 (by rfl) (fun W hX => by go_simp) ?_
  simp only [Act.put, List.setIfInBounds_toArray, List.set_cons_zero, List.set_cons_succ]
  refine wpAnyT_take 6 (some 11) (.agg #[.int .i64 b, .bool p, .int .i64 k, .int .i64 d, .int .i64 y, .int .i64 c]) #[true, true, true, true, false, true, true, false, false, false, false] rfl rfl rfl (by kernel_rfl) (fun _ _ _ h => h) hS2 (by rfl) (fun W hX => by exact exec_loadO 23 (.tmp 3) rfl g rfl [.int .i64 b, .bool p, .int .i64 k, .int .i64 d, .int .i64 y, .int .i64 c] (hW1.ext hX) Try.underlying23 rfl opt_size) ?_
  simp only [Act.put, List.setIfInBounds_toArray, List.set_cons_zero, List.set_cons_succ]
  refine wpAnyT_only 4 #[true, true, true, true, true, true, true, false, false, false, false] (by kernel_rfl) rfl rfl (by rfl) (fun K1 hK1 => ?_)
  go_simp
  go_at_call 9
  refine (C1 _).mono ?_
  rintro e w3 ⟨rfl, hE3⟩
  have hS3 := hS2.trans hE3
  refine hK1 _ _ (fun _ => hS3) ?_
  clear hK1 K1
  refine wpAnyT_only 7 #[true, true, true, true, true, true, true, true, false, false, false] (by kernel_rfl) rfl rfl (by rfl) (fun K2 hK2 => ?_)
  go_simp
  go_at_call 10
  refine (C2 _).mono ?_
  rintro e w4 ⟨rfl, hE4⟩
  have hS4 := hS3.trans hE4
  refine hK2 _ _ (fun _ => hS4) ?_
  clear hK2 K2
  refine wpAnyT_only 8 #[true, true, true, true, true, true, true, true, true, false, false] (by kernel_rfl) rfl rfl (by rfl) (fun K3 hK3 => ?_)
  go_simp
  refine hK3 _ _ (fun _ => hS4) ?_
  clear hK3 K3
  refine wpAnyT_only 9 #[true, true, true, true, true, true, true, true, true, true, false] (by kernel_rfl) rfl rfl (by rfl) (fun K4 hK4 => ?_)
  go_simp
  refine hK4 _ _ (fun _ => hS4) ?_
  clear hK4 K4
  refine wpAnyT_only 10 #[true, true, true, true, true, true, true, true, true, true, true] (by kernel_rfl) rfl rfl (by rfl) (fun K5 hK5 => ?_)
  go_simp
  refine hK5 _ _ (fun h => absurd h (by decide)) (wpAnyT_done (by kernel_rfl) ?_ _)
  clear hK5 K5
  go_wp2
  go_ret
  exact ⟨rfl, hE1.trans hS4⟩

namespace Opt
theorem marked_mark {v : Int} (hv : 1 ≤ v ∧ v ≤ 3) : marked [70, 73, 82, 75, UInt8.ofNat v.toNat] = (v, 0) := by
  rcases (show v = 1 ∨ v = 2 ∨ v = 3 by omega) with rfl | rfl | rfl <;> decide +kernel
end Opt

set_option maxHeartbeats 2000000 in
set_option maxRecDepth 100000 in
theorem optsMarks_walk (v : Int) (A : Option Addr) (n c : Nat) (l : List UInt8) (w : World) (_ : (Lit.int .i64 v).wf = true) (hn : n ≤ c) (hc : c ≤ maxLen) (h : Bytes w w.heap.size A n l) : Calls Try.prog 7 #[.int .i64 v, .slice A n c] w fun e w' => e = .returned (.bool true) ∧ Ext w w' := by
  have C0 := fun W => alive19_any W
  have C1 := fun W (hE : Ext w W) => pMarked_any A n c l W hn hc (hE.bytes h)
  have C2 := fun W (hE : Ext w W) => refMarked_any A n c l W (hE.bytes h)
  generalize marked l = r at *
  obtain ⟨k, er⟩ := r
  unfold MarkTo at C1 C2
  dsimp only at C1 C2
  have HV := hide (fun hv => marked_mark (v := v) hv)
  by_cases hv : 1 ≤ v ∧ v ≤ 3
  · have C3 := fun W => pMark_any v W hv
    have HM := hide (HV.out hv)
    obtain ⟨hv1, hv3⟩ := hv
    have HL := hide (show [70, 73, 82, 75, UInt8.ofNat v.toNat].length = 5 from rfl)
    generalize [70, 73, 82, 75, UInt8.ofNat v.toNat] = m at *
    clear HV h
    go_enter Try.func7, Try.ntmps7
    go_wp2_with fail
    refine (C0 _).mono ?_
    rintro e w2 ⟨rfl, hF2⟩
    go_wp2_with fail
    refine (C1 _ hF2).mono ?_
    rintro e w3 ⟨rfl, hE3⟩
    have hF3 := hF2.trans hE3
    go_wp2_with fail
    refine (C2 _ hF3).mono ?_
    rintro e w4 ⟨rfl, hE4⟩
    have hF4 := hF3.trans hE4
    go_wp2_with fail
    refine (C3 _).mono ?_
    rintro e w5 ⟨⟨sl, rfl, hO5⟩, hE5⟩
    have hF5 := hF4.trans hE5
    obtain ⟨A5, c5, rfl, hc5, hm5, hb5⟩ := hO5.form
    rw [HL.out] at hc5 hb5 ⊢
    have C4 := pMarked_any A5 5 c5 m w5 hc5 hm5 hb5
    rw [HM.out] at C4
    unfold MarkTo at C4
    dsimp only at C4
    clear C0 C1 C2 C3 hF2 hE3 hF3 hE4 hF4 hE5 hO5 hb5
    go_wp2_with fail
    refine C4.mono ?_
    rintro e w6 ⟨rfl, hE6⟩
    go_wp2
    go_ret
    exact ⟨rfl, hF5.trans hE6⟩
  · have C3 := fun W => pMark_none v W hv
    clear HV h
    go_enter Try.func7, Try.ntmps7
    go_wp2_with fail
    refine (C0 _).mono ?_
    rintro e w2 ⟨rfl, hF2⟩
    go_wp2_with fail
    refine (C1 _ hF2).mono ?_
    rintro e w3 ⟨rfl, hE3⟩
    have hF3 := hF2.trans hE3
    go_wp2_with fail
    refine (C2 _ hF3).mono ?_
    rintro e w4 ⟨rfl, hE4⟩
    have hF4 := hF3.trans hE4
    go_wp2_with fail
    refine (C3 _).mono ?_
    rintro e w5 ⟨rfl, hE5⟩
    have hF5 := hF4.trans hE5
    clear C0 C1 C2 C3 hF2 hE3 hF3 hE4 hF4 hE5
    by_cases h1 : v < 1
    · clear hv
      go_wp2
      go_ret
      exact ⟨rfl, hF5⟩
    · have h3 : 3 < v := by omega
      clear hv
      go_wp2
      go_ret
      exact ⟨rfl, hF5⟩
end Go.Proofs.Ytlhncfjeleibmaa
