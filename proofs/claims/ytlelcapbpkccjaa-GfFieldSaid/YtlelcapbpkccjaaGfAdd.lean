/- Contracts of the document's Add and Dot over its field. -/
import Derived.Test.YtlelcapbpkccjaaGfRef
import Derived.Test.YtlelcapbpkccjaaRegTail
import Derived.Test.YtlelcapbpkccjaaStrs
import Derived.Deep.QuietTactic
import Derived.BigQuiet
namespace Go.Proofs.Ytlelcapbpkccjaa
open Go.RowKit

namespace Gf
/-- The first k bytes of what Add tells. -/
def addN (to : List UInt8) (c : Nat) (b : List UInt8) : Nat → List UInt8
  | 0 => []
  | k + 1 => addN to c b k ++ [to.getD k 0 ^^^ UInt8.ofNat (mul c (b.getD k 0).toNat)]
theorem addN_len (to : List UInt8) (c : Nat) (b : List UInt8) : ∀ k, (addN to c b k).length = k
  | 0 => rfl
  | k + 1 => by rw [addN, List.length_append, addN_len]; rfl
def addR (to : List UInt8) (c : Nat) (b : List UInt8) : List UInt8 × Int := if to.length = b.length then (addN to c b b.length, 0) else ([], 13)
/-- The sum of the first k products. -/
def dotN (a b : List UInt8) : Nat → Nat
  | 0 => 0
  | k + 1 => dotN a b k ^^^ mul (a.getD k 0).toNat (b.getD k 0).toNat
theorem dotN_lt (a b : List UInt8) : ∀ k, dotN a b k < 256
  | 0 => by simp [dotN]
  | k + 1 => by
    rw [dotN]
    exact Nat.xor_lt_two_pow (n := 8) (dotN_lt a b k) (mul_lt (UInt8.toNat_lt _) (UInt8.toNat_lt _))
def dotR (a b : List UInt8) : Nat × Int := if a.length = b.length then (dotN a b a.length, 0) else (0, 13)
end Gf
theorem ret_verr2 {v : Value} {a : Int} {r : List UInt8 × Int} (h : r.2 = a) : Ending.returned (.tuple #[v, .int .i64 a]) = .returned (.tuple #[v, .int .i64 r.2]) := by rw [h]
/-- Behind a call that makes bytes, or tells an error. -/
def MadeR (w : World) (r : List UInt8 × Int) (e : Ending) (w' : World) : Prop := ∃ v, e = .returned (.tuple #[v, .int .i64 r.2]) ∧ OwnB w' w.heap.size v r.1 ∧ Ext w w'
theorem u8_xor_byteN (x : UInt8) (m : Nat) (hm : m < 256) : bits .xor .u8 (x.toNat : Int) (m : Int) = (((x ^^^ UInt8.ofNat m).toNat : Nat) : Int) := by
  rw [u8_xor_nat _ _ x.toNat_lt hm, UInt8.toNat_xor, UInt8.toNat_ofNat', Nat.mod_eq_of_lt hm]

set_option maxHeartbeats 2000000 in
set_option maxRecDepth 100000 in
theorem refAdd_any (A1 A2 : Option Addr) (c1 c2 c : Nat) (to b : List UInt8) (w : World) (hc : c < 256) (h1 : Bytes w w.heap.size A1 to.length to) (h2 : Bytes w w.heap.size A2 b.length b) (hl : b.length ≤ 1000000) :
    Calls Try.prog 25 #[.slice A1 to.length c1, .int .u8 c, .slice A2 b.length c2] w (MadeR w (Gf.addR to c b)) := by
  have HR := hide (show Gf.addR to c b = if to.length = b.length then (Gf.addN to c b b.length, 0) else ([], 13) from rfl)
  by_cases hne : to.length = b.length
  · have HN := hide (show Gf.addR to c b = (Gf.addN to c b b.length, 0) by rw [HR.out, if_pos hne])
    have hne' : ((to.length : Int) != (b.length : Int)) = false := by simp; omega
    have CM := fun (y : UInt8) W => refMul_any c y.toNat W hc (UInt8.toNat_lt y)
    have HQ := hide hne
    clear hne
    go_enter Try.func25, Try.ntmps25
    go_wp2
    go_loopw [8, 9] (fun v i wr => ∃ j : Nat, j ≤ b.length ∧ i = .int .i64 (j : Int) ∧ OwnB wr w.heap.size v (Gf.addN to c b j) ∧ Ext w wr) (fun _ i _ => b.length - (intOf i).toNat)
    case atStart => exact ⟨0, by omega, rfl, OwnB.nil _ _, Ext.refl _⟩
    case round =>
      obtain ⟨j, hj, rfl, hO, hE⟩ := hrel
      by_cases hlt : j < b.length
      · rcases h1.2 with h0 | ⟨b1, o1, rfl, hB1, hcell1⟩
        · have := HQ.out; omega
        rcases h2.2 with h0 | ⟨b2, o2, rfl, hB2, hcell2⟩
        · omega
        have k1 := (hE.cell (i := o1 + j) hB1).trans (hcell1 j (by have := HQ.out; omega))
        have k2 := (hE.cell (i := o2 + j) hB2).trans (hcell2 j hlt)
        have HA := hide (show Gf.addN to c b (j + 1) = Gf.addN to c b j ++ [to.getD j 0 ^^^ UInt8.ofNat (Gf.mul c (b.getD j 0).toNat)] from rfl)
        clear hcell1 hcell2 h1 h2
        have hlen := Gf.addN_len to c b j
        generalize to.getD j 0 = x at *
        generalize b.getD j 0 = y at *
        have C := CM y wr.drew
        have hml := Gf.mul_lt hc (UInt8.toNat_lt y)
        have hxor := u8_xor_byteN x (Gf.mul c y.toNat) hml
        generalize Gf.mul c y.toNat = m at *
        generalize x ^^^ UInt8.ofNat m = bt at *
        have hj0 : (0 : Int) ≤ (j : Int) := by omega
        have hj1 : (j : Int) < (b.length : Int) := by omega
        have hj2 : (j : Int) < (to.length : Int) := by have := HQ.out; omega
        have hfit : (Gf.addN to c b j).length + 1 ≤ 140737488355328 := by omega
        generalize Gf.addN to c b j = F at *
        obtain ⟨A3, n3, c3, rfl, _, _, _⟩ := hO.form'
        have hN := extNew wr (.cells #[.int .u8 (bt.toNat : Int)] 5)
        have hb1 := (Ext.refl (wr.alloc (.cells #[.int .u8 (bt.toNat : Int)] 5))).drew.bytes (bytesNew wr [bt] #[.int .u8 (bt.toNat : Int)] 5 (0, 0) rfl 1 rfl)
        have hE1 := hN.drew
        have hO1 := hO.ext hE1
        have hE2 := hE.trans hE1
        have hB3 := hE2.le
        have k3 := (hE1.cell (i := o1 + j) (Nat.lt_of_lt_of_le hB1 hE.le)).trans k1
        have k4 := (hE1.cell (i := o2 + j) (Nat.lt_of_lt_of_le hB2 hE.le)).trans k2
        clear CM hlen hml
        go_wp2
        refine wp_region_T (fun W => W.cell? ⟨b1, o1 + j, none⟩ = some (.int .u8 (x.toNat : Int)) ∧ W.cell? ⟨b2, o2 + j, none⟩ = some (.int .u8 (y.toNat : Int))) 13 15 #[false, false, false, false, false, false, false, false, false, false, false, false, false, false, false] (by kernel_rfl) rfl rfl ⟨k1, k2⟩ ?_
        intro hS0
        refine wpAnyT_take 0 (some 21) (.slice A3 n3 c3) #[true, false, false, false, false, false, false, false, false, false, false, false, false, false, false] rfl rfl rfl (by kernel_rfl) (fun _ _ _ h => h) hS0 (by rfl) (fun W ⟨s0, s1⟩ => by go_simp) ?_
        simp only [Act.put, List.setIfInBounds_toArray, List.set_cons_zero, List.set_cons_succ]
        refine wpAnyT_take 1 (some 22) (.slice (some ⟨b1, o1, none⟩) to.length c1) #[true, true, false, false, false, false, false, false, false, false, false, false, false, false, false] rfl rfl rfl (by kernel_rfl) (fun _ _ _ h => h) hS0 (by rfl) (fun W ⟨s0, s1⟩ => by go_simp) ?_
        simp only [Act.put, List.setIfInBounds_toArray, List.set_cons_zero, List.set_cons_succ]
        refine wpAnyT_take 2 (some 23) (.int .i64 (j : Int)) #[true, true, true, false, false, false, false, false, false, false, false, false, false, false, false] rfl rfl rfl (by kernel_rfl) (fun _ _ _ h => h) hS0 (by rfl) (fun W ⟨s0, s1⟩ => by go_simp) ?_
        simp only [Act.put, List.setIfInBounds_toArray, List.set_cons_zero, List.set_cons_succ]
        refine wpAnyT_take 3 (some 24) (.pointer (some ⟨b1, o1 + j, none⟩)) #[true, true, true, true, false, false, false, false, false, false, false, false, false, false, false] rfl rfl rfl (by kernel_rfl) (fun _ _ _ h => h) hS0 (by rfl) (fun W ⟨s0, s1⟩ => by go_simp) ?_
        simp only [Act.put, List.setIfInBounds_toArray, List.set_cons_zero, List.set_cons_succ]
        refine wpAnyT_take 4 (some 25) (.int .u8 (x.toNat : Int)) #[true, true, true, true, true, false, false, false, false, false, false, false, false, false, false] rfl rfl rfl (by kernel_rfl) (fun _ _ _ h => h) hS0 (by rfl) (fun W ⟨s0, s1⟩ => by go_simp) ?_
        simp only [Act.put, List.setIfInBounds_toArray, List.set_cons_zero, List.set_cons_succ]
        refine wpAnyT_take 5 (some 26) (.int .u8 (c : Int)) #[true, true, true, true, true, true, false, false, false, false, false, false, false, false, false] rfl rfl rfl (by kernel_rfl) (fun _ _ _ h => h) hS0 (by rfl) (fun W ⟨s0, s1⟩ => by go_simp) ?_
        simp only [Act.put, List.setIfInBounds_toArray, List.set_cons_zero, List.set_cons_succ]
        refine wpAnyT_take 6 (some 27) (.slice (some ⟨b2, o2, none⟩) b.length c2) #[true, true, true, true, true, true, true, false, false, false, false, false, false, false, false] rfl rfl rfl (by kernel_rfl) (fun _ _ _ h => h) hS0 (by rfl) (fun W ⟨s0, s1⟩ => by go_simp) ?_
        simp only [Act.put, List.setIfInBounds_toArray, List.set_cons_zero, List.set_cons_succ]
        refine wpAnyT_take 7 (some 28) (.int .i64 (j : Int)) #[true, true, true, true, true, true, true, true, false, false, false, false, false, false, false] rfl rfl rfl (by kernel_rfl) (fun _ _ _ h => h) hS0 (by rfl) (fun W ⟨s0, s1⟩ => by go_simp) ?_
        simp only [Act.put, List.setIfInBounds_toArray, List.set_cons_zero, List.set_cons_succ]
        refine wpAnyT_take 8 (some 29) (.pointer (some ⟨b2, o2 + j, none⟩)) #[true, true, true, true, true, true, true, true, true, false, false, false, false, false, false] rfl rfl rfl (by kernel_rfl) (fun _ _ _ h => h) hS0 (by rfl) (fun W ⟨s0, s1⟩ => by go_simp) ?_
        simp only [Act.put, List.setIfInBounds_toArray, List.set_cons_zero, List.set_cons_succ]
        refine wpAnyT_take 9 (some 30) (.int .u8 (y.toNat : Int)) #[true, true, true, true, true, true, true, true, true, true, false, false, false, false, false] rfl rfl rfl (by kernel_rfl) (fun _ _ _ h => h) hS0 (by rfl) (fun W ⟨s0, s1⟩ => by go_simp) ?_
        simp only [Act.put, List.setIfInBounds_toArray, List.set_cons_zero, List.set_cons_succ]
        refine wpAnyT_only 10 #[true, true, true, true, true, true, true, true, true, true, true, false, false, false, false] (by kernel_rfl) rfl rfl (by rfl) (fun K hK => ?_)
        go_simp
        refine C.mono ?_
        rintro e w2 ⟨rfl, rfl⟩
        refine hK _ _ (fun _ => hS0) ?_
        clear hK K
        refine wpAnyT_only 11 #[true, true, true, true, true, true, true, true, true, true, true, true, false, false, false] (by kernel_rfl) rfl rfl (by rfl) (fun K hK => ?_)
        go_simp
        refine hK _ _ (fun _ => hS0) ?_
        clear hK K
        refine wpAnyT_only 12 #[true, true, true, true, true, true, true, true, true, true, true, true, true, false, false] (by kernel_rfl) rfl rfl (by rfl) (fun K hK => ?_)
        go_simp
        refine hK _ _ (fun _ => ⟨k3, k4⟩) ?_
        clear hK K
        refine wpAnyT_only 13 #[true, true, true, true, true, true, true, true, true, true, true, true, true, true, false] (by kernel_rfl) rfl rfl (by rfl) (fun K hK => ?_)
        refine wp_appAt (.tmp 21) (.tmp 33) rfl rfl hO1 rfl hb1 hfit hB3 ?_
        intro v4 w4 hO4 hG4 _
        refine hK _ _ (fun h => absurd h (by decide)) ?_
        clear hK K
        refine wpAnyT_only 14 #[true, true, true, true, true, true, true, true, true, true, true, true, true, true, true] (by kernel_rfl) rfl rfl (by rfl) (fun K hK => ?_)
        go_simp
        refine hK _ _ (fun h => absurd h (by decide)) ?_
        refine wpAnyT_done (by kernel_rfl) ?_ _
        clear hK K
        go_wp2
        go_roundw
        case rel => exact ⟨j + 1, by omega, by go_num, by rw [HA.out]; exact hO4, hO1.below hE2 hG4 hB3⟩
        case measure => simp [intOf]; omega
      · obtain rfl : j = b.length := by omega
        clear h1 h2
        go_wp2
        go_ret2
        exact ⟨_, ret_verr2 (by rw [HN.out]), by rw [HN.out]; exact hO, hE⟩
  · have HN := hide (show Gf.addR to c b = ([], 13) by rw [HR.out, if_neg hne])
    have hne' : ((to.length : Int) != (b.length : Int)) = true := by simp; omega
    clear hne h1 h2
    go_enter Try.func25, Try.ntmps25
    go_wp2
    go_ret2
    exact ⟨_, ret_verr2 (by rw [HN.out]), by rw [HN.out]; exact OwnB.nil _ _, Ext.refl _⟩

set_option maxHeartbeats 2000000 in
set_option maxRecDepth 100000 in
theorem refDot_any (A1 A2 : Option Addr) (c1 c2 : Nat) (a b : List UInt8) (w : World) (h1 : Bytes w w.heap.size A1 a.length a) (h2 : Bytes w w.heap.size A2 b.length b) (hl : a.length ≤ 1000000) :
    Calls Try.prog 27 #[.slice A1 a.length c1, .slice A2 b.length c2] w fun e w' => e = .returned (.tuple #[.int .u8 (((Gf.dotR a b).1 : Nat) : Int), .int .i64 (Gf.dotR a b).2]) ∧ Ext w w' := by
  have HR := hide (show Gf.dotR a b = if a.length = b.length then (Gf.dotN a b a.length, 0) else (0, 13) from rfl)
  by_cases hne : a.length = b.length
  · have HN := hide (show Gf.dotR a b = (Gf.dotN a b a.length, 0) by rw [HR.out, if_pos hne])
    have hne' : ((a.length : Int) != (b.length : Int)) = false := by simp; omega
    have CM := fun (x y : UInt8) W => refMul_any x.toNat y.toNat W (UInt8.toNat_lt x) (UInt8.toNat_lt y)
    have HQ := hide hne
    clear hne
    go_enter Try.func27, Try.ntmps27
    go_wp2
    go_loopw [6, 7] (fun v i wr => ∃ j : Nat, j ≤ a.length ∧ i = .int .i64 (j : Int) ∧ v = .int .u8 ((Gf.dotN a b j : Nat) : Int) ∧ Ext w wr) (fun _ i _ => a.length - (intOf i).toNat)
    case atStart => exact ⟨0, by omega, rfl, rfl, Ext.refl _⟩
    case round =>
      obtain ⟨j, hj, rfl, rfl, hE⟩ := hrel
      by_cases hlt : j < a.length
      · rcases h1.2 with h0 | ⟨b1, o1, rfl, hB1, hcell1⟩
        · omega
        rcases h2.2 with h0 | ⟨b2, o2, rfl, hB2, hcell2⟩
        · have := HQ.out; omega
        have k1 := (hE.cell (i := o1 + j) hB1).trans (hcell1 j hlt)
        have k2 := (hE.cell (i := o2 + j) hB2).trans (hcell2 j (by have := HQ.out; omega))
        have HA := hide (show Gf.dotN a b (j + 1) = Gf.dotN a b j ^^^ Gf.mul (a.getD j 0).toNat (b.getD j 0).toNat from rfl)
        clear hcell1 hcell2 h1 h2
        have hd := Gf.dotN_lt a b j
        generalize a.getD j 0 = x at *
        generalize b.getD j 0 = y at *
        have C := fun m => CM x y (wr.drewN m)
        have hml := Gf.mul_lt (UInt8.toNat_lt x) (UInt8.toNat_lt y)
        have hxor := u8_xor_nat (Gf.dotN a b j) (Gf.mul x.toNat y.toNat) hd hml
        generalize Gf.mul x.toNat y.toNat = m at *
        generalize Gf.dotN a b j = D at *
        generalize D ^^^ m = N at *
        have hj0 : (0 : Int) ≤ (j : Int) := by omega
        have hj1 : (j : Int) < (a.length : Int) := by omega
        have hj2 : (j : Int) < (b.length : Int) := by have := HQ.out; omega
        clear CM hml hd
        go_wp2
        go_quiet (first | (go_at_call 14; exact Calls.quiet_of ((C _).mono fun _ _ ⟨he, hw⟩ => ⟨he, 0, hw.symm⟩)))
        go_wp2
        go_roundw
        case rel => exact ⟨j + 1, by omega, by go_num, by rw [HA.out], hE.drewN _⟩
        case measure => simp [intOf]; omega
      · obtain rfl : j = a.length := by omega
        clear h1 h2
        go_wp2
        go_ret2
        exact ⟨ret_u8err HN.out, hE⟩
  · have HN := hide (show Gf.dotR a b = (0, 13) by rw [HR.out, if_neg hne])
    have hne' : ((a.length : Int) != (b.length : Int)) = true := by simp; omega
    clear hne h1 h2
    go_enter Try.func27, Try.ntmps27
    go_wp2
    go_ret2
    exact ⟨ret_u8err HN.out, Ext.refl _⟩
end Go.Proofs.Ytlelcapbpkccjaa
