/- Contracts of the document's writer: Put, Unary. -/
import Derived.Test.YtolahdofglmanaaBitWriter
import Derived.Deep.RegionLaw
namespace Go.Proofs.Ytolahdofglmanaa
open Go.RowKit

def bit8 (b : Bool) : UInt8 := if b then 1 else 0
theorem bit8_int (b : Bool) : ((bit8 b).toNat : Int) = (b.toNat : Int) := by cases b <;> rfl
/-- Block g is the document's writer with these bytes; ob: the block that they lie in. -/
def RefW (w : World) (base g : Nat) (ob : Option Nat) (L : List UInt8) : Prop := ∃ v, Whole w g 30 #[v] ∧ OwnB w base v L ∧ v.ownBlock ≠ some g ∧ base ≤ g ∧ v.ownBlock = ob
def RefPuts (w : World) (base g : Nat) (ob : Option Nat) (L : List UInt8) (err : Int) (e : Ending) (w' : World) : Prop :=
  e = .returned (.int .i64 err) ∧ ∃ ob', RefW w' base g ob' L ∧ NewOb w ob ob' ∧ Mod w w' g ob
section
variable {w w' : World} {base g : Nat} {ob : Option Nat} {L : List UInt8}
theorem RefW.lt (h : RefW w base g ob L) : g < w.heap.size := by obtain ⟨v, h, _⟩ := h; exact h.lt
theorem RefW.le (h : RefW w base g ob L) : base ≤ g := by obtain ⟨v, _, _, _, h, _⟩ := h; exact h
theorem RefW.ne (h : RefW w base g ob L) : ob ≠ some g := by obtain ⟨v, _, _, h, _, rfl⟩ := h; exact h
theorem RefW.own (h : RefW w base g ob L) : ∀ k, ob = some k → base ≤ k ∧ k < w.heap.size := by obtain ⟨v, _, h, _, _, rfl⟩ := h; exact h.lt
theorem RefW.ext (h : RefW w base g ob L) (hE : Ext w w') : RefW w' base g ob L := by
  obtain ⟨v, hW, hO, r⟩ := h
  exact ⟨v, hW.ext hE, hO.ext hE, r⟩
theorem RefW.kept {g' : Nat} {ob' : Option Nat} (h : RefW w base g ob L) (hM : Mod w w' g' ob') (h1 : g ≠ g') (h2 : ob' ≠ some g) (h3 : ob ≠ some g') (h4 : ob = none ∨ ob ≠ ob') : RefW w' base g ob L := by
  obtain ⟨v, hW, hO, hne, hb, rfl⟩ := h
  exact ⟨v, hM.whole hW h1 h2, hM.own hO h3 h4, hne, hb, rfl⟩
end
/-- Behind 'w.Bits = append(w.Bits, x)', x laid in a block of its own first. -/
theorem RefW.put {w w1 w2 w3 : World} {base g : Nat} {v v2 : Value} {L : List UInt8} {x : UInt8} (hW : Whole w g 30 #[v]) (hne : v.ownBlock ≠ some g) (hb : base ≤ g) (hE : Ext w w1)
    (hO2 : OwnB w2 base v2 (L ++ [x])) (hG : w1.grownBy w2 v.ownBlock) (hN : NewOb w1 v.ownBlock v2.ownBlock) (hW3 : Whole w3 g 30 #[v2]) (hG3 : w2.grownBy w3 (some g)) :
    ∃ ob', RefW w3 base g ob' (L ++ [x]) ∧ NewOb w v.ownBlock ob' ∧ Mod w w3 g v.ownBlock := by
  have hne2 : v2.ownBlock ≠ some g := hN.ne (Nat.lt_of_lt_of_le hW.lt hE.le) hne
  refine ⟨v2.ownBlock, ⟨v2, hW3, (Mod.ofRow (ob := none) hG3).own hO2 hne2 (by cases v2.ownBlock <;> simp), hne2, hb, rfl⟩, (NewOb.same w _).trans hE.le hN, ?_⟩
  exact ((Mod.ofExt hE).trans (Mod.ofOwn hG) (.inl rfl)).trans (Mod.ofRow (ob := v.ownBlock) hG3) (.inl rfl)

set_option maxHeartbeats 1000000 in
theorem refUnary_any {w : World} {base g : Nat} {ob : Option Nat} {L : List UInt8} (h : RefW w base g ob L) (n : Int) (hL : L.length ≤ 900000000) :
    Calls Try.prog 12 #[.pointer (some ⟨g, 0, none⟩), .int .i64 n] w (RefPuts w base g ob (L ++ (Bit.unaryBits n).map bit8) (Bit.unaryErr n)) := by
  by_cases hbad : Bit.runs n = false
  · have HE := hide (Bit.unary_bad hbad)
    have HF := hide h
    by_cases h0 : n < 0
    · go_enter Try.func12, Try.ntmps12
      go_wp2
      go_ret
      exact ⟨ret_i64 HE.out.1.symm, ob, by rw [HE.out.2, List.map_nil, List.append_nil]; exact HF.out, .inl rfl, Mod.refl _ _ _⟩
    · have h1 : 100000 < n := by
        have := of_decide_eq_false hbad
        omega
      go_enter Try.func12, Try.ntmps12
      go_wp2
      go_ret
      exact ⟨ret_i64 HE.out.1.symm, ob, by rw [HE.out.2, List.map_nil, List.append_nil]; exact HF.out, .inl rfl, Mod.refl _ _ _⟩
  · have hgood : Bit.runs n = true := by simpa using hbad
    have HE := hide (Bit.unary_good hgood)
    obtain ⟨h0, h1⟩ := of_decide_eq_true hgood
    obtain ⟨k, rfl⟩ := Int.eq_ofNat_of_zero_le h0
    have hk : k ≤ 100000 := by omega
    clear hbad hgood
    go_enter Try.func12, Try.ntmps12
    go_wp2
    go_loopw [5] (fun i wr => ∃ (j : Nat) (ob1 : Option Nat), j ≤ k ∧ i = .int .i64 (j : Int) ∧ RefW wr base g ob1 (L ++ List.replicate j 0) ∧ NewOb w ob ob1 ∧ Mod w wr g ob) (fun i _ => k - (intOf i).toNat)
    case atStart => exact ⟨0, ob, by omega, rfl, by simpa using h, .inl rfl, Mod.refl _ _ _⟩
    case round =>
      obtain ⟨j, ob1, hj, rfl, ⟨v, hW, hO, hne, hb, rfl⟩, hN, hM⟩ := hrel
      have hlen : (L ++ List.replicate j (0 : UInt8)).length = L.length + j := by simp
      have hfit : (L ++ List.replicate j (0 : UInt8)).length + 1 ≤ 140737488355328 := by omega
      have HK := hide h1
      clear hlen
      have d0 : wr.cell? ⟨g, 0, none⟩ = some v := hW.at 0 rfl
      have hO1 := hO.ext (extNew wr (.cells #[.int .u8 0] 5))
      have hO1' := hO.ext (extNew wr (.cells #[.int .u8 1] 5))
      have hb1 := bytesNew wr [0] #[.int .u8 0] 5 (0, 0) rfl 1 rfl
      have hb1' := bytesNew wr [1] #[.int .u8 1] 5 (0, 0) rfl 1 rfl
      have hB1 : base ≤ (wr.alloc (.cells #[.int .u8 0] 5)).heap.size := by have := hW.lt; simp; omega
      have hB1' : base ≤ (wr.alloc (.cells #[.int .u8 1] 5)).heap.size := by have := hW.lt; simp; omega
      have hi : (Try.prog.info? 24).map (·.size) = some 1 := by kernel_rfl
      by_cases hlt : j < k
      · go_wp2_with (first
          | (at_builtin; refine wpList_appAt rfl (.tmp 21) (.tmp 22) rfl rfl hO1 rfl hb1 hfit hB1 ?_; intro v2 w2 hO2 hG2 hN2; have hW2 := (hW.ext (extNew wr (.cells #[.int .u8 0] 5))).ownGrown hG2 hne; obtain ⟨A2, n2, c2, hv2, _, _, _⟩ := hO2.form'; subst hv2)
          | (refine wpList_storeC rfl 24 (.tmp 25) (.tmp 23) rfl #[.slice A2 n2 c2] rfl rfl hW2 (by simp) hi rfl rfl rfl ?_; intro w3 hW3 hG3))
        go_roundw
        case rel =>
          obtain ⟨ob2, hR2, hN3, hM3⟩ := RefW.put hW hne hb (extNew wr (.cells #[.int .u8 0] 5)) hO2 hG2 hN2 hW3 hG3
          refine ⟨j + 1, ob2, by omega, by go_num, ?_, hN.trans hM.size hN3, hM.trans hM3 hN⟩
          rw [List.append_assoc, show List.replicate j (0 : UInt8) ++ [0] = List.replicate (j + 1) 0 from List.replicate_succ'.symm] at hR2
          exact hR2
        case measure => simp [intOf]; omega
      · obtain rfl : j = k := by omega
        go_wp2_with (first
          | (at_builtin; refine wpList_appAt rfl (.tmp 30) (.tmp 31) rfl rfl hO1' rfl hb1' hfit hB1' ?_; intro v2 w2 hO2 hG2 hN2; have hW2 := (hW.ext (extNew wr (.cells #[.int .u8 1] 5))).ownGrown hG2 hne; obtain ⟨A2, n2, c2, hv2, _, _, _⟩ := hO2.form'; subst hv2)
          | (refine wpList_storeC rfl 24 (.tmp 34) (.tmp 32) rfl #[.slice A2 n2 c2] rfl rfl hW2 (by simp) hi rfl rfl rfl ?_; intro w3 hW3 hG3))
        go_ret
        obtain ⟨ob2, hR2, hN3, hM3⟩ := RefW.put hW hne hb (extNew wr (.cells #[.int .u8 1] 5)) hO2 hG2 hN2 hW3 hG3
        refine ⟨ret_i64 HE.out.1.symm, ob2, ?_, hN.trans hM.size hN3, hM.trans hM3 hN⟩
        rw [List.append_assoc] at hR2
        rw [HE.out.2]
        simpa [Bit.unBits, bit8] using hR2
end Go.Proofs.Ytolahdofglmanaa
