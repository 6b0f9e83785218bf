/- Contracts of one shift, and of what the table of sixteen makes. -/
import Derived.Test.YtcoegdkkogoaiaaDoorBase
import Derived.Test.YtcoegdkkogoaiaaDoorCrcMath
namespace Go.Proofs.YtcoegdkkogoaiaaDoor
open Go.RowKit

theorem Crc.bit_odd {x : Nat} (h : ((x : Int) % 2 == 1) = true) (hx : x < 4294967296) : bits .xor .u32 ((x : Int) / 2) 3988292384 = ((Crc.bit x : Nat) : Int) := by
  have h1 : x % 2 = 1 := by
    have := beq_iff_eq.1 h
    omega
  have e : (x : Int) / 2 = ((x / 2 : Nat) : Int) := by omega
  have h2 := u32_xor_nat (x / 2) 3988292384 (by omega) (by omega)
  rw [e]
  simp only [Crc.bit, if_pos h1]
  exact h2
theorem Crc.bit_even {x : Nat} (h : ((x : Int) % 2 == 1) = false) : (x : Int) / 2 = ((Crc.bit x : Nat) : Int) := by
  have h1 : ¬ x % 2 = 1 := by
    have := beq_eq_false_iff_ne.1 h
    omega
  simp only [Crc.bit, if_neg h1]
  omega

set_option maxHeartbeats 400000 in
theorem refBit_any (x : Nat) (w : World) (h : x < 4294967296) :
    Calls Tryd.prog 23 #[.int .u32 x] w fun e w' => e = .returned (.int .u32 (Crc.bit x : Nat)) ∧ w = w' := by
  go_enter Tryd.func23, Tryd.ntmps23
  go_wp2
  · go_ret
    exact ⟨ret_u32 (Crc.bit_odd ‹_› h), rfl⟩
  · go_ret
    exact ⟨ret_u32 (Crc.bit_even ‹_›), rfl⟩

theorem Crc.and15 (x : Nat) (h : x < 4294967296) : bits .and .u32 (x : Int) 15 = ((x % 16 : Nat) : Int) := by
  rw [show (15 : Int) = ((15 : Nat) : Int) from rfl, u32_and_nat x 15 h (by omega), show 15 = 2 ^ 4 - 1 from rfl, Nat.and_two_pow_sub_one_eq_mod]

/-- What the calls take of the table: its sixteen cells. -/
def Tab (w : World) : Prop := ∀ i, i < 16 → w.cell? ⟨0, i, none⟩ = some (.int .u32 ((Crc.tab.getD i 0 : Nat) : Int))

theorem Tab.below {w w' : World} {B : Nat} (h : Tab w) (hb : Below B w w') (hB : 0 < B) : Tab w' := fun i hi => by
  rw [hb.cell (p := ⟨0, i, none⟩) hB]
  exact h i hi
theorem Crc.four_bits (x : Nat) (h : x < 4294967296) : bits .xor .u32 ((x : Int) / 16) ((Crc.tab[x % 16]?.getD 0 : Nat) : Int) = ((Crc.run 4 x : Nat) : Int) := by
  have e : (x : Int) / 16 = ((x / 16 : Nat) : Int) := by omega
  have hr : ∀ r, r < 16 → Crc.tab.getD r 0 < 4294967296 := by decide
  have f := Crc.four x
  rw [List.getD_eq_getElem?_getD] at f
  have b := hr (x % 16) (by omega)
  rw [List.getD_eq_getElem?_getD] at b
  rw [e, u32_xor_nat (x / 16) _ (by omega) b, f]

set_option maxHeartbeats 400000 in
theorem shiftByte_any (x : Nat) (w : World) (h : x < 4294967296) (ht : Tab w) :
    Calls Tryd.prog 30 #[.int .u32 x] w fun e w' => e = .returned (.int .u32 (Crc.run 8 x : Nat)) ∧ w = w' := by
  have h8 : Crc.run 8 x = Crc.run 4 (Crc.run 4 x) := Crc.run_add 4 4 x
  have hl := Crc.run_lt32 4 h
  rw [h8]
  clear h8
  have hx := Crc.four_bits x h
  have hm := Crc.and15 x h
  have h1 := ht (x % 16) (by omega)
  generalize Crc.run 4 x = y at *
  have hx2 := Crc.four_bits y hl
  have hm2 := Crc.and15 y hl
  have h2 := ht (y % 16) (by omega)
  generalize Crc.run 4 y = z at *
  go_enter Tryd.func30, Tryd.ntmps30
  go_wp2
  go_ret
  exact ⟨rfl, rfl⟩
end Go.Proofs.YtcoegdkkogoaiaaDoor
