/- Contracts of the program's working copies: add, scale, swap. -/
import Derived.Test.YtpgdmdcooddgdaaMatPCopy
import Derived.Test.YtpgdmdcooddgdaaGfSum
namespace Go.Proofs.Ytpgdmdcooddgdaa
open Go.RowKit

/-- A matrix in the call's own memory, its cells in block g, told by F. -/
def OwnM (w : World) (base g r c k : Nat) (F : Mat.M) : Prop := OwnB w base (.slice (some ⟨g, 0, none⟩) (r * c) k) (cellsOf c F (r * c)) ∧ base ≤ g ∧ g < w.heap.size ∧ r * c ≤ k
def ownV (g r c k : Nat) : Value := matV r c (.slice (some ⟨g, 0, none⟩) (r * c) k)
theorem OwnM.ext {w w' : World} {base g r c k : Nat} {F : Mat.M} (h : OwnM w base g r c k F) (hE : Ext w w') : OwnM w' base g r c k F := ⟨h.1.ext hE, h.2.1, Nat.lt_of_lt_of_le h.2.2.1 hE.le, h.2.2.2⟩
theorem OwnM.congr {w : World} {base g r c k : Nat} {F G : Mat.M} (h : OwnM w base g r c k F) (hF : ∀ i j, i < r → j < c → F i j = G i j) : OwnM w base g r c k G := by
  refine ⟨?_, h.2⟩
  rw [cells_congr (g := F)]
  · exact h.1
  · intro p hp
    have hc : 0 < c := by
      rcases Nat.eq_zero_or_pos c with h0 | h0
      · rw [h0, Nat.mul_zero] at hp; omega
      · exact h0
    exact (hF _ _ (Nat.div_lt_of_lt_mul (by rw [Nat.mul_comm]; exact hp)) (Nat.mod_lt _ hc)).symm
theorem work_info : (Try.prog.info? 54).map (·.size) = some 3 := by kernel_rfl
theorem results_work {fn : Func} {p : Tmp} (h : fn.results = #[.cell p 54]) (tmps : Array Value) {w : World} {g : Nat} {cs : Array Value} (hp : tmps.getD p undef = .pointer (some ⟨g, 0, none⟩))
    (hW : Whole w g 54 cs) (hs : cs.size = 3) : (results fn tmps).run Try.prog w = .ok (.agg cs) w := by
  have hp' : tmps[p]?.getD undef = .pointer (some ⟨g, 0, none⟩) := by simpa using hp
  have hl := run_loadVar_row (P := Try.prog) w g 54 54 cs (0, 0) _ hW Try.underlying54 rfl (by rw [hs]; exact work_info)
  simp [results, h, hp', asAddr, hl]
theorem rowB_add (m x : Nat) (hx : x < 256) (F f : Nat → UInt8) : Gf.addR (rowB m F) x (rowB m f) = (rowB m (fun b => F b ^^^ Mat.fm (UInt8.ofNat x) (f b)), 0) := by
  unfold Gf.addR
  rw [if_pos (by rw [rowB_len, rowB_len]), rowB_len]
  have : ∀ k, k ≤ m → Gf.addN (rowB m F) x (rowB m f) k = rowB k (fun b => F b ^^^ Mat.fm (UInt8.ofNat x) (f b)) := by
    intro k
    induction k with
    | zero => intro _; rfl
    | succ k ih =>
      intro hk
      rw [Gf.addN, ih (by omega), rowB_succ, rowB_at F (by omega), rowB_at f (by omega)]
      unfold Mat.fm
      rw [UInt8.toNat_ofNat', Nat.mod_eq_of_lt (by omega)]
  rw [this m (Nat.le_refl _)]

set_option maxHeartbeats 2000000 in
set_option maxRecDepth 100000 in
theorem wadd_any {base g r c k i x : Nat} {F : Mat.M} {A : Option Addr} {ks : Nat} {f : Nat → UInt8} {w : World} (hr : r ≤ 255) (hc : c ≤ 510) (hi : i < r) (hx : x < 256) (hM : OwnM w base g r c k F) (hB : Bytes w w.heap.size A c (rowB c f)) :
    Calls Try.prog 38 #[ownV g r c k, .int .i64 (i : Int), .int .u8 (x : Int), .slice A c ks] w fun e w' => e = .returned (.tuple #[]) ∧ OwnM w' base g r c k (fun a b => if a = i then F a b ^^^ Mat.fm (UInt8.ofNat x) (f b) else F a b) ∧ w.grownBy w' (some g) := by
  have hE1 := extNew w (.cells #[.int .i64 r, .int .i64 c, .slice (some ⟨g, 0, none⟩) (r * c) k] 54)
  have hW1 := Whole.new w 54 #[.int .i64 r, .int .i64 c, .slice (some ⟨g, 0, none⟩) (r * c) k]
  unfold ownV matV
  by_cases h0 : x = 0
  · subst h0
    go_enter Try.func38, Try.ntmps38
    go_wp2
    refine bodyPost_ret (results_none rfl _ _ _) rfl ⟨rfl, (hM.ext hE1).congr fun a b _ _ => ?_, hE1.grown _⟩
    rw [show UInt8.ofNat 0 = 0 from rfl, Mat.zero_fm]
    simp
  · have CR := fun W => row_any' r i c k (r * c) (some ⟨g, 0, none⟩) (by omega) hc (Nat.le_trans (Nat.mul_le_mul_right _ hi) hM.2.2.2) W
    have CA := fun W (h1 : Bytes W W.heap.size _ _ _) h2 => add_any (cutAt (some ⟨g, 0, none⟩) k (i * c)) A (k - i * c) ks x (rowB c (F i)) (rowB c f) W hx (by rw [rowB_len]; omega) h1 h2
    rw [rowB_add c x hx] at CA
    rw [rowB_len, rowB_len] at CA
    unfold matV at CR
    have HM := hide hM
    have HB := hide hB
    clear hM hB
    go_enter Try.func38, Try.ntmps38
    go_wp2_with fail
    refine (CR _).mono ?_
    rintro e w2 ⟨rfl, hE2⟩
    have hE12 := hE1.trans hE2
    have hW2 := hW1.ext hE2
    go_wp2_with fail
    refine (CA _ (ownRow (HM.out.1.ext hE12) rfl HM.out.2.2.2 hi) (hE12.bytes HB.out)).mono ?_
    rintro e w3 ⟨v, rfl, hO3, hE3⟩
    obtain ⟨A3, n3, k3, rfl, hk3, hn3, hB3⟩ := hO3.form'
    have hn : n3 = c := by have := hB3.1; rw [rowB_len] at this; exact this.symm
    subst hn
    have hE13 := hE12.trans hE3
    have hW3 := hW2.ext hE3
    have c0 := hW3.at 0 rfl
    have c1 := hW3.at 1 rfl
    have c2 := hW3.at 2 rfl
    go_wp2_with fail
    refine (CR _).mono ?_
    rintro e w4 ⟨rfl, hE4⟩
    have hE14 := hE13.trans hE4
    go_wp2_with (refine wpList_copyM rfl (.tmp 25) (.tmp 26) rfl rfl rfl (HM.out.1.ext hE14) (hE4.bytes hB3) rfl HM.out.2.2.2 hi (Nat.le_refl _) rfl ?_; intro w8 hO8 hG8 hS8)
    refine bodyPost_end (results_none rfl _ _ _) rfl ⟨rfl, ?_, (hE14.grown _).trans hG8⟩
    have hM8 : OwnM w8 base g r n3 k _ := ⟨hO8, HM.out.2.1, by have := HM.out.2.2.1; have := hE14.le; omega, HM.out.2.2.2⟩
    refine hM8.congr fun a b _ hb => ?_
    by_cases h : a = i
    · rw [if_pos ⟨h, hb⟩, if_pos h, h]
    · rw [if_neg (fun e => h e.1), if_neg h]
end Go.Proofs.Ytpgdmdcooddgdaa
