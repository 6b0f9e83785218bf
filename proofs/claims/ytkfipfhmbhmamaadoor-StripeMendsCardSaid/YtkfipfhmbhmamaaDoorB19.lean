/- Contracts of the program's small functions of chapter 6: may, alike, row, Equal, EqualFunc. Contracts of the program's product of a matrix and chunks. Contract of the program's product of a matrix and chunks. Contract of the program's goodOnes. Contract of the program's spread. Contract of the program's columns. Lists side by side, as the program's dataOf has them. What the steps of the program's dataOf come to. Contract of the program's dataOf. Lanes of the call's own: a list of rows of bytes, each of which lies in a block of its own. -/
import Derived.Test.YtkfipfhmbhmamaaDoorB07
import Derived.Test.YtkfipfhmbhmamaaDoorB08
import Derived.Test.YtkfipfhmbhmamaaDoorB13
import Derived.Test.YtkfipfhmbhmamaaDoorB16
import Derived.Test.YtkfipfhmbhmamaaDoorB17
import Derived.Test.YtkfipfhmbhmamaaDoorB18
import Derived.StillTailTactics
import Derived.OwnWalk
namespace Go.Proofs.YtkfipfhmbhmamaaDoor
open Go.RowKit

set_option maxHeartbeats 1000000 in
set_option maxRecDepth 100000 in
theorem rsMay_any (k m : Int) (w : World) (hk : k ≤ 9223372036854775807) : Calls Tryd.prog 40 #[.int .i64 k, .int .i64 m] w fun e w' => e = .returned (.bool (mayK k m)) ∧ w = w' := by
  have HM := hide (show mayK k m = decide (1 ≤ k ∧ 0 ≤ m ∧ k ≤ 255 ∧ m ≤ 255 - k) from rfl)
  go_enter Tryd.func40, Tryd.ntmps40
  go_wp2
  all_goals go_ret
  all_goals refine ⟨ret_bool ?_, rfl⟩
  all_goals rw [HM.out]
  all_goals first
    | (symm; exact decide_eq_false (by omega))
    | (rw [Bool.eq_iff_iff]; simp only [decide_eq_true_eq]; omega)

set_option maxHeartbeats 1000000 in
set_option maxRecDepth 100000 in
theorem rsAlike_any (A : Option Addr) (c : Nat) (ls : List (List UInt8)) (w : World) (h : RowsAt w w.heap.size A ls.length ls) (hl : ls.length ≤ 1000000) :
    Calls Tryd.prog 41 #[.slice A ls.length c] w fun e w' => e = .returned (.bool (decide (alike ls))) ∧ Ext w w' := by
  go_enter Tryd.func41, Tryd.ntmps41
  go_wp2
  go_loopw [7] (fun i wr => ∃ j : Nat, i = .int .i64 (j : Int) ∧ (∀ a, a < j → a < ls.length → (ls.getD a []).length = (ls.getD 0 []).length) ∧ Ext w wr) (fun i _ => ls.length - (intOf i).toNat)
  case atStart => exact ⟨0, rfl, fun a ha _ => absurd ha (by omega), Ext.refl _⟩
  case round =>
    obtain ⟨j, rfl, hz, hE⟩ := hrel
    have HZ := hide hz
    clear hz
    by_cases hlt : j < ls.length
    · rcases (h.ext hE).2 with h0 | ⟨b, o, rfl, hB, hcell⟩
      · omega
      obtain ⟨x, k1, Ax, kx, hx, _, hx2, _⟩ := hcell j hlt
      obtain ⟨y, k2, Ay, ky, hy, _, hy2, _⟩ := hcell 0 (by omega)
      rw [Nat.add_zero] at k2
      subst hx
      subst hy
      have hj0 : (0 : Int) ≤ (j : Int) := by omega
      have hj2 : (j : Int) < (ls.length : Int) := by omega
      have h00 : (0 : Int) < (ls.length : Int) := by omega
      obtain ⟨nx, hnx⟩ : ∃ n, n = (ls.getD j []).length := ⟨_, rfl⟩
      obtain ⟨ny, hny⟩ : ∃ n, n = (ls.getD 0 []).length := ⟨_, rfl⟩
      rw [← hnx] at k1
      rw [← hny] at k2
      have HX := hide hnx
      have HY := hide hny
      clear hnx hny hcell h hx2 hy2
      by_cases he : nx = ny
      · have he' : ((nx : Int) != (ny : Int)) = false := by simp; omega
        have HE := hide he
        clear he
        go_wp2
        go_roundw
        case rel =>
          refine ⟨j + 1, by go_num, fun a ha hal => ?_, hE⟩
          by_cases haj : a = j
          · rw [haj, ← HX.out, ← HY.out, HE.out]
          · exact HZ.out a (by omega) hal
        case measure => simp [intOf]; omega
      · have he' : ((nx : Int) != (ny : Int)) = true := by simp; omega
        have HE := hide he
        clear he
        go_wp2
        go_ret
        exact ⟨ret_bool (decide_eq_false fun ha => HE.out (by rw [HX.out, HY.out]; exact ha j hlt)).symm, hE⟩
    · have hj2 : ¬ ((j : Int) < (ls.length : Int)) := by omega
      clear h
      go_wp2
      go_ret
      exact ⟨ret_bool (decide_eq_true fun a ha => HZ.out a (by omega) ha).symm, hE⟩

set_option maxHeartbeats 1000000 in
set_option maxRecDepth 100000 in
theorem rsRow_any (r i c k n : Nat) (A : Option Addr) (hi : i ≤ 255) (hc : c ≤ 510) (hk : (i + 1) * c ≤ k) (w : World) : Calls Tryd.prog 65 #[matV r c (.slice A n k), .int .i64 (i : Int)] w fun e w' => e = .returned (.slice (cutAt A k (i * c)) c (k - i * c)) ∧ Ext w w' := by
  have hE1 := extNew w (.cells #[.int .i64 r, .int .i64 c, .slice A n k] 76)
  have hic : (i + 1) * c ≤ 256 * 510 := Nat.mul_le_mul (by omega) hc
  have hm1 : IntKind.i64.wrap ((i : Int) * (c : Int)) = ((i * c : Nat) : Int) := by
    have : i * c ≤ (i + 1) * c := Nat.mul_le_mul_right _ (by omega)
    rw [IntKind.wrap_i64]; rw [← Int.natCast_mul]; omega
  have hm2 : IntKind.i64.wrap (((i : Int) + 1) * (c : Int)) = (((i + 1) * c : Nat) : Int) := by
    rw [IntKind.wrap_i64, show ((i : Int) + 1) = ((i + 1 : Nat) : Int) from rfl, ← Int.natCast_mul]
    omega
  have hd : (i + 1) * c = i * c + c := by rw [Nat.add_mul, Nat.one_mul]
  have HC := fun W => run_mid W A n k .i64 .i64 ((i * c : Nat) : Int) (((i + 1) * c : Nat) : Int) (by omega) (by omega) (by omega)
  simp only [Int.toNat_natCast] at HC
  rw [show (i + 1) * c - i * c = c by omega] at HC
  generalize (i + 1) * c = e2 at *
  generalize i * c = e1 at *
  unfold matV
  go_enter Tryd.func65, Tryd.ntmps65
  go_wp2
  · skip
    subst h
    go_ret
    exact ⟨by simp [cutAt], hE1⟩
  · skip
    go_ret
    exact ⟨by simp [cutAt, h], hE1⟩

set_option maxHeartbeats 1000000 in
set_option maxRecDepth 100000 in
theorem bytesEqual_any (A B : Option Addr) (c d : Nat) (x y : List UInt8) (w : World) (hx : Bytes w w.heap.size A x.length x) (hy : Bytes w w.heap.size B y.length y) :
    Calls Tryd.prog 74 #[.slice A x.length c, .slice B y.length d] w fun e w' => e = .returned (.bool (decide (x = y))) ∧ w = w' := by
  have v1 := conv_bytes c hx (fun h => by subst h; rcases hx.2 with h | ⟨_, _, h, _⟩; exact h; cases h)
  have v2 := conv_bytes d hy (fun h => by subst h; rcases hy.2 with h | ⟨_, _, h, _⟩; exact h; cases h)
  clear hx hy
  go_enter Tryd.func74, Tryd.ntmps74
  go_wp2
  go_ret
  exact ⟨ret_bool (by rw [Bool.eq_iff_iff]; simp), rfl⟩

theorem enteredR_of {K : Nat} {fn : Func} {c : Code} (hf : Tryd.prog.funcs[K]? = some fn) (hname : (fn.name == "runtime.NumGoroutine") = false) (hb : fn.body = some c) (args : Array Value) (W : World) : (callFunc K args).run Tryd.prog W = .ok (.enter K args) W := by
  have h1 : fn.name ≠ "runtime.NumGoroutine" := by simpa using hname
  simp [callFunc, hf, h1, hb]
theorem enteredR_equal (args : Array Value) (W : World) : (callFunc 74 args).run Tryd.prog W = .ok (.enter 74 args) W := enteredR_of Tryd.func74 (by kernel_rfl) rfl args W

end Go.Proofs.YtkfipfhmbhmamaaDoor

namespace Go.Proofs.YtkfipfhmbhmamaaDoor
open Go.RowKit

theorem prods_info : (Tryd.prog.info? 103).map (·.size) = some 256 := by kernel_rfl
theorem prods_zero : ∃ Z : Array Value, Z.size = 256 ∧ (∀ W : World, (zeroValue 103).run Tryd.prog W = .ok (.agg Z) W) ∧ ∀ i, i < 256 → Z[i]? = some (.pointer none) := by
  refine ⟨Array.replicate 256 (.pointer none), by simp, fun W => ?_, fun i hi => by simp [hi]⟩
  have h : (Tryd.prog.info? 103).map (fun i => i.zero) = some (some (.agg (Array.replicate 256 (.pointer none)))) := by kernel_rfl
  obtain ⟨i, hi, hz⟩ := Option.map_eq_some_iff.1 h
  simp [zeroValue, typeInfo, hi, hz]
/-- The rows of products that are known. -/
def Known (w : World) (gp : Nat) : Prop := ∃ cs : Array Value, Whole w gp 103 cs ∧ cs.size = 256 ∧ ∀ c, c < 256 → cs[c]? = some (.pointer none) ∨ ∃ b, cs[c]? = some (.pointer (some ⟨b, 0, none⟩)) ∧ Whole w b 97 (Gf.rowV c)
theorem Known.new (W : World) {Z : Array Value} (hZ : Z.size = 256) (hz : ∀ i, i < 256 → Z[i]? = some (.pointer none)) : Known (W.alloc (.cells Z 103)) W.heap.size := ⟨Z, Whole.new W _ _, hZ, fun c hc => .inl (hz c hc)⟩
theorem Known.ext {w W : World} {gp : Nat} (h : Known w gp) (hE : Ext w W) : Known W gp := by
  obtain ⟨cs, h1, h2, h3⟩ := h
  exact ⟨cs, h1.ext hE, h2, fun c hc => (h3 c hc).imp_right fun ⟨b, e, hb⟩ => ⟨b, e, hb.ext hE⟩⟩
theorem Known.lt {w : World} {gp : Nat} (h : Known w gp) : gp < w.heap.size := by
  obtain ⟨cs, h1, _⟩ := h
  exact h1.lt
/-- A block of bytes is no block of another type. -/
theorem OwnB.notWhole {w : World} {base g n k b : Nat} {l : List UInt8} {t : TypeId} {cs : Array Value} (h : OwnB w base (.slice (some ⟨g, 0, none⟩) n k) l) (hb : Whole w b t cs) (ht : t ≠ 5) : b ≠ g := by
  rintro rfl
  rcases h.2 with ⟨e, _⟩ | ⟨g', cap, cur, e, _, hg, _⟩
  · cases e
  · simp only [Value.slice.injEq, Option.some.injEq, Addr.mk.injEq, and_true] at e
    obtain ⟨rfl, _⟩ := e
    unfold Whole at hb
    rw [hb] at hg
    simp only [Option.some.injEq, Obj.cells.injEq] at hg
    exact ht hg.2.1
theorem Known.grown {w W : World} {gp base g n k : Nat} {l : List UInt8} (h : Known w gp) (hO : OwnB w base (.slice (some ⟨g, 0, none⟩) n k) l) (hG : w.grownBy W (some g)) : Known W gp := by
  obtain ⟨cs, h1, h2, h3⟩ := h
  exact ⟨cs, h1.grown hG (hO.notWhole h1 (by decide)), h2, fun c hc => (h3 c hc).imp_right fun ⟨b, e, hb⟩ => ⟨b, e, hb.grown hG (hO.notWhole hb (by decide))⟩⟩
theorem known_put {w W : World} {gp b c : Nat} {cs : Array Value} (hs : cs.size = 256) (h3 : ∀ c, c < 256 → cs[c]? = some (.pointer none) ∨ ∃ b, cs[c]? = some (.pointer (some ⟨b, 0, none⟩)) ∧ Whole w b 97 (Gf.rowV c))
    (hW : Whole W gp 103 (cs.setIfInBounds c (.pointer (some ⟨b, 0, none⟩)))) (hk : ∀ b' V, Whole w b' 97 V → Whole W b' 97 V) (hb : Whole W b 97 (Gf.rowV c)) : Known W gp := by
  refine ⟨_, hW, by rw [Array.size_setIfInBounds]; exact hs, fun d hd => ?_⟩
  by_cases e : c = d
  · subst e
    exact .inr ⟨b, Array.getElem?_setIfInBounds_self_of_lt (by omega), hb⟩
  · rw [Array.getElem?_setIfInBounds_ne e]
    exact (h3 d hd).imp_right fun ⟨b', e', hb'⟩ => ⟨b', e', hk _ _ hb'⟩
/-- j bytes are added. -/
def addTo (f : Nat → UInt8) (c : Nat) (b : List UInt8) (j : Nat) : Nat → UInt8 := fun i => if i < j then f i ^^^ Mat.fm (UInt8.ofNat c) (b.getD i 0) else f i
theorem addTo_0 (f : Nat → UInt8) (c : Nat) (b : List UInt8) : addTo f c b 0 = f := by
  funext i
  exact if_neg (by omega)
theorem addTo_step (f : Nat → UInt8) (c : Nat) (b : List UInt8) (j n : Nat) : (rowB n (addTo f c b j)).set j (f j ^^^ Mat.fm (UInt8.ofNat c) (b.getD j 0)) = rowB n (addTo f c b (j + 1)) := by
  rw [rowB_set]
  refine rowB_congr fun i _ => ?_
  unfold addTo
  by_cases e : i = j
  · rw [if_pos e, if_pos (by omega), e]
  · rw [if_neg e]
    by_cases h : i < j
    · rw [if_pos h, if_pos (by omega)]
    · rw [if_neg h, if_neg (by omega)]
theorem addTo_all (f : Nat → UInt8) (c : Nat) (b : List UInt8) (n : Nat) : rowB n (addTo f c b n) = rowB n fun i => f i ^^^ Mat.fm (UInt8.ofNat c) (b.getD i 0) := rowB_congr fun _ hi => if_pos hi
theorem ptr_load {w : World} {g i : Nat} {v : Value} (h : w.cell? ⟨g, i, none⟩ = some v) : w.cell? ⟨g, i, none⟩ = some v := h
theorem Bytes.grownUp {w W : World} {g : Nat} {A : Option Addr} {n : Nat} {l : List UInt8} (h : Bytes w g A n l) (hG : w.grownBy W (some g)) (hg : g ≤ w.heap.size) : Bytes W g A n l :=
  h.below (Below.grown (Below.refl _ _) hG hg (fun k hk => by cases hk; exact Nat.le_refl _)) (Nat.le_refl _)

set_option maxHeartbeats 4000000 in
set_option maxRecDepth 100000 in
theorem padd_any {gp gt n kt kb c base B0 : Nat} {B : Option Addr} {b : List UInt8} {f : Nat → UInt8} {w : World} (hc : c < 256) (hn : n ≤ 20000) (hP : Known w gp) (hO : OwnB w base (.slice (some ⟨gt, 0, none⟩) n kt) (rowB n f)) (hb : Bytes w B0 B b.length b) (hBp : B0 ≤ gp) (hBt : B0 ≤ gt) (hbn : b.length = n) :
    Calls Tryd.prog 66 #[.pointer (some ⟨gp, 0, none⟩), .slice (some ⟨gt, 0, none⟩) n kt, .int .u8 (c : Int), .slice B b.length kb] w fun e w' =>
      e = .returned (.tuple #[]) ∧ Known w' gp ∧ OwnB w' base (.slice (some ⟨gt, 0, none⟩) n kt) (rowB n fun i => f i ^^^ Mat.fm (UInt8.ofNat c) (b.getD i 0)) ∧ Mod w w' gt (some gp) := by
  have hlt := (hO.lt gt rfl).2
  have hPlt := hP.lt
  have hgpt : gp ≠ gt := by
    obtain ⟨cs, h1, _⟩ := hP
    exact hO.notWhole h1 (by decide)
  obtain ⟨cs, hWp, hcs, hvals⟩ := hP
  have HVS := hide hvals
  rcases hvals c hc with h0 | ⟨bb, h1, hW3⟩
  · have d0 := hWp.at c h0
    have CR := fun W => row_any c W hc
    have HV := hide (Gf.rowV_size c)
    have hone := Gf.rowV_one c
    have hinf : (Tryd.prog.info? 97).map (·.size) = some (Gf.rowV c).size := by rw [HV.out]; exact row_info
    obtain ⟨V, hV⟩ : ∃ V, V = Gf.rowV c := ⟨_, rfl⟩
    rw [← hV] at HV hone hinf CR
    obtain ⟨Z, hZ, hzero, _⟩ := row_zero'
    have hs : V.size = Z.size := by rw [HV.out, hZ]
    have HVV := hide hV
    have HC := hide hcs
    have hc' : (c : Int) < 256 := by omega
    have hxc : c < cs.size := by omega
    have HB := hide hb
    have hpi : (Tryd.prog.info? 101).map (·.size) = some 1 := by kernel_rfl
    clear hZ hV hcs hvals hb h0
    go_enter Tryd.func66, Tryd.ntmps66
    go_wp2_with fail
    refine (CR _).mono ?_
    rintro e w1 ⟨rfl, hE1⟩
    have hWz := Whole.new w1 97 Z
    have hE2 : Ext w (w1.alloc (.cells Z 97)) := hE1.alloc _
    have HXC := hide hxc
    obtain ⟨bb, hbb⟩ : ∃ bb, bb = w1.heap.size := ⟨_, rfl⟩
    have hlw : w.heap.size ≤ bb := by rw [hbb]; exact hE1.le
    rw [← hbb] at hWz
    have HBB := hide hbb
    clear d0 hxc CR hbb
    go_wp2_with (first
      | (rw [← HBB.out]; refine wpList_storeW rfl 97 (.tmp 8) (.tmp 19) rfl rfl rfl hWz hs hinf hone ?_; intro w2 hW2 hG2 hS2; clear hS2; have hP2 := ((hWp.ext hE2).grown hG2 (by have := hWp.lt; omega)))
      | (refine wpList_storeC rfl 101 (.tmp 23) (.tmp 8) rfl _ rfl rfl hP2 HXC.out hpi rfl rfl rfl ?_; intro w3 hP4 hG3; have d3 : w3.cell? ⟨gp, c, none⟩ = some (.pointer (some ⟨bb, 0, none⟩)) := hP4.at c (Array.getElem?_setIfInBounds_self_of_lt HXC.out)))
    have hE3 : Ext w w2 := Below.grown hE2 hG2 hE2.le (fun k hk => by cases hk; exact hlw)
    have hbgp : bb ≠ gp := by have := hWp.lt; omega
    have hgtp : gt ≠ gp := Ne.symm hgpt
    have hW3 := hW2.grown hG3 hbgp
    rw [HVV.out] at hW3
    have hM3 : Mod w w3 gt (some gp) := (Mod.ofExt hE3).trans (Mod.ofOwn hG3) (.inl rfl)
    have hO3 := (Mod.ofRow (ob := none) hG3).own (hO.ext hE3) (by simp [Value.ownBlock]; omega) (by simp [Classical.em])
    have hk3 : ∀ b' V', Whole w b' 97 V' → Whole w3 b' 97 V' := fun b' V' h => (h.ext hE3).grown hG3 (by
      rintro rfl
      unfold Whole at h hWp
      rw [h] at hWp
      simp only [Option.some.injEq, Obj.cells.injEq] at hWp
      exact absurd hWp.2.1 (by decide))
    have hP3 := known_put HC.out HVS.out hP4 hk3 hW3
    have hB3 : B0 ≤ w3.heap.size := by have := hM3.size; omega
    have hb3 : Bytes w3 B0 B b.length b := HB.out.below (hM3.below (by omega) hBt (fun k hk => by cases hk; exact hBp)) (Nat.le_refl _)
    clear hk3 hP4 hP2 hW2 hE2 hWz HVS HC HXC hE1 hlw hWp hG2 hG3 hE3 HVV hbgp
    go_wp2_with fail
    have hbg : bb ≠ gt := hO3.notWhole hW3 (by decide)
    go_loopw [31] (fun x wr => ∃ j : Nat, j ≤ n ∧ x = .int .i64 (j : Int) ∧ OwnB wr base (.slice (some ⟨gt, 0, none⟩) n kt) (rowB n (addTo f c b j)) ∧ w3.grownBy wr (some gt)) (fun x _ => n - (intOf x).toNat)
    case atStart => exact ⟨0, by omega, rfl, by rw [addTo_0]; exact hO3, World.grownBy.refl w3 _⟩
    case round =>
      obtain ⟨j, hj, rfl, hOj, hG⟩ := hrel
      by_cases hlt : j < n
      · have hWr := hW3.grown hG hbg
        rcases (hb3.below ((Mod.ofRow (ob := none) hG).below hB3 hBt (fun k hk => by cases hk)) (Nat.le_refl _)).2 with h0 | ⟨b2, o2, rfl, hB2, hcell2⟩
        · omega
        have k2 := hcell2 j (by omega)
        obtain ⟨hc5, hf5⟩ := hOj.cell (i := j) (by rw [rowB_len]; exact hlt)
        rw [rowB_at _ hlt, show addTo f c b j j = f j from if_neg (Nat.lt_irrefl _)] at hc5
        have HS := hide (addTo_step f c b j n)
        have hfm : Mat.fm (UInt8.ofNat c) (b.getD j 0) = UInt8.ofNat (Gf.mul c (b.getD j 0).toNat) := by
          unfold Mat.fm
          rw [UInt8.toNat_ofNat', Nat.mod_eq_of_lt (show c < 2 ^ 8 by omega)]
        rw [hfm] at HS
        have hy := UInt8.toNat_lt (b.getD j 0)
        have k3 := hWr.at (b.getD j 0).toNat (Gf.rowV_at c hy)
        have hml := Gf.mul_lt hc hy
        have hxor := u8_xor_byteN (f j) (Gf.mul c (b.getD j 0).toNat) hml
        clear hfm hcell2
        generalize b.getD j 0 = y at *
        have hy' : (y.toNat : Int) < 256 := by omega
        generalize Gf.mul c y.toNat = m at *
        generalize f j = x at *
        obtain ⟨bt, hbt⟩ : ∃ bt, bt = x ^^^ UInt8.ofNat m := ⟨_, rfl⟩
        rw [← hbt] at hxor HS
        have hO4 := hOj.set j bt
        rw [HS.out] at hO4
        have hG4 := hG.trans (grown_setCell wr gt j (.int .u8 (bt.toNat : Int)))
        have hjn : (j : Int) < (n : Int) := by omega
        have hjb : (j : Int) < (b.length : Int) := by omega
        clear hbt hml hOj hWr
        have HQ := hide hbn
        clear hbn
        go_wp2_with fail
        go_region
        go_wp2
        go_roundw
        case rel => exact ⟨j + 1, by omega, by go_num, hO4.ext (Ext.refl _).drew, hG4.os, hG4.tape, hG4.output, hG4.size, hG4.block⟩
        case measure => simp [intOf]; omega
      · obtain rfl : j = n := by omega
        rw [addTo_all] at hOj
        have hP5 := hP3.grown hO3 hG
        have hM5 : Mod w wr gt (some gp) := hM3.trans (Mod.ofRow hG) (.inl rfl)
        have HQ := hide hbn
        have hjb : ¬ ((j : Int) < (b.length : Int)) := by omega
        clear hb3 hbn
        go_wp2
        refine bodyPost_end (results_none rfl _ _ _) rfl ⟨rfl, hP5, hOj, hM5⟩

  · have d0 := hWp.at c h1
    have hc' : (c : Int) < 256 := by omega
    have hO3 := hO
    have hb3 := hb
    have hP3 : Known w gp := ⟨cs, hWp, hcs, hvals⟩
    have hM3 := Mod.refl w gt (some gp)
    have hB3 : B0 ≤ w.heap.size := by omega
    have HB := hide hb
    clear hWp hcs hvals HVS h1 hO hb
    go_enter Tryd.func66, Tryd.ntmps66
    go_wp2_with fail
    have hbg : bb ≠ gt := hO3.notWhole hW3 (by decide)
    go_loopw [31] (fun x wr => ∃ j : Nat, j ≤ n ∧ x = .int .i64 (j : Int) ∧ OwnB wr base (.slice (some ⟨gt, 0, none⟩) n kt) (rowB n (addTo f c b j)) ∧ w.grownBy wr (some gt)) (fun x _ => n - (intOf x).toNat)
    case atStart => exact ⟨0, by omega, rfl, by rw [addTo_0]; exact hO3, World.grownBy.refl w _⟩
    case round =>
      obtain ⟨j, hj, rfl, hOj, hG⟩ := hrel
      by_cases hlt : j < n
      · have hWr := hW3.grown hG hbg
        rcases (hb3.below ((Mod.ofRow (ob := none) hG).below hB3 hBt (fun k hk => by cases hk)) (Nat.le_refl _)).2 with h0 | ⟨b2, o2, rfl, hB2, hcell2⟩
        · omega
        have k2 := hcell2 j (by omega)
        obtain ⟨hc5, hf5⟩ := hOj.cell (i := j) (by rw [rowB_len]; exact hlt)
        rw [rowB_at _ hlt, show addTo f c b j j = f j from if_neg (Nat.lt_irrefl _)] at hc5
        have HS := hide (addTo_step f c b j n)
        have hfm : Mat.fm (UInt8.ofNat c) (b.getD j 0) = UInt8.ofNat (Gf.mul c (b.getD j 0).toNat) := by
          unfold Mat.fm
          rw [UInt8.toNat_ofNat', Nat.mod_eq_of_lt (show c < 2 ^ 8 by omega)]
        rw [hfm] at HS
        have hy := UInt8.toNat_lt (b.getD j 0)
        have k3 := hWr.at (b.getD j 0).toNat (Gf.rowV_at c hy)
        have hml := Gf.mul_lt hc hy
        have hxor := u8_xor_byteN (f j) (Gf.mul c (b.getD j 0).toNat) hml
        clear hfm hcell2
        generalize b.getD j 0 = y at *
        have hy' : (y.toNat : Int) < 256 := by omega
        generalize Gf.mul c y.toNat = m at *
        generalize f j = x at *
        obtain ⟨bt, hbt⟩ : ∃ bt, bt = x ^^^ UInt8.ofNat m := ⟨_, rfl⟩
        rw [← hbt] at hxor HS
        have hO4 := hOj.set j bt
        rw [HS.out] at hO4
        have hG4 := hG.trans (grown_setCell wr gt j (.int .u8 (bt.toNat : Int)))
        have hjn : (j : Int) < (n : Int) := by omega
        have hjb : (j : Int) < (b.length : Int) := by omega
        clear hbt hml hOj hWr
        have HQ := hide hbn
        clear hbn
        go_wp2_with fail
        go_region
        go_wp2
        go_roundw
        case rel => exact ⟨j + 1, by omega, by go_num, hO4.ext (Ext.refl _).drew, hG4.os, hG4.tape, hG4.output, hG4.size, hG4.block⟩
        case measure => simp [intOf]; omega
      · obtain rfl : j = n := by omega
        rw [addTo_all] at hOj
        have hP5 := hP3.grown hO3 hG
        have hM5 : Mod w wr gt (some gp) := hM3.trans (Mod.ofRow hG) (.inl rfl)
        have HQ := hide hbn
        have hjb : ¬ ((j : Int) < (b.length : Int)) := by omega
        clear hb3 hbn
        go_wp2
        refine bodyPost_end (results_none rfl _ _ _) rfl ⟨rfl, hP5, hOj, hM5⟩
end Go.Proofs.YtkfipfhmbhmamaaDoor

namespace Go.Proofs.YtkfipfhmbhmamaaDoor
open Go.RowKit

/-- A list of r rows in block g, by their slices. -/
def Lst (w : World) (base g r : Nat) (R : Nat → Value) : Prop := w.ownsRow base 27 1 (.slice (some ⟨g, 0, none⟩) r r) r ((List.range r).map R)
section
variable {w w' : World} {base g r gt lo B i : Nat} {R : Nat → Value} {ob : Option Nat} {x : Value} {l : List UInt8}
theorem Lst.lt (h : Lst w base g r R) : base ≤ g ∧ g < w.heap.size := World.ownsRow.lt h g rfl
theorem Lst.mod (h : Lst w base g r R) (hM : Mod w w' gt ob) (hg : g ≠ gt) (ho : ob ≠ some g) : Lst w' base g r R := by
  refine ⟨h.1, ?_⟩
  rcases h.2 with hn | ⟨y, cap, cur, e, hb, hgg, rest⟩
  · exact .inl hn
  · refine .inr ⟨y, cap, cur, e, hb, ?_, rest⟩
    simp only [Value.slice.injEq, Option.some.injEq, Addr.mk.injEq, and_true] at e
    obtain ⟨rfl, _⟩ := e
    rw [hM.block g (Array.getElem?_eq_some_iff.1 hgg).1 hg (fun e => ho e.symm)]
    exact hgg
theorem Lst.ext (h : Lst w base g r R) (hE : Ext w w') : Lst w' base g r R := h.mod (gt := g + 1) (ob := none) (Mod.ofExt hE) (by omega) (by simp)
theorem Lst.cell (h : Lst w base g r R) (hi : i < r) : w.cell? ⟨g, i, none⟩ = some (R i) ∧ w.frozen? ⟨g, i, none⟩ = false := by
  refine ⟨?_, World.ownsRow.frozenAt h i⟩
  rw [World.ownsRow.cellAt h i (by omega)]
  simp [hi]
theorem Ext.belowAt {a b : World} {C : Nat} (h : Ext a b) (hC : C ≤ a.heap.size) : Below C a b := Below.mono h hC
theorem Lst.set (h : Lst w base g r R) (hi : i < r) (x : Value) : Lst (w.setCell ⟨g, i, none⟩ x) base g r (fun a => if a = i then x else R a) ∧ w.grownBy (w.setCell ⟨g, i, none⟩ x) (some g) := by
  obtain ⟨h3, h4⟩ := World.ownsRow.stored h i x
  refine ⟨?_, h4⟩
  have e : (List.range r).map (fun a => if a = i then x else R a) = ((List.range r).map R).set i x := by
    apply List.ext_getElem?
    intro a
    rw [List.getElem?_set]
    by_cases ha : a < r
    · by_cases hai : i = a
      · subst hai
        simp [ha]
      · have hai' : ¬ a = i := fun e => hai e.symm
        simp [ha, hai, hai']
    · simp [ha]
      intro e
      omega
  unfold Lst
  rw [e]
  exact h3
theorem RowOf.mid {gp : Nat} (h : RowOf w B x l) (hn : NewX lo x) (hM : Mod w w' gt (some gp)) (hB : B ≤ gt) (hBw : B ≤ w.heap.size) (hp : gp < lo) : RowOf w' B x l := by
  obtain ⟨A, k, e, h2, h3, h4⟩ := h
  refine ⟨A, k, e, h2, h3, h4.1, ?_⟩
  rcases h4.2 with h0 | ⟨b, off, rfl, hb, hc⟩
  · exact .inl h0
  rcases hn _ _ _ e with h0 | h1
  · exact .inl h0
  refine .inr ⟨b, off, rfl, hb, fun i hi => ?_⟩
  have := h1 b off rfl
  rw [hM.cell (by omega) (by omega) (by simp; omega)]
  exact hc i hi
/-- The rows made so far. -/
def RowsTo (w : World) (lo B : Nat) (R : Nat → Value) (ls : List (List UInt8)) (i : Nat) : Prop := ∀ a, a < i → RowOf w B (R a) (ls.getD a []) ∧ NewX lo (R a)
theorem RowsTo.mono {ls : List (List UInt8)} {B' : Nat} (h : RowsTo w lo B R ls i) (hB : B ≤ B') : RowsTo w lo B' R ls i := fun a ha => ⟨(h a ha).1.up hB, (h a ha).2⟩
theorem RowsTo.mid {gp : Nat} {ls : List (List UInt8)} (h : RowsTo w lo B R ls i) (hM : Mod w w' gt (some gp)) (hB : B ≤ gt) (hBw : B ≤ w.heap.size) (hp : gp < lo) : RowsTo w' lo B R ls i := fun a ha => ⟨(h a ha).1.mid (h a ha).2 hM hB hBw hp, (h a ha).2⟩
theorem RowsTo.ext {ls : List (List UInt8)} (h : RowsTo w lo B R ls i) (hE : Ext w w') (hB : B ≤ w.heap.size) : RowsTo w' lo B R ls i := fun a ha => ⟨(h a ha).1.below (Below.mono hE hB), (h a ha).2⟩
theorem RowsTo.put {ls : List (List UInt8)} (h : RowsTo w lo B R ls i) (hx : RowOf w B x (ls.getD i [])) (hn : NewX lo x) : RowsTo w lo B (fun a => if a = i then x else R a) ls (i + 1) := fun a ha => by
  by_cases e : a = i
  · simp only [e, if_true]
    exact ⟨hx, hn⟩
  · simp only [e, if_false]
    exact h a (by omega)
theorem rowOf_far {g : Nat} {u : Value} (h : RowOf w B x l) (hn : NewX lo x) (hg : g < lo) : RowOf (w.setCell ⟨g, i, none⟩ u) B x l := by
  obtain ⟨A, k, e, h2, h3, h4⟩ := h
  refine ⟨A, k, e, h2, h3, h4.1, ?_⟩
  rcases h4.2 with h0 | ⟨b, off, rfl, hb, hc⟩
  · exact .inl h0
  rcases hn _ _ _ e with h0 | h1
  · exact .inl h0
  refine .inr ⟨b, off, rfl, hb, fun j hj => ?_⟩
  have := h1 b off rfl
  rw [← hc j hj]
  exact World.cell?_of_block (a := ⟨b, off + j, none⟩) (Below.heap_setCell w ⟨g, i, none⟩ u b (by show b ≠ g; omega))
/-- All rows are made. -/
theorem Lst.made {ls : List (List UInt8)} (h : Lst w base g r R) (hr : RowsTo w lo w.heap.size R ls r) (hl : ls.length = r) (hg : g < lo) (hb : base ≤ lo) : OwnN w base (.slice (some ⟨g, 0, none⟩) r r) ls := by
  subst hl
  exact ⟨R, h, fun i hi => ⟨(hr i hi).1, (hr i hi).2.clear (fun k hk => by simp [Value.ownBlock] at hk; omega), (hr i hi).2.mono hb⟩⟩
end
/-- Behind a call that makes a list of r rows. -/
def MadeL (w : World) (r : Nat) (ls : List (List UInt8)) (e : Ending) (w' : World) : Prop := ∃ g R, e = .returned (.slice (some ⟨g, 0, none⟩) r r) ∧ Lst w' w.heap.size g r R ∧ RowsTo w' (g + 1) w'.heap.size R ls r ∧ Ext w w'
theorem MadeL.toN {w w' : World} {r : Nat} {ls : List (List UInt8)} {e : Ending} (h : MadeL w r ls e w') (hl : ls.length = r) : MadeN w ls e w' := by
  obtain ⟨g, R, rfl, hL, hR, hE⟩ := h
  have := hL.lt
  exact ⟨_, rfl, hL.made hR hl (by omega) (by omega), hE⟩
theorem nil_cells (n : Nat) : (madeCells (Value.slice none 0 0).cells n).toList = (List.range n).map fun _ => Value.slice none 0 0 := by
  have : madeCells (Value.slice none 0 0).cells n = ((List.range n).map fun _ => Value.slice none 0 0).toArray := by
    apply Array.ext
    · simp [size_madeCells, Value.cells]
    · intro i h1 h2
      simp [madeCells, Value.cells, Nat.mod_one]
  rw [this]
theorem newX_slice {lo g n k : Nat} (h : lo ≤ g) : NewX lo (.slice (some ⟨g, 0, none⟩) n k) := fun A m c e => .inr fun b off e2 => by
  simp only [Value.slice.injEq] at e
  rw [← e.1] at e2
  simp only [Option.some.injEq, Addr.mk.injEq, and_true] at e2
  omega

theorem Lst.notWhole {w : World} {base g r b : Nat} {R : Nat → Value} {t : TypeId} {cs : Array Value} (h : Lst w base g r R) (hb : Whole w b t cs) (ht : t ≠ 27) : b ≠ g := by
  rintro rfl
  rcases h.2 with ⟨e, _⟩ | ⟨g', cap, cur, e, _, hg, _⟩
  · cases e
  · simp only [Value.slice.injEq, Option.some.injEq, Addr.mk.injEq, and_true] at e
    obtain ⟨rfl, _⟩ := e
    unfold Whole at hb
    rw [hb] at hg
    simp only [Option.some.injEq, Obj.cells.injEq] at hg
    exact ht hg.2.1
theorem Known.lst {w W : World} {gp base g r : Nat} {R : Nat → Value} (h : Known w gp) (hL : Lst w base g r R) (hG : w.grownBy W (some g)) : Known W gp := by
  obtain ⟨cs, h1, h2, h3⟩ := h
  exact ⟨cs, h1.grown hG (hL.notWhole h1 (by decide)), h2, fun c hc => (h3 c hc).imp_right fun ⟨b, e, hb⟩ => ⟨b, e, hb.grown hG (hL.notWhole hb (by decide))⟩⟩
theorem rowB_zero (N : Nat) : rowB N (fun _ => (0 : UInt8)) = List.replicate N 0 := by
  unfold rowB
  rw [List.map_const', List.length_range]
/-- The sum of the first j products. -/
def partR (f : Nat → UInt8) (ls : List (List UInt8)) (j n : Nat) : UInt8 := Mat.sum j fun q => Mat.fm (f q) ((ls.getD q []).getD n 0)
theorem partR_step (f : Nat → UInt8) (ls : List (List UInt8)) (j N : Nat) : (rowB N fun i => partR f ls j i ^^^ Mat.fm (UInt8.ofNat (f j).toNat) ((ls.getD j []).getD i 0)) = rowB N (partR f ls (j + 1)) := by
  rw [UInt8.ofNat_toNat]
  rfl

set_option maxHeartbeats 4000000 in
set_option maxRecDepth 100000 in
theorem rsTimesL_any (m : MV) (A1 A2 : Option Addr) (k1 k2 : Nat) (ls : List (List UInt8)) (w : World) (hm : m.may = true) (h1 : m.lies w A1 k1) (h2 : RowsAt w w.heap.size A2 ls.length ls)
    (hc : m.c.toNat ≤ ls.length) (h0 : 0 < m.r → 0 < ls.length) (hal : alike ls) (hl0 : (ls.getD 0 []).length ≤ 20000) :
    Calls Tryd.prog 43 #[m.arg A1 k1, .slice A2 ls.length k2] w (MadeL w m.r.toNat (timesL m.r.toNat m.c.toNat m.at ls)) := by
  obtain ⟨q1, q2, q3, q4, q5⟩ := MV.may_iff.1 hm
  have HA := hide (show ∀ i j, m.at i j = m.l.getD (i * m.c.toNat + j) 0 from fun _ _ => rfl)
  generalize m.at = f at *
  obtain ⟨h1, hml, hk1⟩ := h1
  obtain ⟨r, c, l⟩ := m
  unfold MV.arg
  dsimp only at *
  obtain ⟨r, rfl⟩ := Int.eq_ofNat_of_zero_le q1
  obtain ⟨c, rfl⟩ := Int.eq_ofNat_of_zero_le q3
  simp only [Int.toNat_natCast] at *
  have l5 : l.length = r * c := by omega
  have hr255 : r ≤ 255 := by omega
  have hc255 : c ≤ 255 := by omega
  have HL := hide l5
  have HAL := hide hal
  clear q1 q2 q3 q4 q5 l5 hm hal
  obtain ⟨N, hN⟩ : ∃ N, N = (ls.getD 0 []).length := ⟨_, rfl⟩
  rw [← hN] at hl0
  have HN := hide hN
  have HT := hide (show ∀ i, i < r → (timesL r c f ls).getD i [] = rowB N (cellL c f ls i) from fun i hi => by rw [timesL_at hi, HN.out])
  have HTL := hide (timesL_len r c f ls)
  generalize timesL r c f ls = out at *
  clear hN
  obtain ⟨Z, hZ, hzero, hz⟩ := prods_zero
  have hE2 : Ext w ((w.alloc (.cells #[.int .i64 (r : Int), .int .i64 (c : Int), .slice A1 l.length k1] 76)).alloc (.cells Z 103)) := (extNew w _).alloc _
  have hW2 : Whole ((w.alloc (.cells #[.int .i64 (r : Int), .int .i64 (c : Int), .slice A1 l.length k1] 76)).alloc (.cells Z 103)) w.heap.size 76 #[.int .i64 (r : Int), .int .i64 (c : Int), .slice A1 l.length k1] := (Whole.new w _ _).alloc _
  have hK2 : Known ((w.alloc (.cells #[.int .i64 (r : Int), .int .i64 (c : Int), .slice A1 l.length k1] 76)).alloc (.cells Z 103)) (w.heap.size + 1) := by
    have := Known.new (w.alloc (.cells #[.int .i64 (r : Int), .int .i64 (c : Int), .slice A1 l.length k1] 76)) hZ hz
    rwa [World.size_alloc] at this
  obtain ⟨iR, hiR, hzR, hszR, hbyR⟩ := info_parts rw_info
  obtain ⟨iB, hiB, hzB, hszB, hbyB⟩ := info_parts byte_info
  have hi4 : r ≤ maxLen := by unfold maxLen; omega
  have hi5 : iR.bytes * r ≤ 281474976710656 := by rw [hbyR]; omega
  clear hZ hz
  go_enter Tryd.func43, Tryd.ntmps43
  go_wp2_with (at_make; refine wpList_make_full _ rfl _ _ _ rfl w.heap.size 27 iR _ 1 Tryd.underlying55 hiR hzR hszR _ _ _ _ r rfl rfl rfl rfl hi5 hi4 (by simp; omega) ?_; intro w3 hO3 hG3)
  have hE3 : Ext w w3 := Below.grown hE2 hG3 hE2.le (fun k hk => by cases hk)
  have hW3 := hW2.ownGrown hG3 (by simp)
  have hF3 : Ext ((w.alloc (.cells #[.int .i64 (r : Int), .int .i64 (c : Int), .slice A1 l.length k1] 76)).alloc (.cells Z 103)) w3 := ⟨hG3.os, hG3.tape, hG3.output, hG3.size, fun b hb => hG3.block b hb (by simp)⟩
  have hK3 := hK2.ext hF3
  have hL3 : Lst w3 w.heap.size (w.heap.size + 1 + 1) r (fun _ => .slice none 0 0) := by
    unfold Lst
    rw [Nat.mul_one, nil_cells, World.size_alloc, World.size_alloc] at hO3
    exact hO3
  obtain ⟨gm, hgm⟩ : ∃ g, g = w.heap.size + 1 + 1 := ⟨_, rfl⟩
  obtain ⟨gp, hgp⟩ : ∃ g, g = w.heap.size + 1 := ⟨_, rfl⟩
  rw [← hgm] at hL3 ⊢
  rw [← hgp] at hK3 ⊢
  have b1 : w.heap.size < gp := by omega
  have b2 : gp < gm := by omega
  have hE03 := hE3
  clear hO3 hG3 hF3 hK2 hW2 hE2 hgm hgp hi4 hi5 hiR hzR hszR hbyR hE3 hzero
  have hiB4 : N ≤ maxLen := by unfold maxLen; omega
  have hiB5 : iB.bytes * N ≤ 281474976710656 := by rw [hbyB]; omega
  go_loopw [15] (fun x wr => ∃ i : Nat, i ≤ r ∧ x = .int .i64 (i : Int) ∧ (∃ R, Lst wr w.heap.size gm r R ∧ RowsTo wr (gm + 1) wr.heap.size R out i) ∧ Known wr gp ∧ Whole wr w.heap.size 76 #[.int .i64 (r : Int), .int .i64 (c : Int), .slice A1 l.length k1] ∧ Ext w wr) (fun x _ => r - (intOf x).toNat)
  case atStart => exact ⟨0, by omega, rfl, ⟨_, hL3, fun a ha => absurd ha (by omega)⟩, hK3, hW3, hE03⟩
  case round =>
    obtain ⟨i, hi, rfl, ⟨R, hL, hR⟩, hK, hW, hE⟩ := hrel
    by_cases hlt : i < r
    · have hls : 0 < ls.length := h0 (by omega)
      rcases h2.2 with h0' | ⟨b2', o2, rfl, hB2, hcell2⟩
      · omega
      have HC2 := hide hcell2
      obtain ⟨x0, k0, hx0⟩ := hcell2 0 hls
      obtain ⟨Ax, kx, rfl, _, _, _⟩ := hx0
      rw [← HN.out, Nat.add_zero] at k0
      have k0' := (hE.cell hB2).trans k0
      clear hcell2 h2 k0
      have hrow : (i + 1) * c ≤ k1 := by
        have : (i + 1) * c ≤ r * c := Nat.mul_le_mul_right _ hlt
        have := HL.out
        omega
      have CR := fun W => rsRow_any r i c k1 l.length A1 (by omega) (by omega) hrow W
      unfold matV at CR
      have hlsI : (0 : Int) < (ls.length : Int) := by omega
      clear h0
      go_wp2_with (first
        | (at_make; refine wpList_make_full _ rfl _ _ _ rfl w.heap.size 5 iB _ 1 Tryd.underlying27 hiB hzB hszB _ _ _ _ N rfl rfl rfl rfl hiB5 hiB4 hE.le ?_; intro w4 hO4 hG4; have hF4 : Ext wr w4 := ⟨hG4.os, hG4.tape, hG4.output, hG4.size, fun b hb => hG4.block b hb (by simp)⟩; obtain ⟨hc4, hf4⟩ := (hL.ext hF4).cell hlt; have hW5 := (hW.ext hF4).far (b := gm) (by omega) i (.slice (some ⟨wr.heap.size, 0, none⟩) N N))
        | (refine wpList_load_row rfl 76 (.tmp 2) rfl _ rfl _ _ _ _ hW5 Tryd.underlying76 rfl mat_info ?_))
      refine (CR _).mono ?_
      rintro e w6 ⟨rfl, hE6⟩
      obtain ⟨gt, hgt⟩ : ∃ g, g = wr.heap.size := ⟨_, rfl⟩
      have hO4' : OwnB w4 w.heap.size (.slice (some ⟨gt, 0, none⟩) N N) (rowB N fun _ => 0) := by
        unfold OwnB
        rw [Nat.mul_one, zero_cells] at hO4
        rw [rowB_len, hgt, rowB_zero]
        exact hO4
      rw [← hgt] at hE6 hW5 ⊢
      have hgl := hL.lt
      have hgt1 : gm < gt := by omega
      have hW6 := hW5.ext hE6
      obtain ⟨hL5, hG5⟩ := (hL.ext hF4).set hlt (.slice (some ⟨gt, 0, none⟩) N N)
      have hL6 := hL5.ext hE6
      have hO6 := (hO4'.far (g := gm) (by simp [Value.ownBlock]; omega) i (.slice (some ⟨gt, 0, none⟩) N N)).ext hE6
      have hK6 := ((hK.ext hF4).lst (hL.ext hF4) hG5).ext hE6
      have hM5 : Mod wr _ gm (some gp) := (Mod.ofExt hF4).trans (Mod.ofRow hG5) (.inl rfl)
      have hE5 : Ext w _ := (hE.trans hF4).setCell (g := gm) (i := i) (by omega) (.slice (some ⟨gt, 0, none⟩) N N)
      have hE06 := hE5.trans hE6
      have hR6 : RowsTo w6 (gm + 1) gt R out i := fun a ha => by
        obtain ⟨h1, h2⟩ := hR a ha
        rw [← hgt] at h1
        refine ⟨RowOf.below ?_ (hE6.belowAt (by rw [World.size_setCell, hgt]; exact hF4.le)), h2⟩
        exact rowOf_far (h1.below (hF4.belowAt (by omega))) h2 (by omega)
      clear hO4 hG4 hc4 hf4 hW5 hO4' hL5 hG5 hM5 hE5 hF4 hE6 hL hR hK hW k0'
      have HR6 := hide hR6
      have HGT := hide hgt
      clear hR6 hgt
      obtain ⟨R0, hR0⟩ : ∃ R, R = cutAt A1 k1 (i * c) := ⟨_, rfl⟩
      rw [← hR0]
      have HR0 := hide hR0
      clear hR0 CR
      go_wp2_with fail
      obtain ⟨wa, rfl⟩ : ∃ W, W = wr := ⟨_, rfl⟩
      go_loopw [30] (fun x wr => ∃ j : Nat, j ≤ c ∧ x = .int .i64 (j : Int) ∧ Known wr gp ∧ OwnB wr w.heap.size (.slice (some ⟨gt, 0, none⟩) N N) (rowB N (partR (f i) ls j)) ∧ Mod w6 wr gt (some gp)) (fun x _ => c - (intOf x).toNat)
      case atStart => exact ⟨0, by omega, rfl, hK6, hO6, Mod.refl _ _ _⟩
      case round =>
        obtain ⟨j, hj, rfl, hKq, hOq, hMq⟩ := hrel
        have hw6 := hE06.le
        have hEq : Ext w wr := Below.trans hE06 (hMq.below hw6 (by omega) (fun k hk => by cases hk; omega))
        by_cases hjt : j < c
        · obtain ⟨p1, p2⟩ := row_place hlt (by omega : 0 < c)
          have hll := HL.out
          rcases h1.2 with h0' | ⟨b1', o1, rfl, hB1, hcell1⟩
          · omega
          have hcut : R0 = some ⟨b1', o1 + i * c, none⟩ := by
            have h3 := HR0.out
            rw [h3]
            simp [cutAt, show ¬ k1 = i * c by omega, Addr.add]
          subst hcut
          have k3 := (hEq.cell hB1).trans (hcell1 (i * c + j) (by omega))
          rw [← HA.out i j, ← Nat.add_assoc] at k3
          obtain ⟨xj, k4, hxj⟩ := HC2.out j (by omega)
          obtain ⟨Aj, kj, rfl, _, _, hBj⟩ := hxj
          have k4' := (hEq.cell hB2).trans k4
          obtain ⟨k5, _⟩ := (hL6.mod hMq (by omega) (by simp; omega)).cell hlt
          rw [if_pos rfl] at k5
          have HS := hide (partR_step (f i) ls j N)
          have hlen : (ls.getD j []).length = N := by rw [HAL.out j (by omega), HN.out]
          have hBq := hBj.below hEq (Nat.le_refl _)
          have hjl : (j : Int) < (ls.length : Int) := by omega
          have hjc : (j : Int) < (c : Int) := by omega
          have hir : (i : Int) < (r : Int) := by omega
          clear hcell1 k4 hll p1 p2
          obtain ⟨ch, hch⟩ : ∃ n, n = ls.getD j [] := ⟨_, rfl⟩
          rw [← hch] at k4' HS hlen hBq
          clear hch hBj
          have hyt := Mat.lt (f i j)
          obtain ⟨y, hy⟩ : ∃ y, y = (f i j).toNat := ⟨_, rfl⟩
          rw [← hy] at k3 HS hyt
          have HLen := hide hlen
          clear hy hlen
          go_wp2_with fail
          go_still_tail 9, (by kernel_rfl)
          change wpList _ _ _ _ _ wr.drew
          have hED := (Ext.refl wr).drew
          have hKd := hKq.ext hED
          have hOd := hOq.ext hED
          have hBd := hBq.below (hED.belowAt (by have := hEq.le; omega)) (Nat.le_refl _)
          go_wp2_with fail
          refine (padd_any (f := partR (f i) ls j) hyt hl0 hKd hOd hBd (by omega) (by omega) HLen.out).mono ?_
          rintro e w7 ⟨rfl, hK7, hO7, hM7⟩
          rw [HS.out] at hO7
          have hM8 := (hMq.trans (Mod.ofExt hED) (.inl rfl)).trans hM7 (.inl rfl)
          clear hKd hOd hBd hED
          go_wp2
          go_roundw
          case rel => exact ⟨j + 1, by omega, by go_num, hK7, hO7, hM8⟩
          case measure => simp [intOf]; omega
        · obtain rfl : j = c := by omega
          have hLq := hL6.mod hMq (by omega) (by simp; omega)
          have hWq := hMq.whole hW6 (by omega) (by simp; omega)
          have hRq : RowsTo wr (gm + 1) wr.heap.size _ out (i + 1) := RowsTo.put (x := .slice (some ⟨gt, 0, none⟩) N N) ((HR6.out.mid hMq (Nat.le_refl _) (by have := (hO6.lt gt rfl).2; omega) (by omega)).mono (by have := (hOq.lt gt rfl).2; omega)) (by
            rw [HT.out i hlt]
            exact hOq.row) (newX_slice (by omega))
          clear h1 hL6 hMq hW6 hOq
          go_wp2
          go_roundw
          case rel => exact ⟨i + 1, by omega, by go_num, ⟨_, hLq, hRq⟩, hKq, hWq, hEq⟩
          case measure => simp [intOf]; omega
    · obtain rfl : i = r := by omega
      clear h1 h2 hK hW
      go_wp2
      go_ret
      exact ⟨gm, R, rfl, hL, hR, hE⟩
theorem rsTimes_any (m : MV) (A1 A2 : Option Addr) (k1 k2 : Nat) (ls : List (List UInt8)) (w : World) (hm : m.may = true) (h1 : m.lies w A1 k1) (h2 : RowsAt w w.heap.size A2 ls.length ls)
    (hc : m.c.toNat ≤ ls.length) (h0 : 0 < m.r → 0 < ls.length) (hal : alike ls) (hl0 : (ls.getD 0 []).length ≤ 20000) :
    Calls Tryd.prog 43 #[m.arg A1 k1, .slice A2 ls.length k2] w (MadeN w (timesL m.r.toNat m.c.toNat m.at ls)) :=
  (rsTimesL_any m A1 A2 k1 k2 ls w hm h1 h2 hc h0 hal hl0).mono fun _ _ h => h.toN (timesL_len _ _ _ _)
end Go.Proofs.YtkfipfhmbhmamaaDoor

namespace Go.Proofs.YtkfipfhmbhmamaaDoor
open Go.RowKit

set_option maxHeartbeats 4000000 in
set_option maxRecDepth 100000 in
theorem goodOnes_any (A1 A2 : Option Addr) (c1 c2 : Nat) (parts : List (List UInt8)) (good : List Bool) (w : World) (h1 : RowsAt w w.heap.size A1 parts.length parts) (h2 : BoolsAt w w.heap.size A2 good.length good)
    (hgl : good.length = parts.length) (hp255 : parts.length ≤ 255) :
    Calls Tryd.prog 80 #[.slice A1 parts.length c1, .slice A2 good.length c2] w fun e w' => ∃ u v, e = .returned (.tuple #[u, v]) ∧ OwnI w' w.heap.size u (atTo good parts.length) ∧ OwnQ w' w.heap.size v (allTo parts good parts.length) ∧ Ext w w' := by
  have HGL := hide hgl
  clear hgl
  go_enter Tryd.func80, Tryd.ntmps80
  go_wp2_with fail
  go_loopw [4, 5, 10] (fun u v x wr => ∃ j : Nat, j ≤ parts.length ∧ x = .int .i64 (j : Int) ∧ OwnQ wr w.heap.size v (allTo parts good j) ∧ OwnI wr w.heap.size u (atTo good j) ∧ Apart v u ∧ Ext w wr) (fun _ _ x _ => parts.length - (intOf x).toNat)
  case atStart => exact ⟨0, by omega, rfl, OwnQ.nil _ _, OwnI.nil _ _, apart_nil _, Ext.refl _⟩
  case round =>
    obtain ⟨j, hj, rfl, hQ, hI, hA, hE⟩ := hrel
    by_cases hlt : j < parts.length
    · rcases h1.2 with h0 | ⟨b1, o1, rfl, hb1, hc1⟩
      · omega
      rcases h2.2 with h0 | ⟨b2, o2, rfl, hb2, hc2⟩
      · have := HGL.out; omega
      obtain ⟨x, kx, hx⟩ := hc1 j hlt
      have kx' := (hE.cell (i := o1 + j) hb1).trans kx
      have kg := (hE.cell (i := o2 + j) hb2).trans (hc2 j (by have := HGL.out; omega))
      have hx' := hx.below (Below.mono hE (Nat.le_refl _))
      obtain ⟨Ax, kkx, rfl, hxk⟩ := hx'
      have hrx : RowOf wr w.heap.size (.slice Ax (parts.getD j []).length kkx) (parts.getD j []) := ⟨Ax, kkx, rfl, hxk⟩
      have hj0 : (0 : Int) ≤ (j : Int) := by omega
      have hj1 : (j : Int) < (parts.length : Int) := by omega
      have hj2 : (j : Int) < (good.length : Int) := by have := HGL.out; omega
      clear hc1 hc2 hx hxk kx
      obtain ⟨bt, hbt⟩ : ∃ bt, bt = good.getD j false := ⟨_, rfl⟩
      rw [← hbt] at kg
      cases bt
      · have HY := hide (allTo_no (parts := parts) hbt.symm)
        have HZ := hide (atTo_no hbt.symm)
        clear hbt
        generalize parts.getD j [] = lx at *
        go_wp2_with fail
        go_roundw
        case rel => exact ⟨j + 1, by omega, by go_num, by rw [HY.out]; exact hQ, by rw [HZ.out]; exact hI, hA, hE⟩
        case measure => simp [intOf]; omega
      · have HY := hide (allTo_yes (parts := parts) hbt.symm)
        have HZ := hide (atTo_yes hbt.symm)
        have hl10 : (allTo parts good j).length ≤ 1000 := by have := allTo_len parts good j; omega
        have hl11 : (atTo good j).length ≤ 1000 := by have := atTo_len good j; omega
        have hbase := hE.le
        have hEa := extNew wr (.cells #[.int .i64 (j : Int)] 3)
        have hIa := hI.ext hEa
        have hQa := hQ.ext hEa hbase
        have hba : w.heap.size ≤ (wr.alloc (.cells #[.int .i64 (j : Int)] 3)).heap.size := by rw [World.size_alloc]; omega
        generalize parts.getD j [] = lx at *
        clear hbt
        go_wp2_with (first
          | (at_builtin; refine wpList_appI' rfl (.tmp 19) (.tmp 21) rfl rfl (j : Int) hIa rfl hl11 hbase ?_; intro v4 w4 hI4 hG4 hN4; have hQ4 := hQa.kept hG4 hba (fun k hk => (hI.lt k hk).1) hA.row; have hA4 := (hA.symm.next hN4 (fun k hk => Nat.lt_succ_of_lt (hQ.lt k hk).2)).symm; have hE4 : Ext w w4 := Below.grown (hE.trans hEa) hG4 (hE.trans hEa).le (fun k hk => (hI.lt k hk).1); have hbase4 := hE4.le; have hr4 : RowOf w4 w.heap.size (.slice Ax lx.length kkx) lx := hrx.below (Below.grown (Below.mono hEa hbase) hG4 hba (fun k hk => (hI.lt k hk).1)))
          | (at_builtin; refine wpList_appQ rfl (.tmp 23) (.tmp 25) rfl rfl hQ4 hr4 rfl hl10 hbase4 ?_; intro v5 w5 hQ5 hG5 hN5))
        have hEb := extNew w4 (.cells #[.slice Ax lx.length kkx] 27)
        have hI5 := (hI4.ext hEb).kept hG5 hA4.symm.row
        have hA5 := hA4.next hN5 (fun k hk => Nat.lt_succ_of_lt (hI4.lt k hk).2)
        have hE5 : Ext w w5 := Below.grown (hE4.trans hEb) hG5 (hE4.trans hEb).le (fun k hk => (hQ4.lt k hk).1)
        go_roundw
        case rel => exact ⟨j + 1, by omega, by go_num, by rw [HY.out]; exact hQ5, by rw [HZ.out]; exact hI5, hA5, hE5⟩
        case measure => simp [intOf]; omega
    · obtain rfl : j = parts.length := by omega
      clear h1 h2
      go_wp2
      go_ret2
      exact ⟨_, _, rfl, hI, hQ, hE⟩
end Go.Proofs.YtkfipfhmbhmamaaDoor

namespace Go.Proofs.YtkfipfhmbhmamaaDoor
open Go.RowKit

theorem cellsOf_one {n : Nat} {l : List UInt8} (hl : l.length = n) {F : Mat.M} (hF : ∀ j, j < n → F 0 j = l.getD j 0) : cellsOf n F n = l := by
  subst hl
  apply List.ext_getElem
  · rw [cellsOf_len]
  · intro i h1 h2
    simp only [cellsOf, List.getElem_map, List.getElem_range]
    rw [Nat.div_eq_of_lt h2, Nat.mod_eq_of_lt h2, hF i h2, List.getD_eq_getElem?_getD, List.getElem?_eq_getElem h2]
    rfl
/-- All bytes of a row of the call's own are put anew. -/
theorem wpList_copyAll {o : Oper} {a : Act} {w : World} {Q : Exit → Act → World → Prop} {ops : Array Oper} {rest : List Oper} (hgd : o.guard = none) (d s : Operand) (ho : o.op = .call { callee := .builtin .copy, args := #[d, s], argTypes := #[27, 27] }) {base g n kd ks B : Nat} {A : Option Addr} {l l2 : List UInt8}
    (hd : a.eval d = .slice (some ⟨g, 0, none⟩) n kd) (hs : a.eval s = .slice A n ks) (hO : OwnB w base (.slice (some ⟨g, 0, none⟩) n kd) l) (hB : Bytes w B A n l2) (hl : l.length = n) (hnk : n ≤ kd)
    (h : ∀ w', OwnB w' base (.slice (some ⟨g, 0, none⟩) n kd) l2 → w.grownBy w' (some g) → wpList Tryd.prog ops Q rest (a.put o.dst (goInt n)) w') :
    wpList Tryd.prog ops Q (o :: rest) a w := by
  have h2 := hB.1
  have hr : rowB n (fun j => l2.getD j 0) = l2 := by
    have := rowB_of l2
    rw [h2] at this
    exact this.symm
  refine wpList_copyM (r := 1) (c := n) (i := 0) (F := fun _ j => l.getD j 0) (f := fun j => l2.getD j 0) hgd d s ho hd hs (by rw [cellsOf_one hl (fun _ _ => rfl)]; exact hO) (by rw [hr]; exact hB) (by omega) hnk (by omega) (Nat.le_refl _) (by rw [Nat.zero_mul, cutAt_0]) fun w' h3 h4 _ => h w' ?_ h4
  rw [cellsOf_one h2 (fun j hj => if_pos ⟨rfl, hj⟩)] at h3
  exact h3
theorem OwnI.notLst {w : World} {base b2 g r : Nat} {R : Nat → Value} {u : Value} {L : List Int} (h : OwnI w base u L) (hL : Lst w b2 g r R) : u.ownBlock ≠ some g := by
  intro e
  rcases h.2 with ⟨rfl, _⟩ | ⟨g1, c1, cur1, rfl, _, h1, _⟩
  · cases e
  rcases hL.2 with ⟨e2, _⟩ | ⟨g2, c2, cur2, e2, _, hg, _⟩
  · cases e2
  simp only [Value.slice.injEq, Option.some.injEq, Addr.mk.injEq, and_true] at e2
  obtain ⟨rfl, _⟩ := e2
  simp only [Value.ownBlock, Option.some.injEq] at e
  subst e
  rw [h1] at hg
  simp only [Option.some.injEq, Obj.cells.injEq] at hg
  exact absurd hg.2.1 (by decide)
theorem OwnI.notBytes {w : World} {base b2 g n k : Nat} {u : Value} {L : List Int} {l : List UInt8} (h : OwnI w base u L) (hO : OwnB w b2 (.slice (some ⟨g, 0, none⟩) n k) l) : u.ownBlock ≠ some g := by
  intro e
  rcases h.2 with ⟨rfl, _⟩ | ⟨g1, c1, cur1, rfl, _, h1, _⟩
  · cases e
  rcases hO.2 with ⟨e2, _⟩ | ⟨g2, c2, cur2, e2, _, hg, _⟩
  · cases e2
  simp only [Value.slice.injEq, Option.some.injEq, Addr.mk.injEq, and_true] at e2
  obtain ⟨rfl, _⟩ := e2
  simp only [Value.ownBlock, Option.some.injEq] at e
  subst e
  rw [h1] at hg
  simp only [Option.some.injEq, Obj.cells.injEq] at hg
  exact absurd hg.2.1 (by decide)
set_option maxHeartbeats 8000000 in
set_option maxRecDepth 100000 in
theorem spread_any {k t N : Nat} {L : List Nat} {A1 A2 : Option Addr} {c1 c2 : Nat} {ch : List (List UInt8)} {w : World} (p : Plc k t L) (hk1 : 1 ≤ k) (hk : k ≤ 255) (h1 : IntsAt w w.heap.size A1 k (L.map Int.ofNat)) (h2 : RowsAt w w.heap.size A2 k ch) (hal : ∀ i, i < k → (ch.getD i []).length = N) (hN : N ≤ 20000) :
    Calls Tryd.prog 85 #[.int .i64 (k : Int), .slice A1 k c1, .slice A2 k c2] w fun e w' => ∃ gd u h R, e = .returned (.tuple #[.slice (some ⟨gd, 0, none⟩) k k, u]) ∧ Cut L h k ∧ h + (lostTo L k).length = k ∧ OwnI w' w.heap.size u ((lostTo L k).map Int.ofNat) ∧
      Lst w' w.heap.size gd k R ∧ RowsTo w' (gd + 1) w'.heap.size R (dataTo L ch N k) k ∧ Ext w w' := by
  obtain ⟨iR, hiR, hzR, hszR, hbyR⟩ := info_parts rw_info
  obtain ⟨iB, hiB, hzB, hszB, hbyB⟩ := info_parts byte_info
  have hi4 : k ≤ maxLen := by unfold maxLen; omega
  have hi5 : iR.bytes * k ≤ 281474976710656 := by rw [hbyR]; omega
  have hiB4 : N ≤ maxLen := by unfold maxLen; omega
  have hiB5 : iB.bytes * N ≤ 281474976710656 := by rw [hbyB]; omega
  have HAL := hide hal
  have HD := hide (show ∀ j, j < k → (dataTo L ch N k).getD j [] = if j ∈ L then ch.getD (L.idxOf j) [] else List.replicate N 0 from fun j hj => dataTo_at hj)
  generalize dataTo L ch N k = out at *
  have hk0 : 0 ≤ (k : Int) := by omega
  rcases h1.2 with h0 | ⟨b1, o1, rfl, hb1, hc1⟩
  · omega
  rcases h2.2 with h0 | ⟨b2, o2, rfl, hb2, hc2⟩
  · omega
  have HC1 := hide hc1
  have HC2 := hide hc2
  clear hc1 hc2 h1 h2 hal
  go_enter Tryd.func85, Tryd.ntmps85
  go_wp2_with (at_make; refine wpList_make_full _ rfl _ _ _ rfl w.heap.size 27 iR _ 1 Tryd.underlying55 hiR hzR hszR _ _ _ _ k rfl rfl rfl rfl hi5 hi4 (Nat.le_refl _) ?_; intro w3 hO3 hG3)
  have hE3 : Ext w w3 := ⟨hG3.os, hG3.tape, hG3.output, hG3.size, fun b hb => hG3.block b hb (by simp)⟩
  have hL3 : Lst w3 w.heap.size w.heap.size k (fun _ => .slice none 0 0) := by
    unfold Lst
    rw [Nat.mul_one, nil_cells] at hO3
    exact hO3
  obtain ⟨gd, hgd⟩ : ∃ g, g = w.heap.size := ⟨_, rfl⟩
  have hL3' : Lst w3 w.heap.size gd k (fun _ => .slice none 0 0) := by rw [hgd]; exact hL3
  have hgd1 : w.heap.size ≤ gd := by omega
  rw [← hgd]
  clear hO3 hG3 hL3 hi4 hi5 hiR hzR hszR hbyR hgd
  have hpl := p.len
  go_loopw [7, 8, 14] (fun u y x wr => ∃ j h : Nat, j ≤ k ∧ x = .int .i64 (j : Int) ∧ y = .int .i64 (h : Int) ∧ Cut L h j ∧ h + (lostTo L j).length = j ∧ OwnI wr w.heap.size u ((lostTo L j).map Int.ofNat) ∧ (∃ R, Lst wr w.heap.size gd k R ∧ RowsTo wr (gd + 1) wr.heap.size R out j ∧ ∀ a, a < j → Clear u (R a)) ∧ Ext w wr) (fun _ _ x _ => k - (intOf x).toNat)
  case atStart => exact ⟨0, 0, by omega, rfl, rfl, Cut.start L, rfl, OwnI.nil _ _, ⟨_, hL3', fun a ha => absurd ha (by omega), fun a ha => absurd ha (by omega)⟩, hE3⟩
  case round =>
    obtain ⟨j, h, hj, rfl, rfl, hC, hcnt, hI, ⟨R, hL, hR, hCl⟩, hE⟩ := hrel
    by_cases hlt : j < k
    · have hhj := hC.le_j p
      have hh : h < k := by omega
      obtain ⟨x0, k0, hx0⟩ := HC2.out 0 (by omega)
      obtain ⟨Ax, kx, rfl, _, _, _⟩ := hx0
      rw [HAL.out 0 (by omega), Nat.add_zero] at k0
      have k0' := (hE.cell hb2).trans k0
      have k1 := HC1.out h hh
      rw [getD_mapI (by omega)] at k1
      have hl11 : ((lostTo L j).map Int.ofNat).length ≤ 1000 := by rw [List.length_map]; omega
      have hu := hI.lt
      have hjk : (j : Int) < (k : Int) := by omega
      have hhk : (h : Int) < (k : Int) := by omega
      by_cases e : L.getD h 0 = j
      · obtain ⟨hC2, hm, hix⟩ := hC.yes p hh e
        rw [e] at k1
        have HT := hide (HD.out j hlt)
        rw [if_pos hm, hix] at HT
        have hlY := lostTo_yes hm
        have hcnt2 : h + 1 + (lostTo L (j + 1)).length = j + 1 := by rw [hlY]; omega
        obtain ⟨xh, kh, hxh⟩ := HC2.out h hh
        obtain ⟨Ah, kkh, rfl, _, _, hBh⟩ := hxh
        have hBh2 : (ch.getD h []).length = N := HAL.out h hh
        rw [hBh2] at kh hBh
        have HC2' := hide hC2
        have HLY := hide hlY
        have HCNT := hide hcnt2
        have HHO := hide hcnt
        clear e hC2 hlY hcnt2 hcnt hm hix
        go_wp2_with (first
          | (at_make; refine wpList_make_full _ rfl _ _ _ rfl w.heap.size 5 iB _ 1 Tryd.underlying27 hiB hzB hszB _ _ _ _ N rfl rfl rfl rfl hiB5 hiB4 hE.le ?_; intro w4 hO4 hG4; have hF4 : Ext wr w4 := ⟨hG4.os, hG4.tape, hG4.output, hG4.size, fun b hb => hG4.block b hb (by simp)⟩; obtain ⟨hc4, hf4⟩ := (hL.ext hF4).cell hlt; have hEs : Ext w (w4.setCell ⟨gd, j, none⟩ (.slice (some ⟨wr.heap.size, 0, none⟩) N N)) := (hE.trans hF4).setCell hgd1 _; have k1s := (hEs.cell (i := o1 + h) hb1).trans k1; have hGs := ((hL.ext hF4).set hlt (.slice (some ⟨wr.heap.size, 0, none⟩) N N)).2; have hIs := (hI.ext hF4).kept hGs (.inr ((hI.ext hF4).notLst (hL.ext hF4))))
          | (at_builtin; refine wpList_appI' rfl (.tmp 42) (.tmp 44) rfl rfl (j : Int) (hIs.ext (extNew _ _)) (c := 1) (by rw [World.size_setCell]; rfl) hl11 hEs.le ?_; intro v6 w6 hI6 hG6 hN6))
        have hgl := hL.lt
        obtain ⟨gt, hgt⟩ : ∃ g, g = wr.heap.size := ⟨_, rfl⟩
        have hgt1 : gd < gt := by omega
        have hO4' : OwnB w4 w.heap.size (.slice (some ⟨gt, 0, none⟩) N N) (List.replicate N 0) := by
          unfold OwnB
          rw [Nat.mul_one, zero_cells] at hO4
          rw [List.length_replicate, hgt]
          exact hO4
        rw [← hgt] at hEs k1s hGs hIs
        obtain ⟨hL5, _⟩ := (hL.ext hF4).set hlt (.slice (some ⟨gt, 0, none⟩) N N)
        have hO5 := hO4'.far (g := gd) (by simp [Value.ownBlock]; omega) j (.slice (some ⟨gt, 0, none⟩) N N)
        have hR5 : RowsTo (w4.setCell ⟨gd, j, none⟩ (.slice (some ⟨gt, 0, none⟩) N N)) (gd + 1) gt R out j := fun a ha => by
          obtain ⟨h1, h2⟩ := hR a ha
          rw [← hgt] at h1
          exact ⟨rowOf_far (h1.below (hF4.belowAt (by omega))) h2 (by omega), h2⟩
        have hClt : Clear u7 (.slice (some ⟨gt, 0, none⟩) N N) := (newX_slice (Nat.le_refl gt)).clear (fun k hk => by have := (hu k hk).2; omega)
        have hCl5 : ∀ a, a < j + 1 → Clear u7 (if a = j then .slice (some ⟨gt, 0, none⟩) N N else R a) := fun a ha => by
          by_cases e : a = j
          · rw [if_pos e]
            exact hClt
          · rw [if_neg e]
            exact hCl a (by omega)
        clear hO4 hG4 hc4 hf4 hO4' k1s
        obtain ⟨w5, hw5⟩ : ∃ W, W = w4.setCell ⟨gd, j, none⟩ (.slice (some ⟨gt, 0, none⟩) N N) := ⟨_, rfl⟩
        rw [← hgt, ← hw5]
        rw [← hw5] at hEs hIs hL5 hO5 hR5
        obtain ⟨k5, _⟩ := hL5.cell hlt
        rw [if_pos rfl] at k5
        have k6 := (hEs.cell hb2).trans kh
        have HG := hide hgt
        clear hw5 hgt hGs hF4 hR hL kh k1 k0'
        go_still_tail 8, (by kernel_rfl)
        change wpList _ _ _ _ _ w5.drew
        have hED := (Ext.refl w5).drew
        have hOd := hO5.ext hED
        have hBd := hBh.below (hEs.trans hED) (Nat.le_refl _)
        go_wp2_with (refine wpList_copyAll rfl (.tmp 34) (.tmp 38) rfl rfl rfl hOd hBd (List.length_replicate) (Nat.le_refl _) ?_; intro w7 hO7 hG7)
        have hL7 := (hL5.ext hED).mod (Mod.ofRow (ob := none) hG7) (by omega) (by simp)
        have hI7 := (hIs.ext hED).kept hG7 (.inr ((hIs.ext hED).notBytes hOd))
        have hlt7 := (hO7.lt gt rfl).2
        have hE7 : Ext w w7 := Below.grown (hEs.trans hED) hG7 (hEs.trans hED).le (fun k hk => by cases hk; omega)
        have hRd : RowsTo w7 (gd + 1) gt R out j := (hR5.ext hED (by have := (hO5.lt gt rfl).2; omega)).mid (Mod.ofRow (ob := some gd) hG7) (Nat.le_refl _) (by have := (hOd.lt gt rfl).2; omega) (by omega)
        have hR7 : RowsTo w7 (gd + 1) w7.heap.size _ out (j + 1) := (hRd.mono (Nat.le_of_lt hlt7)).put (x := .slice (some ⟨gt, 0, none⟩) N N) (by
          rw [HT.out]
          have := hO7.row
          exact this) (newX_slice (by omega))
        go_roundw
        case rel => exact ⟨j + 1, h + 1, by omega, by go_num, by go_num, HC2'.out, HCNT.out, by rw [HLY.out]; exact hI7, ⟨_, hL7, hR7, hCl5⟩, hE7⟩
        case measure => simp [intOf]; omega
      · obtain ⟨hC2, hm⟩ := hC.no p hh e
        have HT := hide (HD.out j hlt)
        rw [if_neg hm] at HT
        have hlN := lostTo_no hm
        have hcnt2 : h + (lostTo L (j + 1)).length = j + 1 := by rw [hlN, List.length_append, List.length_singleton]; omega
        have HC2' := hide hC2
        have HLN := hide hlN
        have HCNT := hide hcnt2
        have HHO := hide hcnt
        clear hC2 hlN hcnt2 hcnt hm
        generalize L.getD h 0 = q at *
        have hq : ((q : Int) == (j : Int)) = false := by simp only [beq_eq_false_iff_ne, ne_eq]; omega
        clear e
        go_wp2_with (first
          | (at_make; refine wpList_make_full _ rfl _ _ _ rfl w.heap.size 5 iB _ 1 Tryd.underlying27 hiB hzB hszB _ _ _ _ N rfl rfl rfl rfl hiB5 hiB4 hE.le ?_; intro w4 hO4 hG4; have hF4 : Ext wr w4 := ⟨hG4.os, hG4.tape, hG4.output, hG4.size, fun b hb => hG4.block b hb (by simp)⟩; obtain ⟨hc4, hf4⟩ := (hL.ext hF4).cell hlt; have hEs : Ext w (w4.setCell ⟨gd, j, none⟩ (.slice (some ⟨wr.heap.size, 0, none⟩) N N)) := (hE.trans hF4).setCell hgd1 _; have k1s := (hEs.cell (i := o1 + h) hb1).trans k1; have hGs := ((hL.ext hF4).set hlt (.slice (some ⟨wr.heap.size, 0, none⟩) N N)).2; have hIs := (hI.ext hF4).kept hGs (.inr ((hI.ext hF4).notLst (hL.ext hF4))))
          | (at_builtin; refine wpList_appI' rfl (.tmp 42) (.tmp 44) rfl rfl (j : Int) (hIs.ext (extNew _ _)) (c := 1) (by rw [World.size_setCell]; rfl) hl11 hEs.le ?_; intro v6 w6 hI6 hG6 hN6))
        have hgl := hL.lt
        obtain ⟨gt, hgt⟩ : ∃ g, g = wr.heap.size := ⟨_, rfl⟩
        have hgt1 : gd < gt := by omega
        have hO4' : OwnB w4 w.heap.size (.slice (some ⟨gt, 0, none⟩) N N) (List.replicate N 0) := by
          unfold OwnB
          rw [Nat.mul_one, zero_cells] at hO4
          rw [List.length_replicate, hgt]
          exact hO4
        rw [← hgt] at hEs k1s hGs hIs
        obtain ⟨hL5, _⟩ := (hL.ext hF4).set hlt (.slice (some ⟨gt, 0, none⟩) N N)
        have hO5 := hO4'.far (g := gd) (by simp [Value.ownBlock]; omega) j (.slice (some ⟨gt, 0, none⟩) N N)
        have hR5 : RowsTo (w4.setCell ⟨gd, j, none⟩ (.slice (some ⟨gt, 0, none⟩) N N)) (gd + 1) gt R out j := fun a ha => by
          obtain ⟨h1, h2⟩ := hR a ha
          rw [← hgt] at h1
          exact ⟨rowOf_far (h1.below (hF4.belowAt (by omega))) h2 (by omega), h2⟩
        have hClt : Clear u7 (.slice (some ⟨gt, 0, none⟩) N N) := (newX_slice (Nat.le_refl gt)).clear (fun k hk => by have := (hu k hk).2; omega)
        have hCl5 : ∀ a, a < j + 1 → Clear u7 (if a = j then .slice (some ⟨gt, 0, none⟩) N N else R a) := fun a ha => by
          by_cases e : a = j
          · rw [if_pos e]
            exact hClt
          · rw [if_neg e]
            exact hCl a (by omega)
        clear hO4 hG4 hc4 hf4 hO4' k1s hGs
        have hEa := extNew (w4.setCell ⟨gd, j, none⟩ (.slice (some ⟨gt, 0, none⟩) N N)) (.cells #[.int .i64 (j : Int)] 3)
        rw [← hgt] at hG6 hN6
        have hIa := hIs.ext hEa
        have hLa := hL5.ext hEa
        have hL6 := hLa.mod (Mod.ofOwn (g := gd + 1) hG6) (by omega) (hIa.notLst hLa)
        have hE6 : Ext w w6 := Below.grown (hEs.trans hEa) hG6 (hEs.trans hEa).le (fun k hk => (hu k hk).1)
        have hs4 : gt < (w4.setCell ⟨gd, j, none⟩ (.slice (some ⟨gt, 0, none⟩) N N)).heap.size := (hO5.lt gt rfl).2
        have hR5b : RowsTo (w4.setCell ⟨gd, j, none⟩ (.slice (some ⟨gt, 0, none⟩) N N)) (gd + 1) (w4.setCell ⟨gd, j, none⟩ (.slice (some ⟨gt, 0, none⟩) N N)).heap.size _ out (j + 1) := (hR5.mono (Nat.le_of_lt hs4)).put (x := .slice (some ⟨gt, 0, none⟩) N N) (by
          rw [HT.out]
          have := hO5.row
          exact this) (newX_slice (by omega))
        have hRa : RowsTo _ (gd + 1) _ _ out (j + 1) := hR5b.ext hEa (Nat.le_refl _)
        have hR6 : RowsTo w6 (gd + 1) w6.heap.size _ out (j + 1) := fun a ha => ⟨((hRa a ha).1.up hEa.le).grown (hCl5 a ha) hG6, (hRa a ha).2⟩
        have hCl6 : ∀ a, a < j + 1 → Clear v6 (if a = j then .slice (some ⟨gt, 0, none⟩) N N else R a) := fun a ha => (hCl5 a ha).later (hR5b a ha).1 (Nat.le_succ _) hN6
        have HG := hide hgt
        clear hgt hF4 hR hL k1 k0'
        go_roundw
        case rel => exact ⟨j + 1, h, by omega, by go_num, by go_num, HC2'.out, HCNT.out, by rw [HLN.out, List.map_append]; exact hI6, ⟨_, hL6, hR6, hCl6⟩, hE6⟩
        case measure => simp [intOf]; omega
    · obtain rfl : j = k := by omega
      go_wp2
      go_ret2
      exact ⟨gd, _, h, R, rfl, hC, hcnt, hI, hL, hR, hE⟩
end Go.Proofs.YtkfipfhmbhmamaaDoor

namespace Go.Proofs.YtkfipfhmbhmamaaDoor
open Go.RowKit

theorem cellsOf_next (c : Nat) (F : Mat.M) (i : Nat) {j : Nat} (hj : j < c) : cellsOf c F (i * c + (j + 1)) = cellsOf c F (i * c + j) ++ [F i j] := by
  have hd : (i * c + j) / c = i := by rw [Nat.mul_comm, Nat.mul_add_div (by omega), Nat.div_eq_of_lt hj, Nat.add_zero]
  have hm : (i * c + j) % c = j := by rw [Nat.mul_comm, Nat.mul_add_mod, Nat.mod_eq_of_lt hj]
  rw [← Nat.add_assoc, cellsOf_succ, hd, hm]

set_option maxHeartbeats 8000000 in
set_option maxRecDepth 100000 in
theorem columns_any (m : MV) (A1 A2 : Option Addr) (k1 c2 : Nat) (Z : List Nat) (w : World) (hm : m.may = true) (hl : m.lies w A1 k1) (h2 : IntsAt w w.heap.size A2 Z.length (Z.map Int.ofNat)) (hn : Z.length ≤ 255) (hz : ∀ b, b < Z.length → ((Z.getD b 0 : Nat) : Int) < m.c) :
    Calls Tryd.prog 89 #[m.arg A1 k1, .slice A2 Z.length c2] w fun e w' => ∃ v, e = .returned (matV m.r Z.length v) ∧ OwnB w' w.heap.size v (cellsOf Z.length (fun a b => m.at a (Z.getD b 0)) (m.r.toNat * Z.length)) ∧ Ext w w' := by
  obtain ⟨q1, q2, q3, q4, q5⟩ := MV.may_iff.1 hm
  have HA := hide (show ∀ i j, m.at i j = m.l.getD (i * m.c.toNat + j) 0 from fun _ _ => rfl)
  generalize m.at = f at *
  obtain ⟨h1, hml, hk1⟩ := hl
  obtain ⟨r, c, l⟩ := m
  unfold MV.arg
  dsimp only at *
  obtain ⟨r, rfl⟩ := Int.eq_ofNat_of_zero_le q1
  obtain ⟨c, rfl⟩ := Int.eq_ofNat_of_zero_le q3
  simp only [Int.toNat_natCast] at *
  have l5 : l.length = r * c := by omega
  have hr255 : r ≤ 255 := by omega
  have hc255 : c ≤ 255 := by omega
  have HL := hide l5
  have HZ := hide hz
  clear q1 q2 q3 q4 q5 l5 hm hz
  obtain ⟨n, hnZ⟩ : ∃ n, n = Z.length := ⟨_, rfl⟩
  rw [← hnZ] at h2 hn HZ ⊢
  have HF := hide (show ∀ i j, (fun a b => f a (Z.getD b 0) : Mat.M) i j = f i (Z.getD j 0) from fun _ _ => rfl)
  generalize (fun a b => f a (Z.getD b 0) : Mat.M) = F at *
  have HNZ := hide hnZ
  have hrn : r * n ≤ 255 * 255 := Nat.mul_le_mul hr255 hn
  have HRN := hide hrn
  clear hnZ hrn
  have hE3 : Ext w (((w.alloc (.cells #[.int .i64 (r : Int), .int .i64 (c : Int), .slice A1 l.length k1] 76)).alloc (.cells #[.int .i64 0, .int .i64 0, .slice none 0 0] 76)).alloc (.cells #[.int .i64 0, .int .i64 0, .slice none 0 0] 76)) := ((extNew w _).alloc _).alloc _
  have hWm := ((Whole.new w 76 #[.int .i64 (r : Int), .int .i64 (c : Int), .slice A1 l.length k1]).alloc (.cells #[.int .i64 0, .int .i64 0, .slice none 0 0] 76)).alloc (.cells #[.int .i64 0, .int .i64 0, .slice none 0 0] 76)
  have hWr := (Whole.new (w.alloc (.cells #[.int .i64 (r : Int), .int .i64 (c : Int), .slice A1 l.length k1] 76)) 76 #[.int .i64 0, .int .i64 0, .slice none 0 0]).alloc (.cells #[.int .i64 0, .int .i64 0, .slice none 0 0] 76)
  have hWg := Whole.new ((w.alloc (.cells #[.int .i64 (r : Int), .int .i64 (c : Int), .slice A1 l.length k1] 76)).alloc (.cells #[.int .i64 0, .int .i64 0, .slice none 0 0] 76)) 76 #[.int .i64 0, .int .i64 0, .slice none 0 0]
  rw [World.size_alloc] at hWr hWg
  rw [World.size_alloc] at hWg
  go_enter Tryd.func89, Tryd.ntmps89
  go_wp2_with (refine wpList_storeW rfl 76 (.tmp 5) (.tmp 13) rfl rfl rfl hWg rfl mat_info (mat_one rfl) ?_; intro w3 hW3 hG3 hS3; clear hS3; have c0 := (hWm.grown hG3 (by omega)).at 0 rfl)
  obtain ⟨gb, hgb⟩ : ∃ g, g = w.heap.size + 1 + 1 := ⟨_, rfl⟩
  have hWm3 := hWm.grown hG3 (by omega)
  have hWr3 := hWr.grown hG3 (by omega)
  have hE03 : Ext w w3 := Below.grown hE3 hG3 hE3.le (fun k hk => by cases hk; omega)
  rw [← hgb] at hW3 ⊢
  have hgb1 : w.heap.size + 1 < gb := by omega
  have hgl3 := hW3.lt
  clear hG3 hWm hWr hWg hE3 c0 hgb
  go_loopw [16] (fun x wr => ∃ i : Nat, i ≤ r ∧ x = .int .i64 (i : Int) ∧ Made wr (gb + 1) gb r n (cellsOf n F (i * n)) ∧ Whole wr w.heap.size 76 #[.int .i64 (r : Int), .int .i64 (c : Int), .slice A1 l.length k1] ∧ Whole wr (w.heap.size + 1) 76 #[.int .i64 0, .int .i64 0, .slice none 0 0] ∧ Ext w wr) (fun x _ => r - (intOf x).toNat)
  case atStart => exact ⟨0, by omega, rfl, ⟨_, hW3, by rw [Nat.zero_mul]; exact OwnB.nil _ _⟩, hWm3, hWr3, hE03⟩
  case round =>
    obtain ⟨i, hi, rfl, hMd, hWm, hWr, hE⟩ := hrel
    by_cases hlt : i < r
    · have hrow : (i + 1) * c ≤ k1 := by
        have : (i + 1) * c ≤ r * c := Nat.mul_le_mul_right _ hlt
        have := HL.out
        omega
      have CR := fun W => rsRow_any r i c k1 l.length A1 (by omega) (by omega) hrow W
      unfold matV at CR
      have hin : i * n + n ≤ 255 * 255 := by
        have : (i + 1) * n ≤ r * n := Nat.mul_le_mul_right _ hlt
        have := HRN.out
        rw [Nat.add_mul, Nat.one_mul] at *
        omega
      have HIN := hide hin
      clear hin
      obtain ⟨wa, rfl⟩ : ∃ W, W = wr := ⟨_, rfl⟩
      go_wp2_with fail
      go_loopw [21] (fun x wr => ∃ j : Nat, j ≤ n ∧ x = .int .i64 (j : Int) ∧ Made wr (gb + 1) gb r n (cellsOf n F (i * n + j)) ∧ Whole wr w.heap.size 76 #[.int .i64 (r : Int), .int .i64 (c : Int), .slice A1 l.length k1] ∧ Whole wr (w.heap.size + 1) 76 #[.int .i64 0, .int .i64 0, .slice none 0 0] ∧ Ext w wr) (fun x _ => n - (intOf x).toNat)
      case atStart => exact ⟨0, by omega, rfl, hMd, hWm, hWr, hE⟩
      case round =>
        obtain ⟨j, hj, rfl, ⟨v, hWv, hO⟩, hWm2, hWr2, hE2⟩ := hrel
        by_cases hjt : j < n
        · rcases h2.2 with h0 | ⟨b2, o2, rfl, hB2, hcell2⟩
          · omega
          have kz := (hE2.cell (i := o2 + j) hB2).trans (hcell2 j hjt)
          rw [getD_mapI (by have := HNZ.out; omega)] at kz
          have hzc := HZ.out j hjt
          have HX := hide (HF.out i j)
          have HS := hide (cellsOf_next n F i hjt)
          rw [HX.out] at HS
          have HAz := hide (HA.out i (Z.getD j 0))
          generalize Z.getD j 0 = z at *
          have hzc' : z < c := by omega
          obtain ⟨p1, p2⟩ := row_place hlt (by omega : 0 < c)
          have hll := HL.out
          rcases h1.2 with h0' | ⟨b1, o1, rfl, hB1, hcell1⟩
          · omega
          have hcut : cutAt (some ⟨b1, o1, none⟩) k1 (i * c) = some ⟨b1, o1 + i * c, none⟩ := by
            simp [cutAt, show ¬ k1 = i * c by omega, Addr.add]
          rw [hcut] at CR
          have hcl := hcell1 (i * c + z) (by omega)
          rw [← HAz.out, ← Nat.add_assoc] at hcl
          have KY := hide (show ∀ W, Ext w W → W.cell? ⟨b1, o1 + i * c + z, none⟩ = some (.int .u8 ((f i z).toNat : Int)) from fun W hX => (hX.cell hB1).trans hcl)
          have hfit : (cellsOf n F (i * n + j)).length + 1 ≤ 140737488355328 := by rw [cellsOf_len]; have := HIN.out; omega
          have hwv := hWv.lt
          obtain ⟨y, hy⟩ : ∃ y, y = f i z := ⟨_, rfl⟩
          rw [← hy] at KY HS
          have hW2v := hWv
          clear hcl hcell1 hcell2 hcut hll hy h1 h2 p1 p2
          go_wp2_with fail
          refine wp_region_T (fun W => Ext wr W) 9 12 #[false, false, false, false, false, false, false, false, false, false, false, false] (by kernel_rfl) rfl rfl (Ext.refl wr).drew ?_
          intro hS0
          refine wpAnyT_take 0 (some 25) (.pointer (some ⟨gb, 2, none⟩)) #[true, false, false, false, false, false, false, false, false, false, false, false] rfl rfl rfl (by kernel_rfl) (fun _ _ _ h => h) hS0 (by rfl) (fun W hX => by go_simp) ?_
          simp only [Act.put, List.setIfInBounds_toArray, List.set_cons_zero, List.set_cons_succ]
          refine wpAnyT_take 1 (some 26) (v) #[true, true, false, false, false, false, false, false, false, false, false, false] rfl rfl rfl (by kernel_rfl) (fun _ _ _ h => h) hS0 (by rfl) (fun W hX => by have s0 := (hWv.ext hX).at 2 (u := v) rfl; go_simp) ?_
          simp only [Act.put, List.setIfInBounds_toArray, List.set_cons_zero, List.set_cons_succ]
          refine wpAnyT_take 2 (some 27) (.agg #[.int .i64 (r : Int), .int .i64 (c : Int), .slice (some ⟨b1, o1, none⟩) l.length k1]) #[true, true, true, false, false, false, false, false, false, false, false, false] rfl rfl rfl (by kernel_rfl) (fun _ _ _ h => h) hS0 (by rfl) (fun W hX => by have s0 := (hWm2.ext hX).at 0 (u := .int .i64 (r : Int)) rfl; have s1 := (hWm2.ext hX).at 1 (u := .int .i64 (c : Int)) rfl; have s2 := (hWm2.ext hX).at 2 (u := .slice (some ⟨b1, o1, none⟩) l.length k1) rfl; go_simp) ?_
          simp only [Act.put, List.setIfInBounds_toArray, List.set_cons_zero, List.set_cons_succ]
          refine wpAnyT_take 3 (some 28) (.int .i64 (i : Int)) #[true, true, true, true, false, false, false, false, false, false, false, false] rfl rfl rfl (by kernel_rfl) (fun _ _ _ h => h) hS0 (by rfl) (fun W hX => by go_simp) ?_
          simp only [Act.put, List.setIfInBounds_toArray, List.set_cons_zero, List.set_cons_succ]
          refine wpAnyT_take 5 (some 30) (.int .i64 (z : Int)) #[true, true, true, true, false, true, false, false, false, false, false, false] rfl rfl rfl (by kernel_rfl) (fun _ _ _ h => h) hS0 (by rfl) (fun W hX => by go_simp) ?_
          simp only [Act.put, List.setIfInBounds_toArray, List.set_cons_zero, List.set_cons_succ]
          refine wpAnyT_only 4 #[true, true, true, true, true, true, false, false, false, false, false, false] (by kernel_rfl) rfl rfl (by rfl) (fun K0 hK0 => ?_)
          go_simp
          go_at_call 65
          refine (CR _).mono ?_
          rintro e w6 ⟨rfl, hE6⟩
          have hX6 := hS0.trans hE6
          refine hK0 _ _ (fun _ => hX6) ?_
          clear hK0 K0
          refine wpAnyT_take 6 (some 31) (.pointer (some ⟨b1, o1 + i * c + z, none⟩)) #[true, true, true, true, true, true, true, false, false, false, false, false] rfl rfl rfl (by kernel_rfl) (fun _ _ _ h => h) hX6 (by rfl) (fun W hX => by go_simp) ?_
          simp only [Act.put, List.setIfInBounds_toArray, List.set_cons_zero, List.set_cons_succ]
          refine wpAnyT_take 7 (some 32) (.int .u8 (y.toNat : Int)) #[true, true, true, true, true, true, true, true, false, false, false, false] rfl rfl rfl (by kernel_rfl) (fun _ _ _ h => h) hX6 (by rfl) (fun W hX => by have s0 := KY.out W (hE2.trans hX); go_simp) ?_
          simp only [Act.put, List.setIfInBounds_toArray, List.set_cons_zero, List.set_cons_succ]
          have hb1 := bytesNew w6 [y] #[.int .u8 (y.toNat : Int)] 5 (0, 0) rfl 1 rfl
          have hE7 := extNew w6 (.cells #[.int .u8 (y.toNat : Int)] 5)
          have hX7 := hX6.trans hE7
          have hO7 := hO.ext hX7
          have hB7 : gb + 1 ≤ (w6.alloc (.cells #[.int .u8 (y.toNat : Int)] 5)).heap.size := by have := hX7.le; omega
          have hW7 := hWv.ext hX7
          refine wpAnyT_only 8 #[true, true, true, true, true, true, true, true, true, false, false, false] (by kernel_rfl) rfl rfl (by rfl) (fun K1 hK1 => ?_)
          go_simp
          refine hK1 _ _ (fun _ => hX7) ?_
          clear hK1 K1
          refine wpAnyT_only 9 #[true, true, true, true, true, true, true, true, true, true, false, false] (by kernel_rfl) rfl rfl (by rfl) (fun K2 hK2 => ?_)
          refine wp_appAt (.tmp 26) (.tmp 33) rfl rfl hO7 rfl hb1 hfit hB7 ?_
          intro v4 w8 hO8 hG8 _
          have hne : v.ownBlock ≠ some gb := fun e => by have := (hO7.lt _ e).1; omega
          have hW8 := hW7.ownGrown hG8 hne
          have o1 := hO8.one
          have o2 := hO8.cells1
          refine hK2 _ _ (fun h => absurd h (by decide)) ?_
          clear hK2 K2
          refine wpAnyT_only 10 #[true, true, true, true, true, true, true, true, true, true, true, false] (by kernel_rfl) rfl rfl (by rfl) (fun K4 hK4 => ?_)
          go_simp
          refine hK4 _ _ (fun h => absurd h (by decide)) ?_
          clear hK4 K4
          refine wpAnyT_only 11 #[true, true, true, true, true, true, true, true, true, true, true, true] (by kernel_rfl) rfl rfl (by rfl) (fun K3 hK3 => ?_)
          refine wp_storeC 27 (.tmp 35) (.tmp 34) rfl #[.int .i64 (r : Int), .int .i64 (n : Int), v4] rfl rfl hW8 (by simp) (by kernel_rfl) o1 o2 rfl ?_
          intro w9 hW9 hG9
          refine hK3 _ _ (fun h => absurd h (by decide)) (wpAnyT_done (by kernel_rfl) ?_ _)
          clear hK3 K3
          have hne4 : v4.ownBlock ≠ some gb := fun e => by
            have := (hO8.lt _ e).1
            omega
          have hEx := hE2.trans hX7
          have hE8 : Ext w w8 := Below.grown hEx hG8 hEx.le (fun k hk => by have := (hO7.lt k hk).1; omega)
          have hE9 : Ext w w9 := Below.grown hE8 hG9 hE8.le (fun k hk => by cases hk; omega)
          have hO9 : OwnB w9 (gb + 1) v4 (cellsOf n F (i * n + (j + 1))) := by
            rw [HS.out]
            exact (Mod.ofRow (ob := none) hG9).own hO8 hne4 (by simp [Classical.em])
          have hWm9 := ((hWm2.ext hX7).ownGrown hG8 (fun e => by have := (hO7.lt _ e).1; omega)).grown hG9 (by omega)
          have hWr9 := ((hWr2.ext hX7).ownGrown hG8 (fun e => by have := (hO7.lt _ e).1; omega)).grown hG9 (by omega)
          clear hX6 hX7 hS0 hE6 hE7 hO hO7 hO8 hW7 hW8 hWv hW2v hWm2 hWr2
          go_wp2
          go_roundw
          case rel => exact ⟨j + 1, by omega, by go_num, ⟨v4, hW9, hO9⟩, hWm9, hWr9, hE9⟩
          case measure => simp [intOf]; omega
        · obtain rfl : j = n := by omega
          have hO2 : OwnB wr (gb + 1) v (cellsOf j F ((i + 1) * j)) := by
            rw [Nat.add_mul, Nat.one_mul]
            exact hO
          clear h1 h2
          go_wp2
          go_roundw
          case rel => exact ⟨i + 1, by omega, by go_num, ⟨v, hWv, hO2⟩, hWm2, hWr2, hE2⟩
          case measure => simp [intOf]; omega
    · obtain rfl : i = r := by omega
      obtain ⟨v, hWv, hO⟩ := hMd
      have ho1 := hO.one
      clear h1 h2
      go_wp2_with (first
        | (refine wpList_load_row rfl 76 (.tmp 5) rfl _ rfl _ _ _ _ hWv Tryd.underlying76 rfl mat_info ?_)
        | (refine wpList_storeW rfl 76 (.tmp 4) (.tmp 38) rfl rfl rfl hWr rfl mat_info (mat_one ho1) ?_; intro w5 hW5 hG5 _))
      refine bodyPost_ret (results_mat1 rfl _ rfl hW5 rfl) rfl ?_
      refine ⟨v, rfl, ((Mod.ofRow (ob := none) hG5).own hO (fun e => by have := (hO.lt _ e).1; omega) (by simp [Classical.em])).mono (by omega), Below.grown hE hG5 hE.le (fun k hk => by cases hk; omega)⟩
end Go.Proofs.YtkfipfhmbhmamaaDoor

namespace Go.Proofs.YtkfipfhmbhmamaaDoor
open Go.RowKit

theorem zero_ints (n : Nat) : (madeCells (Value.int .i64 0).cells n).toList = (List.replicate n (0 : Int)).map (Value.int .i64) := by
  have : madeCells (Value.int .i64 0).cells n = ((List.replicate n (0 : Int)).map (Value.int .i64)).toArray := by
    apply Array.ext
    · simp [size_madeCells, Value.cells]
    · intro i h1 h2
      simp [madeCells, Value.cells, Nat.mod_one]
  rw [this]
section
variable {w w' : World} {base g n c i : Nat} {L : List Int} {v : Value} {ob : Option Nat}
theorem own_mod {e : TypeId} {size m : Nat} {xs : List Value} (h : w.ownsRow base e size v m xs) (hM : Mod w w' g ob) (hg : v.ownBlock ≠ some g) (ho : v.ownBlock = none ∨ v.ownBlock ≠ ob) : w'.ownsRow base e size v m xs := by
  refine ⟨h.1, ?_⟩
  rcases h.2 with hn | ⟨x, cap, cur, rfl, hb, hgg, rest⟩
  · exact .inl hn
  · refine .inr ⟨x, cap, cur, rfl, hb, ?_, rest⟩
    rw [hM.block x (Array.getElem?_eq_some_iff.1 hgg).1 (by intro e; subst e; simp [Value.ownBlock] at hg) (by
      intro e
      rcases ho with ho | ho
      · simp [Value.ownBlock] at ho
      · exact ho (by simpa [Value.ownBlock] using e))]
    exact hgg
theorem OwnI.mod (h : OwnI w base v L) (hM : Mod w w' g ob) (hg : v.ownBlock ≠ some g) (ho : v.ownBlock = none ∨ v.ownBlock ≠ ob) : OwnI w' base v L := own_mod h hM hg ho
theorem OwnI.cellI (h : OwnI w base (.slice (some ⟨g, 0, none⟩) n c) L) (hn : L.length = n) (hi : i < n) : w.cell? ⟨g, i, none⟩ = some (.int .i64 (L.getD i 0)) ∧ w.frozen? ⟨g, i, none⟩ = false := by
  subst hn
  refine ⟨?_, World.ownsRow.frozenAt h i⟩
  rw [World.ownsRow.cellAt h i (by omega)]
  simp [hi, List.getD_eq_getElem?_getD]
theorem OwnI.setI (h : OwnI w base (.slice (some ⟨g, 0, none⟩) n c) L) (hn : L.length = n) (i : Nat) (x : Int) : OwnI (w.setCell ⟨g, i, none⟩ (.int .i64 x)) base (.slice (some ⟨g, 0, none⟩) n c) (L.set i x) := by
  subst hn
  have := (World.ownsRow.stored h i (.int .i64 x)).1
  unfold OwnI
  rw [List.length_set, List.map_set]
  exact this
theorem OwnI.form2 (h : OwnI w base v L) (hn : L.length = n) : ∃ A c, v = .slice A n c ∧ n ≤ c ∧ IntsAt w w.heap.size A n L := by
  subst hn
  exact h.form
end
section
variable {w w' : World} {base g r lo B i gt : Nat} {R : Nat → Value} {ls : List (List UInt8)}
theorem Lst.mono {b' : Nat} (h : Lst w base g r R) (hb : b' ≤ base) : Lst w b' g r R := ⟨h.1, h.2.elim Or.inl fun ⟨g, cap, cur, hv, hg, r⟩ => Or.inr ⟨g, cap, cur, hv, Nat.le_trans hb hg, r⟩⟩
theorem RowOf.gLow {x : Value} {l : List UInt8} (h : RowOf w B x l) (hn : NewX lo x) (hG : w.grownBy w' (some g)) (hg : g < lo) (hB : B ≤ w.heap.size) : RowOf w' B x l := by
  obtain ⟨A, k, e, h2, h3, h4⟩ := h
  refine ⟨A, k, e, h2, h3, h4.1, ?_⟩
  rcases h4.2 with h0 | ⟨b, off, rfl, hb, hc⟩
  · exact .inl h0
  rcases hn _ _ _ e with h0 | h1
  · exact .inl h0
  refine .inr ⟨b, off, rfl, hb, fun j hj => ?_⟩
  have := h1 b off rfl
  rw [← hc j hj]
  exact World.cell?_of_block (a := ⟨b, off + j, none⟩) (hG.block b (by omega) (by simp; omega))
/-- The rows as a function. -/
def RowsF (w : World) (lo B : Nat) (R : Nat → Value) (F : Nat → List UInt8) (r : Nat) : Prop := ∀ a, a < r → RowOf w B (R a) (F a) ∧ NewX lo (R a)
theorem RowsTo.toF (h : RowsTo w lo B R ls i) : RowsF w lo B R (fun a => ls.getD a []) i := h
section
variable {F G : Nat → List UInt8} {B' : Nat}
theorem RowsF.congr (h : RowsF w lo B R F r) (hF : ∀ a, a < r → G a = F a) : RowsF w lo B R G r := fun a ha => by
  rw [hF a ha]
  exact h a ha
theorem RowsF.mono (h : RowsF w lo B R F r) (hB : B ≤ B') : RowsF w lo B' R F r := fun a ha => ⟨(h a ha).1.up hB, (h a ha).2⟩
theorem RowsF.below (h : RowsF w lo B R F r) (hE : Below B w w') : RowsF w' lo B R F r := fun a ha => ⟨(h a ha).1.below hE, (h a ha).2⟩
theorem RowsF.gLow (h : RowsF w lo B R F r) (hG : w.grownBy w' (some g)) (hg : g < lo) (hB : B ≤ w.heap.size) : RowsF w' lo B R F r := fun a ha => ⟨(h a ha).1.gLow (h a ha).2 hG hg hB, (h a ha).2⟩
theorem RowsF.lower {lo' : Nat} (h : RowsF w lo B R F r) (hl : lo' ≤ lo) : RowsF w lo' B R F r := fun a ha => ⟨(h a ha).1, (h a ha).2.mono hl⟩
theorem RowsF.put {x : Value} {l : List UInt8} (h : RowsF w lo B R F r) (hx : RowOf w B x l) (hn : NewX lo x) (i : Nat) : RowsF w lo B (fun a => if a = i then x else R a) (fun a => if a = i then l else F a) r := fun a ha => by
  by_cases e : a = i
  · simp only [e, if_true]
    exact ⟨hx, hn⟩
  · simp only [e, if_false]
    exact h a ha
theorem Lst.at (h : Lst w base g r R) (hr : RowsF w lo B R F r) (hF : ∀ a, a < r → F a = ls.getD a []) (hl : ls.length = r) (hB : B ≤ w.heap.size) : RowsAt w w.heap.size (some ⟨g, 0, none⟩) r ls := by
  refine ⟨hl, .inr ⟨g, 0, rfl, h.lt.2, fun i hi => ⟨R i, ?_, ?_⟩⟩⟩
  · rw [Nat.zero_add]
    exact (h.cell hi).1
  · rw [← hF i hi]
    exact (hr i hi).1.up hB
end
end
/-- The rows of the parities that are asked for, as numbers. -/
def pks (L : List Nat) (k h l i : Nat) : List Int := (List.range l).map fun a => if a < i then ((L.getD (h + a) 0 : Nat) : Int) - (k : Int) else 0
theorem pks_len (L : List Nat) (k h l i : Nat) : (pks L k h l i).length = l := by simp [pks]
theorem pks_zero (L : List Nat) (k h l : Nat) : pks L k h l 0 = List.replicate l 0 := by
  unfold pks
  apply List.ext_getElem
  · simp
  · intro i h1 h2
    simp
theorem pks_at {L : List Nat} {k h l i a : Nat} (ha : a < l) : (pks L k h l i).getD a 0 = if a < i then ((L.getD (h + a) 0 : Nat) : Int) - (k : Int) else 0 := by simp [pks, List.getD_eq_getElem?_getD, ha]
theorem pks_set {L : List Nat} {k h l i : Nat} : (pks L k h l i).set i (((L.getD (h + i) 0 : Nat) : Int) - (k : Int)) = pks L k h l (i + 1) := by
  apply List.ext_getElem
  · rw [List.length_set, pks_len, pks_len]
  · intro a h1 h2
    rw [pks_len] at h2
    rw [List.getElem_set]
    simp only [pks, List.getElem_map, List.getElem_range]
    by_cases e : i = a
    · rw [if_pos e, if_pos (by omega), e]
    · rw [if_neg e]
      by_cases h3 : a < i
      · rw [if_pos h3, if_pos (by omega)]
      · rw [if_neg h3, if_neg (by omega)]
end Go.Proofs.YtkfipfhmbhmamaaDoor

namespace Go.Proofs.YtkfipfhmbhmamaaDoor
open Go.RowKit

theorem cells_square {c n : Nat} {f g : Mat.M} (h : ∀ i j, i < n → j < c → f i j = g i j) : cellsOf c f (n * c) = cellsOf c g (n * c) := cells_congr fun p hp => by
  have hc : 0 < c := by
    rcases Nat.eq_zero_or_pos c with e | e
    · rw [e, Nat.mul_zero] at hp
      omega
    · exact e
  exact h _ _ (Nat.div_lt_of_lt_mul (by rw [Nat.mul_comm]; exact hp)) (Nat.mod_lt _ hc)
/-- The first i rows are the new ones. -/
def mixA (F G : Nat → List UInt8) (i : Nat) : Nat → List UInt8 := fun a => if a < i then G a else F a
theorem mixA_0 (F G : Nat → List UInt8) : mixA F G 0 = F := by
  funext a
  exact if_neg (by omega)
theorem mixA_put (F G : Nat → List UInt8) (i : Nat) : (fun a => if a = i then G i else mixA F G i a) = mixA F G (i + 1) := by
  funext a
  unfold mixA
  by_cases e : a = i
  · rw [if_pos e, if_pos (by omega), e]
  · rw [if_neg e]
    by_cases h : a < i
    · rw [if_pos h, if_pos (by omega)]
    · rw [if_neg h, if_neg (by omega)]
theorem mixA_at (F G : Nat → List UInt8) (i : Nat) : mixA F G i i = F i := if_neg (Nat.lt_irrefl _)
theorem mixA_all (F G : Nat → List UInt8) {i a : Nat} (h : a < i) : G a = mixA F G i a := (if_pos h).symm
theorem times_row {l k N : Nat} {f : Mat.M} {D : List (List UInt8)} (hd : (D.getD 0 []).length = N) {a : Nat} (ha : a < l) : ((timesL l k f D).getD a []).length = N := by rw [timesL_at ha, hd, rowB_len]
section
variable {k m h l N : Nat} {L : List Nat} {ch : List (List UInt8)} {X : Mat.M}
/-- The rows of Cauchy that are there. -/
def haveC (k h : Nat) (L : List Nat) : Mat.M := fun a j => cauchyF k (L.getD (h + a) 0 - k) j
theorem pick_lost (hkm : k + m ≤ 255) (p : Plc k (k + m) L) (c : Cut L h k) (hh : h + l = k) : (⟨m, k, cellsOf k (cauchyF k) (m * k)⟩ : MV).pickE (pks L k h l l) = (⟨l, k, cellsOf k (haveC k h L) (l * k)⟩, 0) := by
  have hpl := p.len
  have hin : ∀ i, i < l → k ≤ L.getD (h + i) 0 ∧ L.getD (h + i) 0 < k + m := fun i hi => ⟨c.hi _ (by omega) (by omega), p.lt _ (Plc.get_mem (by omega))⟩
  have hpk : (⟨m, k, cellsOf k (cauchyF k) (m * k)⟩ : MV).picks (pks L k h l l) := by
    refine ⟨rect_may _ (by omega) (by omega), by rw [pks_len]; omega, fun i hi => ?_⟩
    rw [pks_len] at hi
    have := hin i hi
    rw [pks_at hi, if_pos hi]
    dsimp only
    omega
  unfold MV.pickE
  rw [if_pos hpk]
  unfold MV.pickR
  rw [pks_len]
  dsimp only
  rw [Int.toNat_natCast]
  have e : cellsOf k ((⟨m, k, cellsOf k (cauchyF k) (m * k)⟩ : MV).pickF (pks L k h l l)) (l * k) = cellsOf k (haveC k h L) (l * k) := cells_square fun i j hi hj => by
    have := hin i hi
    unfold MV.pickF
    rw [pks_at hi, if_pos hi, show (((L.getD (h + i) 0 : Nat) : Int) - (k : Int)).toNat = L.getD (h + i) 0 - k by omega, at_cells (by omega) hj]
    rfl
  rw [e]
theorem inv_lostE (hkm : k ≤ 255) (hl : l = (lostTo L k).length) (hlk : l ≤ k) (hI : Mat.Inv (lostTo L k).length (lostC k L) (lostY k L X)) :
    (⟨l, l, cellsOf l (lostC k L) (l * l)⟩ : MV).invE = (⟨l, l, cellsOf l (lostY k L X) (l * l)⟩, 0) := by
  rw [← hl] at hI
  have := MV.invE_of (m := ⟨l, l, cellsOf l (lostC k L) (l * l)⟩) (X := lostY k L X) (square_may _ (by omega)) rfl (by
    dsimp only
    rw [Int.toNat_natCast]
    exact inv_congr (fun i j hi hj => at_cells hi hj) hI)
  rw [this]
  dsimp only
  rw [Int.toNat_natCast]
theorem cols_lost (hl : l = (lostTo L k).length) (hh : h + l = k) : cellsOf l (fun a b => (⟨l, k, cellsOf k (haveC k h L) (l * k)⟩ : MV).at a ((lostTo L k).getD b 0)) (l * l) = cellsOf l (lostC k L) (l * l) := cells_square fun i j hi hj => by
  rw [at_cells hi (lostTo_at (by omega)).1]
  unfold lostC haveC
  rw [show k - (lostTo L k).length = h by omega]
theorem times_have (ls : List (List UInt8)) : timesL l k (⟨l, k, cellsOf k (haveC k h L) (l * k)⟩ : MV).at ls = timesL l k (haveC k h L) ls := timesL_congr ls fun _ _ hi hj => at_cells hi hj
theorem times_lost (ls : List (List UInt8)) : timesL l l (⟨l, l, cellsOf l (lostY k L X) (l * l)⟩ : MV).at ls = timesL l l (lostY k L X) ls := timesL_congr ls fun _ _ hi hj => at_cells hi hj
theorem add_lack (hl : l = (lostTo L k).length) (hh : h + l = k) (hal : ∀ i, i < k → (ch.getD i []).length = N) (hd0 : ((dataTo L ch N k).getD 0 []).length = N) {a : Nat} (ha : a < l) :
    Gf.addR ((timesL l k (haveC k h L) (dataTo L ch N k)).getD a []) 1 (ch.getD (h + a) []) = ((lackL k L ch N).getD a [], 0) := by
  have h1 := rowB_of (ch.getD (h + a) [])
  rw [hal _ (by omega)] at h1
  rw [timesL_at ha, hd0, h1, rowB_add _ _ (by omega), lackL_at (by omega), show k - (lostTo L k).length = h by omega]
  refine Prod.ext (rowB_congr fun n hn => ?_) rfl
  rw [show (UInt8.ofNat 1) = 1 from rfl, Mat.one_fm]
  rfl
theorem data_row (p : Plc k (k + m) L) (hal : ∀ i, i < k → (ch.getD i []).length = N) {j : Nat} (hj : j < k) : ((dataTo L ch N k).getD j []).length = N := by
  rw [dataTo_at hj]
  by_cases hm : j ∈ L
  · rw [if_pos hm]
    exact hal _ (by have := List.idxOf_lt_length_of_mem hm; have := p.len; omega)
  · rw [if_neg hm, List.length_replicate]
end
section
variable {w w' : World} {base g r lo B i : Nat} {R : Nat → Value} {F : Nat → List UInt8}
/-- A row of the call's own put in another's place. -/
theorem RowsF.store {x : Value} {l : List UInt8} (h : RowsF w lo B R F r) (hx : RowOf w B x l) (hn : NewX lo x) (hg : g < lo) (hB : B ≤ w.heap.size) (i : Nat) :
    RowsF (w.setCell ⟨g, i, none⟩ x) lo (w.setCell ⟨g, i, none⟩ x).heap.size (fun a => if a = i then x else R a) (fun a => if a = i then l else F a) r := by
  have hG := grown_setCell w g i x
  have hs : B ≤ (w.setCell ⟨g, i, none⟩ x).heap.size := by rw [World.size_setCell]; exact hB
  exact ((h.gLow hG hg hB).put (hx.gLow hn hG hg hB) hn i).mono hs
end
theorem Mod.toG {w w' : World} {g : Nat} (h : Mod w w' g none) : w.grownBy w' (some g) := ⟨h.os, h.tape, h.output, h.size, fun k hk hne => h.block k hk (fun e => hne (by rw [e])) (by simp)⟩
theorem placed_next {Z : List Nat} {D rows : List (List UInt8)} {i a : Nat} (hz : Z.getD i 0 < D.length) : (placed Z D rows (i + 1)).getD a [] = if a = Z.getD i 0 then rows.getD i [] else (placed Z D rows i).getD a [] := by
  have hl := placed_len Z D rows i
  rw [placed]
  by_cases e : a = Z.getD i 0
  · rw [if_pos e, e, List.getD_eq_getElem?_getD, List.getElem?_set_self (by omega)]
    rfl
  · rw [if_neg e, List.getD_eq_getElem?_getD, List.getElem?_set_ne (fun h => e h.symm), ← List.getD_eq_getElem?_getD]
end Go.Proofs.YtkfipfhmbhmamaaDoor

namespace Go.Proofs.YtkfipfhmbhmamaaDoor
open Go.RowKit

set_option maxHeartbeats 16000000 in
set_option maxRecDepth 100000 in
theorem dataOf_any {k m N : Nat} {L : List Nat} {A A1 A2 : Option Addr} {ka c1 c2 : Nat} {ch : List (List UInt8)} {w : World} (p : Plc k (k + m) L) (hk1 : 1 ≤ k) (hkm : k + m ≤ 255)
    (hl : (⟨m, k, cellsOf k (cauchyF k) (m * k)⟩ : MV).lies w A ka) (h1 : IntsAt w w.heap.size A1 k (L.map Int.ofNat)) (h2 : RowsAt w w.heap.size A2 k ch) (hal : ∀ i, i < k → (ch.getD i []).length = N) (hN : N ≤ 20000) :
    Calls Tryd.prog 81 #[(⟨m, k, cellsOf k (cauchyF k) (m * k)⟩ : MV).arg A ka, .slice A1 k c1, .slice A2 k c2] w (MadeN w (timesL k k (backX k L) ch)) := by
  have hpl := p.len
  have hX := backX_inv (k := k) (L := L) (by omega) hpl p.nodup (fun x hx => by have := p.lt x hx; omega)
  have HBack := hide (fun h (c : Cut L h k) (hh : h + (lostTo L k).length = k) => back_all p c hh hX (hal 0 (by omega)) hal)
  have HInv := hide (fun h (c : Cut L h k) (hh : h + (lostTo L k).length = k) => lost_inv p c hh hX)
  have HTL := hide (timesL_len k k (backX k L) ch)
  have HDR := hide (fun j (hj : j < k) => data_row p hal hj)
  have HDL := hide (dataTo_len L ch N k)
  have HAdd := hide (fun h l (hl : l = (lostTo L k).length) (hh : h + l = k) a (ha : a < l) => add_lack (N := N) hl hh hal (data_row p hal (by omega)) ha)
  have HAL := hide hal
  clear hX hal
  obtain ⟨res, hres⟩ : ∃ R, R = timesL k k (backX k L) ch := ⟨_, rfl⟩
  rw [← hres] at HBack HTL ⊢
  generalize backX k L = X at *
  clear hres
  obtain ⟨mv, hmv⟩ : ∃ M : MV, M = ⟨m, k, cellsOf k (cauchyF k) (m * k)⟩ := ⟨_, rfl⟩
  have HPick := hide (fun h l (c : Cut L h k) (hh : h + l = k) => pick_lost hkm p c hh)
  rw [← hmv] at hl HPick ⊢
  have hmr : mv.r = (m : Int) := by rw [hmv]
  have hmc : mv.c = (k : Int) := by rw [hmv]
  have hml : mv.l.length = m * k := by rw [hmv, cellsOf_len]
  clear hmv
  obtain ⟨r0, c0, cl⟩ := mv
  dsimp only at hmr hmc hml
  subst hmr
  subst hmc
  have HML := hide hml
  clear hml
  have HPl := hide p
  have hE0 := extNew w (.cells #[.int .i64 (m : Int), .int .i64 (k : Int), .slice A cl.length ka] 76)
  have hW0 := Whole.new w 76 #[.int .i64 (m : Int), .int .i64 (k : Int), .slice A cl.length ka]
  have hI0 := h1.below hE0 (Nat.le_refl _)
  have CS := spread_any (c1 := c1) (c2 := c2) (N := N) p hk1 (by omega) (show IntsAt (w.alloc (.cells #[.int .i64 (m : Int), .int .i64 (k : Int), .slice A cl.length ka] 76)) (w.alloc (.cells #[.int .i64 (m : Int), .int .i64 (k : Int), .slice A cl.length ka] 76)).heap.size A1 k (L.map Int.ofNat) from h1.ext hE0) (h2.ext hE0) HAL.out hN
  have hk0 : (0 : Int) ≤ (k : Int) := by omega
  rcases h1.2 with h0 | ⟨b1, o1, rfl, hb1, hc1⟩
  · omega
  rcases h2.2 with h0 | ⟨b2, o2, rfl, hb2, hc2⟩
  · omega
  have HC1 := hide hc1
  have HC2 := hide hc2
  have HLies := hide hl
  unfold MV.arg
  dsimp only
  obtain ⟨iI, hiI, hzI, hszI, hbyI⟩ := info_parts int_info
  clear hI0 h1 h2 hc1 hc2 hl p
  go_enter Tryd.func81, Tryd.ntmps81
  go_wp2_with fail
  refine CS.mono ?_
  rintro e w1 ⟨gd, u, h, R1, rfl, hCut, hcnt, hI1, hL1, hR1, hE1⟩
  obtain ⟨l, hl⟩ : ∃ l, l = (lostTo L k).length := ⟨_, rfl⟩
  have hlk : h + l = k := by omega
  have hlenI : ((lostTo L k).map Int.ofNat).length = l := by rw [List.length_map, hl]
  obtain ⟨Au, cu, rfl, hcu, _⟩ := hI1.form2 hlenI
  have hW1 := hW0.ext hE1
  have hF1 := hE0.trans hE1
  have hi4 : l ≤ maxLen := by unfold maxLen; omega
  have hi5 : iI.bytes * l ≤ 281474976710656 := by rw [hbyI]; omega
  have hl0 : 0 ≤ (l : Int) := by omega
  have hsub : IntKind.i64.wrap ((k : Int) - (l : Int)) = (h : Int) := by rw [IntKind.wrap_i64]; omega
  have hgdl := hL1.lt
  rw [World.size_alloc] at hgdl
  have hl255 : l ≤ 255 := by omega
  have HCut := hide hCut
  have HCnt := hide hcnt
  have HLK := hide hlk
  have HLN := hide hl
  clear hCut hcnt hlk hlenI hl CS
  go_wp2_with (at_make; refine wpList_make_full _ rfl _ _ _ rfl w.heap.size 3 iI _ 1 Tryd.underlying32 hiI hzI hszI _ _ _ _ l rfl rfl rfl rfl hi5 hi4 hF1.le ?_; intro w2 hO2 hG2)
  have hF2 : Ext w1 w2 := ⟨hG2.os, hG2.tape, hG2.output, hG2.size, fun b hb => hG2.block b hb (by simp)⟩
  obtain ⟨gr, hgr⟩ : ∃ g, g = w1.heap.size := ⟨_, rfl⟩
  have hP2 : OwnI w2 w.heap.size (.slice (some ⟨gr, 0, none⟩) l l) (pks L k h l 0) := by
    unfold OwnI
    rw [pks_zero, List.length_replicate, hgr, ← zero_ints]
    rw [Nat.mul_one] at hO2
    exact hO2
  have hL2 := (hL1.ext hF2).mono hE0.le
  have hI2 := hI1.ext hF2
  have hI2u := hI1.lt
  have hR2 : RowsF w2 (gd + 1) gr R1 (fun a => (dataTo L ch N k).getD a []) k := (RowsTo.toF (by rw [hgr]; exact hR1)).below (hF2.belowAt (by omega))
  have hW2 := hW1.ext hF2
  have hE2 := hF1.trans hF2
  have hgl1 : gd < gr := by omega
  have hgr2 : gr < w2.heap.size := (hP2.lt gr rfl).2
  have hwg : w.heap.size < gd := by omega
  have hub : ∀ b, (Value.slice Au l cu).ownBlock = some b → w.heap.size < b ∧ b < gr := fun b hb => by
    have := hI2u b hb
    rw [World.size_alloc] at this
    omega
  rw [← hgr]
  clear hO2 hG2 hF2 hL1 hI1 hR1 hW1 hW0 hE0 hE1 hF1 hgr hi4 hi5 hiI hzI hszI hbyI hgdl hI2u hsub
  have HUB := hide hub
  clear hub
  go_loopw [37] (fun x wr => ∃ i : Nat, i ≤ l ∧ x = .int .i64 (i : Int) ∧ OwnI wr w.heap.size (.slice (some ⟨gr, 0, none⟩) l l) (pks L k h l i) ∧ Mod w2 wr gr none) (fun x _ => l - (intOf x).toNat)
  case atStart => exact ⟨0, by omega, rfl, hP2, Mod.refl _ _ _⟩
  case round =>
    obtain ⟨i, hi, rfl, hPi, hMi⟩ := hrel
    have hEr : Ext w wr := Below.trans hE2 (hMi.below (by omega) (by omega) (fun k hk => by cases hk))
    by_cases hlt : i < l
    · have kq := (hEr.cell hb1).trans (HC1.out (h + i) (by have := HLK.out; omega))
      rw [getD_mapI (by have := HLK.out; omega)] at kq
      have hq : L.getD (h + i) 0 < k + m := HPl.out.lt _ (Plc.get_mem (by have := HLK.out; omega))
      have HSet := hide (pks_set (L := L) (k := k) (h := h) (l := l) (i := i))
      have hhi : (h : Int) + (i : Int) < (k : Int) := by have := HLK.out; omega
      generalize L.getD (h + i) 0 = q at *
      obtain ⟨hcP, hfP⟩ := hPi.cellI (pks_len _ _ _ _ _) hlt
      have hP3 := hPi.setI (pks_len _ _ _ _ _) i ((q : Int) - (k : Int))
      rw [HSet.out] at hP3
      have hM3 := hMi.trans (Mod.ofRow (ob := none) (grown_setCell wr gr i (.int .i64 ((q : Int) - (k : Int))))) (.inl rfl)
      have hil : (i : Int) < (l : Int) := by omega
      have hsum : IntKind.i64.wrap ((h : Int) + (i : Int)) = ((h + i : Nat) : Int) := by rw [IntKind.wrap_i64]; omega
      have hsq : IntKind.i64.wrap ((q : Int) - (k : Int)) = (q : Int) - (k : Int) := by rw [IntKind.wrap_i64]; omega
      have hhi2 : ((h + i : Nat) : Int) < (k : Int) := by omega
      generalize h + i = hi' at *
      clear hhi
      go_wp2
      go_roundw
      case rel => exact ⟨i + 1, by omega, by go_num, hP3, hM3⟩
      case measure => simp [intOf]; omega
    · obtain rfl : l = i := by omega
      have hL3 := hL2.mod hMi (by omega) (by simp)
      have hI3 : OwnI wr _ _ _ := hI2.mod hMi (fun e => by have := HUB.out _ e; omega) (by simp [Classical.em])
      have hR3 : RowsF wr (gd + 1) gr R1 (fun a => (dataTo L ch N k).getD a []) k := hR2.below (hMi.below (by omega) (Nat.le_refl _) (fun k hk => by cases hk))
      have hW3 := hMi.whole hW2 (by omega) (by simp)
      have hgr3 : gr < wr.heap.size := (hPi.lt gr rfl).2
      obtain ⟨A3, c3, he3, _, hIA3⟩ := hPi.form2 (pks_len _ _ _ _ _)
      simp only [Value.slice.injEq] at he3
      obtain ⟨rfl, _, rfl⟩ := he3
      have CPk := matPick_any ⟨m, k, cl⟩ (pks L k h l l) A (some ⟨gr, 0, none⟩) ka l wr (HLies.out.ext hEr) (by rw [pks_len]; exact hIA3) (by rw [pks_len]; omega)
      rw [HPick.out h l HCut.out HLK.out, pks_len] at CPk
      unfold MV.arg at CPk
      dsimp only at CPk
      obtain ⟨pl, hpl2⟩ : ∃ P, P = cellsOf k (haveC k h L) (l * k) := ⟨_, rfl⟩
      rw [← hpl2] at CPk
      obtain ⟨w3, rfl⟩ : ∃ W, W = wr := ⟨_, rfl⟩
      have HPL := hide hpl2
      clear hL2 hI2 hR2 hW2 hMi hP2 hPi hIA3 hlt hpl2
      go_wp2_with (refine wpList_load_row rfl 76 (.tmp 3) rfl _ rfl _ _ _ _ hW3 Tryd.underlying76 rfl mat_info ?_)
      refine CPk.mono ?_
      rintro e w4 ⟨v4, rfl, hO4, hE4⟩
      dsimp only at hO4
      obtain ⟨A4, c4, rfl, hc4, hm4, hB4⟩ := hO4.form
      have hW4 := hW3.ext hE4
      have hF4 := hEr.trans hE4
      unfold matV
      go_wp2_with (first
        | (refine wpList_storeW rfl 76 (.tmp 3) (.tmp 57) rfl rfl rfl hW4 rfl mat_info (mat_one rfl) ?_; intro w5 hW5 hG5 hS5; clear hS5)
        | (refine wpList_load_row rfl 76 (.tmp 3) rfl _ rfl _ _ _ _ hW5 Tryd.underlying76 rfl mat_info ?_))
      have hF5 : Ext w w5 := Below.grown hF4 hG5 hF4.le (fun k hk => by cases hk; omega)
      have hL5 := (hL3.ext hE4).mod (Mod.ofRow (ob := none) hG5) (by omega) (by simp)
      have hI5 : OwnI w5 _ _ _ := (hI3.ext hE4).mod (Mod.ofRow (ob := none) hG5) (fun e => by have := HUB.out _ e; omega) (by simp [Classical.em])
      have hR5 : RowsF w5 (gd + 1) gr R1 (fun a => (dataTo L ch N k).getD a []) k := (hR3.below (hE4.belowAt (by omega))).gLow hG5 (by omega) (by have := hE4.le; omega)
      have hO5 := (Mod.ofRow (ob := none) hG5).own hO4 (fun e => by have := (hO4.lt _ e).1; omega) (by simp [Classical.em])
      have hgr5 : gr < w5.heap.size := by have := hE4.le; have := hG5.size; omega
      have hD5 : RowsAt w5 w5.heap.size (some ⟨gd, 0, none⟩) (dataTo L ch N k).length (dataTo L ch N k) := by
        rw [HDL.out]
        exact hL5.at hR5 (fun _ _ => rfl) HDL.out (by omega)
      have hplm : (⟨l, k, pl⟩ : MV).may = true := by
        have hp := HPL.out
        rw [hp]
        exact rect_may _ (by omega) (by omega)
      have hal5 : alike (dataTo L ch N k) := alike_of fun i hi => HDR.out i (by rw [← HDL.out]; exact hi)
      have CT := rsTimesL_any ⟨l, k, pl⟩ A4 (some ⟨gd, 0, none⟩) c4 k (dataTo L ch N k) w5 hplm ⟨hO5.bytesR, by dsimp only; omega, hc4⟩ hD5 (by dsimp only; rw [HDL.out]; omega) (fun _ => by rw [HDL.out]; omega) hal5 (by rw [HDR.out 0 (by omega)]; exact hN)
      unfold MV.arg at CT
      dsimp only at CT
      rw [HDL.out, Int.toNat_natCast, Int.toNat_natCast] at CT
      have HT0 := hide (show timesL l k (⟨l, k, pl⟩ : MV).at (dataTo L ch N k) = timesL l k (haveC k h L) (dataTo L ch N k) by have hp := HPL.out; rw [hp]; exact times_have _)
      rw [HT0.out] at CT
      have hBp5 := hO5.bytesR
      clear hL3 hI3 hR3 hW3 hE4 hW4 hF4 hG5 hO4 hB4 hEr CPk hD5 hal5 hO5
      have HMay := hide hplm
      clear hplm
      refine CT.mono ?_
      rintro e w6 ⟨gl, R6, rfl, hL6, hR6, hE6⟩
      have hF6 := hF5.trans hE6
      have hLd6 := hL5.ext hE6
      have hI6 := hI5.ext hE6
      have hRd6 := hR5.below (hE6.belowAt (by omega))
      have hW6 := hW5.ext hE6
      have hL6' := hL6.mono hF5.le
      have hgl2 := hL6.lt
      have hgl3 : gr < gl := by omega
      have hBp6 := hBp5.below hE6 (Nat.le_refl _)
      clear hL5 hI5 hR5 hW5 hE6 CT hL6 hBp5
      have HNew := hide (fun a (ha : a < l) => HAdd.out h l HLN.out HLK.out a ha)
      have HOl := hide (fun a (ha : a < l) => times_row (l := l) (k := k) (f := haveC k h L) (HDR.out 0 (by omega)) ha)
      have hR6' : RowsF w6 (gl + 1) w6.heap.size R6 (mixA (fun a => (timesL l k (haveC k h L) (dataTo L ch N k)).getD a []) (fun a => (lackL k L ch N).getD a []) 0) l := by
        rw [mixA_0]
        exact hR6.toF
      obtain ⟨oldF, hOF⟩ : ∃ F : Nat → List UInt8, F = fun a => (timesL l k (haveC k h L) (dataTo L ch N k)).getD a [] := ⟨_, rfl⟩
      obtain ⟨newF, hNF⟩ : ∃ F : Nat → List UInt8, F = fun a => (lackL k L ch N).getD a [] := ⟨_, rfl⟩
      have HOF := hide (fun a => congrFun hOF a)
      have HNF := hide (fun a => congrFun hNF a)
      rw [← hOF, ← hNF] at hR6'
      clear hOF hNF hR6
      go_wp2_with fail
      go_loopw [64] (fun x wr => ∃ i : Nat, i ≤ l ∧ x = .int .i64 (i : Int) ∧ (∃ R', Lst wr w.heap.size gl l R' ∧ RowsF wr (gl + 1) wr.heap.size R' (mixA oldF newF i) l) ∧ Mod w6 wr gl none) (fun x _ => l - (intOf x).toNat)
      case atStart => exact ⟨0, by omega, rfl, ⟨R6, hL6', hR6'⟩, Mod.refl _ _ _⟩
      case round =>
        obtain ⟨i, hi, rfl, ⟨R', hLi, hRi⟩, hMi⟩ := hrel
        have hw6 := hF6.le
        have hEr : Ext w wr := Below.trans hF6 (hMi.below (by omega) (by omega) (fun k hk => by cases hk))
        by_cases hlt : i < l
        · obtain ⟨⟨Al, kl, hRe, hkl, hml, hBl⟩, _⟩ := hRi i hlt
          obtain ⟨hcL, hfL⟩ := hLi.cell hlt
          rw [hRe] at hcL
          obtain ⟨xb, kb, hxb⟩ := HC2.out (h + i) (by have := HLK.out; omega)
          obtain ⟨Ab, kkb, rfl, _, _, hBb⟩ := hxb
          have kb' := (hEr.cell hb2).trans kb
          have hBb' := hEr.bytes hBb
          have hto : (mixA oldF newF i i).length = N := by rw [mixA_at, HOF.out]; exact HOl.out i hlt
          have CA := gfAdd_any Al Ab kl kkb 1 (mixA oldF newF i i) (ch.getD (h + i) []) wr (by omega) (by omega) hBl hBb'
          have hnew : Gf.addR (mixA oldF newF i i) 1 (ch.getD (h + i) []) = (newF i, 0) := by
            rw [mixA_at, HOF.out, HNF.out]
            exact HNew.out i hlt
          rw [hnew] at CA
          have HPut := hide (mixA_put oldF newF i)
          have hil : (i : Int) < (l : Int) := by omega
          have hhi3 : h + i < k := by have := HLK.out; omega
          have hsum : IntKind.i64.wrap ((h : Int) + (i : Int)) = ((h + i : Nat) : Int) := by rw [IntKind.wrap_i64]; omega
          have hhi2 : ((h + i : Nat) : Int) < (k : Int) := by omega
          have HRi := hide hRi
          have HHI := hide hhi3
          clear hnew hto hRi hBl hBb hBb' kb hRe hkl hml hhi3
          generalize ch.getD (h + i) [] = bb at *
          generalize mixA oldF newF i i = to at *
          generalize newF i = nw at *
          generalize h + i = hi' at *
          go_wp2_with fail
          refine CA.mono ?_
          rintro e w7 ⟨v7, rfl, hO7, hE7⟩
          obtain ⟨A7, c7, rfl, _, _, _⟩ := hO7.form
          have hL7 := hLi.ext hE7
          obtain ⟨hc7, hf7⟩ := hL7.cell hlt
          obtain ⟨hL8, hG8⟩ := hL7.set hlt (.slice A7 nw.length c7)
          have hgl7 := hLi.lt
          have hnx : NewX (gl + 1) (.slice A7 nw.length c7) := (NewX.own hO7).mono (by omega)
          have hR8 := ((HRi.out.below hE7).mono hE7.le).store hO7.row hnx (Nat.lt_succ_self gl) (Nat.le_refl _) i
          rw [HPut.out] at hR8
          have hM8 := (hMi.trans (Mod.ofExt hE7) (.inl rfl)).trans (Mod.ofRow (ob := none) hG8) (.inl rfl)
          clear hO7 hE7 hG8 hnx hL7
          go_wp2
          go_roundw
          case rel => exact ⟨i + 1, by omega, by go_num, ⟨_, hL8, hR8⟩, hM8⟩
          case measure => simp [intOf]; omega
        · obtain rfl : l = i := by omega
          have hRk : RowsF wr (gl + 1) wr.heap.size R' (fun a => (lackL k L ch N).getD a []) l := hRi.congr fun a ha => by rw [← mixA_all oldF newF ha, HNF.out]
          have hLd7 := hLd6.mod hMi (by omega) (by simp)
          have hI7 : OwnI wr _ _ _ := hI6.mod hMi (fun e => by have := HUB.out _ e; omega) (by simp [Classical.em])
          have hB7 : Below gl w6 wr := hMi.below (by omega) (Nat.le_refl _) (fun k hk => by cases hk)
          have hRd7 := hRd6.below (Below.mono hB7 (by omega))
          have hW7 := hMi.whole hW6 (by omega) (by simp)
          have hBp7 := hBp6.below hB7 (by omega)
          have hgl7 := hLi.lt
          obtain ⟨w7, rfl⟩ : ∃ W, W = wr := ⟨_, rfl⟩
          obtain ⟨Au', cu', hue, _, hIA7⟩ := hI7.form2 (show ((lostTo L k).map Int.ofNat).length = l by rw [List.length_map]; exact HLN.out.symm)
          simp only [Value.slice.injEq] at hue
          obtain ⟨rfl, _, rfl⟩ := hue
          have CC := columns_any ⟨l, k, pl⟩ A4 Au c4 cu (lostTo L k) w7 HMay.out ⟨hBp7.mono (by omega), by dsimp only; omega, hc4⟩ (by rw [← HLN.out]; exact hIA7) (by rw [← HLN.out]; exact hl255) (fun b hb => by have := (lostTo_at hb).1; dsimp only; omega)
          unfold MV.arg at CC
          dsimp only at CC
          rw [← HLN.out, Int.toNat_natCast] at CC
          have HCo := hide (show cellsOf l (fun a b => (⟨l, k, pl⟩ : MV).at a ((lostTo L k).getD b 0)) (l * l) = cellsOf l (lostC k L) (l * l) by have hp := HPL.out; rw [hp]; exact cols_lost HLN.out HLK.out)
          rw [HCo.out] at CC
          obtain ⟨sl, hsl⟩ : ∃ S, S = cellsOf l (lostC k L) (l * l) := ⟨_, rfl⟩
          rw [← hsl] at CC
          have HSL := hide hsl
          clear hLd6 hI6 hRd6 hW6 hBp6 hB7 hMi hL6' hR6' hRi hlt hIA7 hBp7 hsl
          go_wp2_with (refine wpList_load_row rfl 76 (.tmp 3) rfl _ rfl _ _ _ _ hW7 Tryd.underlying76 rfl mat_info ?_)
          refine CC.mono ?_
          rintro e w8 ⟨v8, rfl, hO8, hE8⟩
          obtain ⟨A8, c8, rfl, hc8, hm8, hB8⟩ := hO8.form
          have CI := matInverse_any ⟨l, l, sl⟩ A8 c8 w8 ⟨hB8, by dsimp only; omega, hc8⟩
          have HIE := hide (show (⟨l, l, sl⟩ : MV).invE = (⟨l, l, cellsOf l (lostY k L X) (l * l)⟩, 0) by have hs := HSL.out; rw [hs]; exact inv_lostE (by omega) HLN.out (by have := HLK.out; omega) (HInv.out h HCut.out HCnt.out))
          rw [HIE.out] at CI
          unfold MV.arg at CI
          dsimp only at CI
          obtain ⟨yl, hyl⟩ : ∃ S, S = cellsOf l (lostY k L X) (l * l) := ⟨_, rfl⟩
          rw [← hyl] at CI
          have HYL := hide hyl
          clear hyl hB8 hO8
          unfold matV
          go_wp2_with fail
          refine CI.mono ?_
          rintro e w9 ⟨v9, rfl, hO9, hE9⟩
          dsimp only at hO9
          obtain ⟨A9, c9, rfl, hc9, hm9, hB9⟩ := hO9.form
          have hE79 := hE8.trans hE9
          have hWn := Whole.new w9 76 #[.int .i64 0, .int .i64 0, .slice none 0 0]
          have hEn := extNew w9 (.cells #[.int .i64 0, .int .i64 0, .slice none 0 0] 76)
          unfold matV
          go_wp2_with (first
            | (refine wpList_storeW rfl 76 (.tmp 15) (.tmp 89) rfl rfl rfl hWn rfl mat_info (mat_one rfl) ?_; intro w10 hW10 hG10 hS10; clear hS10)
            | (refine wpList_load_row rfl 76 (.tmp 15) rfl _ rfl _ _ _ _ hW10 Tryd.underlying76 rfl mat_info ?_))
          have hE7n := hE79.trans hEn
          have hE10 : Ext w7 w10 := Below.grown hE7n hG10 hE7n.le (fun k hk => by cases hk; exact hE79.le)
          have hL10 := hLi.ext hE10
          have hI10 : OwnI w10 _ _ _ := hI7.ext hE10
          have hLd10 := hLd7.ext hE10
          have hRk10 := hRk.below hE10
          have hRd10 := hRd7.below (hE10.belowAt (by omega))
          have hF10 := hEr.trans hE10
          have hB10 := hB9.below (Below.grown hEn hG10 hEn.le (fun k hk => by cases hk; exact Nat.le_refl _)) (Nat.le_refl _)
          have hs10 := hE10.le
          have hlk10 : RowsAt w10 w10.heap.size (some ⟨gl, 0, none⟩) (lackL k L ch N).length (lackL k L ch N) := by
            rw [lackL_len, ← HLN.out]
            exact hL10.at hRk10 (fun _ _ => rfl) (by rw [lackL_len]; exact HLN.out.symm) hs10
          have hLkL := hide (show (lackL k L ch N).length = l by rw [lackL_len]; exact HLN.out.symm)
          have hLkR := hide (fun i (hi : i < l) => show ((lackL k L ch N).getD i []).length = N by rw [lackL_at (by rw [← HLN.out]; exact hi), rowB_len])
          have hyM : (⟨l, l, yl⟩ : MV).may = true := by
            have hy := HYL.out
            rw [hy]
            exact square_may _ hl255
          have CT := rsTimesL_any ⟨l, l, yl⟩ A9 (some ⟨gl, 0, none⟩) c9 l (lackL k L ch N) w10 hyM ⟨hB10.mono (by have := hEn.le; have := hG10.size; omega), by dsimp only; omega, hc9⟩ hlk10 (by dsimp only; rw [hLkL.out]; omega) (fun h => by rw [hLkL.out]; dsimp only at h; omega) (alike_of fun i hi => hLkR.out i (by rw [← hLkL.out]; exact hi)) (by
            rcases Nat.eq_zero_or_pos l with h0 | h0
            · have := hLkL.out
              rw [h0] at this
              rw [List.eq_nil_of_length_eq_zero this]
              simp
            · rw [hLkR.out 0 h0]
              exact hN)
          unfold MV.arg at CT
          dsimp only at CT
          rw [hLkL.out, Int.toNat_natCast] at CT
          have HT0' := hide (show timesL l l (⟨l, l, yl⟩ : MV).at (lackL k L ch N) = timesL l l (lostY k L X) (lackL k L ch N) by have hy := HYL.out; rw [hy]; exact times_lost _)
          rw [HT0'.out] at CT
          clear hI7 hLi hLd7 hRk hRd7 hW7 hE8 hE9 hE79 hE7n hEn hWn hG10 hW10 hO9 hB9 hB10 hlk10 hyM CC CI hL10 hRk10
          refine CT.mono ?_
          rintro e w11 ⟨g3, R11, rfl, hL11, hR11, hE11⟩
          have hF11 := hF10.trans hE11
          have hLd11 := hLd10.ext hE11
          have hRd11 := hRd10.below (hE11.belowAt (by omega))
          have hg3 := hL11.lt
          have hgd3 : gd < g3 := by omega
          have hFin := hide (show placed (lostTo L k) (dataTo L ch N k) (timesL l l (lostY k L X) (lackL k L ch N)) l = res by
            have := HBack.out h HCut.out HCnt.out
            rwa [← HLN.out] at this)
          generalize timesL l l (lostY k L X) (lackL k L ch N) = rows at *
          have hI11 : OwnI w11 _ _ _ := hI10.ext hE11
          have hR11' := hR11.toF
          have hgr11 : gr ≤ w11.heap.size := by have := hE11.le; omega
          clear hLd10 hRd10 hE10 hE11 CT hF10 hI10 hR11 hs10
          go_wp2_with fail
          go_loopw [95] (fun x wr => ∃ i : Nat, i ≤ l ∧ x = .int .i64 (i : Int) ∧ (∃ R', Lst wr w.heap.size gd k R' ∧ RowsF wr (gd + 1) wr.heap.size R' (fun a => (placed (lostTo L k) (dataTo L ch N k) rows i).getD a []) k) ∧ Mod w11 wr gd none) (fun x _ => l - (intOf x).toNat)
          case atStart => exact ⟨0, by omega, rfl, ⟨R1, hLd11, hRd11.mono (by omega)⟩, Mod.refl _ _ _⟩
          case round =>
            obtain ⟨i, hi, rfl, ⟨R', hLi, hRi⟩, hMi⟩ := hrel
            have hw11 := hF11.le
            have hEr2 : Ext w wr := Below.trans hF11 (hMi.below (by omega) (by omega) (fun k hk => by cases hk))
            by_cases hlt : i < l
            · have hI12 : OwnI wr _ _ _ := hI11.mod hMi (hI11.notLst hLd11) (by simp [Classical.em])
              obtain ⟨Au', cu', hue, _, hIA⟩ := hI12.form2 (show ((lostTo L k).map Int.ofNat).length = l by rw [List.length_map]; exact HLN.out.symm)
              simp only [Value.slice.injEq] at hue
              obtain ⟨rfl, _, rfl⟩ := hue
              rcases hIA.2 with h0 | ⟨bu, ou, rfl, hbu, hcu2⟩
              · omega
              have kz := hcu2 i hlt
              rw [getD_mapI (by rw [← HLN.out]; exact hlt)] at kz
              have hzk := (lostTo_at (show i < (lostTo L k).length by rw [← HLN.out]; exact hlt)).1
              have hL12 := hL11.mod hMi (by omega) (by simp)
              obtain ⟨kr, _⟩ := hL12.cell hlt
              have hR12 := (hR11'.gLow hMi.toG (by omega) (Nat.le_refl _)) i hlt
              obtain ⟨hro, hnx⟩ := hR12
              have hPN := hide (fun a => placed_next (rows := rows) (a := a) (show (lostTo L k).getD i 0 < (dataTo L ch N k).length by rw [HDL.out]; exact hzk))
              generalize (lostTo L k).getD i 0 = z at *
              obtain ⟨As, ks, hRe, q1, q2, q3⟩ := hro
              replace hRe : R11 i = .slice As (rows.getD i []).length ks := hRe
              rw [hRe] at kr hnx
              obtain ⟨hcz, hfz⟩ := hLi.cell hzk
              have hro2 : RowOf wr w11.heap.size (.slice As (rows.getD i []).length ks) (rows.getD i []) := ⟨As, ks, rfl, q1, q2, q3⟩
              have hL13 := (hLi.set hzk (.slice As (rows.getD i []).length ks)).1
              have hM13 := hMi.trans (Mod.ofRow (ob := none) (hLi.set hzk (.slice As (rows.getD i []).length ks)).2) (.inl rfl)
              have hR13 := (hRi.store (hro2.up hMi.size) (hnx.mono (by omega)) (Nat.lt_succ_self gd) (Nat.le_refl _) z).congr (fun a _ => hPN.out a)
              have hil : (i : Int) < (l : Int) := by omega
              have hzkI : (z : Int) < (k : Int) := by omega
              clear hro2 hRi hIA hcu2 hRe q1 q2 q3 hI12
              generalize rows.getD i [] = rw' at *
              go_wp2
              go_roundw
              case rel => exact ⟨i + 1, by omega, by go_num, ⟨_, hL13, hR13⟩, hM13⟩
              case measure => simp [intOf]; omega
            · obtain rfl : l = i := by omega
              have hFinal := hLi.made (lo := gd + 1) (ls := res) (fun a ha => by
                have := hRi a ha
                rw [hFin.out] at this
                exact this) HTL.out (Nat.lt_succ_self gd) (by omega)
              clear hLi hRi
              go_wp2
              go_ret
              exact ⟨_, rfl, hFinal, hEr2⟩
end Go.Proofs.YtkfipfhmbhmamaaDoor

namespace Go.Proofs.YtkfipfhmbhmamaaDoor
open Go.RowKit

/-- One of a function's values put anew. -/
def upd {α : Type} (F : Nat → α) (i : Nat) (x : α) : Nat → α := fun a => if a = i then x else F a
theorem upd_same {α : Type} (F : Nat → α) (i : Nat) (x : α) : upd F i x i = x := if_pos rfl
theorem upd_other {α : Type} (F : Nat → α) {i a : Nat} (x : α) (h : a ≠ i) : upd F i x a = F a := if_neg h
/-- Block g holds t slices; the i-th is R i, of the call's own, and reads as F i; no two of them share a block. -/
structure Lns (w : World) (base g t : Nat) (R : Nat → Value) (F : Nat → List UInt8) : Prop where
  lst : Lst w base g t R
  row : ∀ i, i < t → OwnB w base (R i) (F i)
  apart : ∀ i j, i < t → j < t → i ≠ j → Apart (R i) (R j)
section
variable {w w' : World} {base g t : Nat} {R : Nat → Value} {F : Nat → List UInt8}
theorem Lst.byte {b2 : Nat} {x : Value} {l : List UInt8} (h : Lst w base g t R) (hx : OwnB w b2 x l) : x.ownBlock ≠ some g := by
  intro e
  rcases hx.2 with ⟨rfl, _⟩ | ⟨g1, c1, cur1, rfl, _, h1, _⟩
  · cases e
  rcases h.2 with ⟨e2, _⟩ | ⟨g2, c2, cur2, e2, _, hg, _⟩
  · cases e2
  simp only [Value.slice.injEq, Option.some.injEq, Addr.mk.injEq, and_true] at e2
  obtain ⟨rfl, _⟩ := e2
  simp only [Value.ownBlock, Option.some.injEq] at e
  subst e
  rw [h1] at hg
  simp only [Option.some.injEq, Obj.cells.injEq] at hg
  exact absurd hg.2.1 (by decide)
theorem Lst.kept (h : Lst w base g t R) {ob : Option Nat} (hG : w.grownBy w' ob) (hne : ob ≠ some g) : Lst w' base g t R :=
  World.ownsRow.kept h hG (.inr fun e => hne (by rw [← e]; rfl))
theorem Lns.ext (h : Lns w base g t R F) (hE : Ext w w') : Lns w' base g t R F := ⟨h.lst.ext hE, fun i hi => (h.row i hi).ext hE, h.apart⟩
theorem Lns.cell (h : Lns w base g t R F) {i : Nat} (hi : i < t) : w.cell? ⟨g, i, none⟩ = some (R i) := (h.lst.cell hi).1
theorem Lns.congr {G : Nat → List UInt8} (h : Lns w base g t R F) (hF : ∀ i, i < t → F i = G i) : Lns w base g t R G := ⟨h.lst, fun i hi => by rw [← hF i hi]; exact h.row i hi, h.apart⟩
/-- One row put in another's place. -/
theorem Lns.put (h : Lns w base g t R F) {i : Nat} (hi : i < t) {x : Value} {l : List UInt8} (hx : OwnB w base x l) (hap : ∀ j, j < t → j ≠ i → Apart x (R j)) : Lns (w.setCell ⟨g, i, none⟩ x) base g t (upd R i x) (upd F i l) := by
  refine ⟨(h.lst.set hi x).1, fun j hj => ?_, fun a b ha hb hab => ?_⟩
  · by_cases e : j = i
    · subst e
      rw [upd_same, upd_same]
      exact hx.far (h.lst.byte hx) j x
    · rw [upd_other _ _ e, upd_other _ _ e]
      exact (h.row j hj).far (h.lst.byte (h.row j hj)) i x
  · by_cases e1 : a = i
    · subst e1
      rw [upd_same, upd_other _ _ (fun e => hab e.symm)]
      exact hap b hb (fun e => hab e.symm)
    · rw [upd_other _ _ e1]
      by_cases e2 : b = i
      · subst e2
        rw [upd_same]
        exact (hap a ha hab).symm
      · rw [upd_other _ _ e2]
        exact h.apart a b ha hb hab
/-- Another block grew. -/
theorem Lns.other (h : Lns w base g t R F) {ob : Option Nat} (hG : w.grownBy w' ob) (hg : ob ≠ some g) (hr : ∀ i, i < t → (R i).ownBlock = none ∨ (R i).ownBlock ≠ ob) : Lns w' base g t R F :=
  ⟨h.lst.kept hG hg, fun i hi => World.ownsRow.kept (h.row i hi) hG (hr i hi), h.apart⟩
/-- The bytes of a row were changed. -/
theorem Lns.write (h : Lns w base g t R F) {i : Nat} (hi : i < t) {l : List UInt8} (hO : OwnB w' base (R i) l) (hG : w.grownBy w' (R i).ownBlock) : Lns w' base g t R (upd F i l) := by
  refine ⟨h.lst.kept hG (h.lst.byte (h.row i hi)), fun j hj => ?_, h.apart⟩
  by_cases e : j = i
  · subst e
    rw [upd_same]
    exact hO
  · rw [upd_other _ _ e]
    exact World.ownsRow.kept (h.row j hj) hG (h.apart j i hj hi e).row
/-- A row grew, and was put back. -/
theorem Lns.grow (h : Lns w base g t R F) {i : Nat} (hi : i < t) {x : Value} {l : List UInt8} (hO : OwnB w' base x l) (hG : w.grownBy w' (R i).ownBlock) (hN : NewOb w (R i).ownBlock x.ownBlock) : Lns (w'.setCell ⟨g, i, none⟩ x) base g t (upd R i x) (upd F i l) := by
  have hR : Lst w' base g t R := h.lst.kept hG (h.lst.byte (h.row i hi))
  have h0 := hR.byte hO
  refine ⟨(hR.set hi x).1, fun j hj => ?_, fun a b ha hb hab => ?_⟩
  · by_cases e : j = i
    · subst e
      rw [upd_same, upd_same]
      exact hO.far h0 j x
    · rw [upd_other _ _ e, upd_other _ _ e]
      have hk := World.ownsRow.kept (h.row j hj) hG (h.apart j i hj hi e).row
      exact OwnB.far hk (hR.byte hk) i x
  · have hap : ∀ j, j < t → j ≠ i → Apart x (R j) := fun j hj e b hb hb2 => by
      rcases hN with e2 | ⟨n, e2, hn⟩
      · exact h.apart j i hj hi e b hb2 (by rw [← e2]; exact hb)
      · rw [e2] at hb
        injection hb with hb
        subst hb
        have := ((h.row j hj).lt n hb2).2
        omega
    by_cases e1 : a = i
    · subst e1
      rw [upd_same, upd_other _ _ (fun e => hab e.symm)]
      exact hap b hb (fun e => hab e.symm)
    · rw [upd_other _ _ e1]
      by_cases e2 : b = i
      · subst e2
        rw [upd_same]
        exact (hap a ha hab).symm
      · rw [upd_other _ _ e2]
        exact h.apart a b ha hb hab
theorem Lns.rows (h : Lns w base g t R F) {ls : List (List UInt8)} (hl : ls.length = t) (hF : ∀ i, i < t → F i = ls.getD i []) : RowsAt w w.heap.size (some ⟨g, 0, none⟩) t ls :=
  h.lst.at (lo := 0) (F := F) (fun i hi => ⟨(h.row i hi).row, fun A n k e => (NewX.own (h.row i hi) A n k e).imp_right fun _ _ _ _ => Nat.zero_le _⟩) hF hl (Nat.le_refl _)
theorem Lns.ofNil (h : Lst w base g t fun _ => .slice none 0 0) : Lns w base g t (fun _ => .slice none 0 0) fun _ => [] :=
  ⟨h, fun _ _ => OwnB.nil _ _, fun _ _ _ _ _ a ha => by cases ha⟩
theorem Lns.toN (h : Lns w base g t R F) {ls : List (List UInt8)} (hl : ls.length = t) (hF : ∀ i, i < t → F i = ls.getD i []) : OwnN w base (.slice (some ⟨g, 0, none⟩) t t) ls := by
  subst hl
  refine ⟨R, h.lst, fun i hi => ⟨by rw [← hF i hi]; exact (h.row i hi).row, ?_, NewX.own (h.row i hi)⟩⟩
  intro A n k e
  have hb := h.lst.byte (h.row i hi)
  rcases (h.row i hi).2 with ⟨e2, _⟩ | ⟨g1, c1, cur1, e2, _⟩
  · rw [e2] at e
    simp only [Value.slice.injEq] at e
    exact .inl e.2.1.symm
  · refine .inr fun b off e3 e4 => ?_
    rw [e2] at e hb
    simp only [Value.slice.injEq] at e
    rw [← e.1] at e3
    simp only [Option.some.injEq, Addr.mk.injEq, and_true] at e3
    simp only [Value.ownBlock, ne_eq, Option.some.injEq] at e4 hb
    exact hb (e3.1.trans e4.symm)
end
/-- The slices of a list of rows. -/
theorem RowsAt.pick {w : World} {B t : Nat} {A : Option Addr} {ls : List (List UInt8)} (h : RowsAt w B A t ls) (ht : 1 ≤ t) : ∃ (g off : Nat) (LA : Nat → Option Addr) (LC : Nat → Nat), A = some ⟨g, off, none⟩ ∧ g < B ∧ ∀ i, i < t →
    w.cell? ⟨g, off + i, none⟩ = some (.slice (LA i) (ls.getD i []).length (LC i)) ∧ (ls.getD i []).length ≤ LC i ∧ LC i ≤ maxLen ∧ Bytes w B (LA i) (ls.getD i []).length (ls.getD i []) := by
  rcases h.2 with h0 | ⟨g, off, e, hg, hc⟩
  · omega
  have hx : ∀ i, ∃ p : Option Addr × Nat, i < t → w.cell? ⟨g, off + i, none⟩ = some (.slice p.1 (ls.getD i []).length p.2) ∧ (ls.getD i []).length ≤ p.2 ∧ p.2 ≤ maxLen ∧ Bytes w B p.1 (ls.getD i []).length (ls.getD i []) := fun i => by
    by_cases hi : i < t
    · obtain ⟨x, h1, A, k, rfl, h2, h3, h4⟩ := hc i hi
      exact ⟨(A, k), fun _ => ⟨h1, h2, h3, h4⟩⟩
    · exact ⟨(none, 0), fun h => absurd h hi⟩
  obtain ⟨f, hf⟩ := Classical.axiomOfChoice hx
  exact ⟨g, off, fun i => (f i).1, fun i => (f i).2, e, hg, hf⟩
theorem Bytes.seg {w : World} {B n c o d : Nat} {A : Option Addr} {l : List UInt8} (h : Bytes w B A n l) (hc : n ≤ c) (hd : o + d ≤ n) : Bytes w B (cutAt A c o) d ((l.drop o).take d) := (h.drop (k := o) (by omega) hc).take (k := d) (by omega)
section
variable {o : Oper} {a : Act} {w : World} {K : Act → World → Prop} {Q : Exit → Act → World → Prop}
theorem zeros_list (n : Nat) : (madeCells (Value.int .u8 0).cells (n * 1)).toList = (List.replicate n (0 : UInt8)).map byteV := by
  have : madeCells (Value.int .u8 0).cells n = ((List.replicate n (0 : UInt8)).map byteV).toArray := by
    apply Array.ext
    · simp [size_madeCells]
    · intro i h1 h2
      simp [madeCells, Value.cells, byteV, Nat.mod_one]
  rw [Nat.mul_one, this]
/-- make of bytes, at its operation. -/
theorem wp_makeBB (x y : Operand) (ho : o.op = .makeSlice 27 x y) {n : Nat} (hx : a.eval x = .int .i64 (n : Int)) (hy : a.eval y = .int .i64 (n : Int)) (hn : n ≤ 1000000)
    (h : ∀ w', OwnB w' w.heap.size (.slice (some ⟨w.heap.size, 0, none⟩) n n) (List.replicate n 0) → Ext w w' → K (a.put o.dst (.slice (some ⟨w.heap.size, 0, none⟩) n n)) w') : o.wp Tryd.prog a w K Q := by
  obtain ⟨i, hi, hz, hsz, hby⟩ := info_parts byte_info
  obtain ⟨w', hrun, h1, h2⟩ := run_make_full (P := Tryd.prog) w w.heap.size 27 5 i _ 1 Tryd.underlying27 hi hz hsz .i64 .i64 n (by rw [hby]; omega) (by unfold maxLen; omega) (Nat.le_refl _)
  unfold Oper.wp execOp
  simp only [ho, hx, hy, hrun, Result.andThen_ok, Sem.run_bind, Sem.run_pure]
  refine h w' ?_ (Below.grown (Ext.refl w) h2 (Nat.le_refl _) fun k hk => by cases hk)
  unfold OwnB
  rw [zeros_list] at h1
  simpa using h1
/-- make of rows, all nil. -/
theorem wpList_makeLst {ops : Array Oper} {rest : List Oper} (hgd : o.guard = none) (x y : Operand) (ho : o.op = .makeSlice 55 x y) {n : Nat} (hx : a.eval x = .int .i64 (n : Int)) (hy : a.eval y = .int .i64 (n : Int)) (hn : n ≤ 1000000)
    (h : ∀ w', Lst w' w.heap.size w.heap.size n (fun _ => .slice none 0 0) → Ext w w' → wpList Tryd.prog ops Q rest (a.put o.dst (.slice (some ⟨w.heap.size, 0, none⟩) n n)) w') : wpList Tryd.prog ops Q (o :: rest) a w := by
  obtain ⟨i, hi, hz, hsz, hby⟩ := info_parts rw_info
  refine wpList_make_full w hgd x y 55 ho w.heap.size 27 i _ 1 Tryd.underlying55 hi hz hsz .i64 .i64 _ _ n hx hy rfl rfl (by rw [hby]; omega) (by unfold maxLen; omega) (Nat.le_refl _) ?_
  intro w' h1 h2
  refine h w' ?_ (Below.grown (Ext.refl w) h2 (Nat.le_refl _) fun k hk => by cases hk)
  rw [Nat.mul_one, nil_cells] at h1
  exact h1
/-- make of rows, all nil, at its operation. -/
theorem wp_makeLst (x y : Operand) (ho : o.op = .makeSlice 55 x y) {n : Nat} (hx : a.eval x = .int .i64 (n : Int)) (hy : a.eval y = .int .i64 (n : Int)) (hn : n ≤ 1000000)
    (h : ∀ w', Lst w' w.heap.size w.heap.size n (fun _ => .slice none 0 0) → Ext w w' → K (a.put o.dst (.slice (some ⟨w.heap.size, 0, none⟩) n n)) w') : o.wp Tryd.prog a w K Q := by
  obtain ⟨i, hi, hz, hsz, hby⟩ := info_parts rw_info
  obtain ⟨w', hrun, h1, h2⟩ := run_make_full (P := Tryd.prog) w w.heap.size 55 27 i _ 1 Tryd.underlying55 hi hz hsz .i64 .i64 n (by rw [hby]; omega) (by unfold maxLen; omega) (Nat.le_refl _)
  unfold Oper.wp execOp
  simp only [ho, hx, hy, hrun, Result.andThen_ok, Sem.run_bind, Sem.run_pure]
  refine h w' ?_ (Below.grown (Ext.refl w) h2 (Nat.le_refl _) fun k hk => by cases hk)
  rw [Nat.mul_one, nil_cells] at h1
  exact h1
/-- make of no bytes, with room. -/
theorem wpList_makeRoomB {ops : Array Oper} {rest : List Oper} (hgd : o.guard = none) (c : Operand) (ho : o.op = .makeSlice 27 (.const (.int .i64 0)) c) {m : Nat} (hc : a.eval c = .int .i64 (m : Int)) (hm : m ≤ 20000000)
    (h : ∀ w', OwnB w' w.heap.size (.slice (some ⟨w.heap.size, 0, none⟩) 0 m) [] → Ext w w' → wpList Tryd.prog ops Q rest (a.put o.dst (.slice (some ⟨w.heap.size, 0, none⟩) 0 m)) w') : wpList Tryd.prog ops Q (o :: rest) a w := by
  obtain ⟨i, hi, hz, hsz, hby⟩ := info_parts byte_info
  exact wpList_make_own w hgd (.const (.int .i64 0)) c 27 ho w.heap.size 5 i _ 1 Tryd.underlying27 hi hz hsz .i64 .i64 _ m rfl hc rfl (by rw [hby]; omega) (by unfold maxLen; omega) (Nat.le_refl _) fun w' h1 h2 => h w' h1 (Below.grown (Ext.refl w) h2 (Nat.le_refl _) fun k hk => by cases hk)
end
end Go.Proofs.YtkfipfhmbhmamaaDoor

