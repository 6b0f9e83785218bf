/- Contracts of the program's small functions of chapter 6: may, alike, row, Equal, EqualFunc. Contracts of the program's product of a matrix and chunks. Contract of the program's product of a matrix and chunks. -/
import Derived.Test.YtbfkknoeaekajaaRsMath
import Derived.Test.YtbfkknoeaekajaaRsOwn
import Derived.Test.YtbfkknoeaekajaaMatPBase
import Derived.Test.YtbfkknoeaekajaaGfRow
import Derived.StillTailTactics
namespace Go.Proofs.Ytbfkknoeaekajaa
open Go.RowKit

set_option maxHeartbeats 1000000 in
set_option maxRecDepth 100000 in
theorem rsMay_any (k m : Int) (w : World) (hk : k ≤ 9223372036854775807) : Calls Try.prog 42 #[.int .i64 k, .int .i64 m] w fun e w' => e = .returned (.bool (mayK k m)) ∧ w = w' := by
  have HM := hide (show mayK k m = decide (1 ≤ k ∧ 0 ≤ m ∧ k ≤ 255 ∧ m ≤ 255 - k) from rfl)
  go_enter Try.func42, Try.ntmps42
  go_wp2
  all_goals go_ret
  all_goals refine ⟨ret_bool ?_, rfl⟩
  all_goals rw [HM.out]
  all_goals first
    | (symm; exact decide_eq_false (by omega))
    | (rw [Bool.eq_iff_iff]; simp only [decide_eq_true_eq]; omega)

set_option maxHeartbeats 1000000 in
set_option maxRecDepth 100000 in
theorem rsAlike_any (A : Option Addr) (c : Nat) (ls : List (List UInt8)) (w : World) (h : RowsAt w w.heap.size A ls.length ls) (hl : ls.length ≤ 1000000) :
    Calls Try.prog 43 #[.slice A ls.length c] w fun e w' => e = .returned (.bool (decide (alike ls))) ∧ Ext w w' := by
  go_enter Try.func43, Try.ntmps43
  go_wp2
  go_loopw [7] (fun i wr => ∃ j : Nat, i = .int .i64 (j : Int) ∧ (∀ a, a < j → a < ls.length → (ls.getD a []).length = (ls.getD 0 []).length) ∧ Ext w wr) (fun i _ => ls.length - (intOf i).toNat)
  case atStart => exact ⟨0, rfl, fun a ha _ => absurd ha (by omega), Ext.refl _⟩
  case round =>
    obtain ⟨j, rfl, hz, hE⟩ := hrel
    have HZ := hide hz
    clear hz
    by_cases hlt : j < ls.length
    · rcases (h.ext hE).2 with h0 | ⟨b, o, rfl, hB, hcell⟩
      · omega
      obtain ⟨x, k1, Ax, kx, hx, _, hx2, _⟩ := hcell j hlt
      obtain ⟨y, k2, Ay, ky, hy, _, hy2, _⟩ := hcell 0 (by omega)
      rw [Nat.add_zero] at k2
      subst hx
      subst hy
      have hj0 : (0 : Int) ≤ (j : Int) := by omega
      have hj2 : (j : Int) < (ls.length : Int) := by omega
      have h00 : (0 : Int) < (ls.length : Int) := by omega
      obtain ⟨nx, hnx⟩ : ∃ n, n = (ls.getD j []).length := ⟨_, rfl⟩
      obtain ⟨ny, hny⟩ : ∃ n, n = (ls.getD 0 []).length := ⟨_, rfl⟩
      rw [← hnx] at k1
      rw [← hny] at k2
      have HX := hide hnx
      have HY := hide hny
      clear hnx hny hcell h hx2 hy2
      by_cases he : nx = ny
      · have he' : ((nx : Int) != (ny : Int)) = false := by simp; omega
        have HE := hide he
        clear he
        go_wp2
        go_roundw
        case rel =>
          refine ⟨j + 1, by go_num, fun a ha hal => ?_, hE⟩
          by_cases haj : a = j
          · rw [haj, ← HX.out, ← HY.out, HE.out]
          · exact HZ.out a (by omega) hal
        case measure => simp [intOf]; omega
      · have he' : ((nx : Int) != (ny : Int)) = true := by simp; omega
        have HE := hide he
        clear he
        go_wp2
        go_ret
        exact ⟨ret_bool (decide_eq_false fun ha => HE.out (by rw [HX.out, HY.out]; exact ha j hlt)).symm, hE⟩
    · have hj2 : ¬ ((j : Int) < (ls.length : Int)) := by omega
      clear h
      go_wp2
      go_ret
      exact ⟨ret_bool (decide_eq_true fun a ha => HZ.out a (by omega) ha).symm, hE⟩

set_option maxHeartbeats 1000000 in
set_option maxRecDepth 100000 in
theorem rsRow_any (r i c k n : Nat) (A : Option Addr) (hi : i ≤ 255) (hc : c ≤ 510) (hk : (i + 1) * c ≤ k) (w : World) : Calls Try.prog 58 #[matV r c (.slice A n k), .int .i64 (i : Int)] w fun e w' => e = .returned (.slice (cutAt A k (i * c)) c (k - i * c)) ∧ Ext w w' := by
  have hE1 := extNew w (.cells #[.int .i64 r, .int .i64 c, .slice A n k] 42)
  have hic : (i + 1) * c ≤ 256 * 510 := Nat.mul_le_mul (by omega) hc
  have hm1 : IntKind.i64.wrap ((i : Int) * (c : Int)) = ((i * c : Nat) : Int) := by
    have : i * c ≤ (i + 1) * c := Nat.mul_le_mul_right _ (by omega)
    rw [IntKind.wrap_i64]; rw [← Int.natCast_mul]; omega
  have hm2 : IntKind.i64.wrap (((i : Int) + 1) * (c : Int)) = (((i + 1) * c : Nat) : Int) := by
    rw [IntKind.wrap_i64, show ((i : Int) + 1) = ((i + 1 : Nat) : Int) from rfl, ← Int.natCast_mul]
    omega
  have hd : (i + 1) * c = i * c + c := by rw [Nat.add_mul, Nat.one_mul]
  have HC := fun W => run_mid W A n k .i64 .i64 ((i * c : Nat) : Int) (((i + 1) * c : Nat) : Int) (by omega) (by omega) (by omega)
  simp only [Int.toNat_natCast] at HC
  rw [show (i + 1) * c - i * c = c by omega] at HC
  generalize (i + 1) * c = e2 at *
  generalize i * c = e1 at *
  unfold matV
  go_enter Try.func58, Try.ntmps58
  go_wp2
  · skip
    subst h
    go_ret
    exact ⟨by simp [cutAt], hE1⟩
  · skip
    go_ret
    exact ⟨by simp [cutAt, h], hE1⟩

set_option maxHeartbeats 1000000 in
set_option maxRecDepth 100000 in
theorem bytesEqual_any (A B : Option Addr) (c d : Nat) (x y : List UInt8) (w : World) (hx : Bytes w w.heap.size A x.length x) (hy : Bytes w w.heap.size B y.length y) :
    Calls Try.prog 50 #[.slice A x.length c, .slice B y.length d] w fun e w' => e = .returned (.bool (decide (x = y))) ∧ w = w' := by
  have v1 := conv_bytes c hx (fun h => by subst h; rcases hx.2 with h | ⟨_, _, h, _⟩; exact h; cases h)
  have v2 := conv_bytes d hy (fun h => by subst h; rcases hy.2 with h | ⟨_, _, h, _⟩; exact h; cases h)
  clear hx hy
  go_enter Try.func50, Try.ntmps50
  go_wp2
  go_ret
  exact ⟨ret_bool (by rw [Bool.eq_iff_iff]; simp), rfl⟩

theorem enteredR_of {K : Nat} {fn : Func} {c : Code} (hf : Try.prog.funcs[K]? = some fn) (hname : (fn.name == "runtime.NumGoroutine") = false) (hb : fn.body = some c) (args : Array Value) (W : World) : (callFunc K args).run Try.prog W = .ok (.enter K args) W := by
  have h1 : fn.name ≠ "runtime.NumGoroutine" := by simpa using hname
  simp [callFunc, hf, h1, hb]
theorem enteredR_equal (args : Array Value) (W : World) : (callFunc 50 args).run Try.prog W = .ok (.enter 50 args) W := enteredR_of Try.func50 (by kernel_rfl) rfl args W

set_option maxHeartbeats 1000000 in
set_option maxRecDepth 100000 in
theorem equalFunc_any (A1 A2 : Option Addr) (c1 c2 : Nat) (ls ms : List (List UInt8)) (w : World) (h1 : RowsAt w w.heap.size A1 ls.length ls) (h2 : RowsAt w w.heap.size A2 ms.length ms) (hl : ls.length ≤ 1000000) :
    Calls Try.prog 49 #[.slice A1 ls.length c1, .slice A2 ms.length c2, .func (.func 50) #[] #[]] w fun e w' => e = .returned (.bool (decide (ls = ms))) ∧ Ext w w' := by
  have hEn := enteredR_equal
  by_cases hne : ls.length = ms.length
  · have hne' : ((ls.length : Int) != (ms.length : Int)) = false := by simp; omega
    have HQ := hide hne
    clear hne
    go_enter Try.func49, Try.ntmps49
    go_wp2
    go_loopw [17] (fun i wr => ∃ j : Nat, j ≤ ls.length ∧ i = .int .i64 (j : Int) ∧ (∀ a, a < j → ls.getD a [] = ms.getD a []) ∧ Ext w wr) (fun i _ => ls.length - (intOf i).toNat)
    case atStart => exact ⟨0, by omega, rfl, fun a ha => absurd ha (by omega), Ext.refl _⟩
    case round =>
      obtain ⟨j, hj1, rfl, hz, hE⟩ := hrel
      have HZ := hide hz
      clear hz
      by_cases hlt : j < ls.length
      · rcases (h1.ext hE).2 with h0 | ⟨b, o, rfl, hB, hcell⟩
        · omega
        rcases (h2.ext hE).2 with h0 | ⟨b', o', rfl, hB', hcell'⟩
        · have := HQ.out; omega
        obtain ⟨x, k1, Ax, kx, hx, _, _, hx4⟩ := hcell j hlt
        obtain ⟨y, k2, Ay, ky, hy, _, _, hy4⟩ := hcell' j (by have := HQ.out; omega)
        subst hx
        subst hy
        have hj0 : (0 : Int) ≤ (j : Int) := by omega
        have hj2 : (j : Int) < (ls.length : Int) := by omega
        have hj3 : (j : Int) < (ms.length : Int) := by have := HQ.out; omega
        have C := bytesEqual_any Ax Ay kx ky _ _ wr hx4 hy4
        obtain ⟨lx, hlx⟩ : ∃ n, n = ls.getD j [] := ⟨_, rfl⟩
        obtain ⟨ly, hly⟩ : ∃ n, n = ms.getD j [] := ⟨_, rfl⟩
        rw [← hlx] at k1 C
        rw [← hly] at k2 C
        have HX := hide hlx
        have HY := hide hly
        clear hlx hly hcell hcell' h1 h2 hx4 hy4
        by_cases he : lx = ly
        · rw [decide_eq_true he] at C
          subst he
          go_wp2_with fail
          refine C.mono ?_
          rintro e w1 ⟨rfl, rfl⟩
          go_wp2
          go_roundw
          case rel =>
            refine ⟨j + 1, by omega, by go_num, fun a ha => ?_, hE⟩
            by_cases haj : a = j
            · rw [haj, ← HX.out, ← HY.out]
            · exact HZ.out a (by omega)
          case measure => simp [intOf]; omega
        · rw [decide_eq_false he] at C
          have HE := hide he
          clear he
          go_wp2_with fail
          refine C.mono ?_
          rintro e w1 ⟨rfl, rfl⟩
          go_wp2
          go_ret
          exact ⟨ret_bool (decide_eq_false fun h => HE.out (by rw [HX.out, HY.out, h])).symm, hE⟩
      · obtain rfl : ls.length = j := by omega
        clear h1 h2
        go_wp2
        go_ret
        refine ⟨ret_bool (decide_eq_true ?_).symm, hE⟩
        exact list_ext HQ.out HZ.out
  · have hne' : ((ls.length : Int) != (ms.length : Int)) = true := by simp; omega
    have HN := hide hne
    clear hne h1 h2
    go_enter Try.func49, Try.ntmps49
    go_wp2
    go_ret
    exact ⟨ret_bool (decide_eq_false fun h => HN.out (by rw [h])).symm, Ext.refl _⟩
end Go.Proofs.Ytbfkknoeaekajaa

namespace Go.Proofs.Ytbfkknoeaekajaa
open Go.RowKit

theorem prods_info : (Try.prog.info? 78).map (·.size) = some 256 := by kernel_rfl
theorem prods_zero : ∃ Z : Array Value, Z.size = 256 ∧ (∀ W : World, (zeroValue 78).run Try.prog W = .ok (.agg Z) W) ∧ ∀ i, i < 256 → Z[i]? = some (.pointer none) := by
  refine ⟨Array.replicate 256 (.pointer none), by simp, fun W => ?_, fun i hi => by simp [hi]⟩
  have h : (Try.prog.info? 78).map (fun i => i.zero) = some (some (.agg (Array.replicate 256 (.pointer none)))) := by kernel_rfl
  obtain ⟨i, hi, hz⟩ := Option.map_eq_some_iff.1 h
  simp [zeroValue, typeInfo, hi, hz]
/-- The rows of products that are known. -/
def Known (w : World) (gp : Nat) : Prop := ∃ cs : Array Value, Whole w gp 78 cs ∧ cs.size = 256 ∧ ∀ c, c < 256 → cs[c]? = some (.pointer none) ∨ ∃ b, cs[c]? = some (.pointer (some ⟨b, 0, none⟩)) ∧ Whole w b 69 (Gf.rowV c)
theorem Known.new (W : World) {Z : Array Value} (hZ : Z.size = 256) (hz : ∀ i, i < 256 → Z[i]? = some (.pointer none)) : Known (W.alloc (.cells Z 78)) W.heap.size := ⟨Z, Whole.new W _ _, hZ, fun c hc => .inl (hz c hc)⟩
theorem Known.ext {w W : World} {gp : Nat} (h : Known w gp) (hE : Ext w W) : Known W gp := by
  obtain ⟨cs, h1, h2, h3⟩ := h
  exact ⟨cs, h1.ext hE, h2, fun c hc => (h3 c hc).imp_right fun ⟨b, e, hb⟩ => ⟨b, e, hb.ext hE⟩⟩
theorem Known.lt {w : World} {gp : Nat} (h : Known w gp) : gp < w.heap.size := by
  obtain ⟨cs, h1, _⟩ := h
  exact h1.lt
/-- A block of bytes is no block of another type. -/
theorem OwnB.notWhole {w : World} {base g n k b : Nat} {l : List UInt8} {t : TypeId} {cs : Array Value} (h : OwnB w base (.slice (some ⟨g, 0, none⟩) n k) l) (hb : Whole w b t cs) (ht : t ≠ 5) : b ≠ g := by
  rintro rfl
  rcases h.2 with ⟨e, _⟩ | ⟨g', cap, cur, e, _, hg, _⟩
  · cases e
  · simp only [Value.slice.injEq, Option.some.injEq, Addr.mk.injEq, and_true] at e
    obtain ⟨rfl, _⟩ := e
    unfold Whole at hb
    rw [hb] at hg
    simp only [Option.some.injEq, Obj.cells.injEq] at hg
    exact ht hg.2.1
theorem Known.grown {w W : World} {gp base g n k : Nat} {l : List UInt8} (h : Known w gp) (hO : OwnB w base (.slice (some ⟨g, 0, none⟩) n k) l) (hG : w.grownBy W (some g)) : Known W gp := by
  obtain ⟨cs, h1, h2, h3⟩ := h
  exact ⟨cs, h1.grown hG (hO.notWhole h1 (by decide)), h2, fun c hc => (h3 c hc).imp_right fun ⟨b, e, hb⟩ => ⟨b, e, hb.grown hG (hO.notWhole hb (by decide))⟩⟩
theorem known_put {w W : World} {gp b c : Nat} {cs : Array Value} (hs : cs.size = 256) (h3 : ∀ c, c < 256 → cs[c]? = some (.pointer none) ∨ ∃ b, cs[c]? = some (.pointer (some ⟨b, 0, none⟩)) ∧ Whole w b 69 (Gf.rowV c))
    (hW : Whole W gp 78 (cs.setIfInBounds c (.pointer (some ⟨b, 0, none⟩)))) (hk : ∀ b' V, Whole w b' 69 V → Whole W b' 69 V) (hb : Whole W b 69 (Gf.rowV c)) : Known W gp := by
  refine ⟨_, hW, by rw [Array.size_setIfInBounds]; exact hs, fun d hd => ?_⟩
  by_cases e : c = d
  · subst e
    exact .inr ⟨b, Array.getElem?_setIfInBounds_self_of_lt (by omega), hb⟩
  · rw [Array.getElem?_setIfInBounds_ne e]
    exact (h3 d hd).imp_right fun ⟨b', e', hb'⟩ => ⟨b', e', hk _ _ hb'⟩
/-- j bytes are added. -/
def addTo (f : Nat → UInt8) (c : Nat) (b : List UInt8) (j : Nat) : Nat → UInt8 := fun i => if i < j then f i ^^^ Mat.fm (UInt8.ofNat c) (b.getD i 0) else f i
theorem addTo_0 (f : Nat → UInt8) (c : Nat) (b : List UInt8) : addTo f c b 0 = f := by
  funext i
  exact if_neg (by omega)
theorem addTo_step (f : Nat → UInt8) (c : Nat) (b : List UInt8) (j n : Nat) : (rowB n (addTo f c b j)).set j (f j ^^^ Mat.fm (UInt8.ofNat c) (b.getD j 0)) = rowB n (addTo f c b (j + 1)) := by
  rw [rowB_set]
  refine rowB_congr fun i _ => ?_
  unfold addTo
  by_cases e : i = j
  · rw [if_pos e, if_pos (by omega), e]
  · rw [if_neg e]
    by_cases h : i < j
    · rw [if_pos h, if_pos (by omega)]
    · rw [if_neg h, if_neg (by omega)]
theorem addTo_all (f : Nat → UInt8) (c : Nat) (b : List UInt8) (n : Nat) : rowB n (addTo f c b n) = rowB n fun i => f i ^^^ Mat.fm (UInt8.ofNat c) (b.getD i 0) := rowB_congr fun _ hi => if_pos hi
theorem ptr_load {w : World} {g i : Nat} {v : Value} (h : w.cell? ⟨g, i, none⟩ = some v) : w.cell? ⟨g, i, none⟩ = some v := h
theorem Bytes.grownUp {w W : World} {g : Nat} {A : Option Addr} {n : Nat} {l : List UInt8} (h : Bytes w g A n l) (hG : w.grownBy W (some g)) (hg : g ≤ w.heap.size) : Bytes W g A n l :=
  h.below (Below.grown (Below.refl _ _) hG hg (fun k hk => by cases hk; exact Nat.le_refl _)) (Nat.le_refl _)

set_option maxHeartbeats 4000000 in
set_option maxRecDepth 100000 in
theorem padd_any {gp gt n kt kb c base B0 : Nat} {B : Option Addr} {b : List UInt8} {f : Nat → UInt8} {w : World} (hc : c < 256) (hn : n ≤ 1000) (hP : Known w gp) (hO : OwnB w base (.slice (some ⟨gt, 0, none⟩) n kt) (rowB n f)) (hb : Bytes w B0 B b.length b) (hBp : B0 ≤ gp) (hBt : B0 ≤ gt) (hbn : b.length = n) :
    Calls Try.prog 59 #[.pointer (some ⟨gp, 0, none⟩), .slice (some ⟨gt, 0, none⟩) n kt, .int .u8 (c : Int), .slice B b.length kb] w fun e w' =>
      e = .returned (.tuple #[]) ∧ Known w' gp ∧ OwnB w' base (.slice (some ⟨gt, 0, none⟩) n kt) (rowB n fun i => f i ^^^ Mat.fm (UInt8.ofNat c) (b.getD i 0)) ∧ Mod w w' gt (some gp) := by
  have hlt := (hO.lt gt rfl).2
  have hPlt := hP.lt
  have hgpt : gp ≠ gt := by
    obtain ⟨cs, h1, _⟩ := hP
    exact hO.notWhole h1 (by decide)
  obtain ⟨cs, hWp, hcs, hvals⟩ := hP
  have HVS := hide hvals
  rcases hvals c hc with h0 | ⟨bb, h1, hW3⟩
  · have d0 := hWp.at c h0
    have CR := fun W => row_any c W hc
    have HV := hide (Gf.rowV_size c)
    have hone := Gf.rowV_one c
    have hinf : (Try.prog.info? 69).map (·.size) = some (Gf.rowV c).size := by rw [HV.out]; exact row_info
    obtain ⟨V, hV⟩ : ∃ V, V = Gf.rowV c := ⟨_, rfl⟩
    rw [← hV] at HV hone hinf CR
    obtain ⟨Z, hZ, hzero, _⟩ := row_zero'
    have hs : V.size = Z.size := by rw [HV.out, hZ]
    have HVV := hide hV
    have HC := hide hcs
    have hc' : (c : Int) < 256 := by omega
    have hxc : c < cs.size := by omega
    have HB := hide hb
    have hpi : (Try.prog.info? 76).map (·.size) = some 1 := by kernel_rfl
    clear hZ hV hcs hvals hb h0
    go_enter Try.func59, Try.ntmps59
    go_wp2_with fail
    refine (CR _).mono ?_
    rintro e w1 ⟨rfl, hE1⟩
    have hWz := Whole.new w1 69 Z
    have hE2 : Ext w (w1.alloc (.cells Z 69)) := hE1.alloc _
    have HXC := hide hxc
    obtain ⟨bb, hbb⟩ : ∃ bb, bb = w1.heap.size := ⟨_, rfl⟩
    have hlw : w.heap.size ≤ bb := by rw [hbb]; exact hE1.le
    rw [← hbb] at hWz
    have HBB := hide hbb
    clear d0 hxc CR hbb
    go_wp2_with (first
      | (rw [← HBB.out]; refine wpList_storeW rfl 69 (.tmp 8) (.tmp 19) rfl rfl rfl hWz hs hinf hone ?_; intro w2 hW2 hG2 hS2; clear hS2; have hP2 := ((hWp.ext hE2).grown hG2 (by have := hWp.lt; omega)))
      | (refine wpList_storeC rfl 76 (.tmp 23) (.tmp 8) rfl _ rfl rfl hP2 HXC.out hpi rfl rfl rfl ?_; intro w3 hP4 hG3; have d3 : w3.cell? ⟨gp, c, none⟩ = some (.pointer (some ⟨bb, 0, none⟩)) := hP4.at c (Array.getElem?_setIfInBounds_self_of_lt HXC.out)))
    have hE3 : Ext w w2 := Below.grown hE2 hG2 hE2.le (fun k hk => by cases hk; exact hlw)
    have hbgp : bb ≠ gp := by have := hWp.lt; omega
    have hgtp : gt ≠ gp := Ne.symm hgpt
    have hW3 := hW2.grown hG3 hbgp
    rw [HVV.out] at hW3
    have hM3 : Mod w w3 gt (some gp) := (Mod.ofExt hE3).trans (Mod.ofOwn hG3) (.inl rfl)
    have hO3 := (Mod.ofRow (ob := none) hG3).own (hO.ext hE3) (by simp [Value.ownBlock]; omega) (by simp [Classical.em])
    have hk3 : ∀ b' V', Whole w b' 69 V' → Whole w3 b' 69 V' := fun b' V' h => (h.ext hE3).grown hG3 (by
      rintro rfl
      unfold Whole at h hWp
      rw [h] at hWp
      simp only [Option.some.injEq, Obj.cells.injEq] at hWp
      exact absurd hWp.2.1 (by decide))
    have hP3 := known_put HC.out HVS.out hP4 hk3 hW3
    have hB3 : B0 ≤ w3.heap.size := by have := hM3.size; omega
    have hb3 : Bytes w3 B0 B b.length b := HB.out.below (hM3.below (by omega) hBt (fun k hk => by cases hk; exact hBp)) (Nat.le_refl _)
    clear hk3 hP4 hP2 hW2 hE2 hWz HVS HC HXC hE1 hlw hWp hG2 hG3 hE3 HVV hbgp
    go_wp2_with fail
    have hbg : bb ≠ gt := hO3.notWhole hW3 (by decide)
    go_loopw [31] (fun x wr => ∃ j : Nat, j ≤ n ∧ x = .int .i64 (j : Int) ∧ OwnB wr base (.slice (some ⟨gt, 0, none⟩) n kt) (rowB n (addTo f c b j)) ∧ w3.grownBy wr (some gt)) (fun x _ => n - (intOf x).toNat)
    case atStart => exact ⟨0, by omega, rfl, by rw [addTo_0]; exact hO3, World.grownBy.refl w3 _⟩
    case round =>
      obtain ⟨j, hj, rfl, hOj, hG⟩ := hrel
      by_cases hlt : j < n
      · have hWr := hW3.grown hG hbg
        rcases (hb3.below ((Mod.ofRow (ob := none) hG).below hB3 hBt (fun k hk => by cases hk)) (Nat.le_refl _)).2 with h0 | ⟨b2, o2, rfl, hB2, hcell2⟩
        · omega
        have k2 := hcell2 j (by omega)
        obtain ⟨hc5, hf5⟩ := hOj.cell (i := j) (by rw [rowB_len]; exact hlt)
        rw [rowB_at _ hlt, show addTo f c b j j = f j from if_neg (Nat.lt_irrefl _)] at hc5
        have HS := hide (addTo_step f c b j n)
        have hfm : Mat.fm (UInt8.ofNat c) (b.getD j 0) = UInt8.ofNat (Gf.mul c (b.getD j 0).toNat) := by
          unfold Mat.fm
          rw [UInt8.toNat_ofNat', Nat.mod_eq_of_lt (show c < 2 ^ 8 by omega)]
        rw [hfm] at HS
        have hy := UInt8.toNat_lt (b.getD j 0)
        have k3 := hWr.at (b.getD j 0).toNat (Gf.rowV_at c hy)
        have hml := Gf.mul_lt hc hy
        have hxor := u8_xor_byteN (f j) (Gf.mul c (b.getD j 0).toNat) hml
        clear hfm hcell2
        generalize b.getD j 0 = y at *
        have hy' : (y.toNat : Int) < 256 := by omega
        generalize Gf.mul c y.toNat = m at *
        generalize f j = x at *
        obtain ⟨bt, hbt⟩ : ∃ bt, bt = x ^^^ UInt8.ofNat m := ⟨_, rfl⟩
        rw [← hbt] at hxor HS
        have hO4 := hOj.set j bt
        rw [HS.out] at hO4
        have hG4 := hG.trans (grown_setCell wr gt j (.int .u8 (bt.toNat : Int)))
        have hjn : (j : Int) < (n : Int) := by omega
        have hjb : (j : Int) < (b.length : Int) := by omega
        clear hbt hml hOj hWr
        have HQ := hide hbn
        clear hbn
        go_wp2_with fail
        go_region
        go_wp2
        go_roundw
        case rel => exact ⟨j + 1, by omega, by go_num, hO4.ext (Ext.refl _).drew, hG4.os, hG4.tape, hG4.output, hG4.size, hG4.block⟩
        case measure => simp [intOf]; omega
      · obtain rfl : j = n := by omega
        rw [addTo_all] at hOj
        have hP5 := hP3.grown hO3 hG
        have hM5 : Mod w wr gt (some gp) := hM3.trans (Mod.ofRow hG) (.inl rfl)
        have HQ := hide hbn
        have hjb : ¬ ((j : Int) < (b.length : Int)) := by omega
        clear hb3 hbn
        go_wp2
        refine bodyPost_end (results_none rfl _ _ _) rfl ⟨rfl, hP5, hOj, hM5⟩

  · have d0 := hWp.at c h1
    have hc' : (c : Int) < 256 := by omega
    have hO3 := hO
    have hb3 := hb
    have hP3 : Known w gp := ⟨cs, hWp, hcs, hvals⟩
    have hM3 := Mod.refl w gt (some gp)
    have hB3 : B0 ≤ w.heap.size := by omega
    have HB := hide hb
    clear hWp hcs hvals HVS h1 hO hb
    go_enter Try.func59, Try.ntmps59
    go_wp2_with fail
    have hbg : bb ≠ gt := hO3.notWhole hW3 (by decide)
    go_loopw [31] (fun x wr => ∃ j : Nat, j ≤ n ∧ x = .int .i64 (j : Int) ∧ OwnB wr base (.slice (some ⟨gt, 0, none⟩) n kt) (rowB n (addTo f c b j)) ∧ w.grownBy wr (some gt)) (fun x _ => n - (intOf x).toNat)
    case atStart => exact ⟨0, by omega, rfl, by rw [addTo_0]; exact hO3, World.grownBy.refl w _⟩
    case round =>
      obtain ⟨j, hj, rfl, hOj, hG⟩ := hrel
      by_cases hlt : j < n
      · have hWr := hW3.grown hG hbg
        rcases (hb3.below ((Mod.ofRow (ob := none) hG).below hB3 hBt (fun k hk => by cases hk)) (Nat.le_refl _)).2 with h0 | ⟨b2, o2, rfl, hB2, hcell2⟩
        · omega
        have k2 := hcell2 j (by omega)
        obtain ⟨hc5, hf5⟩ := hOj.cell (i := j) (by rw [rowB_len]; exact hlt)
        rw [rowB_at _ hlt, show addTo f c b j j = f j from if_neg (Nat.lt_irrefl _)] at hc5
        have HS := hide (addTo_step f c b j n)
        have hfm : Mat.fm (UInt8.ofNat c) (b.getD j 0) = UInt8.ofNat (Gf.mul c (b.getD j 0).toNat) := by
          unfold Mat.fm
          rw [UInt8.toNat_ofNat', Nat.mod_eq_of_lt (show c < 2 ^ 8 by omega)]
        rw [hfm] at HS
        have hy := UInt8.toNat_lt (b.getD j 0)
        have k3 := hWr.at (b.getD j 0).toNat (Gf.rowV_at c hy)
        have hml := Gf.mul_lt hc hy
        have hxor := u8_xor_byteN (f j) (Gf.mul c (b.getD j 0).toNat) hml
        clear hfm hcell2
        generalize b.getD j 0 = y at *
        have hy' : (y.toNat : Int) < 256 := by omega
        generalize Gf.mul c y.toNat = m at *
        generalize f j = x at *
        obtain ⟨bt, hbt⟩ : ∃ bt, bt = x ^^^ UInt8.ofNat m := ⟨_, rfl⟩
        rw [← hbt] at hxor HS
        have hO4 := hOj.set j bt
        rw [HS.out] at hO4
        have hG4 := hG.trans (grown_setCell wr gt j (.int .u8 (bt.toNat : Int)))
        have hjn : (j : Int) < (n : Int) := by omega
        have hjb : (j : Int) < (b.length : Int) := by omega
        clear hbt hml hOj hWr
        have HQ := hide hbn
        clear hbn
        go_wp2_with fail
        go_region
        go_wp2
        go_roundw
        case rel => exact ⟨j + 1, by omega, by go_num, hO4.ext (Ext.refl _).drew, hG4.os, hG4.tape, hG4.output, hG4.size, hG4.block⟩
        case measure => simp [intOf]; omega
      · obtain rfl : j = n := by omega
        rw [addTo_all] at hOj
        have hP5 := hP3.grown hO3 hG
        have hM5 : Mod w wr gt (some gp) := hM3.trans (Mod.ofRow hG) (.inl rfl)
        have HQ := hide hbn
        have hjb : ¬ ((j : Int) < (b.length : Int)) := by omega
        clear hb3 hbn
        go_wp2
        refine bodyPost_end (results_none rfl _ _ _) rfl ⟨rfl, hP5, hOj, hM5⟩
end Go.Proofs.Ytbfkknoeaekajaa

namespace Go.Proofs.Ytbfkknoeaekajaa
open Go.RowKit

/-- A list of r rows in block g, by their slices. -/
def Lst (w : World) (base g r : Nat) (R : Nat → Value) : Prop := w.ownsRow base 35 1 (.slice (some ⟨g, 0, none⟩) r r) r ((List.range r).map R)
section
variable {w w' : World} {base g r gt lo B i : Nat} {R : Nat → Value} {ob : Option Nat} {x : Value} {l : List UInt8}
theorem Lst.lt (h : Lst w base g r R) : base ≤ g ∧ g < w.heap.size := World.ownsRow.lt h g rfl
theorem Lst.mod (h : Lst w base g r R) (hM : Mod w w' gt ob) (hg : g ≠ gt) (ho : ob ≠ some g) : Lst w' base g r R := by
  refine ⟨h.1, ?_⟩
  rcases h.2 with hn | ⟨y, cap, cur, e, hb, hgg, rest⟩
  · exact .inl hn
  · refine .inr ⟨y, cap, cur, e, hb, ?_, rest⟩
    simp only [Value.slice.injEq, Option.some.injEq, Addr.mk.injEq, and_true] at e
    obtain ⟨rfl, _⟩ := e
    rw [hM.block g (Array.getElem?_eq_some_iff.1 hgg).1 hg (fun e => ho e.symm)]
    exact hgg
theorem Lst.ext (h : Lst w base g r R) (hE : Ext w w') : Lst w' base g r R := h.mod (gt := g + 1) (ob := none) (Mod.ofExt hE) (by omega) (by simp)
theorem Lst.cell (h : Lst w base g r R) (hi : i < r) : w.cell? ⟨g, i, none⟩ = some (R i) ∧ w.frozen? ⟨g, i, none⟩ = false := by
  refine ⟨?_, World.ownsRow.frozenAt h i⟩
  rw [World.ownsRow.cellAt h i (by omega)]
  simp [hi]
theorem Ext.belowAt {a b : World} {C : Nat} (h : Ext a b) (hC : C ≤ a.heap.size) : Below C a b := Below.mono h hC
theorem Lst.set (h : Lst w base g r R) (hi : i < r) (x : Value) : Lst (w.setCell ⟨g, i, none⟩ x) base g r (fun a => if a = i then x else R a) ∧ w.grownBy (w.setCell ⟨g, i, none⟩ x) (some g) := by
  obtain ⟨h3, h4⟩ := World.ownsRow.stored h i x
  refine ⟨?_, h4⟩
  have e : (List.range r).map (fun a => if a = i then x else R a) = ((List.range r).map R).set i x := by
    apply List.ext_getElem?
    intro a
    rw [List.getElem?_set]
    by_cases ha : a < r
    · by_cases hai : i = a
      · subst hai
        simp [ha]
      · have hai' : ¬ a = i := fun e => hai e.symm
        simp [ha, hai, hai']
    · simp [ha]
      intro e
      omega
  unfold Lst
  rw [e]
  exact h3
theorem RowOf.mid {gp : Nat} (h : RowOf w B x l) (hn : NewX lo x) (hM : Mod w w' gt (some gp)) (hB : B ≤ gt) (hBw : B ≤ w.heap.size) (hp : gp < lo) : RowOf w' B x l := by
  obtain ⟨A, k, e, h2, h3, h4⟩ := h
  refine ⟨A, k, e, h2, h3, h4.1, ?_⟩
  rcases h4.2 with h0 | ⟨b, off, rfl, hb, hc⟩
  · exact .inl h0
  rcases hn _ _ _ e with h0 | h1
  · exact .inl h0
  refine .inr ⟨b, off, rfl, hb, fun i hi => ?_⟩
  have := h1 b off rfl
  rw [hM.cell (by omega) (by omega) (by simp; omega)]
  exact hc i hi
/-- The rows made so far. -/
def RowsTo (w : World) (lo B : Nat) (R : Nat → Value) (ls : List (List UInt8)) (i : Nat) : Prop := ∀ a, a < i → RowOf w B (R a) (ls.getD a []) ∧ NewX lo (R a)
theorem RowsTo.mono {ls : List (List UInt8)} {B' : Nat} (h : RowsTo w lo B R ls i) (hB : B ≤ B') : RowsTo w lo B' R ls i := fun a ha => ⟨(h a ha).1.up hB, (h a ha).2⟩
theorem RowsTo.mid {gp : Nat} {ls : List (List UInt8)} (h : RowsTo w lo B R ls i) (hM : Mod w w' gt (some gp)) (hB : B ≤ gt) (hBw : B ≤ w.heap.size) (hp : gp < lo) : RowsTo w' lo B R ls i := fun a ha => ⟨(h a ha).1.mid (h a ha).2 hM hB hBw hp, (h a ha).2⟩
theorem RowsTo.ext {ls : List (List UInt8)} (h : RowsTo w lo B R ls i) (hE : Ext w w') (hB : B ≤ w.heap.size) : RowsTo w' lo B R ls i := fun a ha => ⟨(h a ha).1.below (Below.mono hE hB), (h a ha).2⟩
theorem RowsTo.put {ls : List (List UInt8)} (h : RowsTo w lo B R ls i) (hx : RowOf w B x (ls.getD i [])) (hn : NewX lo x) : RowsTo w lo B (fun a => if a = i then x else R a) ls (i + 1) := fun a ha => by
  by_cases e : a = i
  · simp only [e, if_true]
    exact ⟨hx, hn⟩
  · simp only [e, if_false]
    exact h a (by omega)
theorem rowOf_far {g : Nat} {u : Value} (h : RowOf w B x l) (hn : NewX lo x) (hg : g < lo) : RowOf (w.setCell ⟨g, i, none⟩ u) B x l := by
  obtain ⟨A, k, e, h2, h3, h4⟩ := h
  refine ⟨A, k, e, h2, h3, h4.1, ?_⟩
  rcases h4.2 with h0 | ⟨b, off, rfl, hb, hc⟩
  · exact .inl h0
  rcases hn _ _ _ e with h0 | h1
  · exact .inl h0
  refine .inr ⟨b, off, rfl, hb, fun j hj => ?_⟩
  have := h1 b off rfl
  rw [← hc j hj]
  exact World.cell?_of_block (a := ⟨b, off + j, none⟩) (Below.heap_setCell w ⟨g, i, none⟩ u b (by show b ≠ g; omega))
/-- All rows are made. -/
theorem Lst.made {ls : List (List UInt8)} (h : Lst w base g r R) (hr : RowsTo w lo w.heap.size R ls r) (hl : ls.length = r) (hg : g < lo) (hb : base ≤ lo) : OwnN w base (.slice (some ⟨g, 0, none⟩) r r) ls := by
  subst hl
  exact ⟨R, h, fun i hi => ⟨(hr i hi).1, (hr i hi).2.clear (fun k hk => by simp [Value.ownBlock] at hk; omega), (hr i hi).2.mono hb⟩⟩
end
/-- Behind a call that makes a list of r rows. -/
def MadeL (w : World) (r : Nat) (ls : List (List UInt8)) (e : Ending) (w' : World) : Prop := ∃ g R, e = .returned (.slice (some ⟨g, 0, none⟩) r r) ∧ Lst w' w.heap.size g r R ∧ RowsTo w' (g + 1) w'.heap.size R ls r ∧ Ext w w'
theorem MadeL.toN {w w' : World} {r : Nat} {ls : List (List UInt8)} {e : Ending} (h : MadeL w r ls e w') (hl : ls.length = r) : MadeN w ls e w' := by
  obtain ⟨g, R, rfl, hL, hR, hE⟩ := h
  have := hL.lt
  exact ⟨_, rfl, hL.made hR hl (by omega) (by omega), hE⟩
theorem nil_cells (n : Nat) : (madeCells (Value.slice none 0 0).cells n).toList = (List.range n).map fun _ => Value.slice none 0 0 := by
  have : madeCells (Value.slice none 0 0).cells n = ((List.range n).map fun _ => Value.slice none 0 0).toArray := by
    apply Array.ext
    · simp [size_madeCells, Value.cells]
    · intro i h1 h2
      simp [madeCells, Value.cells, Nat.mod_one]
  rw [this]
theorem newX_slice {lo g n k : Nat} (h : lo ≤ g) : NewX lo (.slice (some ⟨g, 0, none⟩) n k) := fun A m c e => .inr fun b off e2 => by
  simp only [Value.slice.injEq] at e
  rw [← e.1] at e2
  simp only [Option.some.injEq, Addr.mk.injEq, and_true] at e2
  omega

theorem Lst.notWhole {w : World} {base g r b : Nat} {R : Nat → Value} {t : TypeId} {cs : Array Value} (h : Lst w base g r R) (hb : Whole w b t cs) (ht : t ≠ 35) : b ≠ g := by
  rintro rfl
  rcases h.2 with ⟨e, _⟩ | ⟨g', cap, cur, e, _, hg, _⟩
  · cases e
  · simp only [Value.slice.injEq, Option.some.injEq, Addr.mk.injEq, and_true] at e
    obtain ⟨rfl, _⟩ := e
    unfold Whole at hb
    rw [hb] at hg
    simp only [Option.some.injEq, Obj.cells.injEq] at hg
    exact ht hg.2.1
theorem Known.lst {w W : World} {gp base g r : Nat} {R : Nat → Value} (h : Known w gp) (hL : Lst w base g r R) (hG : w.grownBy W (some g)) : Known W gp := by
  obtain ⟨cs, h1, h2, h3⟩ := h
  exact ⟨cs, h1.grown hG (hL.notWhole h1 (by decide)), h2, fun c hc => (h3 c hc).imp_right fun ⟨b, e, hb⟩ => ⟨b, e, hb.grown hG (hL.notWhole hb (by decide))⟩⟩
theorem rowB_zero (N : Nat) : rowB N (fun _ => (0 : UInt8)) = List.replicate N 0 := by
  unfold rowB
  rw [List.map_const', List.length_range]
/-- The sum of the first j products. -/
def partR (f : Nat → UInt8) (ls : List (List UInt8)) (j n : Nat) : UInt8 := Mat.sum j fun q => Mat.fm (f q) ((ls.getD q []).getD n 0)
theorem partR_step (f : Nat → UInt8) (ls : List (List UInt8)) (j N : Nat) : (rowB N fun i => partR f ls j i ^^^ Mat.fm (UInt8.ofNat (f j).toNat) ((ls.getD j []).getD i 0)) = rowB N (partR f ls (j + 1)) := by
  rw [UInt8.ofNat_toNat]
  rfl

set_option maxHeartbeats 4000000 in
set_option maxRecDepth 100000 in
theorem rsTimesL_any (m : MV) (A1 A2 : Option Addr) (k1 k2 : Nat) (ls : List (List UInt8)) (w : World) (hm : m.may = true) (h1 : m.lies w A1 k1) (h2 : RowsAt w w.heap.size A2 ls.length ls)
    (hc : m.c.toNat ≤ ls.length) (h0 : 0 < m.r → 0 < ls.length) (hal : alike ls) (hl0 : (ls.getD 0 []).length ≤ 1000) :
    Calls Try.prog 44 #[m.arg A1 k1, .slice A2 ls.length k2] w (MadeL w m.r.toNat (timesL m.r.toNat m.c.toNat m.at ls)) := by
  obtain ⟨q1, q2, q3, q4, q5⟩ := MV.may_iff.1 hm
  have HA := hide (show ∀ i j, m.at i j = m.l.getD (i * m.c.toNat + j) 0 from fun _ _ => rfl)
  generalize m.at = f at *
  obtain ⟨h1, hml, hk1⟩ := h1
  obtain ⟨r, c, l⟩ := m
  unfold MV.arg
  dsimp only at *
  obtain ⟨r, rfl⟩ := Int.eq_ofNat_of_zero_le q1
  obtain ⟨c, rfl⟩ := Int.eq_ofNat_of_zero_le q3
  simp only [Int.toNat_natCast] at *
  have l5 : l.length = r * c := by omega
  have hr255 : r ≤ 255 := by omega
  have hc255 : c ≤ 255 := by omega
  have HL := hide l5
  have HAL := hide hal
  clear q1 q2 q3 q4 q5 l5 hm hal
  obtain ⟨N, hN⟩ : ∃ N, N = (ls.getD 0 []).length := ⟨_, rfl⟩
  rw [← hN] at hl0
  have HN := hide hN
  have HT := hide (show ∀ i, i < r → (timesL r c f ls).getD i [] = rowB N (cellL c f ls i) from fun i hi => by rw [timesL_at hi, HN.out])
  have HTL := hide (timesL_len r c f ls)
  generalize timesL r c f ls = out at *
  clear hN
  obtain ⟨Z, hZ, hzero, hz⟩ := prods_zero
  have hE2 : Ext w ((w.alloc (.cells #[.int .i64 (r : Int), .int .i64 (c : Int), .slice A1 l.length k1] 42)).alloc (.cells Z 78)) := (extNew w _).alloc _
  have hW2 : Whole ((w.alloc (.cells #[.int .i64 (r : Int), .int .i64 (c : Int), .slice A1 l.length k1] 42)).alloc (.cells Z 78)) w.heap.size 42 #[.int .i64 (r : Int), .int .i64 (c : Int), .slice A1 l.length k1] := (Whole.new w _ _).alloc _
  have hK2 : Known ((w.alloc (.cells #[.int .i64 (r : Int), .int .i64 (c : Int), .slice A1 l.length k1] 42)).alloc (.cells Z 78)) (w.heap.size + 1) := by
    have := Known.new (w.alloc (.cells #[.int .i64 (r : Int), .int .i64 (c : Int), .slice A1 l.length k1] 42)) hZ hz
    rwa [World.size_alloc] at this
  obtain ⟨iR, hiR, hzR, hszR, hbyR⟩ := info_parts rw_info
  obtain ⟨iB, hiB, hzB, hszB, hbyB⟩ := info_parts byte_info
  have hi4 : r ≤ maxLen := by unfold maxLen; omega
  have hi5 : iR.bytes * r ≤ 281474976710656 := by rw [hbyR]; omega
  clear hZ hz
  go_enter Try.func44, Try.ntmps44
  go_wp2_with (at_make; refine wpList_make_full _ rfl _ _ _ rfl w.heap.size 35 iR _ 1 Try.underlying22 hiR hzR hszR _ _ _ _ r rfl rfl rfl rfl hi5 hi4 (by simp; omega) ?_; intro w3 hO3 hG3)
  have hE3 : Ext w w3 := Below.grown hE2 hG3 hE2.le (fun k hk => by cases hk)
  have hW3 := hW2.ownGrown hG3 (by simp)
  have hF3 : Ext ((w.alloc (.cells #[.int .i64 (r : Int), .int .i64 (c : Int), .slice A1 l.length k1] 42)).alloc (.cells Z 78)) w3 := ⟨hG3.os, hG3.tape, hG3.output, hG3.size, fun b hb => hG3.block b hb (by simp)⟩
  have hK3 := hK2.ext hF3
  have hL3 : Lst w3 w.heap.size (w.heap.size + 1 + 1) r (fun _ => .slice none 0 0) := by
    unfold Lst
    rw [Nat.mul_one, nil_cells, World.size_alloc, World.size_alloc] at hO3
    exact hO3
  obtain ⟨gm, hgm⟩ : ∃ g, g = w.heap.size + 1 + 1 := ⟨_, rfl⟩
  obtain ⟨gp, hgp⟩ : ∃ g, g = w.heap.size + 1 := ⟨_, rfl⟩
  rw [← hgm] at hL3 ⊢
  rw [← hgp] at hK3 ⊢
  have b1 : w.heap.size < gp := by omega
  have b2 : gp < gm := by omega
  have hE03 := hE3
  clear hO3 hG3 hF3 hK2 hW2 hE2 hgm hgp hi4 hi5 hiR hzR hszR hbyR hE3 hzero
  have hiB4 : N ≤ maxLen := by unfold maxLen; omega
  have hiB5 : iB.bytes * N ≤ 281474976710656 := by rw [hbyB]; omega
  go_loopw [15] (fun x wr => ∃ i : Nat, i ≤ r ∧ x = .int .i64 (i : Int) ∧ (∃ R, Lst wr w.heap.size gm r R ∧ RowsTo wr (gm + 1) wr.heap.size R out i) ∧ Known wr gp ∧ Whole wr w.heap.size 42 #[.int .i64 (r : Int), .int .i64 (c : Int), .slice A1 l.length k1] ∧ Ext w wr) (fun x _ => r - (intOf x).toNat)
  case atStart => exact ⟨0, by omega, rfl, ⟨_, hL3, fun a ha => absurd ha (by omega)⟩, hK3, hW3, hE03⟩
  case round =>
    obtain ⟨i, hi, rfl, ⟨R, hL, hR⟩, hK, hW, hE⟩ := hrel
    by_cases hlt : i < r
    · have hls : 0 < ls.length := h0 (by omega)
      rcases h2.2 with h0' | ⟨b2', o2, rfl, hB2, hcell2⟩
      · omega
      have HC2 := hide hcell2
      obtain ⟨x0, k0, hx0⟩ := hcell2 0 hls
      obtain ⟨Ax, kx, rfl, _, _, _⟩ := hx0
      rw [← HN.out, Nat.add_zero] at k0
      have k0' := (hE.cell hB2).trans k0
      clear hcell2 h2 k0
      have hrow : (i + 1) * c ≤ k1 := by
        have : (i + 1) * c ≤ r * c := Nat.mul_le_mul_right _ hlt
        have := HL.out
        omega
      have CR := fun W => rsRow_any r i c k1 l.length A1 (by omega) (by omega) hrow W
      unfold matV at CR
      have hlsI : (0 : Int) < (ls.length : Int) := by omega
      clear h0
      go_wp2_with (first
        | (at_make; refine wpList_make_full _ rfl _ _ _ rfl w.heap.size 5 iB _ 1 Try.underlying35 hiB hzB hszB _ _ _ _ N rfl rfl rfl rfl hiB5 hiB4 hE.le ?_; intro w4 hO4 hG4; have hF4 : Ext wr w4 := ⟨hG4.os, hG4.tape, hG4.output, hG4.size, fun b hb => hG4.block b hb (by simp)⟩; obtain ⟨hc4, hf4⟩ := (hL.ext hF4).cell hlt; have hW5 := (hW.ext hF4).far (b := gm) (by omega) i (.slice (some ⟨wr.heap.size, 0, none⟩) N N))
        | (refine wpList_load_row rfl 42 (.tmp 2) rfl _ rfl _ _ _ _ hW5 Try.underlying42 rfl mat_info ?_))
      refine (CR _).mono ?_
      rintro e w6 ⟨rfl, hE6⟩
      obtain ⟨gt, hgt⟩ : ∃ g, g = wr.heap.size := ⟨_, rfl⟩
      have hO4' : OwnB w4 w.heap.size (.slice (some ⟨gt, 0, none⟩) N N) (rowB N fun _ => 0) := by
        unfold OwnB
        rw [Nat.mul_one, zero_cells] at hO4
        rw [rowB_len, hgt, rowB_zero]
        exact hO4
      rw [← hgt] at hE6 hW5 ⊢
      have hgl := hL.lt
      have hgt1 : gm < gt := by omega
      have hW6 := hW5.ext hE6
      obtain ⟨hL5, hG5⟩ := (hL.ext hF4).set hlt (.slice (some ⟨gt, 0, none⟩) N N)
      have hL6 := hL5.ext hE6
      have hO6 := (hO4'.far (g := gm) (by simp [Value.ownBlock]; omega) i (.slice (some ⟨gt, 0, none⟩) N N)).ext hE6
      have hK6 := ((hK.ext hF4).lst (hL.ext hF4) hG5).ext hE6
      have hM5 : Mod wr _ gm (some gp) := (Mod.ofExt hF4).trans (Mod.ofRow hG5) (.inl rfl)
      have hE5 : Ext w _ := (hE.trans hF4).setCell (g := gm) (i := i) (by omega) (.slice (some ⟨gt, 0, none⟩) N N)
      have hE06 := hE5.trans hE6
      have hR6 : RowsTo w6 (gm + 1) gt R out i := fun a ha => by
        obtain ⟨h1, h2⟩ := hR a ha
        rw [← hgt] at h1
        refine ⟨RowOf.below ?_ (hE6.belowAt (by rw [World.size_setCell, hgt]; exact hF4.le)), h2⟩
        exact rowOf_far (h1.below (hF4.belowAt (by omega))) h2 (by omega)
      clear hO4 hG4 hc4 hf4 hW5 hO4' hL5 hG5 hM5 hE5 hF4 hE6 hL hR hK hW k0'
      have HR6 := hide hR6
      have HGT := hide hgt
      clear hR6 hgt
      obtain ⟨R0, hR0⟩ : ∃ R, R = cutAt A1 k1 (i * c) := ⟨_, rfl⟩
      rw [← hR0]
      have HR0 := hide hR0
      clear hR0 CR
      go_wp2_with fail
      obtain ⟨wa, rfl⟩ : ∃ W, W = wr := ⟨_, rfl⟩
      go_loopw [30] (fun x wr => ∃ j : Nat, j ≤ c ∧ x = .int .i64 (j : Int) ∧ Known wr gp ∧ OwnB wr w.heap.size (.slice (some ⟨gt, 0, none⟩) N N) (rowB N (partR (f i) ls j)) ∧ Mod w6 wr gt (some gp)) (fun x _ => c - (intOf x).toNat)
      case atStart => exact ⟨0, by omega, rfl, hK6, hO6, Mod.refl _ _ _⟩
      case round =>
        obtain ⟨j, hj, rfl, hKq, hOq, hMq⟩ := hrel
        have hw6 := hE06.le
        have hEq : Ext w wr := Below.trans hE06 (hMq.below hw6 (by omega) (fun k hk => by cases hk; omega))
        by_cases hjt : j < c
        · obtain ⟨p1, p2⟩ := row_place hlt (by omega : 0 < c)
          have hll := HL.out
          rcases h1.2 with h0' | ⟨b1', o1, rfl, hB1, hcell1⟩
          · omega
          have hcut : R0 = some ⟨b1', o1 + i * c, none⟩ := by
            have h3 := HR0.out
            rw [h3]
            simp [cutAt, show ¬ k1 = i * c by omega, Addr.add]
          subst hcut
          have k3 := (hEq.cell hB1).trans (hcell1 (i * c + j) (by omega))
          rw [← HA.out i j, ← Nat.add_assoc] at k3
          obtain ⟨xj, k4, hxj⟩ := HC2.out j (by omega)
          obtain ⟨Aj, kj, rfl, _, _, hBj⟩ := hxj
          have k4' := (hEq.cell hB2).trans k4
          obtain ⟨k5, _⟩ := (hL6.mod hMq (by omega) (by simp; omega)).cell hlt
          rw [if_pos rfl] at k5
          have HS := hide (partR_step (f i) ls j N)
          have hlen : (ls.getD j []).length = N := by rw [HAL.out j (by omega), HN.out]
          have hBq := hBj.below hEq (Nat.le_refl _)
          have hjl : (j : Int) < (ls.length : Int) := by omega
          have hjc : (j : Int) < (c : Int) := by omega
          have hir : (i : Int) < (r : Int) := by omega
          clear hcell1 k4 hll p1 p2
          obtain ⟨ch, hch⟩ : ∃ n, n = ls.getD j [] := ⟨_, rfl⟩
          rw [← hch] at k4' HS hlen hBq
          clear hch hBj
          have hyt := Mat.lt (f i j)
          obtain ⟨y, hy⟩ : ∃ y, y = (f i j).toNat := ⟨_, rfl⟩
          rw [← hy] at k3 HS hyt
          have HLen := hide hlen
          clear hy hlen
          go_wp2_with fail
          go_still_tail 9, (by kernel_rfl)
          change wpList _ _ _ _ _ wr.drew
          have hED := (Ext.refl wr).drew
          have hKd := hKq.ext hED
          have hOd := hOq.ext hED
          have hBd := hBq.below (hED.belowAt (by have := hEq.le; omega)) (Nat.le_refl _)
          go_wp2_with fail
          refine (padd_any (f := partR (f i) ls j) hyt hl0 hKd hOd hBd (by omega) (by omega) HLen.out).mono ?_
          rintro e w7 ⟨rfl, hK7, hO7, hM7⟩
          rw [HS.out] at hO7
          have hM8 := (hMq.trans (Mod.ofExt hED) (.inl rfl)).trans hM7 (.inl rfl)
          clear hKd hOd hBd hED
          go_wp2
          go_roundw
          case rel => exact ⟨j + 1, by omega, by go_num, hK7, hO7, hM8⟩
          case measure => simp [intOf]; omega
        · obtain rfl : j = c := by omega
          have hLq := hL6.mod hMq (by omega) (by simp; omega)
          have hWq := hMq.whole hW6 (by omega) (by simp; omega)
          have hRq : RowsTo wr (gm + 1) wr.heap.size _ out (i + 1) := RowsTo.put (x := .slice (some ⟨gt, 0, none⟩) N N) ((HR6.out.mid hMq (Nat.le_refl _) (by have := (hO6.lt gt rfl).2; omega) (by omega)).mono (by have := (hOq.lt gt rfl).2; omega)) (by
            rw [HT.out i hlt]
            exact hOq.row) (newX_slice (by omega))
          clear h1 hL6 hMq hW6 hOq
          go_wp2
          go_roundw
          case rel => exact ⟨i + 1, by omega, by go_num, ⟨_, hLq, hRq⟩, hKq, hWq, hEq⟩
          case measure => simp [intOf]; omega
    · obtain rfl : i = r := by omega
      clear h1 h2 hK hW
      go_wp2
      go_ret
      exact ⟨gm, R, rfl, hL, hR, hE⟩
theorem rsTimes_any (m : MV) (A1 A2 : Option Addr) (k1 k2 : Nat) (ls : List (List UInt8)) (w : World) (hm : m.may = true) (h1 : m.lies w A1 k1) (h2 : RowsAt w w.heap.size A2 ls.length ls)
    (hc : m.c.toNat ≤ ls.length) (h0 : 0 < m.r → 0 < ls.length) (hal : alike ls) (hl0 : (ls.getD 0 []).length ≤ 1000) :
    Calls Try.prog 44 #[m.arg A1 k1, .slice A2 ls.length k2] w (MadeN w (timesL m.r.toNat m.c.toNat m.at ls)) :=
  (rsTimesL_any m A1 A2 k1 k2 ls w hm h1 h2 hc h0 hal hl0).mono fun _ _ h => h.toN (timesL_len _ _ _ _)
end Go.Proofs.Ytbfkknoeaekajaa
