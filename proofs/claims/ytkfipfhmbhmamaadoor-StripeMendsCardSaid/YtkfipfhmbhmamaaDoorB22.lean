/- The program's chunks of chapter 23: along lanes, stripe by stripe: what comes, round by round. The program's lanes of chapter 23. -/
import Derived.Test.YtkfipfhmbhmamaaDoorB15
import Derived.Test.YtkfipfhmbhmamaaDoorB19
import Derived.Test.YtkfipfhmbhmamaaDoorB21
namespace Go.Proofs.YtkfipfhmbhmamaaDoor
open Go.RowKit Stp

attribute [local go_sem] Oper.semAt_some

set_option maxHeartbeats 1000000 in
set_option maxRecDepth 10000 in
theorem sChunks_in (n : Nat) (k m c : Int) (A : Option Addr) (l cap : Nat) (w : World) :
    CallsIn Fence.wide n Tryd.prog 27 #[shpV k m c, .slice A l cap] w fun e w' => e = .returned (.func (.func 44) #[] #[.pointer (some ⟨w.heap.size + 1, 0, none⟩), .pointer (some ⟨w.heap.size, 0, none⟩)]) ∧ w' = (w.alloc (.cells #[.int .i64 k, .int .i64 m, .int .i64 c] 50)).alloc (.cells #[.slice A l cap] 55) := by
  unfold shpV
  refine callsIn_of_wp Tryd.func27 rfl trivial ?_ rfl
  simp only [Tryd.ntmps27, List.size_toArray, List.length_cons, List.length_nil, Nat.reduceAdd, Nat.reduceSub, Array.replicate_succ, Array.replicate_zero, List.push_toArray, List.append_toArray, List.nil_append, List.cons_append]
  gi_wp2
  go_ret
  exact ⟨rfl, rfl⟩

set_option maxHeartbeats 4000000 in
set_option maxRecDepth 100000 in
theorem sChunks_gives {n B1 B2 g off c N T cap : Nat} {LA : Nat → Option Addr} {LC : Nat → Nat} {I : Nat → World → Prop} {w : World} (hn : 2 ≤ n) (hT : 1 ≤ T) (hT2 : T ≤ 255) (hc : 1 ≤ c) (hc2 : c ≤ 4096) (hN : N * c ≤ 1000000)
    (hC : ∀ i, i < T → N * c ≤ LC i ∧ LC i ≤ maxLen)
    (hI : ∀ k W, I k W → W.cell? ⟨B1, 0, none⟩ = some (.slice (some ⟨g, off, none⟩) T cap) ∧ W.cell? ⟨B2, 2, none⟩ = some (.int .i64 (c : Int)) ∧ ∀ i, i < T → W.cell? ⟨g, off + i, none⟩ = some (.slice (LA i) (N * c) (LC i))) :
    RGives n Tryd.prog 44 #[.pointer (some ⟨B1, 0, none⟩), .pointer (some ⟨B2, 0, none⟩)] (fun q => #[.slice (cutAt (LA (q % T)) (LC (q % T)) (q / T * c)) c (LC (q % T) - q / T * c)]) (N * T) I w := by
  intro l J W hE hJI hCa hY h0
  have HI := hide (fun k W h => hI k W (hJI k W h))
  have HY := hide hY
  have HC := hide hC
  clear hI hY hJI hCa hC
  refine callsIn_of_wp Tryd.func44 rfl trivial ?_ rfl
  simp only [Tryd.ntmps44, List.size_toArray, List.length_cons, List.length_nil, Nat.reduceAdd, Nat.reduceSub, Array.replicate_succ, Array.replicate_zero, List.push_toArray, List.append_toArray, List.nil_append, List.cons_append]
  obtain ⟨L, hL⟩ : ∃ L, L = N * c := ⟨_, rfl⟩
  have HL := hide hL
  rw [← hL] at hN
  clear hL
  gi_wp2
  gi_loopw [4] (fun z wr => ∃ (j p : Nat), z = .int .i64 (p : Int) ∧ p = j * c ∧ j ≤ N ∧ J (j * T) wr) (fun z _ => L + 4096 - (intOf z).toNat)
  case atStart => exact ⟨0, 0, rfl, by simp, Nat.zero_le _, by rw [Nat.zero_mul]; exact h0⟩
  case round =>
    obtain ⟨j, p, rfl, hp, hj, hJ⟩ := hrel
    clear h0
    obtain ⟨b1, b2, b3⟩ := HI.out _ wr hJ
    have b30 := b3 0 (by omega)
    rw [← HL.out, Nat.add_zero] at b30
    have hTI : (0 : Int) < (T : Int) := by omega
    have HP := hide hp
    by_cases hjn : j < N
    · have hpL : p + c ≤ L := by
        rw [hp, HL.out, ← Nat.succ_mul]
        exact Nat.mul_le_mul_right _ hjn
      have hlt : (p : Int) < (L : Int) := by omega
      have HB3 := hide b3
      clear b3 hp
      obtain ⟨wa, rfl⟩ : ∃ W, W = wr := ⟨_, rfl⟩
      gi_wp2
      gi_loopw [19] (fun z wr => ∃ i : Nat, z = .int .i64 (i : Int) ∧ i ≤ T ∧ J (j * T + i) wr) (fun z _ => T - (intOf z).toNat)
      case atStart => exact ⟨0, rfl, Nat.zero_le _, hJ⟩
      case round =>
        obtain ⟨i, rfl, hi, hJ2⟩ := hrel
        obtain ⟨d1, d2, d3⟩ := HI.out _ wr hJ2
        by_cases hit : i < T
        · have d3i := d3 i hit
          rw [← HL.out] at d3i
          have hitI : (i : Int) < (T : Int) := by omega
          have hq1 : (j * T + i) % T = i := by rw [Nat.mul_comm, Nat.mul_add_mod, Nat.mod_eq_of_lt hit]
          have hq2 : (j * T + i) / T = j := by rw [Nat.mul_comm, Nat.mul_add_div (by omega), Nat.div_eq_of_lt hit, Nat.add_zero]
          have hqN : j * T + i < N * T := Nat.lt_of_lt_of_le (Nat.add_lt_add_left hit _) (by rw [← Nat.succ_mul]; exact Nat.mul_le_mul_right _ hjn)
          obtain ⟨hC1, hC2⟩ := HC.out i hit
          rw [← HL.out] at hC1
          have hYk := HY.out (j * T + i) wr hJ2 hqN
          rw [hq1, hq2, ← HP.out] at hYk
          obtain ⟨fn, tmps, assign, body, hy, hR⟩ := hYk
          obtain ⟨LCi, hLC⟩ : ∃ x, x = LC i := ⟨_, rfl⟩
          rw [← hLC] at d3i hC1 hC2 hy
          have hRM := fun W => run_mid W (LA i) L LCi .i64 .i64 (p : Int) ((p : Int) + (c : Int)) (by omega) (by omega) (by omega)
          have e1 : ((p : Int) + (c : Int)).toNat = p + c := by omega
          simp only [Int.toNat_natCast, e1, Nat.add_sub_cancel_left] at hRM
          have HE := hide (show j * T + (i + 1) = j * T + i + 1 by omega)
          generalize LA i = LAi at *
          unfold maxLen at hC2
          clear d3 hq1 hq2 hqN hLC b1 b2 b30 hJ e1
          gi_wp2
          refine ⟨fun _ => by omega, hR.mono ?_⟩
          rintro e4 W4 ⟨rfl, hJ4⟩
          gi_wp2
          go_roundw
          case rel => exact ⟨i + 1, by go_num, by omega, by rw [HE.out]; exact hJ4⟩
          case measure => simp [intOf]; omega
        · obtain rfl : T = i := by omega
          have HE := hide (show (j + 1) * T = j * T + T from Nat.succ_mul _ _)
          clear d1 d3 b1 b2 b30 hJ
          gi_wp2
          go_roundw
          case rel => exact ⟨j + 1, p + c, by go_num, by rw [HP.out, Nat.succ_mul], by omega, by rw [HE.out]; exact hJ2⟩
          case measure => simp [intOf]; omega
    · obtain rfl : N = j := by omega
      have hlt : ¬ (p : Int) < (L : Int) := by rw [hp, HL.out]; omega
      clear b3 hp
      gi_wp2
      go_end0
      exact ⟨⟨_, rfl⟩, hJ⟩
end Go.Proofs.YtkfipfhmbhmamaaDoor

namespace Go.Proofs.YtkfipfhmbhmamaaDoor
open Go.RowKit Stp

/-- What lanes tells: k rows, each in a block of its own. -/
def LanesTo (w : World) (k : Nat) (ls : List (List UInt8)) (e : Ending) (w' : World) : Prop := ∃ g R, e = .returned (.slice (some ⟨g, 0, none⟩) k k) ∧ w.heap.size ≤ g ∧ Lns w' w.heap.size g k R (fun i => ls.getD i []) ∧ Ext w w'

set_option maxHeartbeats 8000000 in
set_option maxRecDepth 100000 in
theorem sLanes_any {k m c n N : Nat} (A : Option Addr) (cap : Nat) (b : List UInt8) (w : World) (hk : 1 ≤ k) (hkm : k + m ≤ 255) (hc : 1 ≤ c) (hc2 : c ≤ 4096) (hn : n ≤ 8388608) (hNs : N = stripesN k c n) (hL : N * c ≤ 20000) (hb : Bytes w w.heap.size A n b) (hcap : n ≤ cap) (hcm : cap ≤ maxLen) :
    Calls Tryd.prog 25 #[shpV k m c, .slice A n cap] w (LanesTo w k (lanesB k c N b)) := by
  have CS := fun W => sStripes_any (k := k) (c := c) (n := n) hk (by omega) hc hc2 hn (m : Int) W
  rw [← hNs] at CS
  have hbl := hb.1
  have he1 : 1 ≤ k * c := Nat.mul_pos hk hc
  obtain ⟨hr1, hr2⟩ := stripes_room k c n he1
  rw [← hNs] at hr1 hr2
  have HAll := hide (fun (p i : Nat) (hi : i < k) (hp : n ≤ p * c) => put_all (k := k) (c := c) (N := N) (b := b) hi (by rw [hbl]; exact hp))
  have HIn := hide (fun (p : Nat) (hp : p * c < n) => show p / k < N by
    have h1 : p * c < N * k * c := by rw [Nat.mul_assoc]; omega
    have h2 : p < N * k := Nat.lt_of_mul_lt_mul_right h1
    exact Nat.div_lt_of_lt_mul (by rw [Nat.mul_comm]; exact h2))
  have HB := hide hb
  have HCm := hide hcm
  obtain ⟨L, hLL⟩ : ∃ L, L = N * c := ⟨_, rfl⟩
  have HL := hide hLL
  rw [← hLL] at hL
  have hNc : (N : Int) * (c : Int) = (L : Int) := by rw [hLL]; exact (Int.natCast_mul _ _).symm
  have hW1 := Whole.new w 50 #[.int .i64 (k : Int), .int .i64 (m : Int), .int .i64 (c : Int)]
  have hE1 := extNew w (.cells #[.int .i64 (k : Int), .int .i64 (m : Int), .int .i64 (c : Int)] 50)
  have hk9 : k ≤ 255 := by omega
  have hLI : (L : Int) ≤ 20000 := by omega
  clear hb hcm hLL hr1 hr2 he1 hbl hNs hkm
  unfold shpV at CS ⊢
  have s0 := hW1.at 0 (u := .int .i64 (k : Int)) rfl
  go_enter Tryd.func25, Tryd.ntmps25
  go_wp2_with (refine wpList_makeLst (n := k) rfl (.tmp 10) (.tmp 10) rfl rfl rfl (by omega) ?_; intro w2 hL2 hE2)
  have hW2 := hW1.ext hE2
  have hF2 := hE1.trans hE2
  obtain ⟨g, hg⟩ : ∃ g, g = w.heap.size + 1 := ⟨_, rfl⟩
  rw [World.size_alloc, ← hg] at hL2
  rw [← hg]
  have hgw : w.heap.size < g := by omega
  have hL2' : Lst w2 w.heap.size g k (fun _ => .slice none 0 0) := hL2.mono (by omega)
  clear hL2 hW1 hE1 hE2 s0 hg
  go_loopw [14] (fun x wr => ∃ i : Nat, i ≤ k ∧ x = .int .i64 (i : Int) ∧ (∃ R, Lns wr w.heap.size g k R (fun a => if a < i then List.replicate L 0 else []) ∧ ∀ a, a < i → ∃ q, R a = .slice (some ⟨q, 0, none⟩) L L) ∧ Whole wr w.heap.size 50 #[.int .i64 (k : Int), .int .i64 (m : Int), .int .i64 (c : Int)] ∧ Ext w wr) (fun x _ => k - (intOf x).toNat)
  case atStart => exact ⟨0, by omega, rfl, ⟨_, (Lns.ofNil hL2').congr fun i _ => by simp, fun a ha => absurd ha (by omega)⟩, hW2, hF2⟩
  case round =>
    clear hL2' hF2 hW2
    obtain ⟨i, hi, rfl, ⟨R, hR, hRs⟩, hW, hE⟩ := hrel
    by_cases hlt : i < k
    · have hltI : (i : Int) < (k : Int) := by omega
      have x1 : IntKind.i64.wrap (L : Int) = (L : Int) := by rw [IntKind.wrap_i64]; omega
      obtain ⟨wa, rfl⟩ : ∃ W, W = wr := ⟨_, rfl⟩
      go_wp2_with fail
      refine wp_region_T (fun W => Ext wa W) 11 12 #[false, false, false, false, false, false, false, false, false, false, false, false] (by kernel_rfl) rfl rfl (Ext.refl wa).drew ?_
      intro hS0
      refine wpAnyT_take 0 (some 17) (.slice (some ⟨g, 0, none⟩) k k) #[true, false, false, false, false, false, false, false, false, false, false, false] rfl rfl rfl (by kernel_rfl) (fun _ _ _ h => h) hS0 (by rfl) (fun W hX => by go_simp) ?_
      simp only [Act.put, List.setIfInBounds_toArray, List.set_cons_zero, List.set_cons_succ]
      refine wpAnyT_take 1 (some 18) (.int .i64 (i : Int)) #[true, true, false, false, false, false, false, false, false, false, false, false] rfl rfl rfl (by kernel_rfl) (fun _ _ _ h => h) hS0 (by rfl) (fun W hX => by go_simp) ?_
      simp only [Act.put, List.setIfInBounds_toArray, List.set_cons_zero, List.set_cons_succ]
      refine wpAnyT_take 2 (some 19) (.agg #[.int .i64 (k : Int), .int .i64 (m : Int), .int .i64 (c : Int)]) #[true, true, true, false, false, false, false, false, false, false, false, false] rfl rfl rfl (by kernel_rfl) (fun _ _ _ h => h) hS0 (by rfl) (fun W hX => by exact exec_load_mid 50 (.tmp 2) rfl w.heap.size 0 rfl [.int .i64 (k : Int), .int .i64 (m : Int), .int .i64 (c : Int)] (whole_range3 (hW.ext hX)) Tryd.underlying50 rfl shp_info) ?_
      simp only [Act.put, List.setIfInBounds_toArray, List.set_cons_zero, List.set_cons_succ]
      refine wpAnyT_take 3 (some 20) (.slice A n cap) #[true, true, true, true, false, false, false, false, false, false, false, false] rfl rfl rfl (by kernel_rfl) (fun _ _ _ h => h) hS0 (by rfl) (fun W hX => by go_simp) ?_
      simp only [Act.put, List.setIfInBounds_toArray, List.set_cons_zero, List.set_cons_succ]
      refine wpAnyT_take 4 (some 21) (.int .i64 (n : Int)) #[true, true, true, true, true, false, false, false, false, false, false, false] rfl rfl rfl (by kernel_rfl) (fun _ _ _ h => h) hS0 (by rfl) (fun W hX => by go_simp) ?_
      simp only [Act.put, List.setIfInBounds_toArray, List.set_cons_zero, List.set_cons_succ]
      refine wpAnyT_take 6 (some 23) (.pointer (some ⟨w.heap.size, 2, none⟩)) #[true, true, true, true, true, false, true, false, false, false, false, false] rfl rfl rfl (by kernel_rfl) (fun _ _ _ h => h) hS0 (by rfl) (fun W hX => by go_simp) ?_
      simp only [Act.put, List.setIfInBounds_toArray, List.set_cons_zero, List.set_cons_succ]
      refine wpAnyT_take 7 (some 24) (.int .i64 (c : Int)) #[true, true, true, true, true, false, true, true, false, false, false, false] rfl rfl rfl (by kernel_rfl) (fun _ _ _ h => h) hS0 (by rfl) (fun W hX => by have s2 := (hW.ext hX).at 2 (u := .int .i64 (c : Int)) rfl; go_simp) ?_
      simp only [Act.put, List.setIfInBounds_toArray, List.set_cons_zero, List.set_cons_succ]
      refine wpAnyT_only 5 #[true, true, true, true, true, true, true, true, false, false, false, false] (by kernel_rfl) rfl rfl (by rfl) (fun K0 hK0 => ?_)
      go_simp
      go_at_call 22
      refine (CS _).mono ?_
      rintro e wc0 ⟨rfl, hC0⟩
      have hX0 := hS0.trans hC0
      refine hK0 _ _ (fun _ => hX0) ?_
      clear hK0 K0
      refine wpAnyT_take 8 (some 25) (.int .i64 (L : Int)) #[true, true, true, true, true, true, true, true, true, false, false, false] rfl rfl rfl (by kernel_rfl) (fun _ _ _ h => h) hX0 (by rfl) (fun W hX => by go_simp) ?_
      simp only [Act.put, List.setIfInBounds_toArray, List.set_cons_zero, List.set_cons_succ]
      refine wpAnyT_only 9 #[true, true, true, true, true, true, true, true, true, true, false, false] (by kernel_rfl) rfl rfl (by rfl) (fun K7 hK7 => ?_)
      refine wp_makeBB (n := L) (.tmp 25) (.tmp 25) rfl rfl rfl (by omega) ?_
      intro w5 hO5 hE5
      have hX5 := hX0.trans hE5
      refine hK7 _ _ (fun _ => hX5) ?_
      clear hK7 K7
      simp only [Act.put, List.setIfInBounds_toArray]
      refine wpAnyT_take 10 (some 27) (.pointer (some ⟨g, i, none⟩)) #[true, true, true, true, true, true, true, true, true, true, true, false] rfl rfl rfl (by kernel_rfl) (fun _ _ _ h => h) hX5 (by rfl) (fun W hX => by go_simp) ?_
      simp only [Act.put]
      refine wpAnyT_only 11 #[true, true, true, true, true, true, true, true, true, true, true, true] (by kernel_rfl) rfl rfl (by rfl) (fun K1 hK1 => ?_)
      obtain ⟨gn, hgn⟩ : ∃ x, x = wc0.heap.size := ⟨_, rfl⟩
      rw [← hgn] at hO5 ⊢
      have HGn := hide hgn
      clear hgn
      have hR5 := hR.ext hX5
      obtain ⟨c5, f5⟩ := hR5.lst.cell hlt
      go_simp
      refine hK1 _ _ (fun h => absurd h (by decide)) (wpAnyT_done (by kernel_rfl) ?_ _)
      clear hK1 K1
      have hgl := hE.le
      have hgn1 : wa.heap.size ≤ gn := by rw [HGn.out]; exact hX0.le
      have hR6 := hR5.put hlt (x := .slice (some ⟨gn, 0, none⟩) L L) (l := List.replicate L 0) (hO5.mono (by omega)) (fun j hj hne b h1 h2 => by
        simp only [Value.ownBlock, Option.some.injEq] at h1
        have := ((hR.row j hj).lt b h2).2
        omega)
      have hF6 : Ext w (w5.setCell ⟨g, i, none⟩ (.slice (some ⟨gn, 0, none⟩) L L)) := (hE.trans hX5).setCell (by omega) _
      have hW6 := (hW.ext hX5).far (b := g) (by omega) i (.slice (some ⟨gn, 0, none⟩) L L)
      go_wp2
      go_roundw
      case rel => exact ⟨i + 1, by omega, by go_num, ⟨_, hR6.congr fun a ha => by
          by_cases e : a = i
          · subst e
            rw [upd_same, if_pos (by omega)]
          · rw [upd_other _ _ e]
            by_cases h : a < i
            · rw [if_pos h, if_pos (by omega)]
            · rw [if_neg h, if_neg (by omega)], fun a ha => by
          by_cases e : a = i
          · subst e
            exact ⟨gn, upd_same _ _ _⟩
          · rw [upd_other _ _ e]
            exact hRs a (by omega)⟩, hW6, hF6⟩
      case measure => simp [intOf]; omega
    · obtain rfl : k = i := by omega
      have hR0 : Lns wr w.heap.size g k R fun i => laneF N (putF k c b 0 i) := hR.congr fun a ha => by rw [if_pos ha, putF_zero, HL.out]
      clear hR
      go_wp2
      go_loopw [7] (fun x wr => ∃ p : Nat, x = .int .i64 ((p * c : Nat) : Int) ∧ p * c < n + c ∧ (∃ R, Lns wr w.heap.size g k R (fun i => laneF N (putF k c b p i)) ∧ ∀ a, a < k → ∃ q, R a = .slice (some ⟨q, 0, none⟩) L L) ∧ Whole wr w.heap.size 50 #[.int .i64 (k : Int), .int .i64 (m : Int), .int .i64 (c : Int)] ∧ Ext w wr) (fun x _ => n + c - (intOf x).toNat)
      case atStart => exact ⟨0, by simp, by omega, ⟨_, hR0, hRs⟩, hW, hE⟩
      case round =>
        clear hR0 hRs hW hE
        obtain ⟨p, rfl, hp, ⟨R, hR, hRs⟩, hW, hE⟩ := hrel
        have HNx := hide (Nat.succ_mul p c)
        by_cases hlt : p * c < n
        · have hpN := HIn.out p hlt
          have hrk : p % k < k := Nat.mod_lt _ (by omega)
          have HPut := hide (put_next (c := c) (b := b) hk hpN)
          have HOth := hide (fun i hi h => put_other (k := k) (c := c) (N := N) (p := p) (i := i) (b := b) hi h)
          have hpart : p / k * c + c ≤ L := by
            rw [HL.out, ← Nat.succ_mul]
            exact Nat.mul_le_mul_right _ hpN
          have hrem : (p : Int).tmod (k : Int) = ((p % k : Nat) : Int) := by
            rw [Int.tmod_eq_emod_of_nonneg (by omega)]
            exact (Int.natCast_emod _ _).symm
          have hquo : (p : Int).tdiv (k : Int) = ((p / k : Nat) : Int) := by
            rw [Int.tdiv_eq_ediv_of_nonneg (by omega)]
            exact (Int.natCast_ediv _ _).symm
          have hmul : ((p / k : Nat) : Int) * (c : Int) = ((p / k * c : Nat) : Int) := (Int.natCast_mul _ _).symm
          have hat : (((p * c : Nat) : Int)).tdiv (c : Int) = (p : Int) := by
            rw [Int.tdiv_eq_ediv_of_nonneg (by omega), ← Int.natCast_ediv, Nat.mul_div_cancel _ (by omega)]
          have hp9 : p ≤ p * c := Nat.le_mul_of_pos_right _ hc
          have hdk9 : p / k ≤ p := Nat.div_le_self _ _
          obtain ⟨q, hq⟩ := hRs (p % k) hrk
          have hq0 := hR.cell hrk
          have hOq := hR.row _ hrk
          rw [hq] at hq0 hOq
          have HQ := hide hq
          have hbd := (HB.out.drop (k := p * c) (by omega) hcap)
          obtain ⟨at_, hat_⟩ : ∃ x, x = p * c := ⟨_, rfl⟩
          rw [← hat_] at hlt hp hat hp9 HPut hbd HNx ⊢
          clear hat_
          obtain ⟨r, hr⟩ : ∃ x, x = p % k := ⟨_, rfl⟩
          rw [← hr] at hrk HPut HOth hrem HQ hq0 hOq
          clear hr hq
          obtain ⟨d, hd⟩ : ∃ x, x = p / k := ⟨_, rfl⟩
          rw [← hd] at hpN HPut hpart hquo hmul hdk9
          clear hd
          obtain ⟨f, hf⟩ : ∃ x, x = d * c := ⟨_, rfl⟩
          rw [← hf] at HPut hpart hmul
          clear hf
          have hkI : ¬ k = 0 := by omega
          have hcI : ¬ c = 0 := by omega
          have hrkI : (r : Int) < (k : Int) := by omega
          have hfL : (f : Int) + (c : Int) ≤ (L : Int) := by omega
          have hfI : (f : Int) ≤ 20000 := by omega
          have hatI : (at_ : Int) < (n : Int) := by omega
          have hatn : (at_ : Int) ≤ (n : Int) := by omega
          have hdI : (d : Int) ≤ 8388608 := by omega
          have hpI : (p : Int) ≤ 8388608 := by omega
          have x1 : IntKind.i64.wrap (f : Int) = (f : Int) := by rw [IntKind.wrap_i64]; omega
          have x2 : IntKind.i64.wrap (d : Int) = (d : Int) := by rw [IntKind.wrap_i64]; omega
          have x3 : IntKind.i64.wrap (r : Int) = (r : Int) := by rw [IntKind.wrap_i64]; omega
          have hR1 := fun W => run_cut W (some ⟨q, 0, none⟩) L L .i64 (f : Int) (by omega) (by omega)
          simp only [Int.toNat_natCast] at hR1
          have hR2 := fun W => run_headB W (cutAt (some ⟨q, 0, none⟩) L f) (L - f) (L - f) .i64 (c : Int) (by omega) (by omega)
          simp only [Int.toNat_natCast, cutAt_zeroB] at hR2
          have hR3 := fun W => run_cut W A n cap .i64 (at_ : Int) (by omega) (by omega)
          simp only [Int.toNat_natCast] at hR3
          have hFl : (laneF N (putF k c b p r)).length = L := by rw [lane_len (c := c) N fun j _ => putF_len k c b p r j, HL.out]
          obtain ⟨DA, hDA⟩ : ∃ D, D = cutAt (some ⟨q, 0, none⟩) L f := ⟨_, rfl⟩
          rw [← hDA] at hR1 hR2
          obtain ⟨Lf, hLf⟩ : ∃ x, x = L - f := ⟨_, rfl⟩
          rw [← hLf] at hR1 hR2
          obtain ⟨SA, hSA⟩ : ∃ D, D = cutAt A cap at_ := ⟨_, rfl⟩
          rw [← hSA] at hR3 hbd
          obtain ⟨nn, hnn⟩ : ∃ x, x = n - at_ := ⟨_, rfl⟩
          rw [← hnn] at hR3 hbd
          generalize cap - at_ = capn at *
          have HR1 := hide hR1
          have HR2 := hide hR2
          have HR3 := hide hR3
          have HDA := hide hDA
          clear hR1 hR2 hR3 hSA hnn hLf hDA
          obtain ⟨wa, rfl⟩ : ∃ W, W = wr := ⟨_, rfl⟩
          have s2 := hW.at 2 (u := .int .i64 (c : Int)) rfl
          go_wp2_with fail
          refine wp_region_T (fun W => Ext wa W) 21 22 #[false, false, false, false, false, false, false, false, false, false, false, false, false, false, false, false, false, false, false, false, false, false] (by kernel_rfl) rfl rfl (Ext.refl wa).drew ?_
          intro hS0
          refine wpAnyT_take 0 (some 41) (.slice (some ⟨g, 0, none⟩) k k) #[true, false, false, false, false, false, false, false, false, false, false, false, false, false, false, false, false, false, false, false, false, false] rfl rfl rfl (by kernel_rfl) (fun _ _ _ h => h) hS0 (by rfl) (fun W hX => by go_simp) ?_
          simp only [Act.put, List.setIfInBounds_toArray, List.set_cons_zero, List.set_cons_succ]
          refine wpAnyT_take 1 (some 42) (.int .i64 (p : Int)) #[true, true, false, false, false, false, false, false, false, false, false, false, false, false, false, false, false, false, false, false, false, false] rfl rfl rfl (by kernel_rfl) (fun _ _ _ h => h) hS0 (by rfl) (fun W hX => by go_simp) ?_
          simp only [Act.put, List.setIfInBounds_toArray, List.set_cons_zero, List.set_cons_succ]
          refine wpAnyT_take 2 (some 43) (.pointer (some ⟨w.heap.size, 0, none⟩)) #[true, true, true, false, false, false, false, false, false, false, false, false, false, false, false, false, false, false, false, false, false, false] rfl rfl rfl (by kernel_rfl) (fun _ _ _ h => h) hS0 (by rfl) (fun W hX => by go_simp) ?_
          simp only [Act.put, List.setIfInBounds_toArray, List.set_cons_zero, List.set_cons_succ]
          refine wpAnyT_take 3 (some 44) (.int .i64 (k : Int)) #[true, true, true, true, false, false, false, false, false, false, false, false, false, false, false, false, false, false, false, false, false, false] rfl rfl rfl (by kernel_rfl) (fun _ _ _ h => h) hS0 (by rfl) (fun W hX => by have s0 := (hW.ext hX).at 0 (u := .int .i64 (k : Int)) rfl; go_simp) ?_
          simp only [Act.put, List.setIfInBounds_toArray, List.set_cons_zero, List.set_cons_succ]
          refine wpAnyT_take 4 (some 45) (.int .i64 (r : Int)) #[true, true, true, true, true, false, false, false, false, false, false, false, false, false, false, false, false, false, false, false, false, false] rfl rfl rfl (by kernel_rfl) (fun _ _ _ h => h) hS0 (by rfl) (fun W hX => by go_simp) ?_
          simp only [Act.put, List.setIfInBounds_toArray, List.set_cons_zero, List.set_cons_succ]
          refine wpAnyT_take 5 (some 46) (.pointer (some ⟨g, r, none⟩)) #[true, true, true, true, true, true, false, false, false, false, false, false, false, false, false, false, false, false, false, false, false, false] rfl rfl rfl (by kernel_rfl) (fun _ _ _ h => h) hS0 (by rfl) (fun W hX => by go_simp) ?_
          simp only [Act.put, List.setIfInBounds_toArray, List.set_cons_zero, List.set_cons_succ]
          refine wpAnyT_take 6 (some 47) (.slice (some ⟨q, 0, none⟩) L L) #[true, true, true, true, true, true, true, false, false, false, false, false, false, false, false, false, false, false, false, false, false, false] rfl rfl rfl (by kernel_rfl) (fun _ _ _ h => h) hS0 (by rfl) (fun W hX => by have k0 := (hX.cell (i := r) hR.lst.lt.2).trans hq0; go_simp) ?_
          simp only [Act.put, List.setIfInBounds_toArray, List.set_cons_zero, List.set_cons_succ]
          refine wpAnyT_take 7 (some 48) (.int .i64 (p : Int)) #[true, true, true, true, true, true, true, true, false, false, false, false, false, false, false, false, false, false, false, false, false, false] rfl rfl rfl (by kernel_rfl) (fun _ _ _ h => h) hS0 (by rfl) (fun W hX => by go_simp) ?_
          simp only [Act.put, List.setIfInBounds_toArray, List.set_cons_zero, List.set_cons_succ]
          refine wpAnyT_take 8 (some 49) (.pointer (some ⟨w.heap.size, 0, none⟩)) #[true, true, true, true, true, true, true, true, true, false, false, false, false, false, false, false, false, false, false, false, false, false] rfl rfl rfl (by kernel_rfl) (fun _ _ _ h => h) hS0 (by rfl) (fun W hX => by go_simp) ?_
          simp only [Act.put, List.setIfInBounds_toArray, List.set_cons_zero, List.set_cons_succ]
          refine wpAnyT_take 9 (some 50) (.int .i64 (k : Int)) #[true, true, true, true, true, true, true, true, true, true, false, false, false, false, false, false, false, false, false, false, false, false] rfl rfl rfl (by kernel_rfl) (fun _ _ _ h => h) hS0 (by rfl) (fun W hX => by have s0 := (hW.ext hX).at 0 (u := .int .i64 (k : Int)) rfl; go_simp) ?_
          simp only [Act.put, List.setIfInBounds_toArray, List.set_cons_zero, List.set_cons_succ]
          refine wpAnyT_take 10 (some 51) (.int .i64 (d : Int)) #[true, true, true, true, true, true, true, true, true, true, true, false, false, false, false, false, false, false, false, false, false, false] rfl rfl rfl (by kernel_rfl) (fun _ _ _ h => h) hS0 (by rfl) (fun W hX => by go_simp) ?_
          simp only [Act.put, List.setIfInBounds_toArray, List.set_cons_zero, List.set_cons_succ]
          refine wpAnyT_take 11 (some 52) (.pointer (some ⟨w.heap.size, 2, none⟩)) #[true, true, true, true, true, true, true, true, true, true, true, true, false, false, false, false, false, false, false, false, false, false] rfl rfl rfl (by kernel_rfl) (fun _ _ _ h => h) hS0 (by rfl) (fun W hX => by go_simp) ?_
          simp only [Act.put, List.setIfInBounds_toArray, List.set_cons_zero, List.set_cons_succ]
          refine wpAnyT_take 12 (some 53) (.int .i64 (c : Int)) #[true, true, true, true, true, true, true, true, true, true, true, true, true, false, false, false, false, false, false, false, false, false] rfl rfl rfl (by kernel_rfl) (fun _ _ _ h => h) hS0 (by rfl) (fun W hX => by have s2 := (hW.ext hX).at 2 (u := .int .i64 (c : Int)) rfl; go_simp) ?_
          simp only [Act.put, List.setIfInBounds_toArray, List.set_cons_zero, List.set_cons_succ]
          refine wpAnyT_take 13 (some 54) (.int .i64 (f : Int)) #[true, true, true, true, true, true, true, true, true, true, true, true, true, true, false, false, false, false, false, false, false, false] rfl rfl rfl (by kernel_rfl) (fun _ _ _ h => h) hS0 (by rfl) (fun W hX => by go_simp) ?_
          simp only [Act.put, List.setIfInBounds_toArray, List.set_cons_zero, List.set_cons_succ]
          refine wpAnyT_take 14 (some 55) (.slice DA Lf Lf) #[true, true, true, true, true, true, true, true, true, true, true, true, true, true, true, false, false, false, false, false, false, false] rfl rfl rfl (by kernel_rfl) (fun _ _ _ h => h) hS0 (by rfl) (fun W hX => by have hr := HR1.out W; go_simp) ?_
          simp only [Act.put, List.setIfInBounds_toArray, List.set_cons_zero, List.set_cons_succ]
          refine wpAnyT_take 15 (some 56) (.pointer (some ⟨w.heap.size, 2, none⟩)) #[true, true, true, true, true, true, true, true, true, true, true, true, true, true, true, true, false, false, false, false, false, false] rfl rfl rfl (by kernel_rfl) (fun _ _ _ h => h) hS0 (by rfl) (fun W hX => by go_simp) ?_
          simp only [Act.put, List.setIfInBounds_toArray, List.set_cons_zero, List.set_cons_succ]
          refine wpAnyT_take 16 (some 57) (.int .i64 (c : Int)) #[true, true, true, true, true, true, true, true, true, true, true, true, true, true, true, true, true, false, false, false, false, false] rfl rfl rfl (by kernel_rfl) (fun _ _ _ h => h) hS0 (by rfl) (fun W hX => by have s2 := (hW.ext hX).at 2 (u := .int .i64 (c : Int)) rfl; go_simp) ?_
          simp only [Act.put, List.setIfInBounds_toArray, List.set_cons_zero, List.set_cons_succ]
          refine wpAnyT_take 17 (some 58) (.slice DA c Lf) #[true, true, true, true, true, true, true, true, true, true, true, true, true, true, true, true, true, true, false, false, false, false] rfl rfl rfl (by kernel_rfl) (fun _ _ _ h => h) hS0 (by rfl) (fun W hX => by have hr := HR2.out W; go_simp) ?_
          simp only [Act.put, List.setIfInBounds_toArray, List.set_cons_zero, List.set_cons_succ]
          refine wpAnyT_take 18 (some 59) (.slice A n cap) #[true, true, true, true, true, true, true, true, true, true, true, true, true, true, true, true, true, true, true, false, false, false] rfl rfl rfl (by kernel_rfl) (fun _ _ _ h => h) hS0 (by rfl) (fun W hX => by go_simp) ?_
          simp only [Act.put, List.setIfInBounds_toArray, List.set_cons_zero, List.set_cons_succ]
          refine wpAnyT_take 19 (some 60) (.int .i64 (at_ : Int)) #[true, true, true, true, true, true, true, true, true, true, true, true, true, true, true, true, true, true, true, true, false, false] rfl rfl rfl (by kernel_rfl) (fun _ _ _ h => h) hS0 (by rfl) (fun W hX => by go_simp) ?_
          simp only [Act.put, List.setIfInBounds_toArray, List.set_cons_zero, List.set_cons_succ]
          refine wpAnyT_take 20 (some 61) (.slice SA nn capn) #[true, true, true, true, true, true, true, true, true, true, true, true, true, true, true, true, true, true, true, true, true, false] rfl rfl rfl (by kernel_rfl) (fun _ _ _ h => h) hS0 (by rfl) (fun W hX => by have hr := HR3.out W; go_simp) ?_
          simp only [Act.put, List.setIfInBounds_toArray, List.set_cons_zero, List.set_cons_succ]
          refine wpAnyT_only 21 #[true, true, true, true, true, true, true, true, true, true, true, true, true, true, true, true, true, true, true, true, true, true] (by kernel_rfl) rfl rfl (by rfl) (fun K0 hK0 => ?_)
          refine wp_copyBP (.tmp 58) (.tmp 61) rfl rfl rfl (hOq.ext hS0) (hbd.below (hE.trans hS0) (Nat.le_refl _)) hFl (by omega) (Nat.le_refl _) HDA.out ?_
          intro w6 hO6 hG6 hS6
          refine hK0 _ _ (fun h => absurd h (by decide)) (wpAnyT_done (by kernel_rfl) ?_ _)
          clear hK0 K0
          rw [HPut.out] at hO6
          have hR5 := hR.ext hS0
          have hR6 := hR5.write hrk (l := laneF N (putF k c b (p + 1) r)) (by rw [HQ.out]; exact hO6) (by rw [HQ.out]; exact hG6)
          have hql := hOq.lt q rfl
          have hF6 : Ext w w6 := Below.grown (hE.trans hS0) hG6 (hE.trans hS0).le (fun k hk => by cases hk; exact hql.1)
          have hne : w.heap.size ≠ q := by
            intro e
            have hw := hW.ext hS0
            have hq3 := hOq.ext hS0
            rcases hq3.2 with ⟨h, _⟩ | ⟨g1, c1, u1, h, _, hg1, _⟩
            · cases h
            · simp only [Value.slice.injEq, Option.some.injEq, Addr.mk.injEq, and_true] at h
              obtain ⟨rfl, _⟩ := h
              unfold Whole at hw
              rw [e, hg1] at hw
              simp only [Option.some.injEq, Obj.cells.injEq] at hw
              exact absurd hw.2.1 (by decide)
          have hW6 := (hW.ext hS0).grown hG6 hne
          have s6 := hW6.at 2 (u := .int .i64 (c : Int)) rfl
          go_wp2
          go_roundw
          case rel => exact ⟨p + 1, by rw [show (p + 1) * c = at_ + c from HNx.out]; go_num, by rw [show (p + 1) * c = at_ + c from HNx.out]; omega, ⟨_, hR6.congr fun a ha => by
              by_cases e : a = r
              · subst e
                rw [upd_same]
              · rw [upd_other _ _ e, HOth.out a ha e], hRs⟩, hW6, hF6⟩
          case measure => simp [intOf]; omega
        · have hR6 := hR.congr fun i hi => HAll.out p i hi (by omega)
          have hltI : ¬ ((p * c : Nat) : Int) < (n : Int) := by omega
          generalize p * c = at_ at *
          clear hR hRs hW
          go_wp2
          go_ret
          exact ⟨g, R, rfl, by omega, hR6, hE⟩
end Go.Proofs.YtkfipfhmbhmamaaDoor

