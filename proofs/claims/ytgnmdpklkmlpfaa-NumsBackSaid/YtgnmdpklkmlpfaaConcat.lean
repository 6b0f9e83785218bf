/- The contracts of the library's slices.Concat at bytes (with its Grow of nothing), and of the program's All. -/
import Derived.Test.YtgnmdpklkmlpfaaMod
import Derived.Test.YtgnmdpklkmlpfaaParts
import Derived.Lib.SliceRun
namespace Go.Proofs.Ytgnmdpklkmlpfaa
open Go.RowKit

theorem wpList_zerosAt {o : Oper} {a : Act} {Q : Exit → Act → World → Prop} {w : World} {base : Nat} {v : Value} {l : List UInt8} {ops : Array Oper} {rest : List Oper} (hgd : o.guard = none) (s x : Operand) (ho : o.op = .call { callee := .builtin .append, args := #[s, x], argTypes := #[24, 3] }) (hs : a.eval s = v) (hown : OwnB w base v l)
    (n : Nat) (hx : a.eval x = .int .i64 n) (hlen : l.length + n ≤ 140737488355328) (hbase : base ≤ w.heap.size)
    (h : ∀ v' w', OwnB w' base v' (l ++ List.replicate n 0) → w.grownBy w' v.ownBlock → NewOb w v.ownBlock v'.ownBlock → wpList Try.prog ops Q rest (a.put o.dst v') w') : wpList Try.prog ops Q (o :: rest) a w :=
  wpList_plain hgd fun _ hK => wp_zerosAt s x ho hs hown n hx hlen hbase fun v' w' h2 h3 h4 => hK _ _ (h v' w' h2 h3 h4)
theorem OwnB.cut0 {w : World} {base g n c : Nat} {l : List UInt8} (h : OwnB w base (.slice (some ⟨g, 0, none⟩) n c) l) : OwnB w base (.slice (some ⟨g, 0, none⟩) 0 c) [] := by
  refine ⟨rfl, ?_⟩
  rcases h.2 with ⟨h0, _⟩ | ⟨x, cap, cur, hv, hb, hx, hn, hm, hs, _⟩
  · cases h0
  · simp only [Value.slice.injEq, Option.some.injEq, Addr.mk.injEq, and_true] at hv
    obtain ⟨rfl, _, rfl⟩ := hv
    exact .inr ⟨g, c, cur, rfl, hb, hx, by simp, hm, hs, by simp⟩

set_option maxHeartbeats 1000000 in
set_option maxRecDepth 100000 in
theorem growNil_any (n : Nat) (w : World) (hn : n ≤ 1000000000) : Calls Try.prog 54 #[.slice none 0 0, .int .i64 (n : Int)] w (MadeB w []) := by
  have hnil := OwnB.nil w w.heap.size
  have hfit : ([] : List UInt8).length + n ≤ 140737488355328 := by simp; omega
  by_cases h0 : n = 0
  · subst h0
    go_enter Try.func54, Try.ntmps54
    go_wp2
    go_ret
    exact ⟨_, rfl, hnil, Ext.refl _⟩
  · have h1 : (0 : Int) < (n : Int) := by omega
    have h2 : ¬ ((n : Int) < 0) := by omega
    clear h0
    go_enter Try.func54, Try.ntmps54
    go_wp2_with (at_builtin; refine wpList_zerosAt rfl (.tmp 20) (.tmp 21) rfl rfl hnil n rfl hfit (Nat.le_refl _) ?_; intro v2 w2 hO2 hG2 hN2; rw [List.nil_append] at hO2; obtain ⟨g, c, hv2, hg, hc⟩ := hO2.formG (by simp; omega); rw [List.length_replicate] at hv2 hc; subst hv2; have i1 : (0 : Int) ≤ (c : Int) := by omega)
    go_ret
    exact ⟨_, rfl, hO2.cut0, (Ext.refl w).grown' hG2⟩

theorem flat_take (ls : List (List UInt8)) (i : Nat) (h : i < ls.length) : (ls.take (i + 1)).flatten = (ls.take i).flatten ++ ls.getD i [] := by
  rw [List.take_succ_eq_append_getElem h, List.flatten_append, List.getD_eq_getElem?_getD, List.getElem?_eq_getElem h]
  simp
theorem flat_take_le (ls : List (List UInt8)) (i : Nat) : (ls.take i).flatten.length ≤ ls.flatten.length := by
  conv => rhs; rw [← List.take_append_drop i ls, List.flatten_append, List.length_append]
  omega

set_option maxHeartbeats 2000000 in
set_option maxRecDepth 100000 in
theorem concat_any (A : Option Addr) (c : Nat) (ls : List (List UInt8)) (w : World) (hb : Parts w w.heap.size A ls.length ls) (hm : ls.length ≤ 1000000000) (htot : ls.flatten.length ≤ 1000000000) :
    Calls Try.prog 35 #[.slice A ls.length c] w (MadeB w ls.flatten) := by
  obtain ⟨_, hb⟩ := hb
  rcases hb with h0 | ⟨blk, off, rfl, hB, hcs⟩
  · obtain rfl := List.eq_nil_of_length_eq_zero h0
    have C := growNil_any 0 w (by omega)
    go_enter Try.func35, Try.ntmps35
    go_wp2
    go_loop [3, 11] (fun s i => s = .int .i64 0 ∧ i = .int .i64 0) (fun _ _ => 0)
    case atStart => exact ⟨rfl, rfl⟩
    case round =>
      obtain ⟨rfl, rfl⟩ := hrel
      go_wp2_with fail
      refine C.mono ?_
      rintro e w2 ⟨v2, rfl, hO2, hE2⟩
      go_wp2
      go_loopw [6, 27] (fun v i wr => i = .int .i64 0 ∧ OwnB wr w.heap.size v [] ∧ Ext w wr) (fun _ _ _ => 0)
      case atStart => exact ⟨rfl, hO2, hE2⟩
      case round =>
        obtain ⟨rfl, hO3, hE3⟩ := hrel
        go_wp2
        go_ret
        exact ⟨_, rfl, hO3, hE3⟩
  · obtain ⟨T, hT⟩ : ∃ T, T = ls.flatten.length := ⟨_, rfl⟩
    have CG := fun W => growNil_any T W (by omega)
    have HC := hide hcs
    have HT := hide htot
    have HTe := hide hT
    clear hT htot
    clear hcs
    go_enter Try.func35, Try.ntmps35
    go_wp2
    go_loop [3, 11] (fun s i => ∃ j : Nat, j ≤ ls.length ∧ i = .int .i64 (j : Int) ∧ s = .int .i64 (((ls.take j).flatten.length : Nat) : Int)) (fun _ i => ls.length - (intOf i).toNat)
    case atStart => exact ⟨0, by omega, rfl, by simp⟩
    case round =>
      obtain ⟨j, hj, rfl, rfl⟩ := hrel
      by_cases hlt : j < ls.length
      · obtain ⟨A', n', c', hc1, _, hb1⟩ := HC.out j hlt
        have hf := flat_take ls j hlt
        have hle := flat_take_le ls (j + 1)
        have hn' := hb1.1
        rw [hf, List.length_append, hn'] at hle
        have ht := HT.out
        have HF := hide hf
        obtain ⟨s, hs⟩ : ∃ s, s = (ls.take j).flatten.length := ⟨_, rfl⟩
        rw [← hs] at hle ⊢
        have hw : IntKind.i64.wrap ((s : Int) + (n' : Int)) = ((s + n' : Nat) : Int) := by rw [IntKind.wrap_i64]; omega
        have hpos : ¬ (((s + n' : Nat) : Int) < 0) := by omega
        have HS := hide hs
        have HN := hide hn'
        clear hf hb1 hs hn' ht
        go_wp2
        go_round
        case rel => exact ⟨j + 1, by omega, by go_num, by rw [HF.out, List.length_append, HN.out, ← HS.out]; go_num⟩
        case measure => simp [intOf]; omega
      · obtain rfl : j = ls.length := by omega
        rw [List.take_length, ← HTe.out]
        go_wp2_with fail
        refine (CG _).mono ?_
        rintro e w2 ⟨v2, rfl, hO2, hE2⟩
        go_wp2
        go_loopw [6, 27] (fun v i wr => ∃ j : Nat, j ≤ ls.length ∧ i = .int .i64 (j : Int) ∧ OwnB wr w.heap.size v (ls.take j).flatten ∧ Ext w wr) (fun _ i _ => ls.length - (intOf i).toNat)
        case atStart => exact ⟨0, by omega, rfl, by simpa using hO2, hE2⟩
        case round =>
          obtain ⟨j, hj, rfl, hO3, hE3⟩ := hrel
          by_cases hlt : j < ls.length
          · obtain ⟨A', n', c', hc1, _, hb1⟩ := HC.out j hlt
            have hc2 := (hE3.cell (i := off + j) hB).trans hc1
            have hb2 := hE3.bytes hb1
            have hf := flat_take ls j hlt
            have hle := flat_take_le ls (j + 1)
            rw [hf, List.length_append, hb1.1] at hle
            have HF := hide hf
            have hfit : (ls.take j).flatten.length + n' ≤ 140737488355328 := by have := HT.out; omega
            have hB3 := hE3.le
            clear hf hb1 hle hc1
            go_wp2_with (at_builtin; refine wpList_appAt rfl (.tmp 31) (.tmp 32) rfl rfl hO3 rfl hb2 hfit hB3 ?_; intro v4 w4 hO4 hG4 _)
            go_roundw
            case rel => exact ⟨j + 1, by omega, by go_num, by rw [HF.out]; exact hO4, hO3.below hE3 hG4 hB3⟩
            case measure => simp [intOf]; omega
          · obtain rfl : j = ls.length := by omega
            rw [List.take_length] at hO3
            go_wp2
            go_ret
            exact ⟨_, rfl, hO3, hE3⟩

theorem all_any (A : Option Addr) (c : Nat) (ls : List (List UInt8)) (w : World) (hb : Parts w w.heap.size A ls.length ls) (hm : ls.length ≤ 1000000000) (htot : ls.flatten.length ≤ 1000000000) :
    Calls Try.prog 18 #[.slice A ls.length c] w (MadeB w ls.flatten) := by
  have C := concat_any A c ls w hb hm htot
  clear hb
  go_enter Try.func18, Try.ntmps18
  go_wp2_with fail
  refine C.mono ?_
  rintro e w2 ⟨v2, rfl, hO2, hE2⟩
  go_wp2
  go_ret
  exact ⟨_, rfl, hO2, hE2⟩
end Go.Proofs.Ytgnmdpklkmlpfaa
