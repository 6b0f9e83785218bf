/- Contract of the program's Stack. -/
import Derived.Test.YtedkajpodepkiaaMatPAdd
import Derived.Test.YtedkajpodepkiaaMatPBase
import Derived.Test.YtedkajpodepkiaaMatStack
namespace Go.Proofs.Ytedkajpodepkiaa
open Go.RowKit

set_option maxHeartbeats 4000000 in
set_option maxRecDepth 100000 in
theorem matStack_any (L : List MIn) (A : Option Addr) (k : Nat) (w : World) (h : MatsAt w w.heap.size A L.length L) (hl : L.length ≤ 140737488355328) :
    Calls Try.prog 23 #[.slice A L.length k] w (MadeM w (stackE (L.map MIn.m)).1 (stackE (L.map MIn.m)).2) := by
  have hE := extNew w (.cells #[.int .i64 0, .int .i64 0, .slice none 0 0] 24)
  have hWr := Whole.new w 24 #[.int .i64 0, .int .i64 0, .slice none 0 0]
  have hWx := Whole.new (w.alloc (.cells #[.int .i64 0, .int .i64 0, .slice none 0 0] 24)) 24 #[.int .i64 0, .int .i64 0, .slice none 0 0]
  have hN := extNew (w.alloc (.cells #[.int .i64 0, .int .i64 0, .slice none 0 0] 24)) (.cells #[.int .i64 0, .int .i64 0, .slice none 0 0] 24)
  have hWrN := hWr.ext hN
  have hEN := hE.trans hN
  rw [World.size_alloc] at hWx
  by_cases h0 : L.length = 0
  · have hL : L = [] := List.eq_nil_of_length_eq_zero h0
    subst hL
    have HR := hide (show stackE (([] : List MIn).map MIn.m) = (MV.zero, 0) from rfl)
    rw [HR.out]
    clear HR h hl h0
    rw [show ([] : List MIn).length = 0 from rfl]
    clear hE hWr hN
    go_enter Try.func23, Try.ntmps23
    go_wp2_with fail
    go_loopw [9] (fun x wr => x = .int .i64 0 ∧ Whole wr (w.heap.size + 1) 24 #[.int .i64 0, .int .i64 0, .slice none 0 0] ∧ Whole wr w.heap.size 24 #[.int .i64 0, .int .i64 0, .slice none 0 0] ∧ Ext w wr) (fun _ _ => 0)
    case atStart => exact ⟨rfl, hWx, hWrN, hEN⟩
    case round =>
      obtain ⟨rfl, hWx2, hWr2, hE2⟩ := hrel
      go_wp2_with (first
        | (refine wpList_load_row rfl 24 (.tmp 4) rfl _ rfl _ _ _ _ hWx2 Try.underlying24 rfl mat_info ?_)
        | (refine wpList_storeW rfl 24 (.tmp 2) (.tmp 51) rfl rfl rfl hWr2 rfl mat_info (mat_one rfl) ?_; intro w5 hW5 hG5 _))
      refine bodyPost_ret (results_mat rfl _ rfl rfl hW5 rfl) rfl ?_
      exact MadeM.zero 0 (Below.grown hE2 hG5 hE2.le (fun k hk => by cases hk; omega))
  · rcases h.2 with h1 | ⟨gl, ol, rfl, hgl, hcs⟩
    · exact absurd h1 h0
    have HQ : stackE (L.map MIn.m) = stackGo (L.getD 0 default).m.c 0 [] ((L.map MIn.m).drop 0) := by
      rw [drop_mats (by omega : 0 < L.length)]
      have hd := drop_mats (by omega : 0 < L.length)
      rw [List.drop_zero] at hd
      rw [hd]
      rfl
    have c1 := (hcs 0 (by omega)).1.2.1
    have HC0 := hide (show (L.getD 0 default).m.c = (L.getD 0 default).m.c from rfl)
    rw [Nat.zero_mul, Nat.add_zero] at c1
    have HZ := hide (show ∀ i, i < L.length → i = 0 → (L.getD i default).m.c = (L.getD 0 default).m.c from fun i _ h => by rw [h])
    generalize (L.getD 0 default).m.c = C at *
    rw [HQ]
    clear HQ h HC0
    generalize hres : stackGo C 0 [] ((L.map MIn.m).drop 0) = res
    have HR := hide hres
    have HC := hide hcs
    have hpos : 0 < L.length := by omega
    clear hres hcs h0 hE hWr hN
    go_enter Try.func23, Try.ntmps23
    go_wp2_with fail
    obtain ⟨gx, hgx⟩ : ∃ gx, gx = w.heap.size + 1 := ⟨_, rfl⟩
    rw [← hgx] at hWx ⊢
    have hg1 : w.heap.size < gx := by omega
    clear hgx
    go_loopw [9] (fun x wr => ∃ (j : Nat) (R D : Int) (l : List UInt8), j ≤ L.length ∧ x = .int .i64 (j : Int) ∧ 0 ≤ R ∧ R ≤ 255 ∧ (l.length : Int) ≤ 255 * R ∧ (0 < j → D = C) ∧ stackGo C R l ((L.map MIn.m).drop j) = res ∧ Made wr (gx + 1) gx R D l ∧ Whole wr w.heap.size 24 #[.int .i64 0, .int .i64 0, .slice none 0 0] ∧ Ext w wr) (fun x _ => L.length - (intOf x).toNat)
    case atStart => exact ⟨0, 0, 0, [], by omega, rfl, by omega, by omega, by simp, fun h => absurd h (by omega), HR.out, ⟨_, hWx, OwnB.nil _ _⟩, hWrN, hEN⟩
    case round =>
      obtain ⟨i, R, D, l, hi, rfl, hR0, hR1, hlR, hD, hgo, ⟨v, hWv, hO⟩, hWrr, hEr⟩ := hrel
      by_cases hlt : i < L.length
      · obtain ⟨hat, hBx, hlx, hlk⟩ := HC.out i hlt
        clear hlk
        rw [stackGo_at hlt] at hgo
        have hat' := hat.ext hEr hgl
        have hglr : gl < wr.heap.size := Nat.lt_of_lt_of_le hgl hEr.le
        have r1 := (hEr.cell (i := ol + 1) hgl).trans c1
        generalize L.getD i default = x at *
        obtain ⟨⟨mr, mc, ml⟩, Ax, kx⟩ := x
        dsimp only at *
        obtain ⟨a0, a1, a2⟩ := hat'
        dsimp only at a0 a1 a2
        obtain ⟨A3, n3, c3, rfl, _, _, _⟩ := hO.form'
        have C0 := fun W => matMay_any ⟨mr, mc, ml⟩ Ax kx W hlx
        unfold MV.arg at C0
        dsimp only at C0
        have HG := hide hgo
        have HBX := hide hBx
        have hWn := Whole.new wr 24 #[.int .i64 0, .int .i64 0, .slice none 0 0]
        have hEn := extNew wr (.cells #[.int .i64 0, .int .i64 0, .slice none 0 0] 24)
        clear hgo hat hBx
        go_wp2_with (refine wpList_storeW rfl 24 (.tmp 6) (.tmp 12) rfl rfl rfl hWn rfl mat_info (mat_one rfl) ?_; intro w5 hWm hG5 _)
        have hE5 : Ext wr w5 := Below.grown hEn hG5 hEn.le (fun k hk => by cases hk; exact Nat.le_refl _)
        have hEr5 := hEr.trans hE5
        have hWv5 := hWv.ext hE5
        have hO5 := hO.ext hE5
        have hWr5 := hWrr.ext hE5
        have z1 := (hE5.cell (i := ol + 1) hglr).trans r1
        have hgl5 : gl < w5.heap.size := Nat.lt_of_lt_of_le hglr hE5.le
        have hgxm : gx < wr.heap.size := hWv.lt
        obtain ⟨gm, hgm⟩ : ∃ gm, gm = wr.heap.size := ⟨_, rfl⟩
        rw [← hgm] at hWm ⊢
        have hgmx : gm ≠ gx := by omega
        have hgmw : gm ≠ w.heap.size := by omega
        clear a0 a1 a2 r1 hWn hEn hG5 hWv hO hWrr hgm hEr hE5
        have i1 : (0 : Int) < (L.length : Int) := by omega
        by_cases hmay : MV.may ⟨mr, mc, ml⟩ = true
        · rw [hmay] at C0
          obtain ⟨q1, q2, q3, q4, q5⟩ := MV.may_iff.1 hmay
          dsimp only at q1 q2 q3 q4 q5
          have hsum : IntKind.i64.wrap (R + mr) = R + mr := by rw [IntKind.wrap_i64]; omega
          have CC := counts_any (R + mr)
          have HM := hide hmay
          have HQ5 := hide q5
          clear hmay q5
          by_cases hcc : mc = C
          · by_cases hsm : R + mr ≤ 255
            · rw [decide_eq_true ⟨by omega, hsm⟩] at CC
              have HY := hide (show stackGo C (R + mr) (l ++ ml) ((L.map MIn.m).drop (i + 1)) = res by rw [← HG.out, if_pos]; exact ⟨HM.out, hcc, hsm⟩)
              have hcc' : (mc != C) = false := by simpa using hcc
              have HCC := hide hcc
              clear hcc
              go_wp2_with fail
              refine wp_region_T (fun W => Ext w5 W) 20 21 #[false, false, false, false, false, false, false, false, false, false, false, false, false, false, false, false, false, false, false, false, false] (by kernel_rfl) rfl rfl (Ext.refl w5).drew ?_
              intro hS0
              refine wpAnyT_take 0 (some 13) (.agg #[.int .i64 mr, .int .i64 mc, .slice Ax ml.length kx]) #[true, false, false, false, false, false, false, false, false, false, false, false, false, false, false, false, false, false, false, false, false] rfl rfl rfl (by kernel_rfl) (fun _ _ _ h => h) hS0 (by rfl) (fun W hX => by have s0 := (hWm.ext hX).at 0 (u := .int .i64 mr) rfl; have s1 := (hWm.ext hX).at 1 (u := .int .i64 mc) rfl; have s2 := (hWm.ext hX).at 2 (u := .slice Ax ml.length kx) rfl; go_simp) ?_
              simp only [Act.put, List.setIfInBounds_toArray, List.set_cons_zero, List.set_cons_succ]
              refine wpAnyT_only 1 #[true, true, false, false, false, false, false, false, false, false, false, false, false, false, false, false, false, false, false, false, false] (by kernel_rfl) rfl rfl (by rfl) (fun K2 hK2 => ?_)
              go_simp
              go_at_call 15
              refine (C0 _).mono ?_
              rintro e w6 ⟨rfl, hE6⟩
              have hX := hS0.trans hE6
              refine hK2 _ _ (fun _ => hX) ?_
              clear hK2 K2
              refine wpAnyT_take 2 (some 15) (.bool false) #[true, true, true, false, false, false, false, false, false, false, false, false, false, false, false, false, false, false, false, false, false] rfl rfl rfl (by kernel_rfl) (fun _ _ _ h => h) hX (by rfl) (fun W hX => by go_simp) ?_
              simp only [Act.put, List.setIfInBounds_toArray, List.set_cons_zero, List.set_cons_succ]
              refine wpAnyT_take 3 (some 16) (.bool false) #[true, true, true, true, false, false, false, false, false, false, false, false, false, false, false, false, false, false, false, false, false] rfl rfl rfl (by kernel_rfl) (fun _ _ _ h => h) hX (by rfl) (fun W hX => by go_simp) ?_
              simp only [Act.put, List.setIfInBounds_toArray, List.set_cons_zero, List.set_cons_succ]
              refine wpAnyT_take 4 (some 17) (.pointer (some ⟨gm, 1, none⟩)) #[true, true, true, true, true, false, false, false, false, false, false, false, false, false, false, false, false, false, false, false, false] rfl rfl rfl (by kernel_rfl) (fun _ _ _ h => h) hX (by rfl) (fun W hX => by go_simp) ?_
              simp only [Act.put, List.setIfInBounds_toArray, List.set_cons_zero, List.set_cons_succ]
              refine wpAnyT_take 5 (some 18) (.int .i64 mc) #[true, true, true, true, true, true, false, false, false, false, false, false, false, false, false, false, false, false, false, false, false] rfl rfl rfl (by kernel_rfl) (fun _ _ _ h => h) hX (by rfl) (fun W hX => by have s0 := (hWm.ext hX).at 1 (u := .int .i64 mc) rfl; go_simp) ?_
              simp only [Act.put, List.setIfInBounds_toArray, List.set_cons_zero, List.set_cons_succ]
              refine wpAnyT_take 6 (some 19) (.slice (some ⟨gl, ol, none⟩) L.length k) #[true, true, true, true, true, true, true, false, false, false, false, false, false, false, false, false, false, false, false, false, false] rfl rfl rfl (by kernel_rfl) (fun _ _ _ h => h) hX (by rfl) (fun W hX => by go_simp) ?_
              simp only [Act.put, List.setIfInBounds_toArray, List.set_cons_zero, List.set_cons_succ]
              refine wpAnyT_take 7 (some 20) (.pointer (some ⟨gl, ol, none⟩)) #[true, true, true, true, true, true, true, true, false, false, false, false, false, false, false, false, false, false, false, false, false] rfl rfl rfl (by kernel_rfl) (fun _ _ _ h => h) hX (by rfl) (fun W hX => by go_simp) ?_
              simp only [Act.put, List.setIfInBounds_toArray, List.set_cons_zero, List.set_cons_succ]
              refine wpAnyT_take 8 (some 21) (.pointer (some ⟨gl, ol + 1, none⟩)) #[true, true, true, true, true, true, true, true, true, false, false, false, false, false, false, false, false, false, false, false, false] rfl rfl rfl (by kernel_rfl) (fun _ _ _ h => h) hX (by rfl) (fun W hX => by go_simp) ?_
              simp only [Act.put, List.setIfInBounds_toArray, List.set_cons_zero, List.set_cons_succ]
              refine wpAnyT_take 9 (some 22) (.int .i64 C) #[true, true, true, true, true, true, true, true, true, true, false, false, false, false, false, false, false, false, false, false, false] rfl rfl rfl (by kernel_rfl) (fun _ _ _ h => h) hX (by rfl) (fun W hX => by have s0 := (hX.cell (i := ol + 1) hgl5).trans z1; go_simp) ?_
              simp only [Act.put, List.setIfInBounds_toArray, List.set_cons_zero, List.set_cons_succ]
              refine wpAnyT_take 10 (some 23) (.bool false) #[true, true, true, true, true, true, true, true, true, true, true, false, false, false, false, false, false, false, false, false, false] rfl rfl rfl (by kernel_rfl) (fun _ _ _ h => h) hX (by rfl) (fun W hX => by go_simp) ?_
              simp only [Act.put, List.setIfInBounds_toArray, List.set_cons_zero, List.set_cons_succ]
              refine wpAnyT_take 11 (some 24) (.bool false) #[true, true, true, true, true, true, true, true, true, true, true, true, false, false, false, false, false, false, false, false, false] rfl rfl rfl (by kernel_rfl) (fun _ _ _ h => h) hX (by rfl) (fun W hX => by go_simp) ?_
              simp only [Act.put, List.setIfInBounds_toArray, List.set_cons_zero, List.set_cons_succ]
              refine wpAnyT_take 12 (some 25) (.bool false) #[true, true, true, true, true, true, true, true, true, true, true, true, true, false, false, false, false, false, false, false, false] rfl rfl rfl (by kernel_rfl) (fun _ _ _ h => h) hX (by rfl) (fun W hX => by go_simp) ?_
              simp only [Act.put, List.setIfInBounds_toArray, List.set_cons_zero, List.set_cons_succ]
              refine wpAnyT_take 13 (some 26) (.pointer (some ⟨gx, 0, none⟩)) #[true, true, true, true, true, true, true, true, true, true, true, true, true, true, false, false, false, false, false, false, false] rfl rfl rfl (by kernel_rfl) (fun _ _ _ h => h) hX (by rfl) (fun W hX => by go_simp) ?_
              simp only [Act.put, List.setIfInBounds_toArray, List.set_cons_zero, List.set_cons_succ]
              refine wpAnyT_take 14 (some 27) (.int .i64 R) #[true, true, true, true, true, true, true, true, true, true, true, true, true, true, true, false, false, false, false, false, false] rfl rfl rfl (by kernel_rfl) (fun _ _ _ h => h) hX (by rfl) (fun W hX => by have s0 := (hWv5.ext hX).at 0 (u := .int .i64 R) rfl; go_simp) ?_
              simp only [Act.put, List.setIfInBounds_toArray, List.set_cons_zero, List.set_cons_succ]
              refine wpAnyT_take 15 (some 28) (.pointer (some ⟨gm, 0, none⟩)) #[true, true, true, true, true, true, true, true, true, true, true, true, true, true, true, true, false, false, false, false, false] rfl rfl rfl (by kernel_rfl) (fun _ _ _ h => h) hX (by rfl) (fun W hX => by go_simp) ?_
              simp only [Act.put, List.setIfInBounds_toArray, List.set_cons_zero, List.set_cons_succ]
              refine wpAnyT_take 16 (some 29) (.int .i64 mr) #[true, true, true, true, true, true, true, true, true, true, true, true, true, true, true, true, true, false, false, false, false] rfl rfl rfl (by kernel_rfl) (fun _ _ _ h => h) hX (by rfl) (fun W hX => by have s0 := (hWm.ext hX).at 0 (u := .int .i64 mr) rfl; go_simp) ?_
              simp only [Act.put, List.setIfInBounds_toArray, List.set_cons_zero, List.set_cons_succ]
              refine wpAnyT_take 17 (some 30) (.int .i64 (R + mr)) #[true, true, true, true, true, true, true, true, true, true, true, true, true, true, true, true, true, true, false, false, false] rfl rfl rfl (by kernel_rfl) (fun _ _ _ h => h) hX (by rfl) (fun W hX => by go_simp) ?_
              simp only [Act.put, List.setIfInBounds_toArray, List.set_cons_zero, List.set_cons_succ]
              refine wpAnyT_only 18 #[true, true, true, true, true, true, true, true, true, true, true, true, true, true, true, true, true, true, true, false, false] (by kernel_rfl) rfl rfl (by rfl) (fun K2 hK2 => ?_)
              go_simp
              go_at_call 33
              refine (CC _).mono ?_
              rintro e w7 ⟨rfl, rfl⟩
              refine hK2 _ _ (fun _ => hX) ?_
              clear hK2 K2
              refine wpAnyT_take 19 (some 32) (.bool false) #[true, true, true, true, true, true, true, true, true, true, true, true, true, true, true, true, true, true, true, true, false] rfl rfl rfl (by kernel_rfl) (fun _ _ _ h => h) hX (by rfl) (fun W hX => by go_simp) ?_
              simp only [Act.put, List.setIfInBounds_toArray, List.set_cons_zero, List.set_cons_succ]
              refine wpAnyT_only 20 #[true, true, true, true, true, true, true, true, true, true, true, true, true, true, true, true, true, true, true, true, true] (by kernel_rfl) rfl rfl (by rfl) (fun K2 hK2 => ?_)
              go_simp
              refine hK2 _ _ (fun h => absurd h (by decide)) ?_
              clear hK2 K2
              refine wpAnyT_done (by kernel_rfl) ?_ _
              have hp1 : mr * mc ≤ mr * 255 := Int.mul_le_mul_of_nonneg_left q4 q1
              have hml : (ml.length : Int) ≤ 255 * mr := by have := HQ5.out; omega
              have hfit : l.length + ml.length ≤ 140737488355328 := by omega
              have HML := hide hml
              have HSM := hide hsm
              have hWd := hWv5.ext hX
              have hOd := hO5.ext hX
              have hWrd := hWr5.ext hX
              have hWmd := hWm.ext hX
              have hEd := hEr5.trans hX
              have hne1 : (Value.slice A3 n3 c3).ownBlock ≠ some gx := fun e => by
                have := (hO5.lt _ e).1
                omega
              have hne2 : (Value.slice A3 n3 c3).ownBlock ≠ some w.heap.size := fun e => by
                have := (hO5.lt _ e).1
                omega
              have hx0 : (some gx : Option Nat) ≠ some w.heap.size := by simp; omega
              have hx1 : ∀ k, (some gx : Option Nat) = some k → w.heap.size ≤ k := fun k hk => by cases hk; omega
              have u0 := hWd.at 0 (u := .int .i64 R) rfl
              have v0 := hWmd.at 0 (u := .int .i64 mr) rfl
              clear C0 CC hp1 hml hWv5 hO5 hWr5 hWm hX z1 hEr5 hsm
              go_wp2_with (first
                | (refine wpList_storeC rfl 3 (.tmp 40) (.tmp 39) rfl #[.int .i64 (R + mr), .int .i64 D, .slice A3 n3 c3] rfl rfl hWd (by simp) (by kernel_rfl) rfl rfl rfl ?_; intro w7 hW7 hG7; have hWm7 := hWmd.grown hG7 hgmx; have v1 := hWm7.at 1 (u := .int .i64 mc) rfl; have hO7 := (Mod.ofRow (ob := none) hG7).own hOd hne1 (by simp [Classical.em]); have hWr7 := hWrd.ownGrown hG7 hx0; have hE7 : Ext w w7 := Below.grown hEd hG7 hEd.le hx1)
                | (refine wpList_storeC rfl 3 (.tmp 43) (.tmp 42) rfl #[.int .i64 (R + mr), .int .i64 mc, .slice A3 n3 c3] rfl rfl hW7 (by simp) (by kernel_rfl) rfl rfl rfl ?_; intro w8 hW8 hG8; have hWm8 := hWm7.grown hG8 hgmx; have v2 := hWm8.at 2 (u := .slice Ax ml.length kx) rfl; have u2 := hW8.at 2 (u := .slice A3 n3 c3) rfl; have hO8 := (Mod.ofRow (ob := none) hG8).own hO7 hne1 (by simp [Classical.em]); have hWr8 := hWr7.ownGrown hG8 hx0; have hE8 : Ext w w8 := Below.grown hE7 hG8 hE7.le hx1; have hB8 := hE8.bytes HBX.out; have hB9 : gx + 1 ≤ w8.heap.size := hW8.lt)
                | (at_builtin; refine wpList_appAt rfl (.tmp 45) (.tmp 47) rfl rfl hO8 rfl hB8 hfit hB9 ?_; intro v9 w9 hO9 hG9 _; have hW9 := hW8.ownGrown hG9 hne1; have o1 := hO9.one; have o2 := hO9.cells1)
                | (refine wpList_storeC rfl 22 (.tmp 49) (.tmp 48) rfl #[.int .i64 (R + mr), .int .i64 mc, v9] rfl rfl hW9 (by simp) (by kernel_rfl) o1 o2 rfl ?_; intro w10 hW10 hG10))
              go_roundw
              case rel =>
                have hne9 : v9.ownBlock ≠ some gx := fun e => by
                  have := (hO9.lt _ e).1
                  omega
                have hF9 : Ext w w9 := Below.grown hE8 hG9 hE8.le (fun k hk => by have := (hO8.lt k hk).1; omega)
                have hF10 : Ext w w10 := Below.grown hF9 hG10 hF9.le (fun k hk => by cases hk; omega)
                have hWr10 := (hWr8.ownGrown hG9 hne2).ownGrown hG10 (by simp; omega)
                exact ⟨i + 1, R + mr, mc, l ++ ml, by omega, by go_num, by omega, HSM.out, by rw [List.length_append]; have := HML.out; omega, fun _ => HCC.out, HY.out, ⟨v9, hW10, (Mod.ofRow (ob := none) hG10).own hO9 hne9 (by simp [Classical.em])⟩, hWr10, hF10⟩
              case measure => simp [intOf]; omega
            · rw [decide_eq_false (fun h => hsm h.2)] at CC
              have HN := hide (show (MV.zero, (13 : Int)) = res by rw [← HG.out, if_neg]; rintro ⟨_, _, h⟩; exact hsm h)
              have hcc' : (mc != C) = false := by simpa using hcc
              clear hcc
              go_wp2_with fail
              refine wp_region_T (fun W => Ext w5 W) 20 21 #[false, false, false, false, false, false, false, false, false, false, false, false, false, false, false, false, false, false, false, false, false] (by kernel_rfl) rfl rfl (Ext.refl w5).drew ?_
              intro hS0
              refine wpAnyT_take 0 (some 13) (.agg #[.int .i64 mr, .int .i64 mc, .slice Ax ml.length kx]) #[true, false, false, false, false, false, false, false, false, false, false, false, false, false, false, false, false, false, false, false, false] rfl rfl rfl (by kernel_rfl) (fun _ _ _ h => h) hS0 (by rfl) (fun W hX => by have s0 := (hWm.ext hX).at 0 (u := .int .i64 mr) rfl; have s1 := (hWm.ext hX).at 1 (u := .int .i64 mc) rfl; have s2 := (hWm.ext hX).at 2 (u := .slice Ax ml.length kx) rfl; go_simp) ?_
              simp only [Act.put, List.setIfInBounds_toArray, List.set_cons_zero, List.set_cons_succ]
              refine wpAnyT_only 1 #[true, true, false, false, false, false, false, false, false, false, false, false, false, false, false, false, false, false, false, false, false] (by kernel_rfl) rfl rfl (by rfl) (fun K2 hK2 => ?_)
              go_simp
              go_at_call 15
              refine (C0 _).mono ?_
              rintro e w6 ⟨rfl, hE6⟩
              have hX := hS0.trans hE6
              refine hK2 _ _ (fun _ => hX) ?_
              clear hK2 K2
              refine wpAnyT_take 2 (some 15) (.bool false) #[true, true, true, false, false, false, false, false, false, false, false, false, false, false, false, false, false, false, false, false, false] rfl rfl rfl (by kernel_rfl) (fun _ _ _ h => h) hX (by rfl) (fun W hX => by go_simp) ?_
              simp only [Act.put, List.setIfInBounds_toArray, List.set_cons_zero, List.set_cons_succ]
              refine wpAnyT_take 3 (some 16) (.bool false) #[true, true, true, true, false, false, false, false, false, false, false, false, false, false, false, false, false, false, false, false, false] rfl rfl rfl (by kernel_rfl) (fun _ _ _ h => h) hX (by rfl) (fun W hX => by go_simp) ?_
              simp only [Act.put, List.setIfInBounds_toArray, List.set_cons_zero, List.set_cons_succ]
              refine wpAnyT_take 4 (some 17) (.pointer (some ⟨gm, 1, none⟩)) #[true, true, true, true, true, false, false, false, false, false, false, false, false, false, false, false, false, false, false, false, false] rfl rfl rfl (by kernel_rfl) (fun _ _ _ h => h) hX (by rfl) (fun W hX => by go_simp) ?_
              simp only [Act.put, List.setIfInBounds_toArray, List.set_cons_zero, List.set_cons_succ]
              refine wpAnyT_take 5 (some 18) (.int .i64 mc) #[true, true, true, true, true, true, false, false, false, false, false, false, false, false, false, false, false, false, false, false, false] rfl rfl rfl (by kernel_rfl) (fun _ _ _ h => h) hX (by rfl) (fun W hX => by have s0 := (hWm.ext hX).at 1 (u := .int .i64 mc) rfl; go_simp) ?_
              simp only [Act.put, List.setIfInBounds_toArray, List.set_cons_zero, List.set_cons_succ]
              refine wpAnyT_take 6 (some 19) (.slice (some ⟨gl, ol, none⟩) L.length k) #[true, true, true, true, true, true, true, false, false, false, false, false, false, false, false, false, false, false, false, false, false] rfl rfl rfl (by kernel_rfl) (fun _ _ _ h => h) hX (by rfl) (fun W hX => by go_simp) ?_
              simp only [Act.put, List.setIfInBounds_toArray, List.set_cons_zero, List.set_cons_succ]
              refine wpAnyT_take 7 (some 20) (.pointer (some ⟨gl, ol, none⟩)) #[true, true, true, true, true, true, true, true, false, false, false, false, false, false, false, false, false, false, false, false, false] rfl rfl rfl (by kernel_rfl) (fun _ _ _ h => h) hX (by rfl) (fun W hX => by go_simp) ?_
              simp only [Act.put, List.setIfInBounds_toArray, List.set_cons_zero, List.set_cons_succ]
              refine wpAnyT_take 8 (some 21) (.pointer (some ⟨gl, ol + 1, none⟩)) #[true, true, true, true, true, true, true, true, true, false, false, false, false, false, false, false, false, false, false, false, false] rfl rfl rfl (by kernel_rfl) (fun _ _ _ h => h) hX (by rfl) (fun W hX => by go_simp) ?_
              simp only [Act.put, List.setIfInBounds_toArray, List.set_cons_zero, List.set_cons_succ]
              refine wpAnyT_take 9 (some 22) (.int .i64 C) #[true, true, true, true, true, true, true, true, true, true, false, false, false, false, false, false, false, false, false, false, false] rfl rfl rfl (by kernel_rfl) (fun _ _ _ h => h) hX (by rfl) (fun W hX => by have s0 := (hX.cell (i := ol + 1) hgl5).trans z1; go_simp) ?_
              simp only [Act.put, List.setIfInBounds_toArray, List.set_cons_zero, List.set_cons_succ]
              refine wpAnyT_take 10 (some 23) (.bool false) #[true, true, true, true, true, true, true, true, true, true, true, false, false, false, false, false, false, false, false, false, false] rfl rfl rfl (by kernel_rfl) (fun _ _ _ h => h) hX (by rfl) (fun W hX => by go_simp) ?_
              simp only [Act.put, List.setIfInBounds_toArray, List.set_cons_zero, List.set_cons_succ]
              refine wpAnyT_take 11 (some 24) (.bool false) #[true, true, true, true, true, true, true, true, true, true, true, true, false, false, false, false, false, false, false, false, false] rfl rfl rfl (by kernel_rfl) (fun _ _ _ h => h) hX (by rfl) (fun W hX => by go_simp) ?_
              simp only [Act.put, List.setIfInBounds_toArray, List.set_cons_zero, List.set_cons_succ]
              refine wpAnyT_take 12 (some 25) (.bool false) #[true, true, true, true, true, true, true, true, true, true, true, true, true, false, false, false, false, false, false, false, false] rfl rfl rfl (by kernel_rfl) (fun _ _ _ h => h) hX (by rfl) (fun W hX => by go_simp) ?_
              simp only [Act.put, List.setIfInBounds_toArray, List.set_cons_zero, List.set_cons_succ]
              refine wpAnyT_take 13 (some 26) (.pointer (some ⟨gx, 0, none⟩)) #[true, true, true, true, true, true, true, true, true, true, true, true, true, true, false, false, false, false, false, false, false] rfl rfl rfl (by kernel_rfl) (fun _ _ _ h => h) hX (by rfl) (fun W hX => by go_simp) ?_
              simp only [Act.put, List.setIfInBounds_toArray, List.set_cons_zero, List.set_cons_succ]
              refine wpAnyT_take 14 (some 27) (.int .i64 R) #[true, true, true, true, true, true, true, true, true, true, true, true, true, true, true, false, false, false, false, false, false] rfl rfl rfl (by kernel_rfl) (fun _ _ _ h => h) hX (by rfl) (fun W hX => by have s0 := (hWv5.ext hX).at 0 (u := .int .i64 R) rfl; go_simp) ?_
              simp only [Act.put, List.setIfInBounds_toArray, List.set_cons_zero, List.set_cons_succ]
              refine wpAnyT_take 15 (some 28) (.pointer (some ⟨gm, 0, none⟩)) #[true, true, true, true, true, true, true, true, true, true, true, true, true, true, true, true, false, false, false, false, false] rfl rfl rfl (by kernel_rfl) (fun _ _ _ h => h) hX (by rfl) (fun W hX => by go_simp) ?_
              simp only [Act.put, List.setIfInBounds_toArray, List.set_cons_zero, List.set_cons_succ]
              refine wpAnyT_take 16 (some 29) (.int .i64 mr) #[true, true, true, true, true, true, true, true, true, true, true, true, true, true, true, true, true, false, false, false, false] rfl rfl rfl (by kernel_rfl) (fun _ _ _ h => h) hX (by rfl) (fun W hX => by have s0 := (hWm.ext hX).at 0 (u := .int .i64 mr) rfl; go_simp) ?_
              simp only [Act.put, List.setIfInBounds_toArray, List.set_cons_zero, List.set_cons_succ]
              refine wpAnyT_take 17 (some 30) (.int .i64 (R + mr)) #[true, true, true, true, true, true, true, true, true, true, true, true, true, true, true, true, true, true, false, false, false] rfl rfl rfl (by kernel_rfl) (fun _ _ _ h => h) hX (by rfl) (fun W hX => by go_simp) ?_
              simp only [Act.put, List.setIfInBounds_toArray, List.set_cons_zero, List.set_cons_succ]
              refine wpAnyT_only 18 #[true, true, true, true, true, true, true, true, true, true, true, true, true, true, true, true, true, true, true, false, false] (by kernel_rfl) rfl rfl (by rfl) (fun K2 hK2 => ?_)
              go_simp
              go_at_call 33
              refine (CC _).mono ?_
              rintro e w7 ⟨rfl, rfl⟩
              refine hK2 _ _ (fun _ => hX) ?_
              clear hK2 K2
              refine wpAnyT_take 19 (some 32) (.bool true) #[true, true, true, true, true, true, true, true, true, true, true, true, true, true, true, true, true, true, true, true, false] rfl rfl rfl (by kernel_rfl) (fun _ _ _ h => h) hX (by rfl) (fun W hX => by go_simp) ?_
              simp only [Act.put, List.setIfInBounds_toArray, List.set_cons_zero, List.set_cons_succ]
              refine wpAnyT_only 20 #[true, true, true, true, true, true, true, true, true, true, true, true, true, true, true, true, true, true, true, true, true] (by kernel_rfl) rfl rfl (by rfl) (fun K2 hK2 => ?_)
              go_simp
              refine hK2 _ _ (fun h => absurd h (by decide)) ?_
              clear hK2 K2
              refine wpAnyT_done (by kernel_rfl) ?_ _
              have hWz := hWr5.ext hX
              go_wp2_with (refine wpList_storeW rfl 24 (.tmp 2) (.tmp 34) rfl rfl rfl hWz rfl mat_info (mat_one rfl) ?_; intro w8 hW8 hG8 _)
              refine bodyPost_ret (results_mat rfl _ rfl rfl hW8 rfl) rfl ?_
              rw [← HN.out]
              exact MadeM.zero 13 (Below.grown (hEr5.trans hX) hG8 (hEr5.trans hX).le (fun k hk => by cases hk; omega))
          · have HN := hide (show (MV.zero, (13 : Int)) = res by rw [← HG.out, if_neg]; rintro ⟨_, h, _⟩; exact hcc h)
            have hcc' : (mc != C) = true := by simpa using hcc
            clear hcc
            go_wp2_with fail
            refine wp_region_T (fun W => Ext w5 W) 20 21 #[false, false, false, false, false, false, false, false, false, false, false, false, false, false, false, false, false, false, false, false, false] (by kernel_rfl) rfl rfl (Ext.refl w5).drew ?_
            intro hS0
            refine wpAnyT_take 0 (some 13) (.agg #[.int .i64 mr, .int .i64 mc, .slice Ax ml.length kx]) #[true, false, false, false, false, false, false, false, false, false, false, false, false, false, false, false, false, false, false, false, false] rfl rfl rfl (by kernel_rfl) (fun _ _ _ h => h) hS0 (by rfl) (fun W hX => by have s0 := (hWm.ext hX).at 0 (u := .int .i64 mr) rfl; have s1 := (hWm.ext hX).at 1 (u := .int .i64 mc) rfl; have s2 := (hWm.ext hX).at 2 (u := .slice Ax ml.length kx) rfl; go_simp) ?_
            simp only [Act.put, List.setIfInBounds_toArray, List.set_cons_zero, List.set_cons_succ]
            refine wpAnyT_only 1 #[true, true, false, false, false, false, false, false, false, false, false, false, false, false, false, false, false, false, false, false, false] (by kernel_rfl) rfl rfl (by rfl) (fun K2 hK2 => ?_)
            go_simp
            go_at_call 15
            refine (C0 _).mono ?_
            rintro e w6 ⟨rfl, hE6⟩
            have hX := hS0.trans hE6
            refine hK2 _ _ (fun _ => hX) ?_
            clear hK2 K2
            refine wpAnyT_take 2 (some 15) (.bool false) #[true, true, true, false, false, false, false, false, false, false, false, false, false, false, false, false, false, false, false, false, false] rfl rfl rfl (by kernel_rfl) (fun _ _ _ h => h) hX (by rfl) (fun W hX => by go_simp) ?_
            simp only [Act.put, List.setIfInBounds_toArray, List.set_cons_zero, List.set_cons_succ]
            refine wpAnyT_take 3 (some 16) (.bool false) #[true, true, true, true, false, false, false, false, false, false, false, false, false, false, false, false, false, false, false, false, false] rfl rfl rfl (by kernel_rfl) (fun _ _ _ h => h) hX (by rfl) (fun W hX => by go_simp) ?_
            simp only [Act.put, List.setIfInBounds_toArray, List.set_cons_zero, List.set_cons_succ]
            refine wpAnyT_take 4 (some 17) (.pointer (some ⟨gm, 1, none⟩)) #[true, true, true, true, true, false, false, false, false, false, false, false, false, false, false, false, false, false, false, false, false] rfl rfl rfl (by kernel_rfl) (fun _ _ _ h => h) hX (by rfl) (fun W hX => by go_simp) ?_
            simp only [Act.put, List.setIfInBounds_toArray, List.set_cons_zero, List.set_cons_succ]
            refine wpAnyT_take 5 (some 18) (.int .i64 mc) #[true, true, true, true, true, true, false, false, false, false, false, false, false, false, false, false, false, false, false, false, false] rfl rfl rfl (by kernel_rfl) (fun _ _ _ h => h) hX (by rfl) (fun W hX => by have s0 := (hWm.ext hX).at 1 (u := .int .i64 mc) rfl; go_simp) ?_
            simp only [Act.put, List.setIfInBounds_toArray, List.set_cons_zero, List.set_cons_succ]
            refine wpAnyT_take 6 (some 19) (.slice (some ⟨gl, ol, none⟩) L.length k) #[true, true, true, true, true, true, true, false, false, false, false, false, false, false, false, false, false, false, false, false, false] rfl rfl rfl (by kernel_rfl) (fun _ _ _ h => h) hX (by rfl) (fun W hX => by go_simp) ?_
            simp only [Act.put, List.setIfInBounds_toArray, List.set_cons_zero, List.set_cons_succ]
            refine wpAnyT_take 7 (some 20) (.pointer (some ⟨gl, ol, none⟩)) #[true, true, true, true, true, true, true, true, false, false, false, false, false, false, false, false, false, false, false, false, false] rfl rfl rfl (by kernel_rfl) (fun _ _ _ h => h) hX (by rfl) (fun W hX => by go_simp) ?_
            simp only [Act.put, List.setIfInBounds_toArray, List.set_cons_zero, List.set_cons_succ]
            refine wpAnyT_take 8 (some 21) (.pointer (some ⟨gl, ol + 1, none⟩)) #[true, true, true, true, true, true, true, true, true, false, false, false, false, false, false, false, false, false, false, false, false] rfl rfl rfl (by kernel_rfl) (fun _ _ _ h => h) hX (by rfl) (fun W hX => by go_simp) ?_
            simp only [Act.put, List.setIfInBounds_toArray, List.set_cons_zero, List.set_cons_succ]
            refine wpAnyT_take 9 (some 22) (.int .i64 C) #[true, true, true, true, true, true, true, true, true, true, false, false, false, false, false, false, false, false, false, false, false] rfl rfl rfl (by kernel_rfl) (fun _ _ _ h => h) hX (by rfl) (fun W hX => by have s0 := (hX.cell (i := ol + 1) hgl5).trans z1; go_simp) ?_
            simp only [Act.put, List.setIfInBounds_toArray, List.set_cons_zero, List.set_cons_succ]
            refine wpAnyT_take 10 (some 23) (.bool true) #[true, true, true, true, true, true, true, true, true, true, true, false, false, false, false, false, false, false, false, false, false] rfl rfl rfl (by kernel_rfl) (fun _ _ _ h => h) hX (by rfl) (fun W hX => by go_simp) ?_
            simp only [Act.put, List.setIfInBounds_toArray, List.set_cons_zero, List.set_cons_succ]
            refine wpAnyT_take 11 (some 24) (.bool true) #[true, true, true, true, true, true, true, true, true, true, true, true, false, false, false, false, false, false, false, false, false] rfl rfl rfl (by kernel_rfl) (fun _ _ _ h => h) hX (by rfl) (fun W hX => by go_simp) ?_
            simp only [Act.put, List.setIfInBounds_toArray, List.set_cons_zero, List.set_cons_succ]
            refine wpAnyT_take 12 (some 25) (.bool true) #[true, true, true, true, true, true, true, true, true, true, true, true, true, false, false, false, false, false, false, false, false] rfl rfl rfl (by kernel_rfl) (fun _ _ _ h => h) hX (by rfl) (fun W hX => by go_simp) ?_
            simp only [Act.put, List.setIfInBounds_toArray, List.set_cons_zero, List.set_cons_succ]
            refine wpAnyT_skip 13 (some 26) #[true, true, true, true, true, true, true, true, true, true, true, true, true, true, false, false, false, false, false, false, false] rfl rfl rfl (by kernel_rfl) (fun _ _ _ h => h) hX (by rfl) ?_
            simp only [Act.put, List.setIfInBounds_toArray, List.set_cons_zero, List.set_cons_succ]
            refine wpAnyT_skip 14 (some 27) #[true, true, true, true, true, true, true, true, true, true, true, true, true, true, true, false, false, false, false, false, false] rfl rfl rfl (by kernel_rfl) (fun _ _ _ h => h) hX (by rfl) ?_
            simp only [Act.put, List.setIfInBounds_toArray, List.set_cons_zero, List.set_cons_succ]
            refine wpAnyT_skip 15 (some 28) #[true, true, true, true, true, true, true, true, true, true, true, true, true, true, true, true, false, false, false, false, false] rfl rfl rfl (by kernel_rfl) (fun _ _ _ h => h) hX (by rfl) ?_
            simp only [Act.put, List.setIfInBounds_toArray, List.set_cons_zero, List.set_cons_succ]
            refine wpAnyT_skip 16 (some 29) #[true, true, true, true, true, true, true, true, true, true, true, true, true, true, true, true, true, false, false, false, false] rfl rfl rfl (by kernel_rfl) (fun _ _ _ h => h) hX (by rfl) ?_
            simp only [Act.put, List.setIfInBounds_toArray, List.set_cons_zero, List.set_cons_succ]
            refine wpAnyT_skip 17 (some 30) #[true, true, true, true, true, true, true, true, true, true, true, true, true, true, true, true, true, true, false, false, false] rfl rfl rfl (by kernel_rfl) (fun _ _ _ h => h) hX (by rfl) ?_
            simp only [Act.put, List.setIfInBounds_toArray, List.set_cons_zero, List.set_cons_succ]
            refine wpAnyT_skip 18 (some 31) #[true, true, true, true, true, true, true, true, true, true, true, true, true, true, true, true, true, true, true, false, false] rfl rfl rfl (by kernel_rfl) (fun _ _ _ h => h) hX (by rfl) ?_
            simp only [Act.put, List.setIfInBounds_toArray, List.set_cons_zero, List.set_cons_succ]
            refine wpAnyT_skip 19 (some 32) #[true, true, true, true, true, true, true, true, true, true, true, true, true, true, true, true, true, true, true, true, false] rfl rfl rfl (by kernel_rfl) (fun _ _ _ h => h) hX (by rfl) ?_
            simp only [Act.put, List.setIfInBounds_toArray, List.set_cons_zero, List.set_cons_succ]
            refine wpAnyT_only 20 #[true, true, true, true, true, true, true, true, true, true, true, true, true, true, true, true, true, true, true, true, true] (by kernel_rfl) rfl rfl (by rfl) (fun K2 hK2 => ?_)
            go_simp
            refine hK2 _ _ (fun h => absurd h (by decide)) ?_
            clear hK2 K2
            refine wpAnyT_done (by kernel_rfl) ?_ _
            have hWz := hWr5.ext hX
            go_wp2_with (refine wpList_storeW rfl 24 (.tmp 2) (.tmp 34) rfl rfl rfl hWz rfl mat_info (mat_one rfl) ?_; intro w8 hW8 hG8 _)
            refine bodyPost_ret (results_mat rfl _ rfl rfl hW8 rfl) rfl ?_
            rw [← HN.out]
            exact MadeM.zero 13 (Below.grown (hEr5.trans hX) hG8 (hEr5.trans hX).le (fun k hk => by cases hk; omega))
        · have HN := hide (show (MV.zero, (13 : Int)) = res by rw [← HG.out, if_neg]; rintro ⟨h, _⟩; exact hmay h)
          rw [Bool.not_eq_true] at hmay
          rw [hmay] at C0
          clear hmay
          go_wp2_with fail
          refine wp_region_T (fun W => Ext w5 W) 20 21 #[false, false, false, false, false, false, false, false, false, false, false, false, false, false, false, false, false, false, false, false, false] (by kernel_rfl) rfl rfl (Ext.refl w5).drew ?_
          intro hS0
          refine wpAnyT_take 0 (some 13) (.agg #[.int .i64 mr, .int .i64 mc, .slice Ax ml.length kx]) #[true, false, false, false, false, false, false, false, false, false, false, false, false, false, false, false, false, false, false, false, false] rfl rfl rfl (by kernel_rfl) (fun _ _ _ h => h) hS0 (by rfl) (fun W hX => by have s0 := (hWm.ext hX).at 0 (u := .int .i64 mr) rfl; have s1 := (hWm.ext hX).at 1 (u := .int .i64 mc) rfl; have s2 := (hWm.ext hX).at 2 (u := .slice Ax ml.length kx) rfl; go_simp) ?_
          simp only [Act.put, List.setIfInBounds_toArray, List.set_cons_zero, List.set_cons_succ]
          refine wpAnyT_only 1 #[true, true, false, false, false, false, false, false, false, false, false, false, false, false, false, false, false, false, false, false, false] (by kernel_rfl) rfl rfl (by rfl) (fun K2 hK2 => ?_)
          go_simp
          go_at_call 15
          refine (C0 _).mono ?_
          rintro e w6 ⟨rfl, hE6⟩
          have hX := hS0.trans hE6
          refine hK2 _ _ (fun _ => hX) ?_
          clear hK2 K2
          refine wpAnyT_take 2 (some 15) (.bool true) #[true, true, true, false, false, false, false, false, false, false, false, false, false, false, false, false, false, false, false, false, false] rfl rfl rfl (by kernel_rfl) (fun _ _ _ h => h) hX (by rfl) (fun W hX => by go_simp) ?_
          simp only [Act.put, List.setIfInBounds_toArray, List.set_cons_zero, List.set_cons_succ]
          refine wpAnyT_take 3 (some 16) (.bool true) #[true, true, true, true, false, false, false, false, false, false, false, false, false, false, false, false, false, false, false, false, false] rfl rfl rfl (by kernel_rfl) (fun _ _ _ h => h) hX (by rfl) (fun W hX => by go_simp) ?_
          simp only [Act.put, List.setIfInBounds_toArray, List.set_cons_zero, List.set_cons_succ]
          refine wpAnyT_skip 4 (some 17) #[true, true, true, true, true, false, false, false, false, false, false, false, false, false, false, false, false, false, false, false, false] rfl rfl rfl (by kernel_rfl) (fun _ _ _ h => h) hX (by rfl) ?_
          simp only [Act.put, List.setIfInBounds_toArray, List.set_cons_zero, List.set_cons_succ]
          refine wpAnyT_skip 5 (some 18) #[true, true, true, true, true, true, false, false, false, false, false, false, false, false, false, false, false, false, false, false, false] rfl rfl rfl (by kernel_rfl) (fun _ _ _ h => h) hX (by rfl) ?_
          simp only [Act.put, List.setIfInBounds_toArray, List.set_cons_zero, List.set_cons_succ]
          refine wpAnyT_skip 6 (some 19) #[true, true, true, true, true, true, true, false, false, false, false, false, false, false, false, false, false, false, false, false, false] rfl rfl rfl (by kernel_rfl) (fun _ _ _ h => h) hX (by rfl) ?_
          simp only [Act.put, List.setIfInBounds_toArray, List.set_cons_zero, List.set_cons_succ]
          refine wpAnyT_skip 7 (some 20) #[true, true, true, true, true, true, true, true, false, false, false, false, false, false, false, false, false, false, false, false, false] rfl rfl rfl (by kernel_rfl) (fun _ _ _ h => h) hX (by rfl) ?_
          simp only [Act.put, List.setIfInBounds_toArray, List.set_cons_zero, List.set_cons_succ]
          refine wpAnyT_skip 8 (some 21) #[true, true, true, true, true, true, true, true, true, false, false, false, false, false, false, false, false, false, false, false, false] rfl rfl rfl (by kernel_rfl) (fun _ _ _ h => h) hX (by rfl) ?_
          simp only [Act.put, List.setIfInBounds_toArray, List.set_cons_zero, List.set_cons_succ]
          refine wpAnyT_skip 9 (some 22) #[true, true, true, true, true, true, true, true, true, true, false, false, false, false, false, false, false, false, false, false, false] rfl rfl rfl (by kernel_rfl) (fun _ _ _ h => h) hX (by rfl) ?_
          simp only [Act.put, List.setIfInBounds_toArray, List.set_cons_zero, List.set_cons_succ]
          refine wpAnyT_skip 10 (some 23) #[true, true, true, true, true, true, true, true, true, true, true, false, false, false, false, false, false, false, false, false, false] rfl rfl rfl (by kernel_rfl) (fun _ _ _ h => h) hX (by rfl) ?_
          simp only [Act.put, List.setIfInBounds_toArray, List.set_cons_zero, List.set_cons_succ]
          refine wpAnyT_take 11 (some 24) (.bool true) #[true, true, true, true, true, true, true, true, true, true, true, true, false, false, false, false, false, false, false, false, false] rfl rfl rfl (by kernel_rfl) (fun _ _ _ h => h) hX (by rfl) (fun W hX => by go_simp) ?_
          simp only [Act.put, List.setIfInBounds_toArray, List.set_cons_zero, List.set_cons_succ]
          refine wpAnyT_take 12 (some 25) (.bool true) #[true, true, true, true, true, true, true, true, true, true, true, true, true, false, false, false, false, false, false, false, false] rfl rfl rfl (by kernel_rfl) (fun _ _ _ h => h) hX (by rfl) (fun W hX => by go_simp) ?_
          simp only [Act.put, List.setIfInBounds_toArray, List.set_cons_zero, List.set_cons_succ]
          refine wpAnyT_skip 13 (some 26) #[true, true, true, true, true, true, true, true, true, true, true, true, true, true, false, false, false, false, false, false, false] rfl rfl rfl (by kernel_rfl) (fun _ _ _ h => h) hX (by rfl) ?_
          simp only [Act.put, List.setIfInBounds_toArray, List.set_cons_zero, List.set_cons_succ]
          refine wpAnyT_skip 14 (some 27) #[true, true, true, true, true, true, true, true, true, true, true, true, true, true, true, false, false, false, false, false, false] rfl rfl rfl (by kernel_rfl) (fun _ _ _ h => h) hX (by rfl) ?_
          simp only [Act.put, List.setIfInBounds_toArray, List.set_cons_zero, List.set_cons_succ]
          refine wpAnyT_skip 15 (some 28) #[true, true, true, true, true, true, true, true, true, true, true, true, true, true, true, true, false, false, false, false, false] rfl rfl rfl (by kernel_rfl) (fun _ _ _ h => h) hX (by rfl) ?_
          simp only [Act.put, List.setIfInBounds_toArray, List.set_cons_zero, List.set_cons_succ]
          refine wpAnyT_skip 16 (some 29) #[true, true, true, true, true, true, true, true, true, true, true, true, true, true, true, true, true, false, false, false, false] rfl rfl rfl (by kernel_rfl) (fun _ _ _ h => h) hX (by rfl) ?_
          simp only [Act.put, List.setIfInBounds_toArray, List.set_cons_zero, List.set_cons_succ]
          refine wpAnyT_skip 17 (some 30) #[true, true, true, true, true, true, true, true, true, true, true, true, true, true, true, true, true, true, false, false, false] rfl rfl rfl (by kernel_rfl) (fun _ _ _ h => h) hX (by rfl) ?_
          simp only [Act.put, List.setIfInBounds_toArray, List.set_cons_zero, List.set_cons_succ]
          refine wpAnyT_skip 18 (some 31) #[true, true, true, true, true, true, true, true, true, true, true, true, true, true, true, true, true, true, true, false, false] rfl rfl rfl (by kernel_rfl) (fun _ _ _ h => h) hX (by rfl) ?_
          simp only [Act.put, List.setIfInBounds_toArray, List.set_cons_zero, List.set_cons_succ]
          refine wpAnyT_skip 19 (some 32) #[true, true, true, true, true, true, true, true, true, true, true, true, true, true, true, true, true, true, true, true, false] rfl rfl rfl (by kernel_rfl) (fun _ _ _ h => h) hX (by rfl) ?_
          simp only [Act.put, List.setIfInBounds_toArray, List.set_cons_zero, List.set_cons_succ]
          refine wpAnyT_only 20 #[true, true, true, true, true, true, true, true, true, true, true, true, true, true, true, true, true, true, true, true, true] (by kernel_rfl) rfl rfl (by rfl) (fun K2 hK2 => ?_)
          go_simp
          refine hK2 _ _ (fun h => absurd h (by decide)) ?_
          clear hK2 K2
          refine wpAnyT_done (by kernel_rfl) ?_ _
          have hWz := hWr5.ext hX
          go_wp2_with (refine wpList_storeW rfl 24 (.tmp 2) (.tmp 34) rfl rfl rfl hWz rfl mat_info (mat_one rfl) ?_; intro w8 hW8 hG8 _)
          refine bodyPost_ret (results_mat rfl _ rfl rfl hW8 rfl) rfl ?_
          rw [← HN.out]
          exact MadeM.zero 13 (Below.grown (hEr5.trans hX) hG8 (hEr5.trans hX).le (fun k hk => by cases hk; omega))
      · obtain rfl : i = L.length := by omega
        rw [stackGo_end] at hgo
        have o1 := hO.one
        have hDC := hD hpos
        subst hgo
        subst hDC
        go_wp2_with (first
          | (refine wpList_load_row rfl 24 (.tmp 4) rfl _ rfl _ _ _ _ hWv Try.underlying24 rfl mat_info ?_)
          | (refine wpList_storeW rfl 24 (.tmp 2) (.tmp 51) rfl rfl rfl hWrr rfl mat_info (mat_one o1) ?_; intro w5 hW5 hG5 _))
        refine bodyPost_ret (results_mat rfl _ rfl rfl hW5 rfl) rfl ?_
        have hne5 : v.ownBlock ≠ some w.heap.size := fun e => by
          have := (hO.lt _ e).1
          omega
        exact ⟨v, rfl, ((Mod.ofRow (ob := none) hG5).own hO hne5 (by simp [Classical.em])).mono (by omega), Below.grown hEr hG5 hEr.le (fun k hk => by cases hk; omega)⟩
end Go.Proofs.Ytedkajpodepkiaa
