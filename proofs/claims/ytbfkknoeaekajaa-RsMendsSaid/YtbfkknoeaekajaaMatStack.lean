/- The document's Stack. -/
import Derived.Test.YtbfkknoeaekajaaMatPickR
import Derived.Test.YtbfkknoeaekajaaRegTail
namespace Go.Proofs.Ytbfkknoeaekajaa
open Go.RowKit

/-- A matrix that came in in a slice: itself, block and capacity of its cells. -/
structure MIn where
  m : MV
  A : Option Addr
  k : Nat
instance : Inhabited MIn := ⟨⟨default, none, 0⟩⟩
def MIn.at (x : MIn) (w : World) (b o : Nat) : Prop :=
  w.cell? ⟨b, o, none⟩ = some (.int .i64 x.m.r) ∧ w.cell? ⟨b, o + 1, none⟩ = some (.int .i64 x.m.c) ∧ w.cell? ⟨b, o + 2, none⟩ = some (.slice x.A x.m.l.length x.k)
def MatsAt (w : World) (B : Nat) (A : Option Addr) (n : Nat) (L : List MIn) : Prop :=
  L.length = n ∧ (n = 0 ∨ ∃ b off, A = some ⟨b, off, none⟩ ∧ b < B ∧ ∀ i, i < n → (L.getD i default).at w b (off + i * 3) ∧ Bytes w B (L.getD i default).A (L.getD i default).m.l.length (L.getD i default).m.l ∧ (L.getD i default).m.l.length ≤ maxLen ∧ (L.getD i default).m.l.length ≤ (L.getD i default).k)
theorem MIn.at.ext {x : MIn} {w w' : World} {b o : Nat} (h : x.at w b o) (hE : Ext w w') (hb : b < w.heap.size) : x.at w' b o :=
  ⟨(hE.cell (i := o) hb).trans h.1, (hE.cell (i := o + 1) hb).trans h.2.1, (hE.cell (i := o + 2) hb).trans h.2.2⟩
/-- The rest of a stack of c columns, behind r rows that read l. -/
def stackGo (c r : Int) (l : List UInt8) : List MV → MV × Int
  | [] => (⟨r, c, l⟩, 0)
  | m :: ms => if m.may = true ∧ m.c = c ∧ r + m.r ≤ 255 then stackGo c (r + m.r) (l ++ m.l) ms else (MV.zero, 13)
def stackE : List MV → MV × Int
  | [] => (MV.zero, 0)
  | m :: ms => stackGo m.c 0 [] (m :: ms)
theorem drop_mats {L : List MIn} {i : Nat} (hi : i < L.length) : (L.map MIn.m).drop i = (L.getD i default).m :: (L.map MIn.m).drop (i + 1) := by
  rw [List.drop_eq_getElem_cons (by simpa using hi)]
  simp [List.getD_eq_getElem?_getD, List.getElem?_eq_getElem hi]
theorem stackGo_at {L : List MIn} {i : Nat} (hi : i < L.length) (c r : Int) (l : List UInt8) :
    stackGo c r l ((L.map MIn.m).drop i) = if (L.getD i default).m.may = true ∧ (L.getD i default).m.c = c ∧ r + (L.getD i default).m.r ≤ 255 then stackGo c (r + (L.getD i default).m.r) (l ++ (L.getD i default).m.l) ((L.map MIn.m).drop (i + 1)) else (MV.zero, 13) := by
  rw [drop_mats hi]
  rfl
theorem stackGo_end {L : List MIn} (c r : Int) (l : List UInt8) : stackGo c r l ((L.map MIn.m).drop L.length) = (⟨r, c, l⟩, 0) := by
  rw [List.drop_of_length_le (by simp)]
  rfl

set_option maxHeartbeats 4000000 in
set_option maxRecDepth 100000 in
theorem refStack_any (L : List MIn) (A : Option Addr) (k : Nat) (w : World) (h : MatsAt w w.heap.size A L.length L) (hl : L.length ≤ 140737488355328) :
    Calls Try.prog 37 #[.slice A L.length k] w (MadeM w (stackE (L.map MIn.m)).1 (stackE (L.map MIn.m)).2) := by
  have hE := extNew w (.cells #[.int .i64 0, .int .i64 0, .slice none 0 0] 42)
  have hWr := Whole.new w 42 #[.int .i64 0, .int .i64 0, .slice none 0 0]
  by_cases h0 : L.length = 0
  · have hL : L = [] := List.eq_nil_of_length_eq_zero h0
    subst hL
    clear h
    have HR := hide (show stackE (([] : List MIn).map MIn.m) = (MV.zero, 0) from rfl)
    rw [HR.out]
    clear HR
    go_enter Try.func37, Try.ntmps37
    go_wp2_with (refine wpList_storeW rfl 42 (.tmp 2) (.tmp 9) rfl rfl rfl hWr rfl mat_info (mat_one rfl) ?_; intro w5 hW5 hG5 _)
    refine bodyPost_ret (results_mat rfl _ rfl rfl hW5 rfl) rfl ?_
    exact MadeM.zero 0 (Below.grown hE hG5 hE.le (fun k hk => by cases hk; omega))
  · rcases h.2 with h1 | ⟨gl, ol, rfl, hgl, hcs⟩
    · exact absurd h1 h0
    have hpos : (0 : Int) < (L.length : Int) := by omega
    have hne0 : ((L.length : Int) == 0) = false := by rw [beq_eq_false_iff_ne]; omega
    have HQ : stackE (L.map MIn.m) = stackGo (L.getD 0 default).m.c 0 [] ((L.map MIn.m).drop 0) := by
      rw [drop_mats (by omega : 0 < L.length)]
      have hd := drop_mats (by omega : 0 < L.length)
      rw [List.drop_zero] at hd
      rw [hd]
      rfl
    have c1 := (hcs 0 (by omega)).1.2.1
    rw [Nat.zero_mul, Nat.add_zero] at c1
    have r1 := (hE.cell (i := ol + 1) hgl).trans c1
    generalize (L.getD 0 default).m.c = C at *
    rw [HQ]
    clear HQ c1 h
    generalize hres : stackGo C 0 [] ((L.map MIn.m).drop 0) = res
    have HR := hide hres
    have HC := hide hcs
    clear hres hcs
    have hWx := Whole.new (w.alloc (.cells #[.int .i64 0, .int .i64 0, .slice none 0 0] 42)) 42 #[.int .i64 0, .int .i64 0, .slice none 0 0]
    have hN := extNew (w.alloc (.cells #[.int .i64 0, .int .i64 0, .slice none 0 0] 42)) (.cells #[.int .i64 0, .int .i64 0, .slice none 0 0] 42)
    have hWrN := hWr.ext hN
    have hEN := hE.trans hN
    rw [World.size_alloc] at hWx
    go_enter Try.func37, Try.ntmps37
    go_wp2_with (refine wpList_storeW rfl 42 (.tmp 4) (.tmp 14) rfl rfl rfl hWx rfl mat_info (mat_one rfl) ?_; intro w5 hW5 hG5 _)
    have hF : Ext w w5 := Below.grown hEN hG5 hEN.le (fun k hk => by cases hk; omega)
    have hWr5 := hWrN.ownGrown hG5 (by simp)
    obtain ⟨gx, hgx⟩ : ∃ gx, gx = w.heap.size + 1 := ⟨_, rfl⟩
    rw [← hgx] at hW5 ⊢
    have hg1 : w.heap.size < gx := by omega
    clear hWx hN hWrN hEN hE hWr hG5 r1 hgx
    go_wp2_with fail
    go_loopw [5] (fun i wr => ∃ (j : Nat) (R : Int) (l : List UInt8), j ≤ L.length ∧ i = .int .i64 (j : Int) ∧ 0 ≤ R ∧ R ≤ 255 ∧ (l.length : Int) ≤ 255 * R ∧ stackGo C R l ((L.map MIn.m).drop j) = res ∧ Made wr (gx + 1) gx R C l ∧ Whole wr w.heap.size 42 #[.int .i64 0, .int .i64 0, .slice none 0 0] ∧ Ext w wr) (fun i _ => L.length - (intOf i).toNat)
    case atStart => exact ⟨0, 0, [], by omega, rfl, by omega, by omega, by simp, HR.out, ⟨_, hW5, OwnB.nil _ _⟩, hWr5, hF⟩
    case round =>
      obtain ⟨i, R, l, hi, rfl, hR0, hR1, hlR, hgo, ⟨v, hWv, hO⟩, hWrr, hEr⟩ := hrel
      by_cases hlt : i < L.length
      · obtain ⟨hat, hBx, hlx, hlk⟩ := HC.out i hlt
        clear hlk
        rw [stackGo_at hlt] at hgo
        have hat' := hat.ext hEr hgl
        have hBx' := hEr.bytes hBx
        have i0 : (0 : Int) ≤ (i : Int) := by omega
        have i1 : (i : Int) < (L.length : Int) := by omega
        have hglr : gl < wr.heap.size := Nat.lt_of_lt_of_le hgl hEr.le
        generalize L.getD i default = x at *
        obtain ⟨⟨mr, mc, ml⟩, Ax, kx⟩ := x
        dsimp only at *
        obtain ⟨a0, a1, a2⟩ := hat'
        dsimp only at a0 a1 a2
        obtain ⟨A3, n3, c3, rfl, _, _, _⟩ := hO.form'
        have b0 := hWv.at 0 rfl
        have b1 := hWv.at 1 rfl
        have b2 := hWv.at 2 rfl
        have hltx := hWv.lt
        have C0 := fun W => refMay_any ⟨mr, mc, ml⟩ Ax ml.length kx W rfl hlx
        dsimp only at C0
        have hS : ∀ W, Ext wr W → W.cell? ⟨gl, ol + i * 3, none⟩ = some (.int .i64 mr) ∧ W.cell? ⟨gl, ol + i * 3 + 1, none⟩ = some (.int .i64 mc) ∧ W.cell? ⟨gl, ol + i * 3 + 2, none⟩ = some (.slice Ax ml.length kx) ∧ W.cell? ⟨gx, 0, none⟩ = some (.int .i64 R) ∧ W.cell? ⟨gx, 1, none⟩ = some (.int .i64 C) ∧ Ext wr W := fun W hX =>
          ⟨(hX.cell (i := ol + i * 3) hglr).trans a0, (hX.cell (i := ol + i * 3 + 1) hglr).trans a1, (hX.cell (i := ol + i * 3 + 2) hglr).trans a2, (hX.cell (i := 0) hltx).trans b0, (hX.cell (i := 1) hltx).trans b1, hX⟩
        have hK := Ext.refl wr
        have hK' := hK.drew
        have hT : ∀ W, (W.cell? ⟨gl, ol + i * 3, none⟩ = some (.int .i64 mr) ∧ W.cell? ⟨gl, ol + i * 3 + 1, none⟩ = some (.int .i64 mc) ∧ W.cell? ⟨gl, ol + i * 3 + 2, none⟩ = some (.slice Ax ml.length kx) ∧ W.cell? ⟨gx, 0, none⟩ = some (.int .i64 R) ∧ W.cell? ⟨gx, 1, none⟩ = some (.int .i64 C) ∧ Ext wr W) → Ext wr W := fun W hX => hX.2.2.2.2.2
        have HQ := hide hgo
        have HAT := hide hat
        have HBX := hide hBx
        clear hgo hat hBx
        by_cases hmay : MV.may ⟨mr, mc, ml⟩ = true
        · rw [hmay] at C0
          obtain ⟨q1, q2, q3, q4, q5⟩ := MV.may_iff.1 hmay
          dsimp only at q1 q2 q3 q4 q5
          have hsum : IntKind.i64.wrap (R + mr) = R + mr := by rw [IntKind.wrap_i64]; omega
          have HM := hide hmay
          have HQ5 := hide q5
          clear hmay q5
          by_cases hcc : mc = C
          · by_cases hsm : 255 < R + mr
            · have HN := hide (show (MV.zero, (13 : Int)) = res by rw [← HQ.out, if_neg]; rintro ⟨_, _, h⟩; omega)
              have hcc' : (mc != C) = false := by simpa using hcc
              clear hcc
              go_wp2_with fail
              refine wp_region_T (fun W => W.cell? ⟨gl, ol + i * 3, none⟩ = some (.int .i64 mr) ∧ W.cell? ⟨gl, ol + i * 3 + 1, none⟩ = some (.int .i64 mc) ∧ W.cell? ⟨gl, ol + i * 3 + 2, none⟩ = some (.slice Ax ml.length kx) ∧ W.cell? ⟨gx, 0, none⟩ = some (.int .i64 R) ∧ W.cell? ⟨gx, 1, none⟩ = some (.int .i64 C) ∧ Ext wr W) 26 27 #[false, false, false, false, false, false, false, false, false, false, false, false, false, false, false, false, false, false, false, false, false, false, false, false, false, false, false] (by kernel_rfl) rfl rfl (hS _ hK') ?_
              intro hS0
              refine wpAnyT_take 0 (some 21) (.slice (some ⟨gl, ol, none⟩) L.length k) #[true, false, false, false, false, false, false, false, false, false, false, false, false, false, false, false, false, false, false, false, false, false, false, false, false, false, false] rfl rfl rfl (by kernel_rfl) (fun _ _ _ h => h) hS0 (by rfl) (fun W ⟨s0, s1, s2, s3, s4, _⟩ => by go_simp) ?_
              simp only [Act.put, List.setIfInBounds_toArray, List.set_cons_zero, List.set_cons_succ]
              refine wpAnyT_take 1 (some 22) (.int .i64 (i : Int)) #[true, true, false, false, false, false, false, false, false, false, false, false, false, false, false, false, false, false, false, false, false, false, false, false, false, false, false] rfl rfl rfl (by kernel_rfl) (fun _ _ _ h => h) hS0 (by rfl) (fun W ⟨s0, s1, s2, s3, s4, _⟩ => by go_simp) ?_
              simp only [Act.put, List.setIfInBounds_toArray, List.set_cons_zero, List.set_cons_succ]
              refine wpAnyT_take 2 (some 23) (.pointer (some ⟨gl, ol + i * 3, none⟩)) #[true, true, true, false, false, false, false, false, false, false, false, false, false, false, false, false, false, false, false, false, false, false, false, false, false, false, false] rfl rfl rfl (by kernel_rfl) (fun _ _ _ h => h) hS0 (by rfl) (fun W ⟨s0, s1, s2, s3, s4, _⟩ => by go_simp) ?_
              simp only [Act.put, List.setIfInBounds_toArray, List.set_cons_zero, List.set_cons_succ]
              refine wpAnyT_take 3 (some 24) (.agg #[.int .i64 mr, .int .i64 mc, .slice Ax ml.length kx]) #[true, true, true, true, false, false, false, false, false, false, false, false, false, false, false, false, false, false, false, false, false, false, false, false, false, false, false] rfl rfl rfl (by kernel_rfl) (fun _ _ _ h => h) hS0 (by rfl) (fun W ⟨s0, s1, s2, s3, s4, _⟩ => by go_simp) ?_
              simp only [Act.put, List.setIfInBounds_toArray, List.set_cons_zero, List.set_cons_succ]
              refine wpAnyT_only 4 #[true, true, true, true, true, false, false, false, false, false, false, false, false, false, false, false, false, false, false, false, false, false, false, false, false, false, false] (by kernel_rfl) rfl rfl (by rfl) (fun K2 hK2 => ?_)
              go_simp
              go_at_call 29
              refine (C0 _).mono ?_
              rintro e w2 ⟨rfl, hE2⟩
              have hX := hK'.trans hE2
              have hS2 := hS w2 hX
              refine hK2 _ _ (fun _ => hS2) ?_
              clear hK2 K2
              refine wpAnyT_take 5 (some 26) (.bool false) #[true, true, true, true, true, true, false, false, false, false, false, false, false, false, false, false, false, false, false, false, false, false, false, false, false, false, false] rfl rfl rfl (by kernel_rfl) (fun _ _ _ h => h) hS2 (by rfl) (fun W ⟨s0, s1, s2, s3, s4, _⟩ => by go_simp) ?_
              simp only [Act.put, List.setIfInBounds_toArray, List.set_cons_zero, List.set_cons_succ]
              refine wpAnyT_take 6 (some 27) (.bool false) #[true, true, true, true, true, true, true, false, false, false, false, false, false, false, false, false, false, false, false, false, false, false, false, false, false, false, false] rfl rfl rfl (by kernel_rfl) (fun _ _ _ h => h) hS2 (by rfl) (fun W ⟨s0, s1, s2, s3, s4, _⟩ => by go_simp) ?_
              simp only [Act.put, List.setIfInBounds_toArray, List.set_cons_zero, List.set_cons_succ]
              refine wpAnyT_take 7 (some 28) (.slice (some ⟨gl, ol, none⟩) L.length k) #[true, true, true, true, true, true, true, true, false, false, false, false, false, false, false, false, false, false, false, false, false, false, false, false, false, false, false] rfl rfl rfl (by kernel_rfl) (fun _ _ _ h => h) hS2 (by rfl) (fun W ⟨s0, s1, s2, s3, s4, _⟩ => by go_simp) ?_
              simp only [Act.put, List.setIfInBounds_toArray, List.set_cons_zero, List.set_cons_succ]
              refine wpAnyT_take 8 (some 29) (.int .i64 (i : Int)) #[true, true, true, true, true, true, true, true, true, false, false, false, false, false, false, false, false, false, false, false, false, false, false, false, false, false, false] rfl rfl rfl (by kernel_rfl) (fun _ _ _ h => h) hS2 (by rfl) (fun W ⟨s0, s1, s2, s3, s4, _⟩ => by go_simp) ?_
              simp only [Act.put, List.setIfInBounds_toArray, List.set_cons_zero, List.set_cons_succ]
              refine wpAnyT_take 9 (some 30) (.pointer (some ⟨gl, ol + i * 3, none⟩)) #[true, true, true, true, true, true, true, true, true, true, false, false, false, false, false, false, false, false, false, false, false, false, false, false, false, false, false] rfl rfl rfl (by kernel_rfl) (fun _ _ _ h => h) hS2 (by rfl) (fun W ⟨s0, s1, s2, s3, s4, _⟩ => by go_simp) ?_
              simp only [Act.put, List.setIfInBounds_toArray, List.set_cons_zero, List.set_cons_succ]
              refine wpAnyT_take 10 (some 31) (.pointer (some ⟨gl, ol + i * 3 + 1, none⟩)) #[true, true, true, true, true, true, true, true, true, true, true, false, false, false, false, false, false, false, false, false, false, false, false, false, false, false, false] rfl rfl rfl (by kernel_rfl) (fun _ _ _ h => h) hS2 (by rfl) (fun W ⟨s0, s1, s2, s3, s4, _⟩ => by go_simp) ?_
              simp only [Act.put, List.setIfInBounds_toArray, List.set_cons_zero, List.set_cons_succ]
              refine wpAnyT_take 11 (some 32) (.int .i64 mc) #[true, true, true, true, true, true, true, true, true, true, true, true, false, false, false, false, false, false, false, false, false, false, false, false, false, false, false] rfl rfl rfl (by kernel_rfl) (fun _ _ _ h => h) hS2 (by rfl) (fun W ⟨s0, s1, s2, s3, s4, _⟩ => by go_simp) ?_
              simp only [Act.put, List.setIfInBounds_toArray, List.set_cons_zero, List.set_cons_succ]
              refine wpAnyT_take 12 (some 33) (.pointer (some ⟨gx, 1, none⟩)) #[true, true, true, true, true, true, true, true, true, true, true, true, true, false, false, false, false, false, false, false, false, false, false, false, false, false, false] rfl rfl rfl (by kernel_rfl) (fun _ _ _ h => h) hS2 (by rfl) (fun W ⟨s0, s1, s2, s3, s4, _⟩ => by go_simp) ?_
              simp only [Act.put, List.setIfInBounds_toArray, List.set_cons_zero, List.set_cons_succ]
              refine wpAnyT_take 13 (some 34) (.int .i64 C) #[true, true, true, true, true, true, true, true, true, true, true, true, true, true, false, false, false, false, false, false, false, false, false, false, false, false, false] rfl rfl rfl (by kernel_rfl) (fun _ _ _ h => h) hS2 (by rfl) (fun W ⟨s0, s1, s2, s3, s4, _⟩ => by go_simp) ?_
              simp only [Act.put, List.setIfInBounds_toArray, List.set_cons_zero, List.set_cons_succ]
              refine wpAnyT_take 14 (some 35) (.bool false) #[true, true, true, true, true, true, true, true, true, true, true, true, true, true, true, false, false, false, false, false, false, false, false, false, false, false, false] rfl rfl rfl (by kernel_rfl) (fun _ _ _ h => h) hS2 (by rfl) (fun W ⟨s0, s1, s2, s3, s4, _⟩ => by go_simp) ?_
              simp only [Act.put, List.setIfInBounds_toArray, List.set_cons_zero, List.set_cons_succ]
              refine wpAnyT_take 15 (some 36) (.bool false) #[true, true, true, true, true, true, true, true, true, true, true, true, true, true, true, true, false, false, false, false, false, false, false, false, false, false, false] rfl rfl rfl (by kernel_rfl) (fun _ _ _ h => h) hS2 (by rfl) (fun W ⟨s0, s1, s2, s3, s4, _⟩ => by go_simp) ?_
              simp only [Act.put, List.setIfInBounds_toArray, List.set_cons_zero, List.set_cons_succ]
              refine wpAnyT_take 16 (some 37) (.bool false) #[true, true, true, true, true, true, true, true, true, true, true, true, true, true, true, true, true, false, false, false, false, false, false, false, false, false, false] rfl rfl rfl (by kernel_rfl) (fun _ _ _ h => h) hS2 (by rfl) (fun W ⟨s0, s1, s2, s3, s4, _⟩ => by go_simp) ?_
              simp only [Act.put, List.setIfInBounds_toArray, List.set_cons_zero, List.set_cons_succ]
              refine wpAnyT_take 17 (some 38) (.pointer (some ⟨gx, 0, none⟩)) #[true, true, true, true, true, true, true, true, true, true, true, true, true, true, true, true, true, true, false, false, false, false, false, false, false, false, false] rfl rfl rfl (by kernel_rfl) (fun _ _ _ h => h) hS2 (by rfl) (fun W ⟨s0, s1, s2, s3, s4, _⟩ => by go_simp) ?_
              simp only [Act.put, List.setIfInBounds_toArray, List.set_cons_zero, List.set_cons_succ]
              refine wpAnyT_take 18 (some 39) (.int .i64 R) #[true, true, true, true, true, true, true, true, true, true, true, true, true, true, true, true, true, true, true, false, false, false, false, false, false, false, false] rfl rfl rfl (by kernel_rfl) (fun _ _ _ h => h) hS2 (by rfl) (fun W ⟨s0, s1, s2, s3, s4, _⟩ => by go_simp) ?_
              simp only [Act.put, List.setIfInBounds_toArray, List.set_cons_zero, List.set_cons_succ]
              refine wpAnyT_take 19 (some 40) (.slice (some ⟨gl, ol, none⟩) L.length k) #[true, true, true, true, true, true, true, true, true, true, true, true, true, true, true, true, true, true, true, true, false, false, false, false, false, false, false] rfl rfl rfl (by kernel_rfl) (fun _ _ _ h => h) hS2 (by rfl) (fun W ⟨s0, s1, s2, s3, s4, _⟩ => by go_simp) ?_
              simp only [Act.put, List.setIfInBounds_toArray, List.set_cons_zero, List.set_cons_succ]
              refine wpAnyT_take 20 (some 41) (.int .i64 (i : Int)) #[true, true, true, true, true, true, true, true, true, true, true, true, true, true, true, true, true, true, true, true, true, false, false, false, false, false, false] rfl rfl rfl (by kernel_rfl) (fun _ _ _ h => h) hS2 (by rfl) (fun W ⟨s0, s1, s2, s3, s4, _⟩ => by go_simp) ?_
              simp only [Act.put, List.setIfInBounds_toArray, List.set_cons_zero, List.set_cons_succ]
              refine wpAnyT_take 21 (some 42) (.pointer (some ⟨gl, ol + i * 3, none⟩)) #[true, true, true, true, true, true, true, true, true, true, true, true, true, true, true, true, true, true, true, true, true, true, false, false, false, false, false] rfl rfl rfl (by kernel_rfl) (fun _ _ _ h => h) hS2 (by rfl) (fun W ⟨s0, s1, s2, s3, s4, _⟩ => by go_simp) ?_
              simp only [Act.put, List.setIfInBounds_toArray, List.set_cons_zero, List.set_cons_succ]
              refine wpAnyT_take 22 (some 43) (.pointer (some ⟨gl, ol + i * 3, none⟩)) #[true, true, true, true, true, true, true, true, true, true, true, true, true, true, true, true, true, true, true, true, true, true, true, false, false, false, false] rfl rfl rfl (by kernel_rfl) (fun _ _ _ h => h) hS2 (by rfl) (fun W ⟨s0, s1, s2, s3, s4, _⟩ => by go_simp) ?_
              simp only [Act.put, List.setIfInBounds_toArray, List.set_cons_zero, List.set_cons_succ]
              refine wpAnyT_take 23 (some 44) (.int .i64 mr) #[true, true, true, true, true, true, true, true, true, true, true, true, true, true, true, true, true, true, true, true, true, true, true, true, false, false, false] rfl rfl rfl (by kernel_rfl) (fun _ _ _ h => h) hS2 (by rfl) (fun W ⟨s0, s1, s2, s3, s4, _⟩ => by go_simp) ?_
              simp only [Act.put, List.setIfInBounds_toArray, List.set_cons_zero, List.set_cons_succ]
              refine wpAnyT_take 24 (some 45) (.int .i64 (R + mr)) #[true, true, true, true, true, true, true, true, true, true, true, true, true, true, true, true, true, true, true, true, true, true, true, true, true, false, false] rfl rfl rfl (by kernel_rfl) (fun _ _ _ h => h) hS2 (by rfl) (fun W ⟨s0, s1, s2, s3, s4, _⟩ => by go_simp) ?_
              simp only [Act.put, List.setIfInBounds_toArray, List.set_cons_zero, List.set_cons_succ]
              refine wpAnyT_take 25 (some 46) (.bool true) #[true, true, true, true, true, true, true, true, true, true, true, true, true, true, true, true, true, true, true, true, true, true, true, true, true, true, false] rfl rfl rfl (by kernel_rfl) (fun _ _ _ h => h) hS2 (by rfl) (fun W ⟨s0, s1, s2, s3, s4, _⟩ => by go_simp) ?_
              simp only [Act.put, List.setIfInBounds_toArray, List.set_cons_zero, List.set_cons_succ]
              refine wpAnyT_only 26 #[true, true, true, true, true, true, true, true, true, true, true, true, true, true, true, true, true, true, true, true, true, true, true, true, true, true, true] (by kernel_rfl) rfl rfl (by rfl) (fun K2 hK2 => ?_)
              go_simp
              refine hK2 _ _ (fun h => absurd h (by decide)) ?_
              clear hK2 K2
              refine wpAnyT_done (by kernel_rfl) ?_ _
              have hWz := hWrr.ext hX
              go_wp2_with (refine wpList_storeW rfl 42 (.tmp 2) (.tmp 48) rfl rfl rfl hWz rfl mat_info (mat_one rfl) ?_; intro w5 hW5 hG5 _)
              refine bodyPost_ret (results_mat rfl _ rfl rfl hW5 rfl) rfl ?_
              rw [← HN.out]
              exact MadeM.zero 13 (Below.grown (hEr.trans hX) hG5 (hEr.trans hX).le (fun k hk => by cases hk; omega))
            · have HY := hide (show stackGo C (R + mr) (l ++ ml) ((L.map MIn.m).drop (i + 1)) = res by rw [← HQ.out, if_pos]; exact ⟨HM.out, hcc, by omega⟩)
              have hcc' : (mc != C) = false := by simpa using hcc
              clear hcc
              go_wp2_with fail
              refine wp_region_T (fun W => W.cell? ⟨gl, ol + i * 3, none⟩ = some (.int .i64 mr) ∧ W.cell? ⟨gl, ol + i * 3 + 1, none⟩ = some (.int .i64 mc) ∧ W.cell? ⟨gl, ol + i * 3 + 2, none⟩ = some (.slice Ax ml.length kx) ∧ W.cell? ⟨gx, 0, none⟩ = some (.int .i64 R) ∧ W.cell? ⟨gx, 1, none⟩ = some (.int .i64 C) ∧ Ext wr W) 26 27 #[false, false, false, false, false, false, false, false, false, false, false, false, false, false, false, false, false, false, false, false, false, false, false, false, false, false, false] (by kernel_rfl) rfl rfl (hS _ hK') ?_
              intro hS0
              refine wpAnyT_take 0 (some 21) (.slice (some ⟨gl, ol, none⟩) L.length k) #[true, false, false, false, false, false, false, false, false, false, false, false, false, false, false, false, false, false, false, false, false, false, false, false, false, false, false] rfl rfl rfl (by kernel_rfl) (fun _ _ _ h => h) hS0 (by rfl) (fun W ⟨s0, s1, s2, s3, s4, _⟩ => by go_simp) ?_
              simp only [Act.put, List.setIfInBounds_toArray, List.set_cons_zero, List.set_cons_succ]
              refine wpAnyT_take 1 (some 22) (.int .i64 (i : Int)) #[true, true, false, false, false, false, false, false, false, false, false, false, false, false, false, false, false, false, false, false, false, false, false, false, false, false, false] rfl rfl rfl (by kernel_rfl) (fun _ _ _ h => h) hS0 (by rfl) (fun W ⟨s0, s1, s2, s3, s4, _⟩ => by go_simp) ?_
              simp only [Act.put, List.setIfInBounds_toArray, List.set_cons_zero, List.set_cons_succ]
              refine wpAnyT_take 2 (some 23) (.pointer (some ⟨gl, ol + i * 3, none⟩)) #[true, true, true, false, false, false, false, false, false, false, false, false, false, false, false, false, false, false, false, false, false, false, false, false, false, false, false] rfl rfl rfl (by kernel_rfl) (fun _ _ _ h => h) hS0 (by rfl) (fun W ⟨s0, s1, s2, s3, s4, _⟩ => by go_simp) ?_
              simp only [Act.put, List.setIfInBounds_toArray, List.set_cons_zero, List.set_cons_succ]
              refine wpAnyT_take 3 (some 24) (.agg #[.int .i64 mr, .int .i64 mc, .slice Ax ml.length kx]) #[true, true, true, true, false, false, false, false, false, false, false, false, false, false, false, false, false, false, false, false, false, false, false, false, false, false, false] rfl rfl rfl (by kernel_rfl) (fun _ _ _ h => h) hS0 (by rfl) (fun W ⟨s0, s1, s2, s3, s4, _⟩ => by go_simp) ?_
              simp only [Act.put, List.setIfInBounds_toArray, List.set_cons_zero, List.set_cons_succ]
              refine wpAnyT_only 4 #[true, true, true, true, true, false, false, false, false, false, false, false, false, false, false, false, false, false, false, false, false, false, false, false, false, false, false] (by kernel_rfl) rfl rfl (by rfl) (fun K2 hK2 => ?_)
              go_simp
              go_at_call 29
              refine (C0 _).mono ?_
              rintro e w2 ⟨rfl, hE2⟩
              have hX := hK'.trans hE2
              have hS2 := hS w2 hX
              refine hK2 _ _ (fun _ => hS2) ?_
              clear hK2 K2
              refine wpAnyT_take 5 (some 26) (.bool false) #[true, true, true, true, true, true, false, false, false, false, false, false, false, false, false, false, false, false, false, false, false, false, false, false, false, false, false] rfl rfl rfl (by kernel_rfl) (fun _ _ _ h => h) hS2 (by rfl) (fun W ⟨s0, s1, s2, s3, s4, _⟩ => by go_simp) ?_
              simp only [Act.put, List.setIfInBounds_toArray, List.set_cons_zero, List.set_cons_succ]
              refine wpAnyT_take 6 (some 27) (.bool false) #[true, true, true, true, true, true, true, false, false, false, false, false, false, false, false, false, false, false, false, false, false, false, false, false, false, false, false] rfl rfl rfl (by kernel_rfl) (fun _ _ _ h => h) hS2 (by rfl) (fun W ⟨s0, s1, s2, s3, s4, _⟩ => by go_simp) ?_
              simp only [Act.put, List.setIfInBounds_toArray, List.set_cons_zero, List.set_cons_succ]
              refine wpAnyT_take 7 (some 28) (.slice (some ⟨gl, ol, none⟩) L.length k) #[true, true, true, true, true, true, true, true, false, false, false, false, false, false, false, false, false, false, false, false, false, false, false, false, false, false, false] rfl rfl rfl (by kernel_rfl) (fun _ _ _ h => h) hS2 (by rfl) (fun W ⟨s0, s1, s2, s3, s4, _⟩ => by go_simp) ?_
              simp only [Act.put, List.setIfInBounds_toArray, List.set_cons_zero, List.set_cons_succ]
              refine wpAnyT_take 8 (some 29) (.int .i64 (i : Int)) #[true, true, true, true, true, true, true, true, true, false, false, false, false, false, false, false, false, false, false, false, false, false, false, false, false, false, false] rfl rfl rfl (by kernel_rfl) (fun _ _ _ h => h) hS2 (by rfl) (fun W ⟨s0, s1, s2, s3, s4, _⟩ => by go_simp) ?_
              simp only [Act.put, List.setIfInBounds_toArray, List.set_cons_zero, List.set_cons_succ]
              refine wpAnyT_take 9 (some 30) (.pointer (some ⟨gl, ol + i * 3, none⟩)) #[true, true, true, true, true, true, true, true, true, true, false, false, false, false, false, false, false, false, false, false, false, false, false, false, false, false, false] rfl rfl rfl (by kernel_rfl) (fun _ _ _ h => h) hS2 (by rfl) (fun W ⟨s0, s1, s2, s3, s4, _⟩ => by go_simp) ?_
              simp only [Act.put, List.setIfInBounds_toArray, List.set_cons_zero, List.set_cons_succ]
              refine wpAnyT_take 10 (some 31) (.pointer (some ⟨gl, ol + i * 3 + 1, none⟩)) #[true, true, true, true, true, true, true, true, true, true, true, false, false, false, false, false, false, false, false, false, false, false, false, false, false, false, false] rfl rfl rfl (by kernel_rfl) (fun _ _ _ h => h) hS2 (by rfl) (fun W ⟨s0, s1, s2, s3, s4, _⟩ => by go_simp) ?_
              simp only [Act.put, List.setIfInBounds_toArray, List.set_cons_zero, List.set_cons_succ]
              refine wpAnyT_take 11 (some 32) (.int .i64 mc) #[true, true, true, true, true, true, true, true, true, true, true, true, false, false, false, false, false, false, false, false, false, false, false, false, false, false, false] rfl rfl rfl (by kernel_rfl) (fun _ _ _ h => h) hS2 (by rfl) (fun W ⟨s0, s1, s2, s3, s4, _⟩ => by go_simp) ?_
              simp only [Act.put, List.setIfInBounds_toArray, List.set_cons_zero, List.set_cons_succ]
              refine wpAnyT_take 12 (some 33) (.pointer (some ⟨gx, 1, none⟩)) #[true, true, true, true, true, true, true, true, true, true, true, true, true, false, false, false, false, false, false, false, false, false, false, false, false, false, false] rfl rfl rfl (by kernel_rfl) (fun _ _ _ h => h) hS2 (by rfl) (fun W ⟨s0, s1, s2, s3, s4, _⟩ => by go_simp) ?_
              simp only [Act.put, List.setIfInBounds_toArray, List.set_cons_zero, List.set_cons_succ]
              refine wpAnyT_take 13 (some 34) (.int .i64 C) #[true, true, true, true, true, true, true, true, true, true, true, true, true, true, false, false, false, false, false, false, false, false, false, false, false, false, false] rfl rfl rfl (by kernel_rfl) (fun _ _ _ h => h) hS2 (by rfl) (fun W ⟨s0, s1, s2, s3, s4, _⟩ => by go_simp) ?_
              simp only [Act.put, List.setIfInBounds_toArray, List.set_cons_zero, List.set_cons_succ]
              refine wpAnyT_take 14 (some 35) (.bool false) #[true, true, true, true, true, true, true, true, true, true, true, true, true, true, true, false, false, false, false, false, false, false, false, false, false, false, false] rfl rfl rfl (by kernel_rfl) (fun _ _ _ h => h) hS2 (by rfl) (fun W ⟨s0, s1, s2, s3, s4, _⟩ => by go_simp) ?_
              simp only [Act.put, List.setIfInBounds_toArray, List.set_cons_zero, List.set_cons_succ]
              refine wpAnyT_take 15 (some 36) (.bool false) #[true, true, true, true, true, true, true, true, true, true, true, true, true, true, true, true, false, false, false, false, false, false, false, false, false, false, false] rfl rfl rfl (by kernel_rfl) (fun _ _ _ h => h) hS2 (by rfl) (fun W ⟨s0, s1, s2, s3, s4, _⟩ => by go_simp) ?_
              simp only [Act.put, List.setIfInBounds_toArray, List.set_cons_zero, List.set_cons_succ]
              refine wpAnyT_take 16 (some 37) (.bool false) #[true, true, true, true, true, true, true, true, true, true, true, true, true, true, true, true, true, false, false, false, false, false, false, false, false, false, false] rfl rfl rfl (by kernel_rfl) (fun _ _ _ h => h) hS2 (by rfl) (fun W ⟨s0, s1, s2, s3, s4, _⟩ => by go_simp) ?_
              simp only [Act.put, List.setIfInBounds_toArray, List.set_cons_zero, List.set_cons_succ]
              refine wpAnyT_take 17 (some 38) (.pointer (some ⟨gx, 0, none⟩)) #[true, true, true, true, true, true, true, true, true, true, true, true, true, true, true, true, true, true, false, false, false, false, false, false, false, false, false] rfl rfl rfl (by kernel_rfl) (fun _ _ _ h => h) hS2 (by rfl) (fun W ⟨s0, s1, s2, s3, s4, _⟩ => by go_simp) ?_
              simp only [Act.put, List.setIfInBounds_toArray, List.set_cons_zero, List.set_cons_succ]
              refine wpAnyT_take 18 (some 39) (.int .i64 R) #[true, true, true, true, true, true, true, true, true, true, true, true, true, true, true, true, true, true, true, false, false, false, false, false, false, false, false] rfl rfl rfl (by kernel_rfl) (fun _ _ _ h => h) hS2 (by rfl) (fun W ⟨s0, s1, s2, s3, s4, _⟩ => by go_simp) ?_
              simp only [Act.put, List.setIfInBounds_toArray, List.set_cons_zero, List.set_cons_succ]
              refine wpAnyT_take 19 (some 40) (.slice (some ⟨gl, ol, none⟩) L.length k) #[true, true, true, true, true, true, true, true, true, true, true, true, true, true, true, true, true, true, true, true, false, false, false, false, false, false, false] rfl rfl rfl (by kernel_rfl) (fun _ _ _ h => h) hS2 (by rfl) (fun W ⟨s0, s1, s2, s3, s4, _⟩ => by go_simp) ?_
              simp only [Act.put, List.setIfInBounds_toArray, List.set_cons_zero, List.set_cons_succ]
              refine wpAnyT_take 20 (some 41) (.int .i64 (i : Int)) #[true, true, true, true, true, true, true, true, true, true, true, true, true, true, true, true, true, true, true, true, true, false, false, false, false, false, false] rfl rfl rfl (by kernel_rfl) (fun _ _ _ h => h) hS2 (by rfl) (fun W ⟨s0, s1, s2, s3, s4, _⟩ => by go_simp) ?_
              simp only [Act.put, List.setIfInBounds_toArray, List.set_cons_zero, List.set_cons_succ]
              refine wpAnyT_take 21 (some 42) (.pointer (some ⟨gl, ol + i * 3, none⟩)) #[true, true, true, true, true, true, true, true, true, true, true, true, true, true, true, true, true, true, true, true, true, true, false, false, false, false, false] rfl rfl rfl (by kernel_rfl) (fun _ _ _ h => h) hS2 (by rfl) (fun W ⟨s0, s1, s2, s3, s4, _⟩ => by go_simp) ?_
              simp only [Act.put, List.setIfInBounds_toArray, List.set_cons_zero, List.set_cons_succ]
              refine wpAnyT_take 22 (some 43) (.pointer (some ⟨gl, ol + i * 3, none⟩)) #[true, true, true, true, true, true, true, true, true, true, true, true, true, true, true, true, true, true, true, true, true, true, true, false, false, false, false] rfl rfl rfl (by kernel_rfl) (fun _ _ _ h => h) hS2 (by rfl) (fun W ⟨s0, s1, s2, s3, s4, _⟩ => by go_simp) ?_
              simp only [Act.put, List.setIfInBounds_toArray, List.set_cons_zero, List.set_cons_succ]
              refine wpAnyT_take 23 (some 44) (.int .i64 mr) #[true, true, true, true, true, true, true, true, true, true, true, true, true, true, true, true, true, true, true, true, true, true, true, true, false, false, false] rfl rfl rfl (by kernel_rfl) (fun _ _ _ h => h) hS2 (by rfl) (fun W ⟨s0, s1, s2, s3, s4, _⟩ => by go_simp) ?_
              simp only [Act.put, List.setIfInBounds_toArray, List.set_cons_zero, List.set_cons_succ]
              refine wpAnyT_take 24 (some 45) (.int .i64 (R + mr)) #[true, true, true, true, true, true, true, true, true, true, true, true, true, true, true, true, true, true, true, true, true, true, true, true, true, false, false] rfl rfl rfl (by kernel_rfl) (fun _ _ _ h => h) hS2 (by rfl) (fun W ⟨s0, s1, s2, s3, s4, _⟩ => by go_simp) ?_
              simp only [Act.put, List.setIfInBounds_toArray, List.set_cons_zero, List.set_cons_succ]
              refine wpAnyT_take 25 (some 46) (.bool false) #[true, true, true, true, true, true, true, true, true, true, true, true, true, true, true, true, true, true, true, true, true, true, true, true, true, true, false] rfl rfl rfl (by kernel_rfl) (fun _ _ _ h => h) hS2 (by rfl) (fun W ⟨s0, s1, s2, s3, s4, _⟩ => by go_simp) ?_
              simp only [Act.put, List.setIfInBounds_toArray, List.set_cons_zero, List.set_cons_succ]
              refine wpAnyT_only 26 #[true, true, true, true, true, true, true, true, true, true, true, true, true, true, true, true, true, true, true, true, true, true, true, true, true, true, true] (by kernel_rfl) rfl rfl (by rfl) (fun K2 hK2 => ?_)
              go_simp
              refine hK2 _ _ (fun h => absurd h (by decide)) ?_
              clear hK2 K2
              refine wpAnyT_done (by kernel_rfl) ?_ _
              have hp1 : mr * mc ≤ mr * 255 := Int.mul_le_mul_of_nonneg_left q4 q1
              have hml : (ml.length : Int) ≤ 255 * mr := by have := HQ5.out; omega
              have hfit : l.length + ml.length ≤ 140737488355328 := by omega
              have HML := hide hml
              have HSM := hide (show R + mr ≤ 255 by omega)
              have hEd := hX.drew
              have hWd := hWv.ext hEd
              have hOd := hO.ext hEd
              have hWrd := hWrr.ext hEd
              have hEwd := hEr.trans hEd
              have hne1 : (Value.slice A3 n3 c3).ownBlock ≠ some gx := fun e => by
                have := (hO.lt _ e).1
                omega
              obtain ⟨s0, s1, s2, s3, s4, _⟩ := hS2
              clear hS hT hK hK' hE2 hX C0 hp1 hml b0 b1 b2 a0 a1 a2 hWv hO hWrr hsm
              go_wp2_with fail
              refine wp_region_T (fun W => W.cell? ⟨gx, 0, none⟩ = some (.int .i64 R) ∧ W.cell? ⟨gl, ol + i * 3, none⟩ = some (.int .i64 mr)) 9 10 #[false, false, false, false, false, false, false, false, false, false] (by kernel_rfl) rfl rfl ⟨s3, s0⟩ ?_
              intro hS0
              refine wpAnyT_take 0 (some 49) (.pointer (some ⟨gx, 0, none⟩)) #[true, false, false, false, false, false, false, false, false, false] rfl rfl rfl (by kernel_rfl) (fun _ _ _ h => h) hS0 (by rfl) (fun W ⟨x0, x1⟩ => by go_simp) ?_
              simp only [Act.put, List.setIfInBounds_toArray, List.set_cons_zero, List.set_cons_succ]
              refine wpAnyT_take 1 (some 50) (.int .i64 R) #[true, true, false, false, false, false, false, false, false, false] rfl rfl rfl (by kernel_rfl) (fun _ _ _ h => h) hS0 (by rfl) (fun W ⟨x0, x1⟩ => by go_simp) ?_
              simp only [Act.put, List.setIfInBounds_toArray, List.set_cons_zero, List.set_cons_succ]
              refine wpAnyT_take 2 (some 51) (.slice (some ⟨gl, ol, none⟩) L.length k) #[true, true, true, false, false, false, false, false, false, false] rfl rfl rfl (by kernel_rfl) (fun _ _ _ h => h) hS0 (by rfl) (fun W ⟨x0, x1⟩ => by go_simp) ?_
              simp only [Act.put, List.setIfInBounds_toArray, List.set_cons_zero, List.set_cons_succ]
              refine wpAnyT_take 3 (some 52) (.int .i64 (i : Int)) #[true, true, true, true, false, false, false, false, false, false] rfl rfl rfl (by kernel_rfl) (fun _ _ _ h => h) hS0 (by rfl) (fun W ⟨x0, x1⟩ => by go_simp) ?_
              simp only [Act.put, List.setIfInBounds_toArray, List.set_cons_zero, List.set_cons_succ]
              refine wpAnyT_take 4 (some 53) (.pointer (some ⟨gl, ol + i * 3, none⟩)) #[true, true, true, true, true, false, false, false, false, false] rfl rfl rfl (by kernel_rfl) (fun _ _ _ h => h) hS0 (by rfl) (fun W ⟨x0, x1⟩ => by go_simp) ?_
              simp only [Act.put, List.setIfInBounds_toArray, List.set_cons_zero, List.set_cons_succ]
              refine wpAnyT_take 5 (some 54) (.pointer (some ⟨gl, ol + i * 3, none⟩)) #[true, true, true, true, true, true, false, false, false, false] rfl rfl rfl (by kernel_rfl) (fun _ _ _ h => h) hS0 (by rfl) (fun W ⟨x0, x1⟩ => by go_simp) ?_
              simp only [Act.put, List.setIfInBounds_toArray, List.set_cons_zero, List.set_cons_succ]
              refine wpAnyT_take 6 (some 55) (.int .i64 mr) #[true, true, true, true, true, true, true, false, false, false] rfl rfl rfl (by kernel_rfl) (fun _ _ _ h => h) hS0 (by rfl) (fun W ⟨x0, x1⟩ => by go_simp) ?_
              simp only [Act.put, List.setIfInBounds_toArray, List.set_cons_zero, List.set_cons_succ]
              refine wpAnyT_take 7 (some 56) (.int .i64 (R + mr)) #[true, true, true, true, true, true, true, true, false, false] rfl rfl rfl (by kernel_rfl) (fun _ _ _ h => h) hS0 (by rfl) (fun W ⟨x0, x1⟩ => by go_simp) ?_
              simp only [Act.put, List.setIfInBounds_toArray, List.set_cons_zero, List.set_cons_succ]
              refine wpAnyT_only 8 #[true, true, true, true, true, true, true, true, true, false] (by kernel_rfl) rfl rfl (by rfl) (fun K hK => ?_)
              go_simp
              refine hK _ _ (fun _ => ⟨s3, s0⟩) ?_
              clear hK K
              refine wpAnyT_only 9 #[true, true, true, true, true, true, true, true, true, true] (by kernel_rfl) rfl rfl (by rfl) (fun K hK => ?_)
              refine wp_storeC 3 (.tmp 57) (.tmp 56) rfl #[.int .i64 (R + mr), .int .i64 C, .slice A3 n3 c3] rfl rfl hWd (by simp) (by kernel_rfl) rfl rfl rfl ?_
              intro w5 hW5 hG5
              refine hK _ _ (fun h => absurd h (by decide)) ?_
              clear hK K
              refine wpAnyT_done (by kernel_rfl) ?_ _
              clear hWd
              have hO5 := (Mod.ofRow (ob := none) hG5).own hOd hne1 (by simp [Classical.em])
              have hWr5' := hWrd.ownGrown hG5 (by simp; omega)
              have hE5 : Ext w w5 := Below.grown hEwd hG5 hEwd.le (fun k hk => by cases hk; omega)
              have t0 := HAT.out.ext hE5 hgl
              obtain ⟨_, _, t2⟩ := t0
              dsimp only at t2
              have t3 := hW5.at 2 rfl
              have hE6 := hE5.drew
              have hO6 := hO5.ext (Ext.refl w5).drew
              have hW6 := hW5.ext (Ext.refl w5).drew
              have hWr6 := hWr5'.ext (Ext.refl w5).drew
              have hB6 := hE6.bytes HBX.out
              have hB7 : gx + 1 ≤ w5.drew.heap.size := hW6.lt
              go_wp2_with fail
              refine wp_region_T (fun W => W.cell? ⟨gx, 2, none⟩ = some (.slice A3 n3 c3) ∧ W.cell? ⟨gl, ol + i * 3 + 2, none⟩ = some (.slice Ax ml.length kx)) 7 10 #[false, false, false, false, false, false, false, false, false, false] (by kernel_rfl) rfl rfl ⟨t3, t2⟩ ?_
              intro hS0
              refine wpAnyT_take 0 (some 58) (.pointer (some ⟨gx, 2, none⟩)) #[true, false, false, false, false, false, false, false, false, false] rfl rfl rfl (by kernel_rfl) (fun _ _ _ h => h) hS0 (by rfl) (fun W ⟨x0, x1⟩ => by go_simp) ?_
              simp only [Act.put, List.setIfInBounds_toArray, List.set_cons_zero, List.set_cons_succ]
              refine wpAnyT_take 1 (some 59) (.slice A3 n3 c3) #[true, true, false, false, false, false, false, false, false, false] rfl rfl rfl (by kernel_rfl) (fun _ _ _ h => h) hS0 (by rfl) (fun W ⟨x0, x1⟩ => by go_simp) ?_
              simp only [Act.put, List.setIfInBounds_toArray, List.set_cons_zero, List.set_cons_succ]
              refine wpAnyT_take 2 (some 60) (.slice (some ⟨gl, ol, none⟩) L.length k) #[true, true, true, false, false, false, false, false, false, false] rfl rfl rfl (by kernel_rfl) (fun _ _ _ h => h) hS0 (by rfl) (fun W ⟨x0, x1⟩ => by go_simp) ?_
              simp only [Act.put, List.setIfInBounds_toArray, List.set_cons_zero, List.set_cons_succ]
              refine wpAnyT_take 3 (some 61) (.int .i64 (i : Int)) #[true, true, true, true, false, false, false, false, false, false] rfl rfl rfl (by kernel_rfl) (fun _ _ _ h => h) hS0 (by rfl) (fun W ⟨x0, x1⟩ => by go_simp) ?_
              simp only [Act.put, List.setIfInBounds_toArray, List.set_cons_zero, List.set_cons_succ]
              refine wpAnyT_take 4 (some 62) (.pointer (some ⟨gl, ol + i * 3, none⟩)) #[true, true, true, true, true, false, false, false, false, false] rfl rfl rfl (by kernel_rfl) (fun _ _ _ h => h) hS0 (by rfl) (fun W ⟨x0, x1⟩ => by go_simp) ?_
              simp only [Act.put, List.setIfInBounds_toArray, List.set_cons_zero, List.set_cons_succ]
              refine wpAnyT_take 5 (some 63) (.pointer (some ⟨gl, ol + i * 3 + 2, none⟩)) #[true, true, true, true, true, true, false, false, false, false] rfl rfl rfl (by kernel_rfl) (fun _ _ _ h => h) hS0 (by rfl) (fun W ⟨x0, x1⟩ => by go_simp) ?_
              simp only [Act.put, List.setIfInBounds_toArray, List.set_cons_zero, List.set_cons_succ]
              refine wpAnyT_take 6 (some 64) (.slice Ax ml.length kx) #[true, true, true, true, true, true, true, false, false, false] rfl rfl rfl (by kernel_rfl) (fun _ _ _ h => h) hS0 (by rfl) (fun W ⟨x0, x1⟩ => by go_simp) ?_
              simp only [Act.put, List.setIfInBounds_toArray, List.set_cons_zero, List.set_cons_succ]
              refine wpAnyT_only 7 #[true, true, true, true, true, true, true, true, false, false] (by kernel_rfl) rfl rfl (by rfl) (fun K hK => ?_)
              refine wp_appAt (.tmp 59) (.tmp 64) rfl rfl hO6 rfl hB6 hfit hB7 ?_
              intro v7 w7 hO7 hG7 _
              have hW7 := hW6.ownGrown hG7 hne1
              have o1 := hO7.one
              have o2 := hO7.cells1
              refine hK _ _ (fun h => absurd h (by decide)) ?_
              clear hK K
              refine wpAnyT_only 8 #[true, true, true, true, true, true, true, true, true, false] (by kernel_rfl) rfl rfl (by rfl) (fun K hK => ?_)
              go_simp
              refine hK _ _ (fun h => absurd h (by decide)) ?_
              clear hK K
              refine wpAnyT_only 9 #[true, true, true, true, true, true, true, true, true, true] (by kernel_rfl) rfl rfl (by rfl) (fun K hK => ?_)
              refine wp_storeC 35 (.tmp 66) (.tmp 65) rfl #[.int .i64 (R + mr), .int .i64 C, v7] rfl rfl hW7 (by simp) (by kernel_rfl) o1 o2 rfl ?_
              intro w8 hW8 hG8
              refine hK _ _ (fun h => absurd h (by decide)) ?_
              clear hK K
              refine wpAnyT_done (by kernel_rfl) ?_ _
              go_wp2
              go_roundw
              case rel =>
                have hne8 : v7.ownBlock ≠ some gx := fun e => by
                  have := (hO7.lt _ e).1
                  omega
                have hne9 : v7.ownBlock ≠ some w.heap.size := fun e => by
                  have := (hO7.lt _ e).1
                  omega
                have hne10 : (Value.slice A3 n3 c3).ownBlock ≠ some w.heap.size := fun e => by
                  have := (hO6.lt _ e).1
                  omega
                have hF7 : Ext w w7 := Below.grown hE6 hG7 hE6.le (fun k hk => by have := (hO6.lt k hk).1; omega)
                have hF8 : Ext w w8 := Below.grown hF7 hG8 hF7.le (fun k hk => by cases hk; omega)
                have hWr8 := (hWr6.ownGrown hG7 hne10).ownGrown hG8 (by simp; omega)
                exact ⟨i + 1, R + mr, l ++ ml, by omega, by go_num, by omega, HSM.out, by rw [List.length_append]; have := HML.out; omega, HY.out, ⟨v7, hW8, (Mod.ofRow (ob := none) hG8).own hO7 hne8 (by simp [Classical.em])⟩, hWr8, hF8⟩
              case measure => simp [intOf]; omega
          · have HN := hide (show (MV.zero, (13 : Int)) = res by rw [← HQ.out, if_neg]; rintro ⟨_, h, _⟩; exact hcc h)
            have hcc' : (mc != C) = true := by simpa using hcc
            clear hcc
            go_wp2_with fail
            refine wp_region_T (fun W => W.cell? ⟨gl, ol + i * 3, none⟩ = some (.int .i64 mr) ∧ W.cell? ⟨gl, ol + i * 3 + 1, none⟩ = some (.int .i64 mc) ∧ W.cell? ⟨gl, ol + i * 3 + 2, none⟩ = some (.slice Ax ml.length kx) ∧ W.cell? ⟨gx, 0, none⟩ = some (.int .i64 R) ∧ W.cell? ⟨gx, 1, none⟩ = some (.int .i64 C) ∧ Ext wr W) 26 27 #[false, false, false, false, false, false, false, false, false, false, false, false, false, false, false, false, false, false, false, false, false, false, false, false, false, false, false] (by kernel_rfl) rfl rfl (hS _ hK') ?_
            intro hS0
            refine wpAnyT_take 0 (some 21) (.slice (some ⟨gl, ol, none⟩) L.length k) #[true, false, false, false, false, false, false, false, false, false, false, false, false, false, false, false, false, false, false, false, false, false, false, false, false, false, false] rfl rfl rfl (by kernel_rfl) (fun _ _ _ h => h) hS0 (by rfl) (fun W ⟨s0, s1, s2, s3, s4, _⟩ => by go_simp) ?_
            simp only [Act.put, List.setIfInBounds_toArray, List.set_cons_zero, List.set_cons_succ]
            refine wpAnyT_take 1 (some 22) (.int .i64 (i : Int)) #[true, true, false, false, false, false, false, false, false, false, false, false, false, false, false, false, false, false, false, false, false, false, false, false, false, false, false] rfl rfl rfl (by kernel_rfl) (fun _ _ _ h => h) hS0 (by rfl) (fun W ⟨s0, s1, s2, s3, s4, _⟩ => by go_simp) ?_
            simp only [Act.put, List.setIfInBounds_toArray, List.set_cons_zero, List.set_cons_succ]
            refine wpAnyT_take 2 (some 23) (.pointer (some ⟨gl, ol + i * 3, none⟩)) #[true, true, true, false, false, false, false, false, false, false, false, false, false, false, false, false, false, false, false, false, false, false, false, false, false, false, false] rfl rfl rfl (by kernel_rfl) (fun _ _ _ h => h) hS0 (by rfl) (fun W ⟨s0, s1, s2, s3, s4, _⟩ => by go_simp) ?_
            simp only [Act.put, List.setIfInBounds_toArray, List.set_cons_zero, List.set_cons_succ]
            refine wpAnyT_take 3 (some 24) (.agg #[.int .i64 mr, .int .i64 mc, .slice Ax ml.length kx]) #[true, true, true, true, false, false, false, false, false, false, false, false, false, false, false, false, false, false, false, false, false, false, false, false, false, false, false] rfl rfl rfl (by kernel_rfl) (fun _ _ _ h => h) hS0 (by rfl) (fun W ⟨s0, s1, s2, s3, s4, _⟩ => by go_simp) ?_
            simp only [Act.put, List.setIfInBounds_toArray, List.set_cons_zero, List.set_cons_succ]
            refine wpAnyT_only 4 #[true, true, true, true, true, false, false, false, false, false, false, false, false, false, false, false, false, false, false, false, false, false, false, false, false, false, false] (by kernel_rfl) rfl rfl (by rfl) (fun K2 hK2 => ?_)
            go_simp
            go_at_call 29
            refine (C0 _).mono ?_
            rintro e w2 ⟨rfl, hE2⟩
            have hX := hK'.trans hE2
            have hS2 := hS w2 hX
            refine hK2 _ _ (fun _ => hS2) ?_
            clear hK2 K2
            refine wpAnyT_take 5 (some 26) (.bool false) #[true, true, true, true, true, true, false, false, false, false, false, false, false, false, false, false, false, false, false, false, false, false, false, false, false, false, false] rfl rfl rfl (by kernel_rfl) (fun _ _ _ h => h) hS2 (by rfl) (fun W ⟨s0, s1, s2, s3, s4, _⟩ => by go_simp) ?_
            simp only [Act.put, List.setIfInBounds_toArray, List.set_cons_zero, List.set_cons_succ]
            refine wpAnyT_take 6 (some 27) (.bool false) #[true, true, true, true, true, true, true, false, false, false, false, false, false, false, false, false, false, false, false, false, false, false, false, false, false, false, false] rfl rfl rfl (by kernel_rfl) (fun _ _ _ h => h) hS2 (by rfl) (fun W ⟨s0, s1, s2, s3, s4, _⟩ => by go_simp) ?_
            simp only [Act.put, List.setIfInBounds_toArray, List.set_cons_zero, List.set_cons_succ]
            refine wpAnyT_take 7 (some 28) (.slice (some ⟨gl, ol, none⟩) L.length k) #[true, true, true, true, true, true, true, true, false, false, false, false, false, false, false, false, false, false, false, false, false, false, false, false, false, false, false] rfl rfl rfl (by kernel_rfl) (fun _ _ _ h => h) hS2 (by rfl) (fun W ⟨s0, s1, s2, s3, s4, _⟩ => by go_simp) ?_
            simp only [Act.put, List.setIfInBounds_toArray, List.set_cons_zero, List.set_cons_succ]
            refine wpAnyT_take 8 (some 29) (.int .i64 (i : Int)) #[true, true, true, true, true, true, true, true, true, false, false, false, false, false, false, false, false, false, false, false, false, false, false, false, false, false, false] rfl rfl rfl (by kernel_rfl) (fun _ _ _ h => h) hS2 (by rfl) (fun W ⟨s0, s1, s2, s3, s4, _⟩ => by go_simp) ?_
            simp only [Act.put, List.setIfInBounds_toArray, List.set_cons_zero, List.set_cons_succ]
            refine wpAnyT_take 9 (some 30) (.pointer (some ⟨gl, ol + i * 3, none⟩)) #[true, true, true, true, true, true, true, true, true, true, false, false, false, false, false, false, false, false, false, false, false, false, false, false, false, false, false] rfl rfl rfl (by kernel_rfl) (fun _ _ _ h => h) hS2 (by rfl) (fun W ⟨s0, s1, s2, s3, s4, _⟩ => by go_simp) ?_
            simp only [Act.put, List.setIfInBounds_toArray, List.set_cons_zero, List.set_cons_succ]
            refine wpAnyT_take 10 (some 31) (.pointer (some ⟨gl, ol + i * 3 + 1, none⟩)) #[true, true, true, true, true, true, true, true, true, true, true, false, false, false, false, false, false, false, false, false, false, false, false, false, false, false, false] rfl rfl rfl (by kernel_rfl) (fun _ _ _ h => h) hS2 (by rfl) (fun W ⟨s0, s1, s2, s3, s4, _⟩ => by go_simp) ?_
            simp only [Act.put, List.setIfInBounds_toArray, List.set_cons_zero, List.set_cons_succ]
            refine wpAnyT_take 11 (some 32) (.int .i64 mc) #[true, true, true, true, true, true, true, true, true, true, true, true, false, false, false, false, false, false, false, false, false, false, false, false, false, false, false] rfl rfl rfl (by kernel_rfl) (fun _ _ _ h => h) hS2 (by rfl) (fun W ⟨s0, s1, s2, s3, s4, _⟩ => by go_simp) ?_
            simp only [Act.put, List.setIfInBounds_toArray, List.set_cons_zero, List.set_cons_succ]
            refine wpAnyT_take 12 (some 33) (.pointer (some ⟨gx, 1, none⟩)) #[true, true, true, true, true, true, true, true, true, true, true, true, true, false, false, false, false, false, false, false, false, false, false, false, false, false, false] rfl rfl rfl (by kernel_rfl) (fun _ _ _ h => h) hS2 (by rfl) (fun W ⟨s0, s1, s2, s3, s4, _⟩ => by go_simp) ?_
            simp only [Act.put, List.setIfInBounds_toArray, List.set_cons_zero, List.set_cons_succ]
            refine wpAnyT_take 13 (some 34) (.int .i64 C) #[true, true, true, true, true, true, true, true, true, true, true, true, true, true, false, false, false, false, false, false, false, false, false, false, false, false, false] rfl rfl rfl (by kernel_rfl) (fun _ _ _ h => h) hS2 (by rfl) (fun W ⟨s0, s1, s2, s3, s4, _⟩ => by go_simp) ?_
            simp only [Act.put, List.setIfInBounds_toArray, List.set_cons_zero, List.set_cons_succ]
            refine wpAnyT_take 14 (some 35) (.bool true) #[true, true, true, true, true, true, true, true, true, true, true, true, true, true, true, false, false, false, false, false, false, false, false, false, false, false, false] rfl rfl rfl (by kernel_rfl) (fun _ _ _ h => h) hS2 (by rfl) (fun W ⟨s0, s1, s2, s3, s4, _⟩ => by go_simp) ?_
            simp only [Act.put, List.setIfInBounds_toArray, List.set_cons_zero, List.set_cons_succ]
            refine wpAnyT_take 15 (some 36) (.bool true) #[true, true, true, true, true, true, true, true, true, true, true, true, true, true, true, true, false, false, false, false, false, false, false, false, false, false, false] rfl rfl rfl (by kernel_rfl) (fun _ _ _ h => h) hS2 (by rfl) (fun W ⟨s0, s1, s2, s3, s4, _⟩ => by go_simp) ?_
            simp only [Act.put, List.setIfInBounds_toArray, List.set_cons_zero, List.set_cons_succ]
            refine wpAnyT_take 16 (some 37) (.bool true) #[true, true, true, true, true, true, true, true, true, true, true, true, true, true, true, true, true, false, false, false, false, false, false, false, false, false, false] rfl rfl rfl (by kernel_rfl) (fun _ _ _ h => h) hS2 (by rfl) (fun W ⟨s0, s1, s2, s3, s4, _⟩ => by go_simp) ?_
            simp only [Act.put, List.setIfInBounds_toArray, List.set_cons_zero, List.set_cons_succ]
            refine wpAnyT_skip 17 (some 38) #[true, true, true, true, true, true, true, true, true, true, true, true, true, true, true, true, true, true, false, false, false, false, false, false, false, false, false] rfl rfl rfl (by kernel_rfl) (fun _ _ _ h => h) hS2 (by rfl) ?_
            simp only [Act.put, List.setIfInBounds_toArray, List.set_cons_zero, List.set_cons_succ]
            refine wpAnyT_skip 18 (some 39) #[true, true, true, true, true, true, true, true, true, true, true, true, true, true, true, true, true, true, true, false, false, false, false, false, false, false, false] rfl rfl rfl (by kernel_rfl) (fun _ _ _ h => h) hS2 (by rfl) ?_
            simp only [Act.put, List.setIfInBounds_toArray, List.set_cons_zero, List.set_cons_succ]
            refine wpAnyT_skip 19 (some 40) #[true, true, true, true, true, true, true, true, true, true, true, true, true, true, true, true, true, true, true, true, false, false, false, false, false, false, false] rfl rfl rfl (by kernel_rfl) (fun _ _ _ h => h) hS2 (by rfl) ?_
            simp only [Act.put, List.setIfInBounds_toArray, List.set_cons_zero, List.set_cons_succ]
            refine wpAnyT_skip 20 (some 41) #[true, true, true, true, true, true, true, true, true, true, true, true, true, true, true, true, true, true, true, true, true, false, false, false, false, false, false] rfl rfl rfl (by kernel_rfl) (fun _ _ _ h => h) hS2 (by rfl) ?_
            simp only [Act.put, List.setIfInBounds_toArray, List.set_cons_zero, List.set_cons_succ]
            refine wpAnyT_skip 21 (some 42) #[true, true, true, true, true, true, true, true, true, true, true, true, true, true, true, true, true, true, true, true, true, true, false, false, false, false, false] rfl rfl rfl (by kernel_rfl) (fun _ _ _ h => h) hS2 (by rfl) ?_
            simp only [Act.put, List.setIfInBounds_toArray, List.set_cons_zero, List.set_cons_succ]
            refine wpAnyT_skip 22 (some 43) #[true, true, true, true, true, true, true, true, true, true, true, true, true, true, true, true, true, true, true, true, true, true, true, false, false, false, false] rfl rfl rfl (by kernel_rfl) (fun _ _ _ h => h) hS2 (by rfl) ?_
            simp only [Act.put, List.setIfInBounds_toArray, List.set_cons_zero, List.set_cons_succ]
            refine wpAnyT_skip 23 (some 44) #[true, true, true, true, true, true, true, true, true, true, true, true, true, true, true, true, true, true, true, true, true, true, true, true, false, false, false] rfl rfl rfl (by kernel_rfl) (fun _ _ _ h => h) hS2 (by rfl) ?_
            simp only [Act.put, List.setIfInBounds_toArray, List.set_cons_zero, List.set_cons_succ]
            refine wpAnyT_skip 24 (some 45) #[true, true, true, true, true, true, true, true, true, true, true, true, true, true, true, true, true, true, true, true, true, true, true, true, true, false, false] rfl rfl rfl (by kernel_rfl) (fun _ _ _ h => h) hS2 (by rfl) ?_
            simp only [Act.put, List.setIfInBounds_toArray, List.set_cons_zero, List.set_cons_succ]
            refine wpAnyT_skip 25 (some 46) #[true, true, true, true, true, true, true, true, true, true, true, true, true, true, true, true, true, true, true, true, true, true, true, true, true, true, false] rfl rfl rfl (by kernel_rfl) (fun _ _ _ h => h) hS2 (by rfl) ?_
            simp only [Act.put, List.setIfInBounds_toArray, List.set_cons_zero, List.set_cons_succ]
            refine wpAnyT_only 26 #[true, true, true, true, true, true, true, true, true, true, true, true, true, true, true, true, true, true, true, true, true, true, true, true, true, true, true] (by kernel_rfl) rfl rfl (by rfl) (fun K2 hK2 => ?_)
            go_simp
            refine hK2 _ _ (fun h => absurd h (by decide)) ?_
            clear hK2 K2
            refine wpAnyT_done (by kernel_rfl) ?_ _
            have hWz := hWrr.ext hX
            go_wp2_with (refine wpList_storeW rfl 42 (.tmp 2) (.tmp 48) rfl rfl rfl hWz rfl mat_info (mat_one rfl) ?_; intro w5 hW5 hG5 _)
            refine bodyPost_ret (results_mat rfl _ rfl rfl hW5 rfl) rfl ?_
            rw [← HN.out]
            exact MadeM.zero 13 (Below.grown (hEr.trans hX) hG5 (hEr.trans hX).le (fun k hk => by cases hk; omega))
        · have HN := hide (show (MV.zero, (13 : Int)) = res by rw [← HQ.out, if_neg]; rintro ⟨h, _⟩; exact hmay h)
          rw [Bool.not_eq_true] at hmay
          rw [hmay] at C0
          clear hmay
          go_wp2_with fail
          refine wp_region_T (fun W => W.cell? ⟨gl, ol + i * 3, none⟩ = some (.int .i64 mr) ∧ W.cell? ⟨gl, ol + i * 3 + 1, none⟩ = some (.int .i64 mc) ∧ W.cell? ⟨gl, ol + i * 3 + 2, none⟩ = some (.slice Ax ml.length kx) ∧ W.cell? ⟨gx, 0, none⟩ = some (.int .i64 R) ∧ W.cell? ⟨gx, 1, none⟩ = some (.int .i64 C) ∧ Ext wr W) 26 27 #[false, false, false, false, false, false, false, false, false, false, false, false, false, false, false, false, false, false, false, false, false, false, false, false, false, false, false] (by kernel_rfl) rfl rfl (hS _ hK') ?_
          intro hS0
          refine wpAnyT_take 0 (some 21) (.slice (some ⟨gl, ol, none⟩) L.length k) #[true, false, false, false, false, false, false, false, false, false, false, false, false, false, false, false, false, false, false, false, false, false, false, false, false, false, false] rfl rfl rfl (by kernel_rfl) (fun _ _ _ h => h) hS0 (by rfl) (fun W ⟨s0, s1, s2, s3, s4, _⟩ => by go_simp) ?_
          simp only [Act.put, List.setIfInBounds_toArray, List.set_cons_zero, List.set_cons_succ]
          refine wpAnyT_take 1 (some 22) (.int .i64 (i : Int)) #[true, true, false, false, false, false, false, false, false, false, false, false, false, false, false, false, false, false, false, false, false, false, false, false, false, false, false] rfl rfl rfl (by kernel_rfl) (fun _ _ _ h => h) hS0 (by rfl) (fun W ⟨s0, s1, s2, s3, s4, _⟩ => by go_simp) ?_
          simp only [Act.put, List.setIfInBounds_toArray, List.set_cons_zero, List.set_cons_succ]
          refine wpAnyT_take 2 (some 23) (.pointer (some ⟨gl, ol + i * 3, none⟩)) #[true, true, true, false, false, false, false, false, false, false, false, false, false, false, false, false, false, false, false, false, false, false, false, false, false, false, false] rfl rfl rfl (by kernel_rfl) (fun _ _ _ h => h) hS0 (by rfl) (fun W ⟨s0, s1, s2, s3, s4, _⟩ => by go_simp) ?_
          simp only [Act.put, List.setIfInBounds_toArray, List.set_cons_zero, List.set_cons_succ]
          refine wpAnyT_take 3 (some 24) (.agg #[.int .i64 mr, .int .i64 mc, .slice Ax ml.length kx]) #[true, true, true, true, false, false, false, false, false, false, false, false, false, false, false, false, false, false, false, false, false, false, false, false, false, false, false] rfl rfl rfl (by kernel_rfl) (fun _ _ _ h => h) hS0 (by rfl) (fun W ⟨s0, s1, s2, s3, s4, _⟩ => by go_simp) ?_
          simp only [Act.put, List.setIfInBounds_toArray, List.set_cons_zero, List.set_cons_succ]
          refine wpAnyT_only 4 #[true, true, true, true, true, false, false, false, false, false, false, false, false, false, false, false, false, false, false, false, false, false, false, false, false, false, false] (by kernel_rfl) rfl rfl (by rfl) (fun K2 hK2 => ?_)
          go_simp
          go_at_call 29
          refine (C0 _).mono ?_
          rintro e w2 ⟨rfl, hE2⟩
          have hX := hK'.trans hE2
          have hS2 := hS w2 hX
          refine hK2 _ _ (fun _ => hS2) ?_
          clear hK2 K2
          refine wpAnyT_take 5 (some 26) (.bool true) #[true, true, true, true, true, true, false, false, false, false, false, false, false, false, false, false, false, false, false, false, false, false, false, false, false, false, false] rfl rfl rfl (by kernel_rfl) (fun _ _ _ h => h) hS2 (by rfl) (fun W ⟨s0, s1, s2, s3, s4, _⟩ => by go_simp) ?_
          simp only [Act.put, List.setIfInBounds_toArray, List.set_cons_zero, List.set_cons_succ]
          refine wpAnyT_take 6 (some 27) (.bool true) #[true, true, true, true, true, true, true, false, false, false, false, false, false, false, false, false, false, false, false, false, false, false, false, false, false, false, false] rfl rfl rfl (by kernel_rfl) (fun _ _ _ h => h) hS2 (by rfl) (fun W ⟨s0, s1, s2, s3, s4, _⟩ => by go_simp) ?_
          simp only [Act.put, List.setIfInBounds_toArray, List.set_cons_zero, List.set_cons_succ]
          refine wpAnyT_skip 7 (some 28) #[true, true, true, true, true, true, true, true, false, false, false, false, false, false, false, false, false, false, false, false, false, false, false, false, false, false, false] rfl rfl rfl (by kernel_rfl) (fun _ _ _ h => h) hS2 (by rfl) ?_
          simp only [Act.put, List.setIfInBounds_toArray, List.set_cons_zero, List.set_cons_succ]
          refine wpAnyT_skip 8 (some 29) #[true, true, true, true, true, true, true, true, true, false, false, false, false, false, false, false, false, false, false, false, false, false, false, false, false, false, false] rfl rfl rfl (by kernel_rfl) (fun _ _ _ h => h) hS2 (by rfl) ?_
          simp only [Act.put, List.setIfInBounds_toArray, List.set_cons_zero, List.set_cons_succ]
          refine wpAnyT_skip 9 (some 30) #[true, true, true, true, true, true, true, true, true, true, false, false, false, false, false, false, false, false, false, false, false, false, false, false, false, false, false] rfl rfl rfl (by kernel_rfl) (fun _ _ _ h => h) hS2 (by rfl) ?_
          simp only [Act.put, List.setIfInBounds_toArray, List.set_cons_zero, List.set_cons_succ]
          refine wpAnyT_skip 10 (some 31) #[true, true, true, true, true, true, true, true, true, true, true, false, false, false, false, false, false, false, false, false, false, false, false, false, false, false, false] rfl rfl rfl (by kernel_rfl) (fun _ _ _ h => h) hS2 (by rfl) ?_
          simp only [Act.put, List.setIfInBounds_toArray, List.set_cons_zero, List.set_cons_succ]
          refine wpAnyT_skip 11 (some 32) #[true, true, true, true, true, true, true, true, true, true, true, true, false, false, false, false, false, false, false, false, false, false, false, false, false, false, false] rfl rfl rfl (by kernel_rfl) (fun _ _ _ h => h) hS2 (by rfl) ?_
          simp only [Act.put, List.setIfInBounds_toArray, List.set_cons_zero, List.set_cons_succ]
          refine wpAnyT_skip 12 (some 33) #[true, true, true, true, true, true, true, true, true, true, true, true, true, false, false, false, false, false, false, false, false, false, false, false, false, false, false] rfl rfl rfl (by kernel_rfl) (fun _ _ _ h => h) hS2 (by rfl) ?_
          simp only [Act.put, List.setIfInBounds_toArray, List.set_cons_zero, List.set_cons_succ]
          refine wpAnyT_skip 13 (some 34) #[true, true, true, true, true, true, true, true, true, true, true, true, true, true, false, false, false, false, false, false, false, false, false, false, false, false, false] rfl rfl rfl (by kernel_rfl) (fun _ _ _ h => h) hS2 (by rfl) ?_
          simp only [Act.put, List.setIfInBounds_toArray, List.set_cons_zero, List.set_cons_succ]
          refine wpAnyT_skip 14 (some 35) #[true, true, true, true, true, true, true, true, true, true, true, true, true, true, true, false, false, false, false, false, false, false, false, false, false, false, false] rfl rfl rfl (by kernel_rfl) (fun _ _ _ h => h) hS2 (by rfl) ?_
          simp only [Act.put, List.setIfInBounds_toArray, List.set_cons_zero, List.set_cons_succ]
          refine wpAnyT_take 15 (some 36) (.bool true) #[true, true, true, true, true, true, true, true, true, true, true, true, true, true, true, true, false, false, false, false, false, false, false, false, false, false, false] rfl rfl rfl (by kernel_rfl) (fun _ _ _ h => h) hS2 (by rfl) (fun W ⟨s0, s1, s2, s3, s4, _⟩ => by go_simp) ?_
          simp only [Act.put, List.setIfInBounds_toArray, List.set_cons_zero, List.set_cons_succ]
          refine wpAnyT_take 16 (some 37) (.bool true) #[true, true, true, true, true, true, true, true, true, true, true, true, true, true, true, true, true, false, false, false, false, false, false, false, false, false, false] rfl rfl rfl (by kernel_rfl) (fun _ _ _ h => h) hS2 (by rfl) (fun W ⟨s0, s1, s2, s3, s4, _⟩ => by go_simp) ?_
          simp only [Act.put, List.setIfInBounds_toArray, List.set_cons_zero, List.set_cons_succ]
          refine wpAnyT_skip 17 (some 38) #[true, true, true, true, true, true, true, true, true, true, true, true, true, true, true, true, true, true, false, false, false, false, false, false, false, false, false] rfl rfl rfl (by kernel_rfl) (fun _ _ _ h => h) hS2 (by rfl) ?_
          simp only [Act.put, List.setIfInBounds_toArray, List.set_cons_zero, List.set_cons_succ]
          refine wpAnyT_skip 18 (some 39) #[true, true, true, true, true, true, true, true, true, true, true, true, true, true, true, true, true, true, true, false, false, false, false, false, false, false, false] rfl rfl rfl (by kernel_rfl) (fun _ _ _ h => h) hS2 (by rfl) ?_
          simp only [Act.put, List.setIfInBounds_toArray, List.set_cons_zero, List.set_cons_succ]
          refine wpAnyT_skip 19 (some 40) #[true, true, true, true, true, true, true, true, true, true, true, true, true, true, true, true, true, true, true, true, false, false, false, false, false, false, false] rfl rfl rfl (by kernel_rfl) (fun _ _ _ h => h) hS2 (by rfl) ?_
          simp only [Act.put, List.setIfInBounds_toArray, List.set_cons_zero, List.set_cons_succ]
          refine wpAnyT_skip 20 (some 41) #[true, true, true, true, true, true, true, true, true, true, true, true, true, true, true, true, true, true, true, true, true, false, false, false, false, false, false] rfl rfl rfl (by kernel_rfl) (fun _ _ _ h => h) hS2 (by rfl) ?_
          simp only [Act.put, List.setIfInBounds_toArray, List.set_cons_zero, List.set_cons_succ]
          refine wpAnyT_skip 21 (some 42) #[true, true, true, true, true, true, true, true, true, true, true, true, true, true, true, true, true, true, true, true, true, true, false, false, false, false, false] rfl rfl rfl (by kernel_rfl) (fun _ _ _ h => h) hS2 (by rfl) ?_
          simp only [Act.put, List.setIfInBounds_toArray, List.set_cons_zero, List.set_cons_succ]
          refine wpAnyT_skip 22 (some 43) #[true, true, true, true, true, true, true, true, true, true, true, true, true, true, true, true, true, true, true, true, true, true, true, false, false, false, false] rfl rfl rfl (by kernel_rfl) (fun _ _ _ h => h) hS2 (by rfl) ?_
          simp only [Act.put, List.setIfInBounds_toArray, List.set_cons_zero, List.set_cons_succ]
          refine wpAnyT_skip 23 (some 44) #[true, true, true, true, true, true, true, true, true, true, true, true, true, true, true, true, true, true, true, true, true, true, true, true, false, false, false] rfl rfl rfl (by kernel_rfl) (fun _ _ _ h => h) hS2 (by rfl) ?_
          simp only [Act.put, List.setIfInBounds_toArray, List.set_cons_zero, List.set_cons_succ]
          refine wpAnyT_skip 24 (some 45) #[true, true, true, true, true, true, true, true, true, true, true, true, true, true, true, true, true, true, true, true, true, true, true, true, true, false, false] rfl rfl rfl (by kernel_rfl) (fun _ _ _ h => h) hS2 (by rfl) ?_
          simp only [Act.put, List.setIfInBounds_toArray, List.set_cons_zero, List.set_cons_succ]
          refine wpAnyT_skip 25 (some 46) #[true, true, true, true, true, true, true, true, true, true, true, true, true, true, true, true, true, true, true, true, true, true, true, true, true, true, false] rfl rfl rfl (by kernel_rfl) (fun _ _ _ h => h) hS2 (by rfl) ?_
          simp only [Act.put, List.setIfInBounds_toArray, List.set_cons_zero, List.set_cons_succ]
          refine wpAnyT_only 26 #[true, true, true, true, true, true, true, true, true, true, true, true, true, true, true, true, true, true, true, true, true, true, true, true, true, true, true] (by kernel_rfl) rfl rfl (by rfl) (fun K2 hK2 => ?_)
          go_simp
          refine hK2 _ _ (fun h => absurd h (by decide)) ?_
          clear hK2 K2
          refine wpAnyT_done (by kernel_rfl) ?_ _
          have hWz := hWrr.ext hX
          go_wp2_with (refine wpList_storeW rfl 42 (.tmp 2) (.tmp 48) rfl rfl rfl hWz rfl mat_info (mat_one rfl) ?_; intro w5 hW5 hG5 _)
          refine bodyPost_ret (results_mat rfl _ rfl rfl hW5 rfl) rfl ?_
          rw [← HN.out]
          exact MadeM.zero 13 (Below.grown (hEr.trans hX) hG5 (hEr.trans hX).le (fun k hk => by cases hk; omega))
      · obtain rfl : i = L.length := by omega
        rw [stackGo_end] at hgo
        have o1 := hO.one
        subst hgo
        go_wp2_with (first
          | (refine wpList_load_row rfl 42 (.tmp 4) rfl _ rfl _ _ _ _ hWv Try.underlying42 rfl mat_info ?_)
          | (refine wpList_storeW rfl 42 (.tmp 2) (.tmp 67) rfl rfl rfl hWrr rfl mat_info (mat_one o1) ?_; intro w5 hW5 hG5 _))
        refine bodyPost_ret (results_mat rfl _ rfl rfl hW5 rfl) rfl ?_
        have hne5 : v.ownBlock ≠ some w.heap.size := fun e => by
          have := (hO.lt _ e).1
          omega
        exact ⟨v, rfl, ((Mod.ofRow (ob := none) hG5).own hO hne5 (by simp [Classical.em])).mono (by omega), Below.grown hEr hG5 hEr.le (fun k hk => by cases hk; omega)⟩
end Go.Proofs.Ytbfkknoeaekajaa
