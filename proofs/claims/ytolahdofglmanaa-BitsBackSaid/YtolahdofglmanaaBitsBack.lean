/- The law BitsBack. -/
import Derived.Test.YtolahdofglmanaaBitAlive
import Derived.Test.YtolahdofglmanaaBitBackMath
import Derived.StillTailTactics
namespace Go.Proofs.Ytolahdofglmanaa
open Go.RowKit

/-- The writer's block g1 and the list of calls at v: neither lies in the other. -/
def Done (w : World) (base g1 : Nat) (v : Value) (D : List OpV) : Prop :=
  (∀ o ∈ D, Bit.good o) ∧ ∃ ob, Wrt w base g1 ob (Bit.flat D) ∧ OwnO w base v D ∧ v.ownBlock ≠ some g1 ∧ (ob = none ∨ ob ≠ v.ownBlock)
theorem ob_symm' {a b : Option Nat} (h : a = none ∨ a ≠ b) : b = none ∨ b ≠ a := by
  rcases h with rfl | h
  · cases b <;> simp
  · exact .inr (fun e => h e.symm)
theorem NewOb.apart' {w : World} {ob ob' o2 : Option Nat} (h : NewOb w ob ob') (h2 : ∀ k, o2 = some k → k < w.heap.size) (hn : ob = none ∨ ob ≠ o2) : ob' = none ∨ ob' ≠ o2 := by
  rcases h with rfl | ⟨n, rfl, hn'⟩
  · exact hn
  · right
    intro e
    have := h2 n e.symm
    omega
/-- Behind a call that puts the bits X, or none of them: the calls that were done are as they were. -/
def Midway (w : World) (base g1 : Nat) (v : Value) (D : List OpV) (X : List Bool) : Prop :=
  (∀ o ∈ D, Bit.good o) ∧ ∃ ob, Wrt w base g1 ob (Bit.flat D ++ X) ∧ OwnO w base v D ∧ v.ownBlock ≠ some g1 ∧ (ob = none ∨ ob ≠ v.ownBlock)
theorem Done.put {w w' : World} {base g1 : Nat} {ob : Option Nat} {v : Value} {D : List OpV} {X : List Bool} {err : Int} {e : Ending} (hg : ∀ o ∈ D, Bit.good o) (hW : Wrt w base g1 ob (Bit.flat D)) (hO : OwnO w base v D) (hne : v.ownBlock ≠ some g1) (hob : ob = none ∨ ob ≠ v.ownBlock)
    (hp : Puts w base g1 ob (Bit.flat D ++ X) err e w') : e = .returned (.int .i64 err) ∧ Midway w' base g1 v D X ∧ Below base w w' := by
  obtain ⟨he, ob', hW', hN, hM⟩ := hp
  exact ⟨he, ⟨hg, ob', hW', hM.ownO hO hne (ob_symm' hob), hne, hN.apart' (fun k hk => (hO.lt k hk).2) hob⟩, hM.below hW.bound hW.le (fun k hk => (hW.ob k hk).1)⟩
theorem Midway.none {w : World} {base g1 : Nat} {v : Value} {D : List OpV} (h : Midway w base g1 v D []) : Done w base g1 v D := by
  obtain ⟨hg, ob, hW, r⟩ := h
  rw [List.append_nil] at hW
  exact ⟨hg, ob, hW, r⟩
/-- Behind the append of the call that put them. -/
theorem Midway.app {w w1 w2 : World} {base g1 : Nat} {v v2 : Value} {D : List OpV} {p : OpV} (h : Midway w base g1 v D (Bit.enc p)) (hp : Bit.good p) (hE : Ext w w1) (hO2 : OwnO w2 base v2 (D ++ [p])) (hG : w1.grownBy w2 v.ownBlock) (hN : NewOb w1 v.ownBlock v2.ownBlock) :
    Done w2 base g1 v2 (D ++ [p]) ∧ Below base w w2 := by
  obtain ⟨hg, ob, hW, hO, hne, hob⟩ := h
  have hW1 := hW.ext hE
  have hO1 := hO.ext hE
  have hM : Mod w1 w2 w1.heap.size v.ownBlock := Mod.ofOwn hG
  have hWb : base ≤ w1.heap.size := hW1.bound
  refine ⟨⟨fun o ho => ?_, ob, ?_, hO2, hN.ne hW1.lt hne, ?_⟩, ?_⟩
  · rcases List.mem_append.1 ho with h | h
    · exact hg o h
    · obtain rfl := List.mem_singleton.1 h
      exact hp
  · rw [Bit.flat_snoc]
    exact hW1.kept hM (Nat.ne_of_lt hW1.lt) hne (fun e => by have := (hW1.ob _ e).2; omega) hob
  · exact ob_symm' (hN.apart' (fun k hk => (hW1.ob k hk).2) (ob_symm' hob))
  · exact Below.trans (Below.mono hE (Nat.le_trans hW.le (Nat.le_of_lt hW.lt))) (hM.below hWb hWb (fun k hk => (hO1.lt k hk).1))

theorem OwnO.at {w : World} {base n c : Nat} {A : Option Addr} {L : List OpV} (h : OwnO w base (.slice A n c) L) {j : Nat} (hj : j < L.length) : ∃ g, A = some ⟨g, 0, none⟩ ∧ OpAt w g (j * 3) (L.getD j default) := by
  obtain ⟨A', c', hv, hx⟩ := h.form
  injection hv with e1 e2 e3
  subst e1
  rcases hx with h0 | ⟨g, hA, hc⟩
  · omega
  · exact ⟨g, hA, by have := hc j hj; rwa [Nat.zero_add] at this⟩

set_option maxHeartbeats 4000000 in
set_option maxRecDepth 100000 in
theorem bitsBack_walk (A : Option Addr) (n c : Nat) (L : List OpV) (w : World) (_hn : n ≤ c) (_hc : c ≤ maxLen) (hb : OpsAt w w.heap.size A n L) :
    Calls Try.prog 5 #[.slice A n c] w fun e w' => e = .returned (.bool true) ∧ Below w.heap.size w w' := by
  have C0 := alive2_any w
  by_cases hbig : 60 < n
  · go_enter Try.func5, Try.ntmps5
    go_wp2_with fail
    refine C0.mono ?_
    rintro e w1 ⟨rfl, hE1⟩
    go_wp2
    go_ret
    exact ⟨rfl, hE1⟩
  · obtain ⟨hLn, hcells⟩ := hb
    go_enter Try.func5, Try.ntmps5
    go_wp2_with fail
    refine C0.mono ?_
    rintro e w1 ⟨rfl, hE1⟩
    have hD0 : Done (w1.alloc (.cells #[.slice none 0 0, .int .i64 0] 28)) w.heap.size w1.heap.size (.slice none 0 0) [] := by
      obtain ⟨v1, l1, ⟨a1, a2, a3, a4⟩, a5, a6⟩ := Wrt.new w1
      exact ⟨fun o ho => by simp at ho, none, ⟨v1, l1, ⟨a1, a2.mono hE1.le, a3, hE1.le⟩, a5, a6⟩, OwnO.nil _ _, by simp [Value.ownBlock], .inl rfl⟩
    have hEB : Below w.heap.size w (w1.alloc (.cells #[.slice none 0 0, .int .i64 0] 28)) := Ext.alloc hE1 _
    go_wp2
    go_loopw [4, 5, 6] (fun v i _ wr => ∃ (k : Nat) (D : List OpV), i = .int .i64 (k : Int) ∧ k ≤ n ∧ D.length ≤ k ∧ (Bit.flat D).length ≤ 301 * k ∧ Done wr w.heap.size w1.heap.size v D ∧ Below w.heap.size w wr) (fun _ i _ _ => n - (intOf i).toNat)
    case atStart => exact ⟨0, [], rfl, by omega, by simp, by simp [Bit.flat], hD0, hEB⟩
    case round =>
      obtain ⟨k, D, rfl, hk, hDl, hFl, hD, hE⟩ := hrel
      clear hD0 hEB
      generalize w1.heap.size = g1 at *
      by_cases hlt : k < n
      · rcases hcells with h0 | ⟨b, off, rfl, hbl, hcells⟩
        · omega
        obtain ⟨hop, hok⟩ := hcells k hlt
        obtain ⟨c0, c1, c2⟩ := hop.below hE hbl
        obtain ⟨ok1, ok2, ok3, ok4⟩ := hok
        clear hcells
        generalize L.getD k default = op at *
        by_cases hk2 : op.k % 2 = 0
        · have ht1 : ((op.k : Int) % 2 == 1) = false := by simp; omega
          have ht0 : ((op.k : Int) % 2 == 0) = true := by simp; omega
          have henc : Bit.enc op = Bit.putBits op.x op.n := by unfold Bit.enc; rw [if_pos hk2]
          have HEnc := hide henc
          have HK2 := hide hk2
          have HOp := hide hop
          obtain ⟨hg, ob, hW, hO, hne, hob⟩ := hD
          clear hk2 henc hop
          go_wp2_with fail
          go_still_tail 10, (by kernel_rfl)
          change wpList _ _ _ _ _ wr.drew
          go_wp2_with fail
          refine (put_any (hW.ext (Ext.refl wr).drew) op.x op.n (by omega)).mono ?_
          rintro e w3 hp
          obtain ⟨rfl, hMw, hE3⟩ := Done.put hg (hW.ext (Ext.refl wr).drew) (hO.ext (Ext.refl wr).drew) hne hob hp
          have hE3' : Below w.heap.size w w3 := Below.trans (Below.drew hE) hE3
          clear hp hW hO hE hE3 hob hg
          by_cases hf : Bit.fits op.x op.n = true
          · have herr := (Bit.put_good hf).1
            rw [herr]
            rw [← HEnc.out] at hMw
            have hgood : Bit.good op := .inl ⟨HK2.out, hf⟩
            obtain ⟨c0, c1, c2⟩ := HOp.out.below hE3' hbl
            have hOw : OwnO w3 w.heap.size u4 D := by obtain ⟨_, _, _, h, _⟩ := hMw; exact h
            have hOx := hOw.ext (extNew w3 (.cells #[.int .u8 (op.k : Int), .int .u64 (op.x : Int), .int .i64 op.n] 34))
            have HMw := hide hMw
            have hDl' : D.length ≤ 1000 := by omega
            have HL := hide (Bit.enc_le op (fun h => by have := HK2.out; omega))
            clear hMw hf herr hOw
            go_wp2_with (at_builtin; refine wpList_appO rfl (.tmp 65) (.tmp 70) rfl rfl op hOx rfl hDl' hE3'.size ?_; intro v4 w4 hO4 hG4 hN4)
            go_roundw
            case rel =>
              obtain ⟨hD4, hB4⟩ := HMw.out.app hgood (extNew w3 _) hO4 hG4 hN4
              exact ⟨k + 1, D ++ [op], by go_num, by omega, by simp; omega, by rw [Bit.flat_snoc, List.length_append]; have := HL.out; omega, hD4, Below.trans hE3' hB4⟩
            case measure => simp [intOf]; omega
          · have hf' : Bit.fits op.x op.n = false := by simpa using hf
            obtain ⟨herr, hbits⟩ := Bit.put_bad hf'
            rw [herr]
            rw [hbits] at hMw
            have HD := hide hMw.none
            clear hMw hf hf' herr hbits
            go_wp2
            go_roundw
            case rel => exact ⟨k + 1, D, by go_num, by omega, by omega, by omega, HD.out, hE3'⟩
            case measure => simp [intOf]; omega
        · have hk1 : op.k % 2 = 1 := by omega
          have ht1 : ((op.k : Int) % 2 == 1) = true := by simp; omega
          have ht0 : ((op.k : Int) % 2 == 0) = false := by simp; omega
          have henc : Bit.enc op = Bit.unaryBits op.n := by unfold Bit.enc; rw [if_neg hk2]
          have HEnc := hide henc
          have HK1 := hide hk1
          have HOp := hide hop
          clear hk2 henc hop hk1
          by_cases h300 : 300 < op.n
          · have HD := hide hD
            clear hD
            go_wp2
            go_roundw
            case rel => exact ⟨k + 1, D, by go_num, by omega, by omega, by omega, HD.out, hE⟩
            case measure => simp [intOf]; omega
          · obtain ⟨hg, ob, hW, hO, hne, hob⟩ := hD
            go_wp2_with fail
            refine (unary_any hW op.n (by omega)).mono ?_
            rintro e w3 hp
            obtain ⟨rfl, hMw, hE3⟩ := Done.put hg hW hO hne hob hp
            have hE3' : Below w.heap.size w w3 := hE.trans hE3
            clear hp hW hO hE hE3 hob hg
            by_cases hf : Bit.runs op.n = true
            · have herr := (Bit.unary_good hf).1
              rw [herr]
              rw [← HEnc.out] at hMw
              have hgood : Bit.good op := .inr ⟨HK1.out, hf⟩
              obtain ⟨c0, c1, c2⟩ := HOp.out.below hE3' hbl
              have hOw : OwnO w3 w.heap.size u4 D := by obtain ⟨_, _, _, h, _⟩ := hMw; exact h
              have hOx := hOw.ext (extNew w3 (.cells #[.int .u8 (op.k : Int), .int .u64 (op.x : Int), .int .i64 op.n] 34))
              have HMw := hide hMw
              have hDl' : D.length ≤ 1000 := by omega
              have HL := hide (Bit.enc_le op (fun _ => by omega))
              clear hMw hf herr hOw
              go_wp2_with (at_builtin; refine wpList_appO rfl (.tmp 65) (.tmp 70) rfl rfl op hOx rfl hDl' hE3'.size ?_; intro v4 w4 hO4 hG4 hN4)
              go_roundw
              case rel =>
                obtain ⟨hD4, hB4⟩ := HMw.out.app hgood (extNew w3 _) hO4 hG4 hN4
                exact ⟨k + 1, D ++ [op], by go_num, by omega, by simp; omega, by rw [Bit.flat_snoc, List.length_append]; have := HL.out; omega, hD4, Below.trans hE3' hB4⟩
              case measure => simp [intOf]; omega
            · have hf' : Bit.runs op.n = false := by simpa using hf
              obtain ⟨herr, hbits⟩ := Bit.unary_bad hf'
              rw [herr]
              rw [hbits] at hMw
              have HD := hide hMw.none
              clear hMw hf hf' herr hbits
              go_wp2
              go_roundw
              case rel => exact ⟨k + 1, D, by go_num, by omega, by omega, by omega, HD.out, hE3'⟩
              case measure => simp [intOf]; omega
      · obtain rfl : k = n := by omega
        obtain ⟨hg, ob, hW, hO, hne, hob⟩ := hD
        have hFl' : (Bit.flat D).length ≤ 20000 := by omega
        clear hcells hob hFl
        go_wp2_with fail
        refine (wbytes_any hW (by omega)).mono ?_
        rintro e w2 ⟨l, hPk, v2, rfl, hO2, hE2⟩
        obtain ⟨A2, n2, c2, rfl, hc2, hn2, hb2⟩ := hO2.form'
        have hlB := hPk.1
        have HPk := hide hPk
        have hOD := hO.ext hE2
        have hE2' : Below w.heap.size w w2 := Below.trans hE (Below.mono hE2 hE.size)
        clear hW hO hO2 hE2 hE hPk
        go_wp2_with fail
        refine (newReader_any _ _ _ l _ hc2 (by omega) hb2).mono ?_
        rintro e w3 ⟨g2, rfl, hR3, hE3⟩
        have hOD3 := hOD.ext hE3
        have hE3' : Below w.heap.size w w3 := Below.trans hE2' (Below.mono hE3 hE2'.size)
        have hlt3 : ∀ x, u4.ownBlock = some x → x < g2 := fun x hx => Nat.lt_of_lt_of_le (hOD.lt x hx).2 hR3.le
        have hR3' : Rdr w3 w.heap.size g2 l (Bit.flat (D.take 0)).length := by
          obtain ⟨A3, c3, a1, a2, a3, a4, a5⟩ := hR3
          exact ⟨A3, c3, a1, a2, by simp [Bit.flat], a4, Nat.le_trans hE2'.size a5⟩
        clear hOD hE2' hR3 hb2 hlB
        obtain ⟨AD, cD, hu4, _⟩ := hOD3.form
        have hDn : D.length ≤ 60 := by omega
        subst hu4
        go_wp2
        go_loopw [8, 9, 10, 11, 12] (fun i _ _ _ _ wr => ∃ j : Nat, i = .int .i64 (j : Int) ∧ j ≤ D.length ∧ Rdr wr w.heap.size g2 l (Bit.flat (D.take j)).length ∧ OwnO wr w.heap.size (.slice AD D.length cD) D ∧ Below w.heap.size w wr) (fun i _ _ _ _ _ => D.length - (intOf i).toNat)
        case atStart => exact ⟨0, rfl, by omega, hR3', hOD3, hE3'⟩
        case round =>
          obtain ⟨j, rfl, hj, hR, hO, hE⟩ := hrel
          have hgne : (Value.slice AD D.length cD).ownBlock ≠ some g2 := fun e => Nat.lt_irrefl _ (hlt3 _ e)
          clear hR3' hOD3 hE3' hE3
          by_cases hlj : j < D.length
          · obtain ⟨g, rfl, c0, c1, c2⟩ := hO.at hlj
            have hgd := hg (D.getD j default) (by rw [List.getD_eq_getElem?_getD, List.getElem?_eq_getElem hlj]; exact List.getElem_mem hlj)
            have HP := hide (show Bit.Packs l (Bit.flat (D.take j) ++ Bit.enc (D.getD j default) ++ Bit.flat (D.drop (j + 1))) by rw [← Bit.flat_split D j hlj]; exact HPk.out)
            have HT := hide (Bit.flat_take D j hlj)
            have hAt := fun {W : World} (h : OwnO W w.heap.size (.slice (some ⟨g, 0, none⟩) D.length cD) D) => h.at hlj
            generalize D.getD j default = op at *
            generalize Bit.flat (D.take j) = P at *
            generalize Bit.flat (D.drop (j + 1)) = Q at *
            have HG := hide hgd
            clear hgd
            rcases HG.out with ⟨hk2, hf⟩ | ⟨hk1, hf⟩
            · have ht0 : ((op.k : Int) % 2 == 0) = true := by simp; omega
              have henc : Bit.enc op = Bit.num op.x op.n.toNat := by unfold Bit.enc; rw [if_pos hk2, (Bit.put_good hf).2]
              rw [henc] at HP HT
              obtain ⟨h0, h1, hx⟩ := of_decide_eq_true hf
              obtain ⟨m, hm⟩ := Int.eq_ofNat_of_zero_le h0
              rw [hm, Int.toNat_natCast] at HP HT hx
              rw [hm] at c2
              have HB := hide (Bit.get_back HP.out (by omega) hx)
              clear henc hk2 hf hx h0 h1
              go_wp2_with fail
              refine (get_any hR (m : Int)).mono ?_
              rintro e w4 ⟨rfl, hR4, hM4⟩
              rw [HB.out.2.2] at hR4
              rw [HB.out.1, HB.out.2.1]
              have hO4 := hM4.ownO hO hgne (by cases (Value.slice (some ⟨g, 0, none⟩) D.length cD).ownBlock <;> simp)
              obtain ⟨g', hgg, d0, d1, d2⟩ := hAt hO4
              have hg' : g' = g := by simpa using hgg.symm
              subst hg'
              have hxx : ((op.x : Int) != (op.x : Int)) = false := by simp
              have hE4 : Below w.heap.size w w4 := Below.trans hE (hM4.below hE.size hR.le (fun k hk => by cases hk))
              have HR4 := hide hR4
              have HO4 := hide hO4
              have Hm := hide hm
              clear hR4 hO4 hO hR hgg hE c0 c1 c2 hm hAt
              go_wp2
              go_roundw
              case rel => exact ⟨j + 1, by go_num, by omega, by rw [HT.out, List.length_append, Bit.num_length]; exact HR4.out, HO4.out, hE4⟩
              case measure => simp [intOf]; omega
            · have ht0 : ((op.k : Int) % 2 == 0) = false := by simp; omega
              have henc : Bit.enc op = Bit.unBits op.n.toNat := by unfold Bit.enc; rw [if_neg (by omega), (Bit.unary_good hf).2]
              rw [henc] at HP HT
              obtain ⟨h0, h1⟩ := of_decide_eq_true hf
              obtain ⟨m, hm⟩ := Int.eq_ofNat_of_zero_le h0
              rw [hm, Int.toNat_natCast] at HP HT
              rw [hm] at c2
              have HB := hide (Bit.un_back HP.out)
              clear henc hk1 hf h0 h1
              go_wp2_with fail
              refine (runary_any hR).mono ?_
              rintro e w4 ⟨rfl, hR4, hM4⟩
              rw [HB.out.2.2] at hR4
              rw [HB.out.1, HB.out.2.1]
              have hO4 := hM4.ownO hO hgne (by cases (Value.slice (some ⟨g, 0, none⟩) D.length cD).ownBlock <;> simp)
              obtain ⟨g', hgg, d0, d1, d2⟩ := hAt hO4
              have hg' : g' = g := by simpa using hgg.symm
              subst hg'
              rw [hm] at d2
              have hxx : ((m : Int) != (m : Int)) = false := by simp
              have hE4 : Below w.heap.size w w4 := Below.trans hE (hM4.below hE.size hR.le (fun k hk => by cases hk))
              have HR4 := hide hR4
              have HO4 := hide hO4
              have Hm := hide hm
              clear hR4 hO4 hO hR hgg hE c0 c1 c2 hm hAt
              go_wp2
              go_roundw
              case rel => exact ⟨j + 1, by go_num, by omega, by rw [HT.out, List.length_append, show (Bit.unBits m).length = m + 1 by simp [Bit.unBits]]; exact HR4.out, HO4.out, hE4⟩
              case measure => simp [intOf]; omega
          · obtain rfl : j = D.length := by omega
            rw [List.take_of_length_le (Nat.le_refl _)] at hR
            have HB := hide (Bit.pad_back HPk.out)
            go_wp2_with fail
            refine (pad_any hR).mono ?_
            rintro e w4 ⟨rfl, hQ4⟩
            rw [HB.out.1]
            go_wp2_with fail
            refine (left_any (hR.ext hQ4.ext)).mono ?_
            rintro e w5 ⟨rfl, hQ5⟩
            have hl8 := HB.out.2
            have hE5 : Below w.heap.size w w5 := Below.trans hE (Below.mono (hQ4.trans hQ5).ext hE.size)
            clear hR hO hE
            generalize 8 * l.length - (Bit.flat D).length = LQ at *
            have hl8' : ((LQ : Int) < 8) := by omega
            go_wp2
            go_ret
            exact ⟨by simp, hE5⟩
end Go.Proofs.Ytolahdofglmanaa
