/- The program's lz.put and Play. -/
import Derived.Test.YtklofjgfecpkiaaLzPMay
namespace Go.Proofs.Ytklofjgfecpkiaa
open Go.RowKit Lz

/-- Behind a call that lays bytes behind those of the call's own. -/
def PutTo (w : World) (base : Nat) (l : List UInt8) (e : Ending) (w' : World) : Prop := ∃ v, e = .returned v ∧ OwnB w' base v l ∧ Below base w w'
theorem Lz.play_len (out : List UInt8) (t : TokV) : (playT out t).length = out.length + sizeT t := by
  unfold playT sizeT
  by_cases h0 : t.len = 0
  · rw [if_pos h0, if_pos h0, List.length_append]; rfl
  · rw [if_neg h0, if_neg h0, copy_len]

set_option maxHeartbeats 4000000 in
set_option maxRecDepth 100000 in
theorem lzPut_any (t : TokV) (out : List UInt8) (v : Value) (base : Nat) (w : World) (hm : may t = true) (hd : t.dist ≤ (out.length : Int)) (hO : OwnB w base v out) (hl : out.length ≤ 100000000000000) (hbase : base ≤ w.heap.size) :
    Calls Try.prog 22 #[v, tokV t] w (PutTo w base (playT out t)) := by
  have hE1 := extNew w (.cells #[.int .u8 (t.lit.toNat : Int), .int .i64 t.len, .int .i64 t.dist] 36)
  have hW1 := Whole.new w 36 #[.int .u8 (t.lit.toNat : Int), .int .i64 t.len, .int .i64 t.dist]
  have hO1 := hO.ext hE1
  have hne : v.ownBlock ≠ some w.heap.size := fun e => by
    have := hO.ltOb _ e
    omega
  have hB1 : Below base w (w.alloc (.cells #[.int .u8 (t.lit.toNat : Int), .int .i64 t.len, .int .i64 t.dist] 36)) := Below.mono hE1 hbase
  have hnb := hO.newOb
  have hs1 : base ≤ (w.alloc (.cells #[.int .u8 (t.lit.toNat : Int), .int .i64 t.len, .int .i64 t.dist] 36)).heap.size := Nat.le_trans hbase hE1.le
  unfold tokV
  rcases may_len hm with ⟨h0, h00⟩ | ⟨h3, h257, hd1, hd2⟩
  · have HR := hide (show playT out t = out ++ [t.lit] from if_pos h0)
    generalize playT out t = res at *
    obtain ⟨tl, tn, td⟩ := t
    dsimp only at *
    subst h0 h00
    have c0 := hW1.at 0 rfl
    have c1 := hW1.at 1 rfl
    clear hm hd hne hW1
    have hEa := extNew (w.alloc (.cells #[.int .u8 (tl.toNat : Int), .int .i64 0, .int .i64 0] 36)) (.cells #[.int .u8 (tl.toNat : Int)] 5)
    have hb1' := bytesNew (w.alloc (.cells #[.int .u8 (tl.toNat : Int), .int .i64 0, .int .i64 0] 36)) [tl] #[.int .u8 (tl.toNat : Int)] 5 (0, 0) rfl 1 rfl
    rw [show (w.alloc (.cells #[.int .u8 (tl.toNat : Int), .int .i64 0, .int .i64 0] 36)).heap.size = w.heap.size + 1 by simp] at hb1'
    have hOa := hO1.ext hEa
    have hlen : out.length + 1 ≤ 140737488355328 := by omega
    have hbs := Nat.le_trans hs1 hEa.le
    have hBa : Below base w _ := hB1.trans (Below.mono hEa hs1)
    clear hE1 hO1 hB1 hs1 hEa
    go_enter Try.func22, Try.ntmps22
    go_wp2_with (at_builtin; refine wpList_appAt rfl (.tmp 8) (.tmp 11) rfl rfl hOa rfl hb1' hlen hbs ?_; intro v5 w5 hO5 hG5 _; have hE5 : Below base w w5 := Below.grown hBa hG5 hbs hnb; rw [← HR.out] at hO5)
    go_wp2
    go_ret
    exact ⟨_, rfl, hO5, hE5⟩
  · have HR := hide (show playT out t = copy t.dist.toNat t.len.toNat out from if_neg (by omega))
    generalize playT out t = res at *
    obtain ⟨N, hN⟩ := Int.eq_ofNat_of_zero_le (show 0 ≤ t.len by omega)
    obtain ⟨D, hD⟩ := Int.eq_ofNat_of_zero_le (show 0 ≤ t.dist by omega)
    obtain ⟨tl, tn, td⟩ := t
    dsimp only at *
    subst hN hD
    rw [Int.toNat_natCast, Int.toNat_natCast] at HR
    have hN3 : ((N : Int) == 0) = false := by rw [beq_eq_false_iff_ne]; omega
    have HD := hide (And.intro hd hd1)
    have HSn := hide (fun k => copy_snoc D k out)
    have HLen := hide (fun k => copy_len D k out)
    have HW := hide hW1
    have HO1 := hide hO1
    have HB1 := hide hB1
    have HNe := hide hne
    have c1 := hW1.at 1 rfl
    clear hm hd hne hW1 hO1 hB1 hE1 hO hd1
    generalize (tl.toNat : Int) = yl at *
    go_enter Try.func22, Try.ntmps22
    go_wp2_with fail
    go_loopw [0, 15] (fun o x wq => ∃ k : Nat, k ≤ N ∧ x = .int .i64 (k : Int) ∧ OwnB wq base o (copy D k out) ∧ Below base w wq ∧ Whole wq w.heap.size 36 #[.int .u8 yl, .int .i64 (N : Int), .int .i64 (D : Int)] ∧ o.ownBlock ≠ some w.heap.size ∧ base ≤ wq.heap.size) (fun _ x _ => N - (intOf x).toNat)
    case atStart => exact ⟨0, by omega, rfl, HO1.out, HB1.out, HW.out, HNe.out, hs1⟩
    case round =>
      clear HO1 HB1 HW HNe c1 hs1
      obtain ⟨k, hk, rfl, hO, hB, hW, hne, hs⟩ := hrel
      have f1 := hW.at 1 rfl
      have f2 := hW.at 2 rfl
      have hlk := HLen.out k
      by_cases hkN : k < N
      · have hkI : (k : Int) < (N : Int) := by omega
        obtain ⟨hd, hd1⟩ := HD.out
        obtain ⟨gO, cO, rfl, hgb, hcO⟩ := hO.formG (by omega)
        have hSn := HSn.out k
        have hcell := (hO.cell (i := out.length + k - D) (by omega)).1
        rw [hlk] at hSn
        generalize copy D k out = o' at *
        obtain ⟨y, hy⟩ : ∃ y, y = o'.getD (out.length + k - D) 0 := ⟨_, rfl⟩
        rw [← hy] at hcell hSn
        have HS := hide hSn
        have HLk := hide hlk
        rw [hlk] at hO hne ⊢
        have hix : (out.length : Int) + (k : Int) - (D : Int) = ((out.length + k - D : Nat) : Int) := by omega
        have hEa := extNew wr (.cells #[.int .u8 (y.toNat : Int)] 5)
        have hb1' := bytesNew wr [y] #[.int .u8 (y.toNat : Int)] 5 (0, 0) rfl 1 rfl
        have hOa := hO.ext hEa
        have hlen : o'.length + 1 ≤ 140737488355328 := by omega
        have hbs : base ≤ (wr.alloc (.cells #[.int .u8 (y.toNat : Int)] 5)).heap.size := Nat.le_trans hs hEa.le
        have hBa : Below base w _ := hB.trans (Below.mono hEa hs)
        have hnb := hO.newOb
        have HWh := hide hW
        have hlt := hW.lt
        clear hy hSn hlk hW hB
        go_wp2_with (at_builtin; refine wpList_appAt rfl (.tmp 17) (.tmp 26) rfl rfl hOa rfl hb1' hlen hbs ?_; intro v5 w5 hO5 hG5 hN5)
        have hE5 : Below base w w5 := Below.grown hBa hG5 hbs hnb
        have hW5 := (HWh.out.ext hEa).ownGrown hG5 hne
        have hn5 := hN5.ne (Nat.lt_of_lt_of_le hlt hEa.le) hne
        have hs5 := Nat.le_trans hbs hG5.size
        rw [← HS.out] at hO5
        clear hG5 hN5 hne hlt hbs hBa hOa hb1'
        go_roundw
        case rel => exact ⟨k + 1, by omega, by go_num, hO5, hE5, hW5, hn5, hs5⟩
        case measure => simp [intOf]; omega
      · obtain rfl : N = k := by omega
        have HOo := hide hO
        clear hO hlk
        go_wp2
        go_ret
        refine ⟨_, rfl, ?_, hB⟩
        rw [HR.out]
        exact HOo.out

set_option maxHeartbeats 4000000 in
set_option maxRecDepth 100000 in
theorem lzPlay_any (A : Option Addr) (n c : Nat) (L : List TokV) (most : Int) (w : World) (hn : n ≤ 100000) (hm0 : -9223372036854775808 ≤ most) (hm1 : most ≤ 9223372036854775807) (h : ToksAt w w.heap.size A n L) :
    Calls Try.prog 13 #[.slice A n c, .int .i64 most] w (PlayTo w (playE L most)) := by
  have hl := h.1
  subst hl
  by_cases hneg : most < 0
  · have HN := hide (show playE L most = ([], 13) from if_pos hneg)
    generalize playE L most = res at *
    go_enter Try.func13, Try.ntmps13
    go_wp2
    go_ret2
    rw [HN.out]
    exact ⟨_, rfl, OwnB.nil _ _, Ext.refl _⟩
  have HN := hide (show playE L most = playR most (L.drop 0) [] from if_neg hneg)
  generalize playE L most = res at *
  have HL := hide h
  have hneg' : ¬ most < 0 := hneg
  clear h hneg
  go_enter Try.func13, Try.ntmps13
  go_wp2
  go_loopw [6, 13] (fun o a wr => ∃ (i : Nat) (out : List UInt8), i ≤ L.length ∧ a = .int .i64 (i : Int) ∧ out.length ≤ 257 * i ∧ OwnB wr w.heap.size o out ∧ res = playR most (L.drop i) out ∧ Ext w wr) (fun _ a _ => L.length - (intOf a).toNat)
  case atStart => exact ⟨0, [], by omega, rfl, by simp, OwnB.nil _ _, HN.out, Ext.refl _⟩
  case round =>
    clear HN
    obtain ⟨i, out, hi, rfl, hol, hO, hres, hE⟩ := hrel
    have HO := hide hO
    obtain ⟨Ao, co, rfl, hco, _, _⟩ := hO.form
    by_cases hlt : i < L.length
    · have hiI : (i : Int) < (L.length : Int) := by omega
      have hToks := HL.out.below hE (Nat.le_refl _)
      rcases hToks.2 with h0 | ⟨b1, o1, rfl, hb1, hc⟩
      · omega
      obtain ⟨hAt, hOk⟩ := hc i hlt
      obtain ⟨c0, c1, c2⟩ := hAt.cells
      have hdr : L.drop i = L.getD i default :: L.drop (i + 1) := by
        rw [List.drop_eq_getElem_cons hlt, List.getD_eq_getElem?_getD, List.getElem?_eq_getElem hlt]
        rfl
      rw [hdr] at hres
      have HRes := hide hres
      have HCM := hide (fun W => lzMay_any (L.getD i default) W)
      have HCS := hide (fun W hm => lzSize_any (L.getD i default) W hm)
      have HCP := hide (fun v W hm hd hO hb => lzPut_any (L.getD i default) out v w.heap.size W hm hd hO (by omega) hb)
      have HPl := hide (play_len out (L.getD i default))
      unfold tokV at HCM HCS HCP
      clear hc hToks hAt hdr hres hO
      obtain ⟨t, ht⟩ : ∃ t, t = L.getD i default := ⟨_, rfl⟩
      rw [← ht] at c0 c1 c2 hOk HCM HRes HCS HCP HPl
      clear ht
      have hsz : sizeT t ≤ 257 ∨ may t = false := by
        cases hmay : may t with
        | false => exact .inr rfl
        | true =>
          refine .inl ?_
          unfold sizeT
          rcases may_len hmay with h | h
          · rw [if_pos h.1]; omega
          · split <;> omega
      have HBad := hide (show may t = false → res = ([], 7) from fun h => HRes.out.trans (play_bad h))
      have HFar := hide (show may t = true → (out.length : Int) < t.dist → res = ([], 8) from fun hm h => HRes.out.trans (play_far hm h))
      have HMuch := hide (show may t = true → ¬ (out.length : Int) < t.dist → most < (out.length : Int) + sizeT t → res = ([], 6) from fun hm h h2 => HRes.out.trans (play_much hm h h2))
      have HOn := hide (show may t = true → ¬ (out.length : Int) < t.dist → ¬ most < (out.length : Int) + sizeT t → res = playR most (L.drop (i + 1)) (playT out t) from fun hm h h2 => HRes.out.trans (play_on hm h h2))
      clear HRes
      generalize playT out t = out' at *
      generalize sizeT t = sz at *
      generalize may t = mt at *
      obtain ⟨tl, tn, td⟩ := t
      unfold TokV.ok at hOk
      dsimp only at *
      obtain ⟨_, _, hk3, hk4⟩ := hOk
      generalize hyl : (tl.toNat : Int) = yl at *
      have hW1 := Whole.new wr 36 #[.int .u8 yl, .int .i64 tn, .int .i64 td]
      have hEa := extNew wr (.cells #[.int .u8 yl, .int .i64 tn, .int .i64 td] 36)
      have hF1 := hE.trans hEa
      have HO1 := hide (HO.out.ext hEa)
      clear hyl hE HO hEa
      go_wp2_with fail
      refine (HCM.out _).mono ?_
      rintro e w2 ⟨rfl, hE2⟩
      have hF2 := hF1.trans hE2
      have hW2 := hW1.ext hE2
      have HO2 := hide (HO1.out.ext hE2)
      have c22 := hW2.at 2 rfl
      clear HO1 hE2 hF1 HCM c0 c1 c2 hW1
      cases mt with
      | false =>
        have HR := hide (HBad.out rfl)
        clear HBad HFar HMuch HOn
        go_wp2
        go_ret2
        rw [HR.out]
        exact ⟨_, rfl, OwnB.nil _ _, hF2⟩
      | true =>
        clear HBad
        by_cases hfar : (out.length : Int) < td
        · have HR := hide (HFar.out rfl hfar)
          clear HFar HMuch HOn
          go_wp2
          go_ret2
          rw [HR.out]
          exact ⟨_, rfl, OwnB.nil _ _, hF2⟩
        · clear HFar
          have hszb : sz ≤ 257 := by
            rcases hsz with h | h
            · exact h
            · cases h
          have c20 := hW2.at 0 rfl
          have c21 := hW2.at 1 rfl
          go_wp2_with fail
          refine (HCS.out _ trivial).mono ?_
          rintro e w3 ⟨rfl, hE3⟩
          have hF3 := hF2.trans hE3
          have hW3 := hW2.ext hE3
          have HO3 := hide (HO2.out.ext hE3)
          clear HO2 hE3 hF2 HCS c20 c21 c22 hW2
          by_cases hmu : most < (out.length : Int) + (sz : Int)
          · have HR := hide (HMuch.out trivial (by omega) (by omega))
            have hmu' : most - (out.length : Int) < (sz : Int) := by omega
            clear HMuch HOn hsz
            go_wp2
            go_ret2
            rw [HR.out]
            exact ⟨_, rfl, OwnB.nil _ _, hF3⟩
          · have HR := hide (HOn.out trivial (by omega) (by omega))
            have hmu' : ¬ most - (out.length : Int) < (sz : Int) := by omega
            have c30 := hW3.at 0 rfl
            have c31 := hW3.at 1 rfl
            have c32 := hW3.at 2 rfl
            clear HMuch HOn hsz
            go_wp2_with fail
            refine (HCP.out _ _ trivial (by omega) HO3.out hF3.le).mono ?_
            rintro e w4 ⟨v4, rfl, hO4, hB4⟩
            have hF4 : Ext w w4 := Below.trans hF3 hB4
            clear hB4 hF3 HCP hW3 c30 c31 c32 HO3
            go_wp2
            go_roundw
            case rel => exact ⟨i + 1, out', by omega, by go_num, by rw [HPl.out]; omega, hO4, HR.out, hF4⟩
            case measure => simp [intOf]; omega
    · obtain rfl : L.length = i := by omega
      rw [List.drop_length, playR] at hres
      have HR := hide hres
      clear hres hO
      go_wp2
      go_ret2
      rw [HR.out]
      exact ⟨_, rfl, HO.out, hE⟩
end Go.Proofs.Ytklofjgfecpkiaa
