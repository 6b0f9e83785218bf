/- The program's Pack and Unpack. The laws HuffCoders and HuffNone. A reader of the program and one of the document, side by side. HuffGets, under what the program's coder tells. The laws of chapter 9 at the landed package: their walks, but HuffBest's. What slices of numbers that came in read as. Slices of uint32 that came in, as numbers. Numbers of 32 bits in a row of the call's own. Two writers of the program side by side; numbers of how often, of the call's own. The document's Cost of chapter 7. What the laws of chapter 7 ask of the program's parts; the example; the laws without loops: LensFinds, LensWeighs, LensMore. The laws LensFinds, LensWeighs, LensMore, LensRare. The law LensFull. The law LensBest. The lengths that are found are right, and pack with no more bits than others. Plain mathematics of chapter 9. HuffBest, under what the program's coder and its lengths tell. make([]byte, n), told as a slice of the call's own. The program's rows: what is put together bears no symbols; what is counted from the last row back is what lists of symbols would say. Plain mathematics of chapter 7. -/
import Derived.Test.YtjpmabdnaooglaaB01
import Derived.Test.YtjpmabdnaooglaaB02
import Derived.Test.YtjpmabdnaooglaaB03
import Derived.Test.YtjpmabdnaooglaaB04
import Derived.OpenShut
import Derived.Deep.Slices
import Derived.Laws.OwnMore
import Derived.Maps.AppendAt
import Derived.Deep.QuietTactic
import Derived.BigQuiet
namespace Go.Proofs.Ytjpmabdnaooglaa
open Go.RowKit Len Can Huf

set_option maxHeartbeats 2000000 in
set_option maxRecDepth 100000 in
theorem hufPack_any (A A2 : Option Addr) (n c c2 : Nat) (l : List UInt8) (L : List Int) (w : World) (hc : n ≤ c) (h : Bytes w w.heap.size A n l) (hL : IntsAt w w.heap.size A2 L.length L) (hn : L.length ≤ 20000) :
    Calls Try.prog 14 #[.slice A n c, .slice A2 L.length c2] w (PackTo w (packE l L)) := by
  have C1 := hufNew_any A n c l w hc h
  cases hr : right l with
  | false =>
    have HN := hide (show packE l L = ([], 7) by unfold packE; rw [hr]; rfl)
    have HR := hide hr
    generalize packE l L = res at *
    clear hr h hL
    go_enter Try.func14, Try.ntmps14
    go_wp2_with fail
    refine C1.mono ?_
    rintro e w2 ⟨_, hno, hE2⟩
    obtain rfl := hno HR.out
    clear C1 hno
    go_wp2
    go_ret2
    rw [HN.out]
    exact ⟨_, [], rfl, OwnB.nil _ _, fun h => absurd h (by simp), fun _ => rfl, hE2⟩
  | true =>
    have HR := hide hr
    have HOk := hide (show L.all (fine l) = true → packE l L = (bitsOf l L, 0) from fun h => by unfold packE; rw [if_pos hr, if_pos h])
    have HBad := hide (show L.all (fine l) = false → packE l L = ([], 13) from fun h => by unfold packE; rw [if_pos hr, h]; rfl)
    generalize packE l L = res at *
    have HLi := hide hL
    clear hr h hL
    go_enter Try.func14, Try.ntmps14
    go_wp2_with fail
    refine C1.mono ?_
    rintro e w2 ⟨hyes, _, hE2⟩
    obtain ⟨g, rfl, hC⟩ := hyes HR.out
    have hLS := HLi.out.later hE2
    have hR := Wrt.new w2
    have hB0 := extNew w2 (.cells #[.slice none 0 0, .int .i64 0] 62)
    unfold Ext at hB0
    have hle2 := hE2.le
    clear C1 hyes
    obtain ⟨k6, hk6⟩ : ∃ k, k = w2.heap.size := ⟨_, rfl⟩
    rw [← hk6] at hR hC hLS hle2 hB0
    have HC := hide hC
    have HLS := hide hLS
    have HK := hide hk6
    have HE2 := hide hE2
    clear hC hLS hk6 hE2 HLi
    go_wp2_with fail
    rw [← HK.out]
    go_loopw [22] (fun x wr => ∃ (i : Nat) (ob : Option Nat), i ≤ L.length ∧ x = .int .i64 (i : Int) ∧ (∀ j, j < i → fine l (L.getD j 0) = true) ∧ (bitsOf l (L.take i)).length ≤ 15 * i ∧ Wrt wr k6 k6 ob (bitsOf l (L.take i)) ∧ Below k6 w2 wr) (fun x _ => L.length - (intOf x).toNat)
    case atStart => exact ⟨0, none, by omega, rfl, fun j hj => absurd hj (by omega), by simp [bitsOf], hR, hB0⟩
    case round =>
      clear hR hB0
      obtain ⟨i, ob, hi, rfl, hall, hlen, hR, hE⟩ := hrel
      have HAll := hide hall
      have hCr := CodR.keeps.below HC.out hE (Nat.le_refl _)
      clear hall
      by_cases hlt : i < L.length
      · have hiI : (i : Int) < (L.length : Int) := by omega
        rcases (HLS.out.below hE (Nat.le_refl _)).2 with hn | ⟨b, o, rfl, hb, hcl⟩
        · omega
        have e2 := hcl i hlt
        have CP := hufPut_any hCr HR.out hR (by omega) (L.getD i 0)
        have HNot := hide (show fine l (L.getD i 0) = false → L.all (fine l) = false from fun h => not_fine hlt h)
        have HTk := hide (show L.take (i + 1) = L.take i ++ [L.getD i 0] from take_next hlt)
        have HS0 := hide (show ∀ s, s = L.getD i 0 → fine l s = true → fine l (L.getD i 0) = true from fun s e h => e ▸ h)
        obtain ⟨s, hs⟩ : ∃ s, s = L.getD i 0 := ⟨_, rfl⟩
        rw [← hs] at e2 CP HNot HTk
        have HS := hide hs
        have hob := hR.ob
        have hbd := hR.lt
        have Hob := hide hob
        clear hcl hs HS0 hCr hR hob
        go_wp2_with fail
        refine CP.mono ?_
        rintro e w4 ⟨rfl, ob4, hR4, hN4, hM4⟩
        have hE4 : Below k6 w2 w4 := Below.trans hE (hM4.below (by omega) (Nat.le_refl _) (fun k hk => (Hob.out k hk).1))
        clear CP
        cases hf : fine l s with
        | false =>
          have HB := hide (HBad.out (HNot.out hf))
          rw [Huf.put_bad hf]
          clear hf
          go_wp2
          go_ret2
          rw [HB.out]
          exact ⟨_, [], rfl, OwnB.nil _ _, fun h => absurd h (by simp), fun _ => rfl, Below.trans HE2.out (Below.mono hE4 hle2)⟩
        | true =>
          have hpl := putB_le HR.out hf
          rw [Huf.put_fine hf]
          unfold putX at hR4
          rw [if_pos hf, ← bitsOf_snoc, ← HTk.out] at hR4
          have HR4 := hide hR4
          have hl2 : (bitsOf l (L.take (i + 1))).length ≤ 15 * (i + 1) := by rw [HTk.out, bitsOf_snoc, List.length_append]; omega
          have HF := hide hf
          have HL2 := hide hl2
          clear hpl hf hR4 hl2
          go_wp2
          go_roundw
          case rel => exact ⟨i + 1, ob4, by omega, by go_num, fun j hj => (by
            by_cases e : j = i
            · rw [e, ← HS.out]; exact HF.out
            · exact HAll.out j (by omega)), HL2.out, HR4.out, hE4⟩
          case measure => simp [intOf]; omega
      · obtain rfl : L.length = i := by omega
        have HRes := hide (HOk.out (all_fine HAll.out))
        rw [List.take_length] at hR hlen
        have CB := wbytes_any hR (by omega)
        have hle := hR.lt
        have hEw : Ext w wr := Below.trans HE2.out (Below.mono hE hle2)
        clear hR hCr
        go_wp2_with fail
        refine CB.mono ?_
        rintro e w4 ⟨bs, hbs, v, rfl, hO, hE4⟩
        go_wp2
        go_ret2
        rw [HRes.out]
        exact ⟨_, bs, rfl, hO.mono hEw.le, fun _ => hbs, fun h => absurd rfl h, hEw.trans hE4⟩
theorem packC_any (w : World) : PackC w := fun l L A A2 n c c2 W _ hc _ hb hL _ h3 => hufPack_any A A2 n c c2 l L W hc hb hL (by omega)

theorem wpList_makeI {ops : Array Oper} {rest : List Oper} {o : Oper} {a : Act} {Q : Exit → Act → World → Prop} {w : World} (hgd : o.guard = none) (x y : Operand) (ho : o.op = .makeSlice 35 x y) {n : Nat} (hx : a.eval x = .int .i64 (n : Int)) (hy : a.eval y = .int .i64 (n : Int)) (hn : n ≤ 1000000)
    (h : ∀ w', OwnI w' w.heap.size (.slice (some ⟨w.heap.size, 0, none⟩) n n) (List.replicate n 0) → Ext w w' → wpList Try.prog ops Q rest (a.put o.dst (.slice (some ⟨w.heap.size, 0, none⟩) n n)) w') : wpList Try.prog ops Q (o :: rest) a w := by
  obtain ⟨i, hi, hz, hsz, hby⟩ := info_parts int_info
  refine wpList_make_full w hgd x y 35 ho w.heap.size 3 i _ 1 Try.underlying35 hi hz hsz .i64 .i64 _ _ n hx hy rfl rfl (by rw [hby]; omega) (by unfold maxLen; omega) (Nat.le_refl _) ?_
  intro w' h1 h2
  refine h w' ?_ (Below.grown (Ext.refl w) h2 (Nat.le_refl _) fun k hk => by cases hk)
  unfold OwnI
  have e : (madeCells (Value.int .i64 0).cells (n * 1)).toList = (List.replicate n (0 : Int)).map (Value.int .i64) := by
    have : madeCells (Value.int .i64 0).cells n = ((List.replicate n (0 : Int)).map (Value.int .i64)).toArray := by
      apply Array.ext
      · simp [size_madeCells]
      · intro i h1 h2
        simp [madeCells, Value.cells, Nat.mod_one]
    rw [Nat.mul_one, this]
  rw [e] at h1
  simpa using h1
theorem ownI_cell {w : World} {base g n c : Nat} {L : List Int} (h : OwnI w base (.slice (some ⟨g, 0, none⟩) n c) L) {i : Nat} (hi : i < L.length) : w.cell? ⟨g, i, none⟩ = some (.int .i64 (L.getD i 0)) ∧ w.frozen? ⟨g, i, none⟩ = false := by
  have hn : n = L.length := by
    rcases h.2 with ⟨h', _⟩ | ⟨_, _, _, h', _⟩
    · simp at h'
    · simp only [Value.slice.injEq] at h'; exact h'.2.1
  subst hn
  refine ⟨?_, World.ownsRow.frozenAt h i⟩
  rw [World.ownsRow.cellAt h i (by omega)]
  simp [hi]
theorem ownI_set {w : World} {base g n c : Nat} {L : List Int} (h : OwnI w base (.slice (some ⟨g, 0, none⟩) n c) L) (i : Nat) (x : Int) : OwnI (w.setCell ⟨g, i, none⟩ (.int .i64 x)) base (.slice (some ⟨g, 0, none⟩) n c) (L.set i x) := by
  have hn : n = L.length := by
    rcases h.2 with ⟨h', _⟩ | ⟨_, _, _, h', _⟩
    · simp at h'
    · simp only [Value.slice.injEq] at h'; exact h'.2.1
  subst hn
  have := (World.ownsRow.stored h i (.int .i64 x)).1
  unfold OwnI
  rw [List.length_set, List.map_set]
  exact this

set_option maxHeartbeats 2000000 in
set_option maxRecDepth 100000 in
theorem hufUnpack_any (A A2 : Option Addr) (n c n2 c2 : Nat) (l b : List UInt8) (x : Int) (w : World) (hc : n ≤ c) (h : Bytes w w.heap.size A n l) (hn2 : n2 ≤ c2) (hb : Bytes w w.heap.size A2 n2 b) (hb3 : n2 ≤ 1000000) :
    Calls Try.prog 17 #[.slice A n c, .int .i64 x, .slice A2 n2 c2] w (UnpackTo w (unpackE l x b)) := by
  by_cases hneg : x < 0
  · have HN := hide (show unpackE l x b = ([], 13) by unfold unpackE; rw [if_pos (.inl hneg)])
    generalize unpackE l x b = res at *
    go_enter Try.func17, Try.ntmps17
    go_wp2
    go_ret2
    rw [HN.out]
    exact ⟨_, rfl, OwnI.nil _ _, Ext.refl _⟩
  by_cases hbig : 100000 < x
  · have HN := hide (show unpackE l x b = ([], 13) by unfold unpackE; rw [if_pos (.inr hbig)])
    generalize unpackE l x b = res at *
    go_enter Try.func17, Try.ntmps17
    go_wp2
    go_ret2
    rw [HN.out]
    exact ⟨_, rfl, OwnI.nil _ _, Ext.refl _⟩
  obtain ⟨N, rfl⟩ := Int.eq_ofNat_of_zero_le (show 0 ≤ x by omega)
  have hN : N ≤ 100000 := by omega
  have C1 := hufNew_any A n c l w hc h
  have hd : decide ((N : Int) < 0) = false := decide_eq_false (by omega)
  cases hr : right l with
  | false =>
    have HN := hide (show unpackE l (N : Int) b = ([], 7) by unfold unpackE; rw [if_neg (by omega), hr]; rfl)
    have HR := hide hr
    generalize unpackE l (N : Int) b = res at *
    clear hr h hb
    go_enter Try.func17, Try.ntmps17
    go_wp2_with fail
    refine C1.mono ?_
    rintro e w2 ⟨_, hno, hE2⟩
    obtain rfl := hno HR.out
    go_wp2
    go_ret2
    rw [HN.out]
    exact ⟨_, rfl, OwnI.nil _ _, hE2⟩
  | true =>
    have HN := hide (show unpackE l (N : Int) b = unR l b N 0 [] by unfold unpackE; rw [if_neg (by omega), hr]; rfl)
    have HR := hide hr
    generalize unpackE l (N : Int) b = res at *
    have HB := hide hb
    clear hr h hb
    go_enter Try.func17, Try.ntmps17
    go_wp2_with fail
    refine C1.mono ?_
    rintro e w2 ⟨hyes, _, hE2⟩
    obtain ⟨g, rfl, hC⟩ := hyes HR.out
    have CR := newReader_any A2 n2 c2 b _ hn2 hb3 (hE2.bytes HB.out)
    have hle2 := hE2.le
    have HC := hide hC
    have hNm : N ≤ 1000000 := by omega
    clear C1 HB hyes hC
    go_wp2_with fail
    refine CR.mono ?_
    rintro e w3 ⟨gr, rfl, hR3, hE3⟩
    have hle3 := hE3.le
    have hbg := hR3.le
    have hgl := hR3.lt
    have hF3 := hE2.trans hE3
    have hC3 := CodR.keeps.below HC.out hE3 (Nat.le_refl _)
    have HR3 := hide hR3
    have HC3 := hide hC3
    clear CR HC hC3 hR3
    go_wp2_with (refine wpList_makeI (n := N) rfl (.tmp 30) (.tmp 30) rfl rfl rfl hNm ?_; intro w4 hO4 hE4)
    have hR4 := HR3.out.ext hE4
    have hC4 := CodR.keeps.below HC3.out hE4 (by omega)
    have hF4 := hF3.trans hE4
    have hle4 := hO4.lt _ rfl
    have HC4 := hide hC4
    have HF4 := hide hF4
    have HR4 := hide hR4
    have HO4 := hide hO4
    obtain ⟨gs, hgs⟩ : ∃ k, k = w3.heap.size := ⟨_, rfl⟩
    rw [← hgs] at HO4 hgl hle4
    rw [← hgs]
    have hlts := hle4.2
    have HGs := hide hgs
    have hwk : w.heap.size ≤ w2.heap.size := hle2
    have hks : w2.heap.size ≤ gs := by omega
    obtain ⟨k2, hk2⟩ : ∃ k, k = w2.heap.size := ⟨_, rfl⟩
    rw [← hk2] at HC4 HR4 hbg hwk hks
    clear hR4 hC4 hF4 hO4 HR3 HC3 hgs hle4 hF3 hE2 hE3 hE4 hk2 hle2 hle3
    go_loopw [34, 9] (fun a er wr => ∃ (i q : Nat) (out : List Int), i ≤ N ∧ a = .int .i64 (i : Int) ∧ er = .int .i64 0 ∧ out.length = i ∧ OwnI wr gs (.slice (some ⟨gs, 0, none⟩) N N) (out ++ List.replicate (N - i) 0) ∧ Rdr wr k2 gr b q ∧ Below k2 w4 wr ∧ res = unR l b (N - i) q out) (fun a _ _ => N - (intOf a).toNat)
    case atStart => exact ⟨0, 0, [], by omega, rfl, rfl, rfl, by simpa using HO4.out, HR4.out, Below.refl _ _, HN.out⟩
    case round =>
      clear HN HR4 HO4
      obtain ⟨i, q, out, hi, rfl, rfl, hol, hO, hR, hM, hres⟩ := hrel
      have HRes := hide hres
      have HOl := hide hol
      have HO := hide hO
      have hCr := CodR.keeps.below HC4.out hM (Nat.le_refl _)
      clear hres hol
      by_cases hlt : i < N
      · have hiI : (i : Int) < (N : Int) := by omega
        have CG := hufGet_any hCr HR.out hR
        have HOk := hide (show (getE l b q).2.1 = 0 → res = unR l b (N - (i + 1)) (getE l b q).2.2 (out ++ [(getE l b q).1]) from fun h => by rw [HRes.out, show N - i = N - (i + 1) + 1 by omega, unR, if_pos h])
        have HNo := hide (show (getE l b q).2.1 ≠ 0 → res = ([], (getE l b q).2.1) from fun h => by rw [HRes.out, show N - i = N - (i + 1) + 1 by omega, unR, if_neg h])
        obtain ⟨⟨r1, r2, r3⟩, hr⟩ : ∃ r, r = getE l b q := ⟨_, rfl⟩
        rw [← hr] at CG HOk HNo
        dsimp only at CG HOk HNo
        clear hr hCr
        go_wp2_with fail
        refine CG.mono ?_
        rintro e w5 ⟨rfl, hR5, hM5⟩
        have hrl := hR.lt
        have hO5 : OwnI w5 gs (.slice (some ⟨gs, 0, none⟩) N N) (out ++ List.replicate (N - i) 0) := ownI_mod hM5 HO.out (fun e => by simp [Value.ownBlock] at e; omega)
        obtain ⟨e5, f5⟩ := ownI_cell hO5 (i := i) (by rw [List.length_append, HOl.out, List.length_replicate]; omega)
        have HSet := hide (show (out ++ List.replicate (N - i) 0).set i r1 = (out ++ [r1]) ++ List.replicate (N - (i + 1)) 0 by
          rw [List.set_append_right _ _ (by rw [HOl.out]; exact Nat.le_refl _), HOl.out, Nat.sub_self, show N - i = N - (i + 1) + 1 by omega, List.replicate_succ, List.set_cons_zero, List.append_assoc]
          rfl)
        have hO6 := ownI_set hO5 i r1
        rw [HSet.out] at hO6
        have hG6 := grown_setCell w5 gs i (.int .i64 r1)
        have hgsl : gs ≤ w5.heap.size := Nat.le_of_lt (hO5.lt gs rfl).2
        have hB6 : Below gs w5 (w5.setCell ⟨gs, i, none⟩ (.int .i64 r1)) := Below.grown (Below.refl gs w5) hG6 hgsl (fun k hk => by cases hk; omega)
        have hR6 := hR5.below hB6 hgl
        have hB5 : Below k2 w4 w5 := Below.trans hM (hM5.below (by omega) hbg (fun k hk => by cases hk))
        have hB56 : Below k2 w4 (w5.setCell ⟨gs, i, none⟩ (.int .i64 r1)) := Below.trans hB5 (Below.mono hB6 hks)
        have HO6 := hide hO6
        have HR6 := hide hR6
        have HB56 := hide hB56
        have HB5 := hide hB5
        clear CG hO hO5 hO6 hG6 hB6 hR6 hB5 hB56 hR hR5 hM5 hM HSet
        by_cases h2 : r2 = 0
        · subst h2
          have HS := hide (HOk.out rfl)
          clear HOk HNo
          go_wp2
          go_roundw
          case rel => exact ⟨i + 1, r3, out ++ [r1], by omega, by go_num, rfl, by rw [List.length_append, HOl.out]; rfl, HO6.out, HR6.out, HB56.out, HS.out⟩
          case measure => simp [intOf]; omega
        · have hnb : ((r2 : Int) != 0) = true := by rw [bne_iff_ne]; exact h2
          have HS := hide (HNo.out h2)
          clear HOk HNo
          go_wp2
          go_ret2
          rw [HS.out]
          exact ⟨_, rfl, OwnI.nil _ _, Below.trans HF4.out (Below.mono HB56.out (by omega))⟩
      · obtain rfl : N = i := by omega
        have CP := pad_any hR
        have HOk := hide (show Bit.padErr b q = 0 → res = (out, 0) from fun h => by rw [HRes.out, Nat.sub_self, unR, if_pos h])
        have HNo := hide (show Bit.padErr b q ≠ 0 → res = ([], Bit.padErr b q) from fun h => by
          rw [HRes.out, Nat.sub_self, unR, if_neg h]
          unfold Bit.padErr at h ⊢
          split at h
          · exact absurd rfl h
          · rename_i h2; rw [if_neg h2])
        have HEw := hide (show Ext w wr from Below.trans HF4.out (Below.mono hM (by omega)))
        generalize Bit.padErr b q = pe at *
        clear hCr hO hR hM
        go_wp2_with fail
        refine CP.mono ?_
        rintro e w6 ⟨rfl, hQ⟩
        clear CP
        by_cases h2 : pe = 0
        · subst h2
          have HS := hide (HOk.out rfl)
          clear HOk HNo
          go_wp2
          go_ret2
          rw [HS.out]
          have hO := HO.out
          rw [Nat.sub_self, List.replicate_zero, List.append_nil] at hO
          exact ⟨_, rfl, (hO.ext hQ.ext).mono (by omega), HEw.out.trans hQ.ext⟩
        · have hnb : ((pe : Int) != 0) = true := by rw [bne_iff_ne]; exact h2
          have HS := hide (HNo.out h2)
          clear HOk HNo
          go_wp2
          go_ret2
          rw [HS.out]
          exact ⟨_, rfl, OwnI.nil _ _, HEw.out.trans hQ.ext⟩
theorem unpackC_any (w : World) : UnpackC w := fun l b x A A2 n c n2 c2 W _ hc _ hb h2 _ h3 hb2 _ _ => hufUnpack_any A A2 n c n2 c2 l b x W hc hb h2 hb2 h3
end Go.Proofs.Ytjpmabdnaooglaa

namespace Go.Proofs.Ytjpmabdnaooglaa
open Go.RowKit Len Can Huf

set_option maxHeartbeats 2000000 in
set_option maxRecDepth 100000 in
theorem huffCoders_walk0 (s : Int) (A1 : Option Addr) (n1 c1 : Nat) (l : List UInt8) (w : World) (hn1 : n1 ≤ c1) (h1 : Bytes w w.heap.size A1 n1 l) (_hs0 : -9223372036854775808 ≤ s) (_hs1 : s ≤ 9223372036854775807) :
    Calls Try.prog 3 #[.slice A1 n1 c1, .int .i64 s] w fun e w' => e = .returned (.bool true) ∧ Ext w w' := by
  have C0 := alive9_any (packC_any w) (Ext.refl w)
  by_cases hb1 : 400 < n1
  · have hbI : (400 : Int) < (n1 : Int) := by omega
    go_enter Try.func3, Try.ntmps3
    go_wp2_with fail
    refine C0.mono ?_
    rintro e w1 ⟨rfl, hE1⟩
    go_wp2
    go_ret
    exact ⟨rfl, hE1⟩
  have hb1I : ¬ (400 : Int) < (n1 : Int) := by omega
  have hl := h1.1
  subst hl
  have H1 := hide h1
  clear h1
  go_enter Try.func3, Try.ntmps3
  go_wp2_with fail
  refine C0.mono ?_
  rintro e w1 ⟨rfl, hE1⟩
  have C1 := hufNew_any A1 l.length c1 l w1 hn1 (hE1.bytes H1.out)
  clear C0
  go_wp2_with fail
  refine C1.mono ?_
  rintro e w2 ⟨hyes, hno, hE2⟩
  have hF2 := hE1.trans hE2
  have C2 := refNew9_any A1 l.length c1 l w2 (hF2.bytes H1.out)
  unfold RefNew at C2
  clear C1
  cases hr : right l with
  | false =>
    obtain rfl := hno hr
    have HR := hide hr
    rw [check_wrong hr] at C2
    clear hyes hno hr
    have CN := fun W => hufLenNil_any s W
    by_cases hs : 0 ≤ s
    · have hs2 : ¬ s < 0 := by omega
      go_wp2_with fail
      refine C2.mono ?_
      rintro e w3 ⟨v, rfl, _, hv, hE3⟩
      obtain rfl := hv HR.out
      have hE4 := extNew w3 (.cells #[.slice none 0 0, .slice none 0 0] 30)
      go_wp2_with fail
      refine (CN _).mono ?_
      rintro e w4 ⟨rfl, rfl⟩
      go_wp2
      go_ret
      exact ⟨rfl, (hF2.trans hE3).trans hE4⟩
    · go_wp2_with fail
      refine C2.mono ?_
      rintro e w3 ⟨v, rfl, _, hv, hE3⟩
      obtain rfl := hv HR.out
      have hE4 := extNew w3 (.cells #[.slice none 0 0, .slice none 0 0] 30)
      go_wp2_with fail
      refine (CN _).mono ?_
      rintro e w4 ⟨rfl, rfl⟩
      go_wp2
      go_ret
      exact ⟨rfl, (hF2.trans hE3).trans hE4⟩
  | true =>
    obtain ⟨g, rfl, hC⟩ := hyes hr
    have HR := hide hr
    rw [check_right hr] at C2
    clear hyes hno hr
    go_wp2_with fail
    refine C2.mono ?_
    rintro e w3 ⟨v, rfl, hv, _, hE3⟩
    obtain ⟨B1, d1, B2, d2, rfl, hd1, hd1m, hq1, hq2⟩ := hv HR.out
    have hF3 := hF2.trans hE3
    have hE4 := extNew w3 (.cells #[.slice B1 l.length d1, .slice B2 l.length d2] 30)
    have hWS := Whole.new w3 30 #[.slice B1 l.length d1, .slice B2 l.length d2]
    have e0 : (w3.alloc (.cells #[.slice B1 l.length d1, .slice B2 l.length d2] 30)).cell? ⟨w3.heap.size, 0, none⟩ = some (.slice B1 l.length d1) := hWS.at 0 rfl
    have hC4 := CodR.keeps.below hC (hE3.trans hE4) (Nat.le_refl _)
    have CL := hufLen_any hC4 s
    have hq4 := hE4.bytes hq1
    have hF4 := hF3.trans hE4
    clear hv hC C2 hq1 hq2 hE3 hC4 hWS
    by_cases hs : 0 ≤ s ∧ s < (l.length : Int)
    · obtain ⟨hs0, hs1⟩ := hs
      obtain ⟨k, rfl⟩ := Int.eq_ofNat_of_zero_le hs0
      have hk : k < l.length := by omega
      rw [lenX_at hk] at CL
      rcases hq4.2 with hn | ⟨b, o, rfl, hb, hc⟩
      · omega
      have e1 : (w3.alloc (.cells #[.slice (some ⟨b, o, none⟩) l.length d1, .slice B2 l.length d2] 30)).cell? ⟨b, o + k, none⟩ = some (.int .u8 ((lenAt l k : Nat) : Int)) := hc k hk
      have hy : lenAt l k < 256 := UInt8.toNat_lt _
      have hyb : ((lenAt l k : Int) == (lenAt l k : Int)) = true := by simp
      clear hq4 hc
      generalize lenAt l k = y at *
      go_wp2_with fail
      refine CL.mono ?_
      rintro e w4 ⟨rfl, rfl⟩
      go_wp2
      go_ret
      exact ⟨rfl, hF4⟩
    · have hx : lenX l s = 0 := by unfold lenX; rw [if_neg hs]
      rw [hx] at CL
      clear hx
      by_cases hs0 : 0 ≤ s
      · have hs1 : ¬ s < (l.length : Int) := by omega
        clear hs
        go_wp2_with fail
        refine CL.mono ?_
        rintro e w4 ⟨rfl, rfl⟩
        go_wp2
        go_ret
        exact ⟨rfl, hF4⟩
      · clear hs
        go_wp2_with fail
        refine CL.mono ?_
        rintro e w4 ⟨rfl, rfl⟩
        go_wp2
        go_ret
        exact ⟨rfl, hF4⟩

theorem hufGetNil_any (p : Value) (w : World) : Calls Try.prog 24 #[.pointer none, p] w fun e w' => e = .returned (.tuple #[.int .i64 (-1), .int .i64 7]) ∧ w = w' := by
  go_enter Try.func24, Try.ntmps24
  go_wp2
  go_ret2
  exact ⟨rfl, rfl⟩
theorem peekNo_any (w : World) : Calls Try.prog 43 #[.pointer none, .int .i64 15] w fun e w' => e = .returned (.tuple #[.int .u64 0, .int .i64 0]) ∧ ∃ m, w' = w.drewN m := by
  go_enter Try.func43, Try.ntmps43
  go_wp2
  go_ret2
  exact ⟨rfl, 0, rfl⟩
theorem Huf.getE_two : getE [1, 1] [] 0 = (-1, 1, 0) := by decide +kernel
theorem Huf.right_two : right [1, 1] = true := by decide +kernel
set_option maxHeartbeats 1000000 in
set_option maxRecDepth 100000 in
theorem hufGetNo_any {w : World} {lo hi g : Nat} (h : CodR w lo hi g [1, 1]) : Calls Try.prog 24 #[.pointer (some ⟨g, 0, none⟩), .pointer none] w fun e w' => e = .returned (.tuple #[.int .i64 (-1), .int .i64 1]) ∧ Qt w w' := by
  have CF : ∀ n : Nat, Calls Try.prog 42 #[.pointer (some ⟨g, 0, none⟩), .int .u64 0, .int .i64 0] (w.drewN n) fun e w' => e = .returned (.tuple #[.int .i64 (-1), .int .i64 1]) ∧ ∃ m, w' = w.drewN m := fun n => by
    have C := hfind_any (h.tab.drewN n) right_two [] 0
    rw [getE_two] at C
    exact Calls.quiet_of C
  have CK : ∀ n : Nat, Calls Try.prog 43 #[.pointer none, .int .i64 15] (w.drewN n) fun e w' => e = .returned (.tuple #[.int .u64 0, .int .i64 0]) ∧ ∃ m, w' = w.drewN m := fun n => Calls.quiet_of (peekNo_any _)
  clear h
  go_enter Try.func24, Try.ntmps24
  go_wp2_with fail
  go_quiet (first | (go_at_call 43; exact CK _) | (go_at_call 42; exact CF _))
  go_wp2
  go_ret2
  exact ⟨rfl, nq, rfl⟩

set_option maxHeartbeats 2000000 in
set_option maxRecDepth 100000 in
theorem huffNone_walk0 (s : Int) (A1 : Option Addr) (n1 c1 : Nat) (b : List UInt8) (w : World) (hn1 : n1 ≤ c1) (h1 : Bytes w w.heap.size A1 n1 b) (_hs0 : -9223372036854775808 ≤ s) (_hs1 : s ≤ 9223372036854775807) :
    Calls Try.prog 9 #[.slice A1 n1 c1, .int .i64 s] w fun e w' => e = .returned (.bool true) ∧ Ext w w' := by
  have C0 := alive9_any (packC_any w) (Ext.refl w)
  by_cases hb1 : 200 < n1
  · have hbI : (200 : Int) < (n1 : Int) := by omega
    go_enter Try.func9, Try.ntmps9
    go_wp2_with fail
    refine C0.mono ?_
    rintro e w1 ⟨rfl, hE1⟩
    go_wp2
    go_ret
    exact ⟨rfl, hE1⟩
  have hb1I : ¬ (200 : Int) < (n1 : Int) := by omega
  have hl := h1.1
  subst hl
  have H1 := hide h1
  clear h1
  go_enter Try.func9, Try.ntmps9
  go_wp2_with fail
  refine C0.mono ?_
  rintro e w1 ⟨rfl, hE1⟩
  have hE2 := extNew w1 (.cells #[.slice none 0 0, .int .i64 0] 62)
  have hF2 := hE1.trans hE2
  have hW := Wrt.new w1
  have CR := newReader_any A1 b.length c1 b _ hn1 (by omega) (hF2.bytes H1.out)
  clear C0 hE1 hE2
  go_wp2_with fail
  refine CR.mono ?_
  rintro e w3 ⟨gr, rfl, hR, hE3⟩
  have hF3 := hF2.trans hE3
  have hW3 := hW.ext hE3
  have CG := hufGetNil_any (.pointer (some ⟨gr, 0, none⟩)) w3
  clear CR hF2 hE3 hW
  go_wp2_with fail
  refine CG.mono ?_
  rintro e w4 ⟨rfl, rfl⟩
  clear CG
  have hE4 := extNew w3 (.cells #[.int .u8 1, .int .u8 1] 5)
  have hb4 := bytesNew w3 [1, 1] #[.int .u8 1, .int .u8 1] 5 (0, 0) rfl 2 rfl
  have CN := hufNew_any _ 2 2 [1, 1] _ (Nat.le_refl _) hb4
  have hF4 := hF3.trans hE4
  have hW4 := hW3.ext hE4
  have hR4 := hR.ext hE4
  clear hb4 hF3 hE4 hW3 hR
  go_wp2_with fail
  refine CN.mono ?_
  rintro e w5 ⟨hyes, _, hE5⟩
  obtain ⟨g, rfl, hC⟩ := hyes right_two
  have hF5 := hF4.trans hE5
  have hW5 := hW4.ext hE5
  have hR5 := hR4.ext hE5
  have CG := hufGetNo_any hC
  clear CN hyes hF4 hE5 hW4 hR4 hC
  go_wp2_with fail
  refine CG.mono ?_
  rintro e w6 ⟨rfl, hQ6⟩
  have hF6 := hF5.trans hQ6.ext
  have hW6 := hW5.ext hQ6.ext
  have hR6 := hR5.ext hQ6.ext
  have CP := hufPutNil_any (.pointer (some ⟨w1.heap.size, 0, none⟩)) s w6
  clear CG hQ6 hF5 hW5 hR5
  go_wp2_with fail
  refine CP.mono ?_
  rintro e w7 ⟨rfl, rfl⟩
  clear CP
  have CL := wlen_any hW6
  go_wp2_with fail
  refine CL.mono ?_
  rintro e w7 ⟨rfl, rfl⟩
  clear CL
  have CE := left_any hR6
  rw [Nat.sub_zero] at CE
  have hcast : ((8 * b.length : Nat) : Int) = 8 * (b.length : Int) := by omega
  rw [hcast] at CE
  clear hcast
  go_wp2_with fail
  refine CE.mono ?_
  rintro e w7 ⟨rfl, hQ7⟩
  have hF7 := hF6.trans hQ7.ext
  have heb : (8 * (b.length : Int) == 8 * (b.length : Int)) = true := by simp
  clear CE hF6 hW6 hR6 hQ7
  have CN := hufLenNil_any s w7
  go_wp2_with fail
  refine CN.mono ?_
  rintro e w8 ⟨rfl, rfl⟩
  clear CN
  have CN := hufPutNo_any g s w7
  go_wp2_with fail
  refine CN.mono ?_
  rintro e w8 ⟨rfl, rfl⟩
  clear CN
  go_wp2
  go_ret
  exact ⟨rfl, hF7⟩
end Go.Proofs.Ytjpmabdnaooglaa

namespace Go.Proofs.Ytjpmabdnaooglaa
open Go.RowKit

/-- A reader of the program and one of the document, of the same bytes. -/
def Pair (w : World) (base b2 g1 g2 : Nat) (l : List UInt8) (q1 q2 : Nat) : Prop := Rdr w base g1 l q1 ∧ RefR w b2 g2 l q2 ∧ g1 < b2 ∧ base ≤ b2
theorem Pair.first {w w' : World} {base b2 g1 g2 q1 q1' q2 : Nat} {l : List UInt8} (h : Pair w base b2 g1 g2 l q1 q2) (hR : Rdr w' base g1 l q1') (hM : Mod w w' g1 none) : Pair w' base b2 g1 g2 l q1' q2 ∧ Below base w w' := by
  obtain ⟨h1, h2, h3, h4⟩ := h
  have := h2.le
  exact ⟨⟨hR, h2.kept hM (by omega) h3, h3, h4⟩, hM.below (by have := h1.lt; have := h1.le; omega) h1.le (fun k hk => by cases hk)⟩
theorem Pair.second {w w' : World} {base b2 g1 g2 q1 q2 q2' : Nat} {l : List UInt8} (h : Pair w base b2 g1 g2 l q1 q2) (hR : RefR w' b2 g2 l q2') (hM : Mod w w' g2 none) : Pair w' base b2 g1 g2 l q1 q2' ∧ Below base w w' := by
  obtain ⟨h1, h2, h3, h4⟩ := h
  have hb : Below b2 w w' := hM.below (Nat.le_trans h2.le (Nat.le_of_lt h2.lt)) h2.le (fun k hk => by cases hk)
  exact ⟨⟨h1.below hb h3, hR, h3, h4⟩, Below.mono hb h4⟩
theorem Pair.quiet {w w' : World} {base b2 g1 g2 q1 q2 : Nat} {l : List UInt8} (h : Pair w base b2 g1 g2 l q1 q2) (hQ : Qt w w') : Pair w' base b2 g1 g2 l q1 q2 ∧ Below base w w' := by
  obtain ⟨h1, h2, h3, h4⟩ := h
  exact ⟨⟨h1.ext hQ.ext, h2.ext hQ.ext, h3, h4⟩, Below.mono hQ.ext (by have := h1.lt; have := h1.le; omega)⟩
end Go.Proofs.Ytjpmabdnaooglaa

namespace Go.Proofs.Ytjpmabdnaooglaa
open Go.RowKit Len Can Huf

theorem Huf.tmod20 (a : Nat) : ((a : Int)).tmod 20 = ((a % 20 : Nat) : Int) := by rw [Int.tmod_eq_emod_of_nonneg (by omega)]; omega
theorem Huf.getE_small (l b : List UInt8) (q : Nat) (hl : l.length ≤ 300) : -1 ≤ (getE l b q).1 ∧ (getE l b q).1 ≤ 300 ∧ 0 ≤ (getE l b q).2.1 ∧ (getE l b q).2.1 ≤ 7 := by
  unfold getE
  cases hf : (List.range l.length).find? (hit l b q) with
  | none => dsimp only; split <;> simp
  | some s =>
    have := List.mem_range.1 (List.mem_of_find?_eq_some hf)
    dsimp only
    omega

set_option maxHeartbeats 4000000 in
set_option maxRecDepth 100000 in
theorem huffGets_walk0 (CP : CodP) (hK : CodKeep CP) (k m : Nat) (A1 A2 : Option Addr) (n1 c1 n2 c2 : Nat) (l b : List UInt8) (w : World) (hP : PackC w) (hNw : NewC CP w) (hG : GetC CP w) (hk : k ≤ 255) (hm : m ≤ 255) (hn1 : n1 ≤ c1) (hc1 : c1 ≤ maxLen) (h1 : Bytes w w.heap.size A1 n1 l) (hn2 : n2 ≤ c2) (_hc2 : c2 ≤ maxLen) (h2 : Bytes w w.heap.size A2 n2 b) :
    Calls Try.prog 6 #[.slice A1 n1 c1, .slice A2 n2 c2, .int .u8 (k : Int), .int .u8 (m : Int)] w fun e w' => e = .returned (.bool true) ∧ Ext w w' := by
  have C0 := alive9_any hP (Ext.refl w)
  by_cases hb1 : 400 < n1
  · have hbI : (400 : Int) < (n1 : Int) := by omega
    go_enter Try.func6, Try.ntmps6
    go_wp2_with fail
    refine C0.mono ?_
    rintro e w1 ⟨rfl, hE1⟩
    go_wp2
    go_ret
    exact ⟨rfl, hE1⟩
  have hb1I : ¬ (400 : Int) < (n1 : Int) := by omega
  by_cases hb2 : 200 < n2
  · have hbI : (200 : Int) < (n2 : Int) := by omega
    go_enter Try.func6, Try.ntmps6
    go_wp2_with fail
    refine C0.mono ?_
    rintro e w1 ⟨rfl, hE1⟩
    go_wp2
    go_ret
    exact ⟨rfl, hE1⟩
  have hb2I : ¬ (200 : Int) < (n2 : Int) := by omega
  have H1 := hide h1
  have H2 := hide h2
  have HNw := hide hNw
  have HG := hide hG
  clear h1 h2 hNw hG
  go_enter Try.func6, Try.ntmps6
  go_wp2_with fail
  refine C0.mono ?_
  rintro e w1 ⟨rfl, hE1⟩
  have C1 := HNw.out l A1 n1 c1 w1 hE1 hn1 hc1 (hE1.bytes H1.out)
  clear C0
  go_wp2_with fail
  refine C1.mono ?_
  rintro e w2 ⟨hyes, hno, hE2⟩
  clear C1
  have hF2 := hE1.trans hE2
  cases hr : right l with
  | false =>
    obtain rfl := hno hr
    go_wp2
    go_ret
    exact ⟨rfl, hF2⟩
  | true =>
    obtain ⟨gc, rfl, hC⟩ := hyes hr
    have HR := hide hr
    have hle2 := hK.le hC
    have HC := hide hC
    have C2 := refNew9_any A1 n1 c1 l w2 (hF2.bytes H1.out)
    unfold RefNew at C2
    rw [check_right hr] at C2
    clear hyes hno hr hC
    go_wp2_with fail
    refine C2.mono ?_
    rintro e w3 ⟨v, rfl, hv, _, hE3⟩
    have hv := hv HR.out
    obtain ⟨B1, d1, B2, d2, rfl, hd1, hd1m, hq1, hq2⟩ := hv
    have hF3 := hF2.trans hE3
    have HCod := hide (show RefCod w3 w3.heap.size (.agg #[.slice B1 l.length d1, .slice B2 l.length d2]) l from ⟨B1, d1, B2, d2, rfl, hd1, hd1m, hq1, hq2⟩)
    have hC3 := hK.ext HC.out hE3
    have hE4 := extNew w3 (.cells #[.slice B1 l.length d1, .slice B2 l.length d2] 30)
    have hWS := Whole.new w3 30 #[.slice B1 l.length d1, .slice B2 l.length d2]
    have hF4 := hF3.trans hE4
    have hC4 := hK.ext hC3 hE4
    have hD4 := HCod.out.ext hE4
    have CN := newReader_any A2 n2 c2 b _ hn2 (by omega) (hF4.bytes H2.out)
    have hsz4 : w3.heap.size < (w3.alloc (.cells #[.slice B1 l.length d1, .slice B2 l.length d2] 30)).heap.size := by simp
    have hle3 := hE3.le
    clear hv hq1 hq2 C2 HC HCod hC3 hE4
    go_wp2_with fail
    refine CN.mono ?_
    rintro e w4 ⟨g1, rfl, hR4, hE4⟩
    have C5 := refReader_any A2 n2 c2 b w4 (by omega) ((hF4.trans hE4).bytes H2.out)
    clear CN
    go_wp2_with fail
    refine C5.mono ?_
    rintro e w5 ⟨g2, rfl, hR5, hE5⟩
    clear C5
    have hBS : Below (w3.alloc (.cells #[.slice B1 l.length d1, .slice B2 l.length d2] 30)).heap.size (w3.alloc (.cells #[.slice B1 l.length d1, .slice B2 l.length d2] 30)) w5 := hE4.trans hE5
    have hPr : Pair w5 (w3.alloc (.cells #[.slice B1 l.length d1, .slice B2 l.length d2] 30)).heap.size w4.heap.size g1 g2 b 0 0 := ⟨hR4.ext hE5, hR5, hR4.lt, hE4.le⟩
    have hbs2 : w2.heap.size ≤ (w3.alloc (.cells #[.slice B1 l.length d1, .slice B2 l.length d2] 30)).heap.size := by omega
    have hbs1 := hF4.le
    clear hR4 hR5 hE4 hE5
    have Hbs := hide (show (w3.alloc (.cells #[.slice B1 l.length d1, .slice B2 l.length d2] 30)).heap.size = w3.heap.size + 1 by simp)
    generalize (w3.alloc (.cells #[.slice B1 l.length d1, .slice B2 l.length d2] 30)).heap.size = bs at *
    generalize w3.alloc (.cells #[.slice B1 l.length d1, .slice B2 l.length d2] 30) = wS at *
    generalize w3.heap.size = k3 at *
    generalize w4.heap.size = b2 at *
    have ht := tmod20 k
    have hk20 : k % 20 < 20 := Nat.mod_lt _ (by omega)
    generalize k % 20 = kk at *
    have CS := skip_any hPr.1 (kk : Int)
    have HWS := hide hWS
    have HC4 := hide hC4
    have HD4 := hide hD4
    clear hWS hC4 hD4
    go_wp2_with fail
    refine CS.mono ?_
    rintro e w6 ⟨rfl, hR6, hM6⟩
    obtain ⟨hP6, hB6⟩ := hPr.first hR6 hM6
    have CS2 := refSkip_any hP6.2.1 (kk : Int)
    clear CS hR6 hM6 hPr
    go_wp2_with fail
    refine CS2.mono ?_
    rintro e w7 ⟨rfl, hR7, hM7⟩
    obtain ⟨hP7, hB7⟩ := hP6.second hR7 hM7
    have hS7 := (hBS.trans hB6).trans hB7
    clear CS2 hR7 hM7 hP6 hB6 hB7 hBS
    generalize Bit.skipTo (8 * b.length - 0) 0 (kk : Int) = q0 at *
    generalize Bit.skipErr (8 * b.length - 0) (kk : Int) = se at *
    go_wp2_with fail
    go_loopw [15] (fun x wr => ∃ (i q : Nat), i ≤ m ∧ x = .int .i64 (i : Int) ∧ Pair wr bs b2 g1 g2 b q q ∧ Below bs wS wr) (fun x _ => m - (intOf x).toNat)
    case atStart => exact ⟨0, q0, by omega, rfl, hP7, hS7⟩
    case round =>
      clear hP7 hS7
      obtain ⟨i, q, hi, rfl, hPr, hS⟩ := hrel
      have hEw : Ext w wr := Below.trans hF4 (Below.mono hS hbs1)
      by_cases hlt : i < m
      · have hiI : (i : Int) < (m : Int) := by omega
        have hCr := hK.below HC4.out hS hbs2
        have C1 := HG.out l b _ _ gc g1 bs q wr hEw hCr HR.out hPr.1 (Nat.le_trans hbs2 hPr.1.le)
        have hsm := getE_small l b q (right_facts HR.out).1
        have hEr := hide (show getE l b q = getE l b q from rfl)
        clear hCr
        have CG := fun (W : World) (hv : RefCod W b2 (.agg #[.slice B1 l.length d1, .slice B2 l.length d2]) l) (h : RefR W b2 g2 b q) => refGet9_any hv HR.out h
        unfold RefGot at CG
        clear hEr
        generalize getE l b q = r at *
        obtain ⟨r1, r2, r3⟩ := r
        dsimp only at C1 CG hsm
        go_wp2_with fail
        refine C1.mono ?_
        rintro e w8 ⟨rfl, hR8, hM8⟩
        obtain ⟨hP8, hB8⟩ := hPr.first hR8 hM8
        have hS8 := hS.trans hB8
        have hW8 : Whole w8 k3 30 #[.slice B1 l.length d1, .slice B2 l.length d2] := HWS.out.below hS8 (by have := Hbs.out; omega)
        have e0 : w8.cell? ⟨k3, 0, none⟩ = some (.slice B1 l.length d1) := hW8.at 0 rfl
        have e1 : w8.cell? ⟨k3, 1, none⟩ = some (.slice B2 l.length d2) := hW8.at 1 rfl
        have C2 := CG w8 ((HD4.out.below hS8 (Nat.le_refl _)).mono hP8.2.2.2) hP8.2.1
        clear C1 CG hR8 hM8 hPr hB8 hW8 hS
        go_wp2_with fail
        refine C2.mono ?_
        rintro e w9 ⟨rfl, hR9, hM9⟩
        obtain ⟨hP9, hB9⟩ := hP8.second hR9 hM9
        have hS9 := hS8.trans hB9
        have h1b : (r1 == r1) = true := by simp
        have h2b : (r2 == r2) = true := by simp
        have CL1 := left_any hP9.1
        clear C2 hR9 hM9 hP8 hB9 hS8 e0 e1
        go_wp2_with fail
        refine CL1.mono ?_
        rintro e w10 ⟨rfl, hQ10⟩
        obtain ⟨hP10, hB10⟩ := hP9.quiet hQ10
        have CL2 := refLeft_any hP10.2.1
        clear CL1 hQ10 hP9
        go_wp2_with fail
        refine CL2.mono ?_
        rintro e w11 ⟨rfl, hQ11⟩
        obtain ⟨hP11, hB11⟩ := hP10.quiet hQ11
        have hS11 := (hS9.trans hB10).trans hB11
        clear CL2 hQ11 hP10 hB10 hB11 hS9
        generalize hLf : 8 * b.length - r3 = lf at *
        have hlb : (((lf : Nat) : Int) == ((lf : Nat) : Int)) = true := by simp
        by_cases h0 : r2 = 0
        · subst h0
          clear hLf h2b
          go_wp2
          go_roundw
          case rel => exact ⟨i + 1, r3, by omega, by go_num, hP11, hS11⟩
          case measure => simp [intOf]; omega
        · have h0b : ((r2 : Int) == 0) = false := by rw [beq_eq_false_iff_ne]; exact h0
          clear hLf
          go_wp2
          go_ret
          exact ⟨rfl, Below.trans hF4 (Below.mono hS11 hbs1)⟩
      · obtain rfl : m = i := by omega
        clear hPr
        go_wp2
        go_ret
        exact ⟨rfl, hEw⟩
end Go.Proofs.Ytjpmabdnaooglaa

namespace Go.Proofs.Ytjpmabdnaooglaa
open Go.RowKit Go.WideMaps

theorem huffCoders_walk (A : Option Addr) (n c : Nat) (l : List UInt8) (s : Int) (w : World) (hn : n ≤ c) (_hc : c ≤ maxLen) (hb : Bytes w w.heap.size A n l) (hs : (Lit.int .i64 s).wf = true) :
    Calls Try.prog 3 #[.slice A n c, .int .i64 s] w fun e w' => e = .returned (.bool true) ∧ Below w.heap.size w w' := by
  obtain ⟨s0, s1⟩ := bounds_i64 hs
  exact huffCoders_walk0 s A n c l w hn hb s0 s1
theorem huffNone_walk (A : Option Addr) (n c : Nat) (l : List UInt8) (s : Int) (w : World) (hn : n ≤ c) (_hc : c ≤ maxLen) (hb : Bytes w w.heap.size A n l) (hs : (Lit.int .i64 s).wf = true) :
    Calls Try.prog 9 #[.slice A n c, .int .i64 s] w fun e w' => e = .returned (.bool true) ∧ Below w.heap.size w w' := by
  obtain ⟨s0, s1⟩ := bounds_i64 hs
  exact huffNone_walk0 s A n c l w hn hb s0 s1
theorem huffPacks_walk (A : Option Addr) (n c : Nat) (l : List UInt8) (A2 : Option Addr) (n2 c2 : Nat) (L : List Int) (w : World) (hn : n ≤ c) (hc : c ≤ maxLen) (hb : Bytes w w.heap.size A n l) (hn2 : n2 ≤ c2) (_hc2 : c2 ≤ maxLen) (h2 : IntsAt w w.heap.size A2 n2 L) :
    Calls Try.prog 4 #[.slice A n c, .slice A2 n2 c2] w fun e w' => e = .returned (.bool true) ∧ Below w.heap.size w w' := huffPacks_walk0 A A2 n c n2 c2 l L w (packC_any w) hn hc hb hn2 h2
theorem huffBack_walk (A : Option Addr) (n c : Nat) (l : List UInt8) (A2 : Option Addr) (n2 c2 : Nat) (L : List Int) (w : World) (hn : n ≤ c) (hc : c ≤ maxLen) (hb : Bytes w w.heap.size A n l) (hn2 : n2 ≤ c2) (_hc2 : c2 ≤ maxLen) (h2 : IntsAt w w.heap.size A2 n2 L) :
    Calls Try.prog 7 #[.slice A n c, .slice A2 n2 c2] w fun e w' => e = .returned (.bool true) ∧ Below w.heap.size w w' := huffBack_walk0 A A2 n c n2 c2 l L w (packC_any w) (unpackC_any w) hn hc hb hn2 h2
theorem huffUnpacks_walk (A : Option Addr) (n c : Nat) (l : List UInt8) (x : Int) (A2 : Option Addr) (n2 c2 : Nat) (b : List UInt8) (w : World) (hn : n ≤ c) (hc : c ≤ maxLen) (hb : Bytes w w.heap.size A n l) (hx : (Lit.int .i64 x).wf = true) (hn2 : n2 ≤ c2) (hc2 : c2 ≤ maxLen) (h2 : Bytes w w.heap.size A2 n2 b) :
    Calls Try.prog 5 #[.slice A n c, .int .i64 x, .slice A2 n2 c2] w fun e w' => e = .returned (.bool true) ∧ Below w.heap.size w w' := by
  obtain ⟨x0, x1⟩ := bounds_i64 hx
  exact huffUnpacks_walk0 x A A2 n c n2 c2 l b w (packC_any w) (unpackC_any w) hn hc hb x0 x1 hn2 hc2 h2
theorem huffGets_walk (A : Option Addr) (n c : Nat) (l : List UInt8) (A2 : Option Addr) (n2 c2 : Nat) (b : List UInt8) (k m : Int) (w : World) (hn : n ≤ c) (hc : c ≤ maxLen) (hb : Bytes w w.heap.size A n l) (hn2 : n2 ≤ c2) (hc2 : c2 ≤ maxLen) (h2 : Bytes w w.heap.size A2 n2 b) (hk : (Lit.int .u8 k).wf = true) (hm : (Lit.int .u8 m).wf = true) :
    Calls Try.prog 6 #[.slice A n c, .slice A2 n2 c2, .int .u8 k, .int .u8 m] w fun e w' => e = .returned (.bool true) ∧ Below w.heap.size w w' := by
  obtain ⟨k0, k1⟩ := bounds_u8 hk
  obtain ⟨m0, m1⟩ := bounds_u8 hm
  obtain ⟨k, rfl⟩ := Int.eq_ofNat_of_zero_le k0
  obtain ⟨m, rfl⟩ := Int.eq_ofNat_of_zero_le m0
  exact huffGets_walk0 CodR CodR.keeps k m A A2 n c n2 c2 l b w (packC_any w) (newC_any w) (getC_any w) (by omega) (by omega) hn hc hb hn2 hc2 h2
end Go.Proofs.Ytjpmabdnaooglaa

namespace Go.Proofs.Ytjpmabdnaooglaa
open Go.ChangeShapes Go.WideShapes Go.ChangeAt Go.WideMaps Go.WideElems Go.RowKit

theorem addr_addI (b off i : Nat) : (⟨b, off, none⟩ : Addr).add i = ⟨b, off + i, none⟩ := by unfold Addr.add; split <;> simp_all
theorem open_ints64 {H : Type} {enc : TypeId × Value → H} {W : World} {a : Option Addr} {n c : Nat} {d : DataW H} {p : List MemPlace} (h : DataW.Trod enc Try.prog W 0 (fun _ => true) true 35 (.slice a n c) d p) :
    ∃ L : List Int, n ≤ c ∧ c ≤ maxLen ∧ IntsAt W W.heap.size a n L := by
  obtain ⟨fuel, hf⟩ := h
  rcases open_ints Try.underlying35 Try.underlying3 (by kernel_rfl) hf with ⟨hcs, _⟩ | ⟨x, n', c', zs, hcs, _, hl, hm, hz, _, hcell, _⟩
  · simp [Value.cells] at hcs
    obtain ⟨rfl, rfl, rfl⟩ := hcs
    exact ⟨[], by omega, by unfold maxLen; omega, rfl, .inl rfl⟩
  · simp [Value.cells] at hcs
    obtain ⟨rfl, rfl, rfl⟩ := hcs
    have hz' : zs.length = c := by simpa using hz
    refine ⟨zs.take n, hl, hm, by simp; omega, ?_⟩
    rcases Nat.eq_zero_or_pos n with h0 | h0
    · exact .inl h0
    obtain ⟨b, off, spot⟩ := x
    have hc0 := hcell 0 (by omega)
    have hspot : spot = none := by simpa [Addr.add] using World.cell?_spot hc0
    subst hspot
    refine .inr ⟨b, off, rfl, by simpa [Addr.add] using World.block_lt_of_cell? W _ hc0, fun i hi => ?_⟩
    have h1 := hcell i (by omega)
    have e : (zs.take n).getD i 0 = zs.getD i 0 := by simp [List.getD_eq_getElem?_getD, hi]
    rw [e]
    rw [addr_addI] at h1
    exact h1
end Go.Proofs.Ytjpmabdnaooglaa

namespace Go.Proofs.Ytjpmabdnaooglaa
open Go.ChangeShapes Go.WideShapes Go.ChangeAt Go.WideMaps Go.WideElems Go.RowKit

/-- A slice of uint32 that reads as these numbers. -/
def U32At (w : World) (B : Nat) (A : Option Addr) (n : Nat) (L : List Nat) : Prop :=
  L.length = n ∧ (∀ i, L.getD i 0 < 4294967296) ∧ (n = 0 ∨ ∃ b off, A = some ⟨b, off, none⟩ ∧ b < B ∧ ∀ i, i < n → w.cell? ⟨b, off + i, none⟩ = some (.int .u32 ((L.getD i 0 : Nat) : Int)))
theorem U32At.ext {w w' : World} {A : Option Addr} {n : Nat} {L : List Nat} (h : U32At w w.heap.size A n L) (hE : Ext w w') : U32At w' w'.heap.size A n L := by
  refine ⟨h.1, h.2.1, h.2.2.imp_right ?_⟩
  rintro ⟨b, off, e, hb, hc⟩
  exact ⟨b, off, e, Nat.lt_of_lt_of_le hb hE.le, fun i hi => (hE.cell (i := off + i) hb).trans (hc i hi)⟩
theorem addr_addU (b off i : Nat) : (⟨b, off, none⟩ : Addr).add i = ⟨b, off + i, none⟩ := by unfold Addr.add; split <;> simp_all
theorem wf_u32 {z : Int} (h : (Lit.int .u32 z).wf = true) : ((z.toNat : Nat) : Int) = z ∧ z.toNat < 4294967296 := by
  have := bounds_u32 h
  omega
theorem open_u32s {H : Type} {enc : TypeId × Value → H} {W : World} {a : Option Addr} {n c : Nat} {d : DataW H} {p : List MemPlace} (h : DataW.Trod enc Try.prog W 0 (fun _ => true) true 56 (.slice a n c) d p) :
    ∃ L : List Nat, n ≤ c ∧ c ≤ maxLen ∧ U32At W W.heap.size a n L := by
  obtain ⟨fuel, hf⟩ := h
  rcases open_ints Try.underlying56 Try.underlying57 (by kernel_rfl) hf with ⟨hcs, _⟩ | ⟨x, n', c', zs, hcs, _, hl, hm, hz, _, hcell, hwf⟩
  · simp [Value.cells] at hcs
    obtain ⟨rfl, rfl, rfl⟩ := hcs
    exact ⟨[], by omega, by unfold maxLen; omega, rfl, fun i => by simp, .inl rfl⟩
  · simp [Value.cells] at hcs
    obtain ⟨rfl, rfl, rfl⟩ := hcs
    have hz' : zs.length = c := by simpa using hz
    have hat : ∀ i, i < n → ((zs.take n).map Int.toNat).getD i 0 = (zs.getD i 0).toNat := fun i hi => by
      simp [List.getD_eq_getElem?_getD, hi, show i < zs.length by omega]
    refine ⟨(zs.take n).map Int.toNat, hl, hm, by simp; omega, fun i => ?_, ?_⟩
    · by_cases hi : i < n
      · rw [hat i hi, List.getD_eq_getElem?_getD, List.getElem?_eq_getElem (by omega)]
        exact (wf_u32 (hwf _ (List.getElem_mem (by omega : i < zs.length)))).2
      · rw [List.getD_eq_getElem?_getD, List.getElem?_eq_none (by simp; omega)]
        simp
    rcases Nat.eq_zero_or_pos n with h0 | h0
    · exact .inl h0
    obtain ⟨b, off, spot⟩ := x
    have hc0 := hcell 0 (by omega)
    have hspot : spot = none := by simpa [Addr.add] using World.cell?_spot hc0
    subst hspot
    refine .inr ⟨b, off, rfl, by simpa [Addr.add] using World.block_lt_of_cell? W _ hc0, fun i hi => ?_⟩
    have h1 := hcell i (by omega)
    rw [hat i hi]
    have h2 : (((zs.getD i 0).toNat : Nat) : Int) = zs.getD i 0 := by
      rw [List.getD_eq_getElem?_getD, List.getElem?_eq_getElem (by omega)]
      exact (wf_u32 (hwf _ (List.getElem_mem (by omega : i < zs.length)))).1
    rw [h2]
    rw [addr_addU] at h1
    exact h1
end Go.Proofs.Ytjpmabdnaooglaa

namespace Go.Proofs.Ytjpmabdnaooglaa
open Go.ChangeShapes Go.WideShapes Go.ChangeAt Go.WideMaps Go.WideElems Go.RowKit

def u32V (x : Nat) : Value := .int .u32 (x : Int)
/-- v is nil, or lies in a block of the call's own, and reads as these numbers of 32 bits. -/
def OwnU (w : World) (base : Nat) (v : Value) (L : List Nat) : Prop := w.ownsRow base 57 1 v L.length (L.map u32V)
theorem u32_info : (Try.prog.info? 57).map (fun i => (i.zero, i.size, i.bytes)) = some (some (.int .u32 0), 1, 4) := by kernel_rfl
section
variable {w w' : World} {base g c : Nat} {v : Value} {L : List Nat}
theorem OwnU.ext (h : OwnU w base v L) (hE : Ext w w') : OwnU w' base v L := World.ownsRow.kept h (hE.grown none) (by cases hv : v.ownBlock <;> simp)
theorem OwnU.lt (h : OwnU w base v L) : ∀ k, v.ownBlock = some k → base ≤ k ∧ k < w.heap.size := World.ownsRow.lt h
theorem OwnU.cell {n : Nat} (h : OwnU w base (.slice (some ⟨g, 0, none⟩) n c) L) {i : Nat} (hi : i < L.length) (hn : n = L.length) :
    w.cell? ⟨g, i, none⟩ = some (.int .u32 ((L.getD i 0 : Nat) : Int)) ∧ w.frozen? ⟨g, i, none⟩ = false := by
  subst hn
  refine ⟨?_, World.ownsRow.frozenAt h i⟩
  rw [World.ownsRow.cellAt h i (by omega)]
  simp [u32V, hi]
theorem OwnU.set {n : Nat} (h : OwnU w base (.slice (some ⟨g, 0, none⟩) n c) L) (i x : Nat) (hn : n = L.length) :
    OwnU (w.setCell ⟨g, i, none⟩ (.int .u32 (x : Int))) base (.slice (some ⟨g, 0, none⟩) n c) (L.set i x) := by
  subst hn
  have := (World.ownsRow.stored h i (.int .u32 (x : Int))).1
  unfold OwnU
  rw [List.length_set, List.map_set]
  exact this
theorem OwnU.at {n : Nat} (h : OwnU w base (.slice (some ⟨g, 0, none⟩) n c) L) (hn : n = L.length) (hb : ∀ i, L.getD i 0 < 4294967296) : U32At w w.heap.size (some ⟨g, 0, none⟩) n L := by
  refine ⟨hn.symm, hb, .inr ⟨g, 0, rfl, (h.lt g rfl).2, fun i hi => ?_⟩⟩
  rw [Nat.zero_add]
  exact (h.cell (by omega) hn).1
end
theorem wpList_makeU {ops : Array Oper} {rest : List Oper} {o : Oper} {a : Act} {Q : Exit → Act → World → Prop} {w : World} (hgd : o.guard = none) (x y : Operand) (ho : o.op = .makeSlice 56 x y) {n : Nat} (hx : a.eval x = .int .i64 (n : Int)) (hy : a.eval y = .int .i64 (n : Int)) (hn : n ≤ 1000)
    (h : ∀ w', OwnU w' w.heap.size (.slice (some ⟨w.heap.size, 0, none⟩) n n) (List.replicate n 0) → Ext w w' → wpList Try.prog ops Q rest (a.put o.dst (.slice (some ⟨w.heap.size, 0, none⟩) n n)) w') : wpList Try.prog ops Q (o :: rest) a w := by
  obtain ⟨i, hi, hz, hsz, hby⟩ := info_parts u32_info
  refine wpList_make_full w hgd x y 56 ho w.heap.size 57 i _ 1 Try.underlying56 hi hz hsz .i64 .i64 _ _ n hx hy rfl rfl (by rw [hby]; omega) (by unfold maxLen; omega) (Nat.le_refl _) ?_
  intro w' h1 h2
  refine h w' ?_ (Below.grown (Ext.refl w) h2 (Nat.le_refl _) fun k hk => by cases hk)
  unfold OwnU
  have e : (madeCells (Value.int .u32 0).cells (n * 1)).toList = (List.replicate n (0 : Nat)).map u32V := by
    have : madeCells (Value.int .u32 0).cells n = ((List.replicate n (0 : Nat)).map u32V).toArray := by
      apply Array.ext
      · simp [size_madeCells]
      · intro i h1 h2
        simp [madeCells, Value.cells, u32V, Nat.mod_one]
    rw [Nat.mul_one, this]
  rw [e] at h1
  simpa using h1
end Go.Proofs.Ytjpmabdnaooglaa

namespace Go.Proofs.Ytjpmabdnaooglaa
open Go.RowKit Len Can Huf

/-- Two writers, of bits B1 and B2, apart. -/
def Two (w : World) (bs g1 g2 : Nat) (ob1 ob2 : Option Nat) (B1 B2 : List Bool) : Prop :=
  Wrt w bs g1 ob1 B1 ∧ Wrt w bs g2 ob2 B2 ∧ g1 ≠ g2 ∧ ob1 ≠ some g2 ∧ ob2 ≠ some g1 ∧ (ob1 = none ∨ ob1 ≠ ob2)
section
variable {w w' : World} {bs g1 g2 : Nat} {ob1 ob2 ob' : Option Nat} {B1 B2 B' : List Bool}
theorem Two.swap (h : Two w bs g1 g2 ob1 ob2 B1 B2) : Two w bs g2 g1 ob2 ob1 B2 B1 := by
  obtain ⟨h1, h2, h3, h4, h5, h6⟩ := h
  exact ⟨h2, h1, Ne.symm h3, h5, h4, ob_symm h6⟩
theorem Two.first (h : Two w bs g1 g2 ob1 ob2 B1 B2) (hW : Wrt w' bs g1 ob' B') (hN : NewOb w ob1 ob') (hM : Mod w w' g1 ob1) : Two w' bs g1 g2 ob' ob2 B' B2 := by
  obtain ⟨h1, h2, h3, h4, h5, h6⟩ := h
  exact ⟨hW, h2.kept hM (Ne.symm h3) h4 h5 (ob_symm h6), h3, hN.ne h2.lt h4, h5, hN.apart (fun k hk => (h2.ob k hk).2) h6⟩
theorem Two.ext (h : Two w bs g1 g2 ob1 ob2 B1 B2) (hE : Ext w w') : Two w' bs g1 g2 ob1 ob2 B1 B2 := by
  obtain ⟨h1, h2, r⟩ := h
  exact ⟨h1.ext hE, h2.ext hE, r⟩
end
theorem Two.new (w : World) : Two ((w.alloc (.cells #[.slice none 0 0, .int .i64 0] 62)).alloc (.cells #[.slice none 0 0, .int .i64 0] 62)) w.heap.size w.heap.size (w.heap.size + 1) none none [] [] := by
  have hz1 : (w.alloc (.cells #[.slice none 0 0, .int .i64 0] 62)).heap.size = w.heap.size + 1 := by simp
  have h1 := (Wrt.new w).ext (extNew _ (.cells #[.slice none 0 0, .int .i64 0] 62))
  have h2 := Wrt.new (w.alloc (.cells #[.slice none 0 0, .int .i64 0] 62))
  rw [hz1] at h2
  obtain ⟨v2, l2, ⟨a1, a2, a3, a4⟩, a5, a6⟩ := h2
  exact ⟨h1, ⟨v2, l2, ⟨a1, a2.mono (by omega), a3, by omega⟩, a5, a6⟩, by omega, by simp, by simp, .inl rfl⟩
end Go.Proofs.Ytjpmabdnaooglaa

namespace Go.Proofs.Ytjpmabdnaooglaa
open Go.RowKit Len

theorem cost_le {often : List Nat} (ho : ∀ i, often.getD i 0 < 4294967296) (l : List UInt8) : ∀ n, costOf often l n ≤ n * 1099511627776
  | 0 => by simp [costOf, sumN]
  | n + 1 => by
    have := cost_le ho l n
    unfold costOf at *
    rw [sumN]
    have h : often.getD n 0 * (l.getD n 0).toNat ≤ 4294967296 * 256 := Nat.mul_le_mul (Nat.le_of_lt (ho n)) (Nat.le_of_lt (UInt8.toNat_lt _))
    omega

set_option maxHeartbeats 2000000 in
set_option maxRecDepth 100000 in
theorem refCost_any (A1 A2 : Option Addr) (n1 c1 n2 c2 : Nat) (often : List Nat) (l : List UInt8) (w : World) (h1 : U32At w w.heap.size A1 n1 often) (h2 : Bytes w w.heap.size A2 n2 l) :
    Calls Try.prog 31 #[.slice A1 n1 c1, .slice A2 n2 c2] w (TellsI .u64 w (costE often l)) := by
  have hl1 := h1.1
  subst hl1
  have hl2 := h2.1
  subst hl2
  by_cases hne : often.length = l.length
  · have hneI : ((often.length : Int) != (l.length : Int)) = false := by simp; omega
    by_cases h300 : (300 : Int) < (l.length : Int)
    · have HN := hide (show costE often l = (0, 13) from if_neg (by omega))
      clear h1 h2 hne
      go_enter Try.func31, Try.ntmps31
      go_wp2
      go_ret2
      rw [HN.out]
      exact ⟨rfl, Ext.refl _⟩
    · have HN := hide (show costE often l = (costOf often l l.length, 0) from if_pos ⟨hne, by omega⟩)
      have HK := hide (cost_le h1.2.1 l)
      have HB := hide h1.2.1
      have HNE := hide hne
      clear hne
      go_enter Try.func31, Try.ntmps31
      go_wp2
      go_loopw [6, 7] (fun a b wr => ∃ i s : Nat, i ≤ l.length ∧ b = .int .i64 (i : Int) ∧ a = .int .u64 (s : Int) ∧ s = costOf often l i ∧ Ext w wr) (fun _ b _ => l.length - (intOf b).toNat)
      case atStart => exact ⟨0, 0, by omega, rfl, rfl, rfl, Ext.refl _⟩
      case round =>
        obtain ⟨i, s, hi, rfl, rfl, hs, hE⟩ := hrel
        by_cases hlt : i < l.length
        · rcases (h1.ext hE).2.2 with h0 | ⟨b1, o1, rfl, hB1, hc1⟩
          · have := HNE.out; omega
          rcases (hE.bytes h2).2 with h0 | ⟨b2, o2, rfl, hB2, hc2⟩
          · omega
          have k1 := hc1 i (by have := HNE.out; omega)
          have k2 := hc2 i hlt
          have hSum : costOf often l (i + 1) = s + often.getD i 0 * (l.getD i 0).toNat := by rw [hs]; rfl
          have hkr := HK.out i
          rw [← hs] at hkr
          have hab : often.getD i 0 * (l.getD i 0).toNat ≤ 4294967296 * 256 := Nat.mul_le_mul (Nat.le_of_lt (HB.out i)) (Nat.le_of_lt (UInt8.toNat_lt _))
          have ha32 := HB.out i
          have hb8 := UInt8.toNat_lt (l.getD i 0)
          clear hc1 hc2 hs
          generalize often.getD i 0 = a at *
          obtain ⟨y, hy⟩ : ∃ y, y = (l.getD i 0).toNat := ⟨_, rfl⟩
          rw [← hy] at k2 hSum hab hb8
          have hmul : IntKind.u64.wrap ((a : Int) * (y : Int)) = ((a * y : Nat) : Int) := by
            rw [IntKind.wrap_u64, ← Int.natCast_mul]
            omega
          generalize a * y = ay at *
          have HSum := hide hSum
          have hil : (i : Int) < (l.length : Int) := by omega
          have hio : (i : Int) < (often.length : Int) := by have := HNE.out; omega
          have hadd : IntKind.u64.wrap ((s : Int) + (ay : Int)) = ((s + ay : Nat) : Int) := by
            rw [IntKind.wrap_u64]
            omega
          have hcv : IntKind.u64.wrap (a : Int) = (a : Int) := by rw [IntKind.wrap_u64]; omega
          have hcy : IntKind.u64.wrap (y : Int) = (y : Int) := by rw [IntKind.wrap_u64]; omega
          clear hSum hy
          go_wp2_with fail
          go_quiet (fail)
          go_wp2
          go_roundw
          case rel => exact ⟨i + 1, s + ay, by omega, by go_num, by go_num, HSum.out.symm, hE.drewN _⟩
          case measure => simp [intOf]; omega
        · obtain rfl : l.length = i := by omega
          rw [← hs] at HN
          clear h1 h2 hs
          go_wp2
          go_ret2
          rw [HN.out]
          exact ⟨rfl, hE⟩
  · have hneI : ((often.length : Int) != (l.length : Int)) = true := by simp; omega
    have HN := hide (show costE often l = (0, 13) from if_neg (fun h => hne h.1))
    clear h1 h2 hne
    go_enter Try.func31, Try.ntmps31
    go_wp2
    go_ret2
    rw [HN.out]
    exact ⟨rfl, Ext.refl _⟩
end Go.Proofs.Ytjpmabdnaooglaa

namespace Go.Proofs.Ytjpmabdnaooglaa.Len

/-- Merging by steps that are counted, for the example. -/
def mergeF : Nat → List Item → List Item → List Item
  | 0, _, _ => []
  | _ + 1, [], ps => ps
  | _ + 1, ls, [] => ls
  | f + 1, a :: ls, b :: ps => if a.1 ≤ b.1 then a :: mergeF f ls (b :: ps) else b :: mergeF f (a :: ls) ps
theorem mergeF_eq : ∀ (f : Nat) (ls ps : List Item), ls.length + ps.length ≤ f → mergeF f ls ps = mergeI ls ps
  | 0, [], [], _ => by rw [mergeF, nil_mergeI]
  | 0, _ :: _, _, h => by simp at h
  | 0, [], _ :: _, h => by simp at h
  | f + 1, [], ps, _ => by rw [mergeF, nil_mergeI]
  | f + 1, a :: ls, [], _ => by
    rw [mergeI_nil]
    rfl
  | f + 1, a :: ls, b :: ps, h => by
    rw [mergeF, mergeI_cons]
    simp only [List.length_cons] at h
    rw [mergeF_eq f ls (b :: ps) (by simp; omega), mergeF_eq f (a :: ls) ps (by simp; omega)]
def rowF (lv : List Item) (f : Nat) : Nat → List Item
  | 0 => lv
  | r + 1 => mergeF f lv (pairsOf (rowF lv f r))
theorem row_le (lv : List Item) : ∀ r, (row lv r).length ≤ 2 * lv.length
  | 0 => by rw [row]; omega
  | r + 1 => by
    have := row_le lv r
    rw [row_len]
    omega
theorem rowF_eq (lv : List Item) (f : Nat) (hf : 2 * lv.length ≤ f) : ∀ r, rowF lv f r = row lv r
  | 0 => rfl
  | r + 1 => by
    have := row_le lv r
    rw [rowF, row, rowF_eq lv f hf r, mergeF_eq f _ _ (by rw [pairsOf_len]; omega)]
theorem lens_example : lensE [5, 1, 1, 2] 15 = ([1, 3, 3, 2], 0) := by
  have hX : usedTo [5, 1, 1, 2] 4 = [(1, [1]), (1, [2]), (2, [3]), (5, [0])] := by decide
  have hr : row [(1, [1]), (1, [2]), (2, [3]), (5, [0])] 14 = rowF [(1, [1]), (1, [2]), (2, [3]), (5, [0])] 8 14 := (rowF_eq _ 8 (by decide) 14).symm
  have h : ∀ q, lenN [5, 1, 1, 2] 15 q = (syms ((rowF [(1, [1]), (1, [2]), (2, [3]), (5, [0])] 8 14).take 6)).count q := fun q => by
    unfold lenN
    rw [show [5, 1, 1, 2].length = 4 from rfl, hX]
    rw [if_neg (by decide)]
    rw [show (15 - 1 : Nat) = 14 from rfl, hr]
    rfl
  unfold lensE lensL
  rw [if_neg (by decide), show [5, 1, 1, 2].length = 4 from rfl, hX, if_neg (by decide)]
  refine Prod.ext ?_ rfl
  show (List.range 4).map (fun q => UInt8.ofNat (lenN [5, 1, 1, 2] (15 : Int).toNat q)) = _
  rw [show (15 : Int).toNat = 15 from rfl]
  simp only [h]
  decide +kernel
end Go.Proofs.Ytjpmabdnaooglaa.Len
namespace Go.Proofs.Ytjpmabdnaooglaa
open Go.RowKit Len

/-- Behind a call that tells bytes and an error. -/
def TellsB (w : World) (r : List UInt8 × Int) (e : Ending) (w' : World) : Prop := ∃ v, e = .returned (.tuple #[v, .int .i64 r.2]) ∧ OwnB w' w.heap.size v r.1 ∧ Ext w w'
/-- From world w on, the program's functions tell what the document's tell. -/
def LensC (w : World) : Prop := ∀ (often : List Nat) (limit : Int) (A : Option Addr) (n c : Nat) (W : World), Ext w W → n ≤ c → c ≤ maxLen → U32At W W.heap.size A n often → -9223372036854775808 ≤ limit → limit ≤ 9223372036854775807 →
  Calls Try.prog 29 #[.slice A n c, .int .i64 limit] W (TellsB W (lensE often limit))
theorem lensE_len (often : List Nat) (limit : Int) : (lensE often limit).1.length ≤ 300 := by
  unfold lensE
  split
  · simp
  · split
    · simp
    · rw [lensL_len]; omega

end Go.Proofs.Ytjpmabdnaooglaa

namespace Go.Proofs.Ytjpmabdnaooglaa
open Go.RowKit Len

theorem costOf_lens {often : List Nat} {L : Nat} (hL : 1 ≤ L) (hL15 : L ≤ 15) (hn : (usedTo often often.length).length ≤ 2 ^ L) : costOf often (lensL often L) (lensL often L).length = sumN often.length fun q => often.getD q 0 * lenN often L q := by
  unfold costOf
  rw [lensL_len]
  exact sumN_congr fun q hq => by rw [lensL_at hq hL hL15 hn]
/-- When lengths are told. -/
theorem lensE_ok {often : List Nat} {limit : Int} (h : (lensE often limit).2 = 0) : often.length ≤ 300 ∧ ∃ L : Nat, limit = L ∧ 1 ≤ L ∧ L ≤ 15 ∧ (usedTo often often.length).length ≤ 2 ^ L ∧ lensE often limit = (lensL often L, 0) := by
  unfold lensE at h ⊢
  by_cases h1 : 300 < often.length ∨ limit < 1 ∨ 15 < limit
  · rw [if_pos h1] at h
    cases h
  · rw [if_neg h1] at h ⊢
    obtain ⟨L, rfl⟩ := Int.eq_ofNat_of_zero_le (show 0 ≤ limit by omega)
    by_cases h2 : 2 ^ (L : Int).toNat < (usedTo often often.length).length
    · rw [if_pos h2] at h
      cases h
    · rw [if_neg h2]
      rw [Int.toNat_natCast] at h2 ⊢
      exact ⟨by omega, L, rfl, by omega, by omega, by omega, rfl⟩
theorem lensE_bad {often : List Nat} {limit : Int} (h : (lensE often limit).2 ≠ 0) : (lensE often limit).1 = [] := by
  unfold lensE at h ⊢
  split at h
  · rename_i h1
    rw [if_pos h1]
  · rename_i h1
    rw [if_neg h1]
    split at h
    · rename_i h2
      rw [if_pos h2]
    · exact absurd rfl h
theorem more_ok {often : List Nat} {L : Nat} (h300 : often.length ≤ 300) (hL : 1 ≤ L) (hL14 : L + 1 ≤ 15) (hn : (usedTo often often.length).length ≤ 2 ^ L) :
    lensE often ((L : Int) + 1) = (lensL often (L + 1), 0) ∧ costE often (lensL often L) = (costOf often (lensL often L) (lensL often L).length, 0) ∧ costE often (lensL often (L + 1)) = (costOf often (lensL often (L + 1)) (lensL often (L + 1)).length, 0) ∧
      costOf often (lensL often (L + 1)) (lensL often (L + 1)).length ≤ costOf often (lensL often L) (lensL often L).length := by
  have hn' : (usedTo often often.length).length ≤ 2 ^ (L + 1) := by rw [Nat.pow_succ]; omega
  refine ⟨?_, if_pos ⟨lensL_len.symm, by rw [lensL_len]; exact h300⟩, if_pos ⟨lensL_len.symm, by rw [lensL_len]; exact h300⟩, ?_⟩
  · unfold lensE
    rw [if_neg (by omega), show ((L : Int) + 1).toNat = L + 1 by omega, if_neg (by omega)]
  · rw [costOf_lens hL (by omega) hn, costOf_lens (by omega) hL14 hn']
    exact lenN_more hL hL14 hn

end Go.Proofs.Ytjpmabdnaooglaa

namespace Go.Proofs.Ytjpmabdnaooglaa
open Go.RowKit Len

/-- How many are used. -/
def usedN (often : List Nat) (i : Nat) : Nat := sumN i fun q => if often.getD q 0 = 0 then 0 else 1
theorem usedN_le (often : List Nat) : ∀ i, usedN often i ≤ i := fun i => by
  have := used_le (often := often) i
  rw [used_len] at this
  exact this
theorem kraft_lens {often : List Nat} {L : Nat} (h300 : often.length ≤ 300) (hL : 1 ≤ L) (hL15 : L ≤ 15) (hu : (usedTo often often.length).length ≤ 2 ^ L) :
    kraftE (lensL often L) = ((if 2 ≤ usedN often often.length then 32768 else if usedN often often.length = 1 then 16384 else 0), 0) := by
  have hf := lenN_full hL hL15 hu
  rw [used_len] at hf
  have hk : kraftOf (lensL often L) (lensL often L).length = sumN often.length fun q => if often.getD q 0 = 0 then 0 else 2 ^ (15 - lenN often L q) := by
    unfold kraftOf
    rw [lensL_len]
    refine sumN_congr fun q hq => ?_
    rw [lensL_at hq hL hL15 hu]
    by_cases h0 : often.getD q 0 = 0
    · rw [if_pos h0, if_pos (lenN_free h0 hL hu)]
    · have := (lenN_used hq h0 hL hu).1
      rw [if_neg h0, if_neg (by omega)]
  unfold kraftE
  rw [if_pos ⟨by rw [lensL_len]; exact h300, fun q hq => by
    rw [lensL_len] at hq
    rw [lensL_at hq hL hL15 hu]
    have := lenN_small hq hL hL15 hu
    omega⟩, hk, hf]
  rfl

end Go.Proofs.Ytjpmabdnaooglaa

namespace Go.Proofs.Ytjpmabdnaooglaa
open Go.RowKit Len

theorem least_cost {often : List Nat} {other : List UInt8} {L : Nat} (h300 : often.length ≤ 300) (hL : 1 ≤ L) (hL15 : L ≤ 15) (hu : (usedTo often often.length).length ≤ 2 ^ L) (hlen : other.length = often.length)
    (ho : ∀ q, q < often.length → (other.getD q 0).toNat ≤ L ∧ (often.getD q 0 ≠ 0 → (other.getD q 0).toNat ≠ 0)) (hK : kraftOf other other.length ≤ 32768) :
    costE often (lensL often L) = (costOf often (lensL often L) often.length, 0) ∧ costE often other = (costOf often other often.length, 0) ∧ costOf often (lensL often L) often.length ≤ costOf often other often.length := by
  refine ⟨?_, ?_, ?_⟩
  · unfold costE
    rw [if_pos ⟨lensL_len.symm, by rw [lensL_len]; exact h300⟩, lensL_len]
  · unfold costE
    rw [if_pos ⟨hlen.symm, by omega⟩, hlen]
  · have h1 := lenN_best hL hL15 hu (fun q => (other.getD q 0).toNat) (fun q hq => (ho q hq).1) (fun q hq h0 => Nat.one_le_iff_ne_zero.2 ((ho q hq).2 h0)) (Nat.le_trans (by
      unfold kraftOf
      rw [hlen]
      refine sumN_le fun q hq => ?_
      by_cases h0 : often.getD q 0 = 0
      · rw [if_pos h0]
        exact Nat.zero_le _
      · rw [if_neg h0, if_neg ((ho q hq).2 h0)]
        exact Nat.le_refl _) hK)
    unfold costOf
    rw [sumN_congr (g := fun q => often.getD q 0 * lenN often L q) (fun q hq => by rw [lensL_at hq hL hL15 hu])]
    exact h1

end Go.Proofs.Ytjpmabdnaooglaa

namespace Go.Proofs.Ytjpmabdnaooglaa.Huf
open Len Can

theorem lens_lenAt {often : List Nat} (h300 : often.length ≤ 300) {q : Nat} (hq : q < often.length) : lenAt (lensL often 15) q = lenN often 15 q :=
  lensL_at hq (by omega) (by omega) (Nat.le_trans (used_le _) (Nat.le_trans h300 (by decide)))
theorem right_lens {often : List Nat} (h300 : often.length ≤ 300) : right (lensL often 15) = true := by
  have hu : (usedTo often often.length).length ≤ 2 ^ 15 := Nat.le_trans (used_le _) (Nat.le_trans h300 (by decide))
  have hk := kraft_lens h300 (show 1 ≤ 15 by omega) (Nat.le_refl 15) hu
  have hU : usedC (lensL often 15) (lensL often 15).length = usedN often often.length := by
    unfold usedC usedN
    rw [lensL_len]
    refine sumN_congr fun q hq => ?_
    rw [lens_lenAt h300 hq]
    by_cases h0 : often.getD q 0 = 0
    · rw [if_pos h0, if_pos (lenN_free h0 (by omega) hu)]
    · have := (lenN_used hq h0 (L := 15) (by omega) hu).1
      rw [if_neg h0, if_neg (by omega)]
  refine decide_eq_true ⟨by rw [hk], ?_⟩
  rw [hU, hk]
  by_cases h2 : 2 ≤ usedN often often.length
  · rw [if_pos h2]
    exact .inr (.inr rfl)
  · by_cases h1 : usedN often often.length = 1
    · refine .inr (.inl ⟨h1, ?_⟩)
      have h1' : (usedTo often often.length).length = 1 := by rw [used_len]; exact h1
      have hs := (used_at (often := often) (j := often.length) (i := 0) (by omega)).1
      unfold oneC
      rw [lensL_len, sumN_congr (g := fun q => if q = sOf (usedTo often often.length) 0 then 1 else 0) (fun q hq => by
        rw [lens_lenAt h300 hq, lenN_one h1']
        by_cases e : q = sOf (usedTo often often.length) 0
        · rw [if_pos e]; rfl
        · rw [if_neg e]; rfl), sumN_pt, if_pos hs]
    · exact .inl (by omega)
/-- How often each byte is there. -/
def counts (syms : List UInt8) : List Nat := (List.range 256).map fun q => syms.count (UInt8.ofNat q)
theorem counts_len (syms : List UInt8) : (counts syms).length = 256 := by simp [counts]
theorem counts_at (syms : List UInt8) {q : Nat} (hq : q < 256) : (counts syms).getD q 0 = syms.count (UInt8.ofNat q) := by
  simp [counts, List.getD_eq_getElem?_getD, hq]
def symsI (syms : List UInt8) : List Int := syms.map fun s => (s.toNat : Int)
theorem bits_cost (l : List UInt8) : ∀ syms : List UInt8, (bitsOf l (symsI syms)).length = sumN 256 fun q => syms.count (UInt8.ofNat q) * lenAt l q
  | [] => by
    rw [sumN_zero _ fun q _ => by simp]
    rfl
  | s :: r => by
    have e : (sumN 256 fun q => (s :: r).count (UInt8.ofNat q) * lenAt l q) = sumN 256 (fun q => r.count (UInt8.ofNat q) * lenAt l q) + sumN 256 fun q => if q = s.toNat then lenAt l s.toNat else 0 := by
      rw [← sumN_add]
      refine sumN_congr fun q hq => ?_
      rw [List.count_cons, Nat.add_mul]
      by_cases h : q = s.toNat
      · subst h
        simp
      · have hb : (s == UInt8.ofNat q) = false := beq_eq_false_iff_ne.2 fun h2 => h (by rw [h2, UInt8.toNat_ofNat']; omega)
        rw [hb, if_neg h]
        simp
    rw [e, sumN_pt, if_pos (UInt8.toNat_lt s), ← bits_cost l r]
    show (putB l (s.toNat : Int) ++ bitsOf l (symsI r)).length = _
    rw [List.length_append]
    unfold putB
    rw [Bit.num_length, Int.toNat_natCast]
    omega
theorem cost_counts (l : List UInt8) (syms : List UInt8) : costOf (counts syms) l 256 = (bitsOf l (symsI syms)).length := by
  rw [bits_cost]
  unfold costOf
  exact sumN_congr fun q hq => by rw [counts_at syms hq]; rfl
theorem sumN_tail {f : Nat → Nat} {m : Nat} : ∀ n, m ≤ n → (∀ i, m ≤ i → i < n → f i = 0) → sumN n f = sumN m f
  | 0, h, _ => by rw [show m = 0 by omega]
  | n + 1, h, hz => by
    by_cases e : m = n + 1
    · rw [e]
    · rw [sumN, sumN_tail n (by omega) (fun i h1 h2 => hz i h1 (by omega)), hz n (by omega) (by omega)]
      rfl
theorem best_bits {syms other : List UInt8} (hr : right other = true) (h256 : other.length ≤ 256) (hf : ∀ s, s ∈ syms → lenAt other s.toNat ≠ 0) :
    (bitsOf (lensL (counts syms) 15) (symsI syms)).length ≤ (bitsOf other (symsI syms)).length := by
  obtain ⟨_, h15, hK⟩ := right_facts hr
  have hpad : ∀ q, (other ++ List.replicate (256 - other.length) (0 : UInt8)).getD q 0 = other.getD q 0 := fun q => by
    rcases Nat.lt_or_ge q other.length with h | h
    · rw [List.getD_eq_getElem?_getD, List.getElem?_append_left h, ← List.getD_eq_getElem?_getD]
    · simp only [List.getD_eq_getElem?_getD]
      rw [List.getElem?_append_right h, List.getElem?_eq_none h, List.getElem?_replicate]
      split <;> rfl
  have hu : (usedTo (counts syms) (counts syms).length).length ≤ 2 ^ 15 := Nat.le_trans (used_le _) (by rw [counts_len]; decide)
  have hlp : (other ++ List.replicate (256 - other.length) (0 : UInt8)).length = 256 := by simp; omega
  have hkp : kraftOf (other ++ List.replicate (256 - other.length) (0 : UInt8)) 256 = kraftOf other other.length := by
    unfold kraftOf
    rw [sumN_tail (m := other.length) 256 h256 (fun i h1 _ => by
      rw [hpad, List.getD_eq_getElem?_getD, List.getElem?_eq_none h1]
      rfl)]
    exact sumN_congr fun i _ => by rw [hpad]
  have h := least_cost (often := counts syms) (other := other ++ List.replicate (256 - other.length) (0 : UInt8)) (L := 15) (by rw [counts_len]; omega) (by omega) (Nat.le_refl _) hu (by rw [hlp, counts_len]) (fun q hq => by
    rw [counts_len] at hq
    rw [hpad]
    refine ⟨?_, fun h0 => ?_⟩
    · rcases Nat.lt_or_ge q other.length with h | h
      · exact h15 q h
      · rw [List.getD_eq_getElem?_getD, List.getElem?_eq_none h]
        exact Nat.zero_le _
    · rw [counts_at syms hq] at h0
      have hm := List.count_pos_iff.1 (Nat.pos_of_ne_zero h0)
      have := hf _ hm
      rwa [UInt8.toNat_ofNat', Nat.mod_eq_of_lt (by omega)] at this) (by rw [hlp, hkp]; exact hK)
  have h2 := h.2.2
  rw [counts_len, cost_counts] at h2
  have h3 : costOf (counts syms) (other ++ List.replicate (256 - other.length) (0 : UInt8)) 256 = costOf (counts syms) other 256 := by
    unfold costOf
    exact sumN_congr fun q _ => by rw [hpad]
  rw [h3, cost_counts] at h2
  exact h2
end Go.Proofs.Ytjpmabdnaooglaa.Huf

namespace Go.Proofs.Ytjpmabdnaooglaa
open Go.RowKit Len Can Huf

theorem Huf.nat_ext {a b : List Nat} (hl : a.length = b.length) (h : ∀ i, i < a.length → a.getD i 0 = b.getD i 0) : a = b := by
  refine List.ext_getElem hl fun i h1 h2 => ?_
  have := h i h1
  rwa [List.getD_eq_getElem?_getD, List.getD_eq_getElem?_getD, List.getElem?_eq_getElem h1, List.getElem?_eq_getElem h2] at this
theorem Huf.counts_none : counts [] = List.replicate 256 0 := by
  refine nat_ext (by rw [counts_len, List.length_replicate]) fun i h1 => ?_
  rw [counts_len] at h1
  rw [counts_at _ h1, List.getD_eq_getElem?_getD, List.getElem?_replicate, if_pos h1]
  rfl
theorem Huf.counts_next {L : List UInt8} {i : Nat} (hi : i < L.length) : (counts (L.take i)).set (L.getD i 0).toNat ((counts (L.take i)).getD (L.getD i 0).toNat 0 + 1) = counts (L.take (i + 1)) := by
  have hs' : (L.getD i 0).toNat < 256 := UInt8.toNat_lt (L.getD i 0)
  have ht : L.take (i + 1) = L.take i ++ [L.getD i 0] := by
    rw [List.take_add_one, List.getD_eq_getElem?_getD, List.getElem?_eq_getElem hi]
    rfl
  generalize L.getD i 0 = s at *
  refine nat_ext (by rw [List.length_set, counts_len, counts_len]) fun q h1 => ?_
  rw [List.length_set, counts_len] at h1
  rw [counts_at _ h1, ht, List.count_append, List.getD_eq_getElem?_getD]
  by_cases h : s.toNat = q
  · subst h
    rw [List.getElem?_set_self (by rw [counts_len]; exact h1), counts_at _ h1, UInt8.ofNat_toNat]
    simp
  · rw [List.getElem?_set_ne h, ← List.getD_eq_getElem?_getD, counts_at _ h1]
    have hb : (s == UInt8.ofNat q) = false := beq_eq_false_iff_ne.2 fun h4 => h (by rw [h4, UInt8.toNat_ofNat']; omega)
    rw [List.count_singleton, hb]
    simp
theorem Huf.counts_le (L : List UInt8) (q : Nat) : (counts L).getD q 0 ≤ L.length := by
  rcases Nat.lt_or_ge q 256 with h | h
  · rw [counts_at L h]
    exact List.count_le_length
  · rw [List.getD_eq_getElem?_getD, List.getElem?_eq_none (by rw [counts_len]; exact h)]
    exact Nat.zero_le _
/-- The lengths that are found. -/
def Huf.bestL (L : List UInt8) : List UInt8 := lensL (counts L) 15
theorem Huf.best_lens (L : List UInt8) : lensE (counts L) 15 = (bestL L, 0) := by
  have hu := used_le (often := counts L) (counts L).length
  rw [counts_len] at hu
  unfold lensE
  rw [if_neg (by rw [counts_len]; omega), if_neg (by rw [counts_len, show (15 : Int).toNat = 15 from rfl]; omega)]
  rfl
theorem Huf.best_right (L : List UInt8) : right (bestL L) = true := right_lens (by rw [counts_len]; omega)
theorem Huf.best_len (L : List UInt8) : (bestL L).length = 256 := by unfold bestL; rw [lensL_len, counts_len]
theorem Huf.best_fine {L : List UInt8} {i : Nat} (hi : i < L.length) : fine (bestL L) ((L.getD i 0).toNat : Int) = true := by
  have hs' : (L.getD i 0).toNat < 256 := UInt8.toNat_lt _
  have hm : L.getD i 0 ∈ L := by
    rw [List.getD_eq_getElem?_getD, List.getElem?_eq_getElem hi]
    exact List.getElem_mem hi
  have hu := used_le (often := counts L) (counts L).length
  rw [counts_len] at hu
  have h0 : (counts L).getD (L.getD i 0).toNat 0 ≠ 0 := by
    rw [counts_at L hs', UInt8.ofNat_toNat]
    have := List.count_pos_iff.2 hm
    omega
  have h1 := (lenN_used (often := counts L) (L := 15) (q := (L.getD i 0).toNat) (by rw [counts_len]; exact hs') h0 (by omega) (by rw [counts_len]; omega)).1
  refine decide_eq_true ⟨by omega, by rw [best_len]; omega, ?_⟩
  rw [Int.toNat_natCast]
  unfold bestL
  rw [lens_lenAt (by rw [counts_len]; omega) (by rw [counts_len]; exact hs')]
  omega
theorem Huf.symsI_next {L : List UInt8} {i : Nat} (hi : i < L.length) : symsI (L.take (i + 1)) = symsI (L.take i) ++ [((L.getD i 0).toNat : Int)] := by
  unfold symsI
  rw [List.take_add_one, List.getD_eq_getElem?_getD, List.getElem?_eq_getElem hi, List.map_append]
  rfl
theorem Huf.bits_next (l : List UInt8) {L : List UInt8} {i : Nat} (hi : i < L.length) (h : fine l ((L.getD i 0).toNat : Int) = true) : bitsOf l (symsI (L.take i)) ++ putX l ((L.getD i 0).toNat : Int) = bitsOf l (symsI (L.take (i + 1))) := by
  rw [symsI_next hi, bitsOf_snoc]
  unfold putX
  rw [if_pos h]

theorem u32_below {w w' : World} {B C : Nat} {A : Option Addr} {n : Nat} {L : List Nat} (h : U32At w B A n L) (hb : Below C w w') (hC : B ≤ C) (hB : B ≤ w'.heap.size) : U32At w' w'.heap.size A n L := by
  refine ⟨h.1, h.2.1, h.2.2.imp_right ?_⟩
  rintro ⟨b, off, e, hb1, hc⟩
  exact ⟨b, off, e, by omega, fun i hi => by rw [hb.cell (p := ⟨b, off + i, none⟩) (Nat.lt_of_lt_of_le hb1 hC)]; exact hc i hi⟩

set_option maxHeartbeats 4000000 in
set_option maxRecDepth 100000 in
theorem huffBest_walk0 (CP : CodP) (hK : CodKeep CP) (A1 A2 : Option Addr) (n1 c1 n2 c2 : Nat) (L other : List UInt8) (w : World) (hP : PackC w) (hNw : NewC CP w) (hPt : PutC CP w) (hLn : LensC w) (hn1 : n1 ≤ c1) (_hc1 : c1 ≤ maxLen) (h1 : Bytes w w.heap.size A1 n1 L) (hn2 : n2 ≤ c2) (hc2 : c2 ≤ maxLen) (h2 : Bytes w w.heap.size A2 n2 other) :
    Calls Try.prog 8 #[.slice A1 n1 c1, .slice A2 n2 c2] w fun e w' => e = .returned (.bool true) ∧ Ext w w' := by
  have C0 := alive9_any hP (Ext.refl w)
  have hl1 := h1.1
  subst hl1
  have hl2 := h2.1
  subst hl2
  by_cases hb1 : 400 < L.length
  · have hbI : (400 : Int) < (L.length : Int) := by omega
    go_enter Try.func8, Try.ntmps8
    go_wp2_with fail
    refine C0.mono ?_
    rintro e w1 ⟨rfl, hE1⟩
    go_wp2
    go_ret
    exact ⟨rfl, hE1⟩
  have hb1I : ¬ (400 : Int) < (L.length : Int) := by omega
  have H1 := hide h1
  have H2 := hide h2
  have HNw := hide hNw
  have HPt := hide hPt
  have HLn := hide hLn
  clear h1 h2 hNw hPt hLn
  go_enter Try.func8, Try.ntmps8
  go_wp2_with fail
  refine C0.mono ?_
  rintro e w1 ⟨rfl, hE1⟩
  have C1 := refCheck_any A2 other.length c2 other w1 (hE1.bytes H2.out)
  clear C0
  cases hr : right other with
  | false =>
    rw [check_wrong hr] at C1
    go_wp2_with fail
    refine C1.mono ?_
    rintro e w2 ⟨rfl, hE2⟩
    go_wp2
    go_ret
    exact ⟨rfl, hE1.trans hE2⟩
  | true =>
    have HR := hide hr
    rw [check_right hr] at C1
    clear hr
    by_cases h256 : 256 < other.length
    · have hbI : (256 : Int) < (other.length : Int) := by omega
      go_wp2_with fail
      refine C1.mono ?_
      rintro e w2 ⟨rfl, hE2⟩
      go_wp2
      go_ret
      exact ⟨rfl, hE1.trans hE2⟩
    have hbI : ¬ (256 : Int) < (other.length : Int) := by omega
    go_wp2_with fail
    refine C1.mono ?_
    rintro e w2 ⟨rfl, hE2⟩
    have hF2 := hE1.trans hE2
    clear C1 hE1 hE2
    have HNone := hide counts_none
    go_wp2_with (refine wpList_makeU (n := 256) rfl (.const (.int .i64 256)) (.const (.int .i64 256)) rfl rfl rfl (by omega) ?_; intro w3 hO3 hE3; rw [← HNone.out] at hO3)
    have hF3 := hF2.trans hE3
    have hg3 := (hO3.lt w2.heap.size rfl).2
    have hwg := hF2.le
    generalize w2.heap.size = go at *
    clear hE3 hF2
    go_loopw [6] (fun x wr => ∃ i : Nat, i ≤ L.length ∧ x = .int .i64 (i : Int) ∧ OwnU wr go (.slice (some ⟨go, 0, none⟩) 256 256) (counts (L.take i)) ∧ Ext w wr) (fun x _ => L.length - (intOf x).toNat)
    case atStart => exact ⟨0, by omega, rfl, hO3, hF3⟩
    case round =>
      clear hO3 hF3 hg3
      obtain ⟨i, hi, rfl, hO, hE⟩ := hrel
      by_cases hlt : i < L.length
      · have hiI : (i : Int) < (L.length : Int) := by omega
        rcases (hE.bytes H1.out).2 with h0 | ⟨b, o, rfl, hB, hc⟩
        · omega
        have e1 := hc i hlt
        have hs8 : (L.getD i 0).toNat < 256 := UInt8.toNat_lt _
        obtain ⟨k1, k2⟩ := hO.cell (i := (L.getD i 0).toNat) (by rw [counts_len]; exact hs8) (by rw [counts_len])
        have hcl := counts_le (L.take i) (L.getD i 0).toNat
        rw [List.length_take] at hcl
        have HS := hide (fun x => hO.set (L.getD i 0).toNat x (by rw [counts_len]))
        have HNx := hide (counts_next hlt)
        clear hc hO
        generalize (counts (L.take i)).getD (L.getD i 0).toNat 0 = cv at *
        generalize (L.getD i 0).toNat = sv at *
        have hsI : (sv : Int) < 256 := by omega
        go_wp2
        go_roundw
        case rel =>
          have := HS.out (cv + 1)
          rw [HNx.out] at this
          exact ⟨i + 1, by omega, by go_num, this, hE.setCell hwg _⟩
        case measure => simp [intOf]; omega
      · obtain rfl : L.length = i := by omega
        rw [List.take_length] at hO
        have hU := hO.at (by rw [counts_len]) (fun q => by have := counts_le L q; omega)
        have C1 := HLn.out (counts L) 15 (some ⟨go, 0, none⟩) 256 256 wr hE (Nat.le_refl _) (by unfold maxLen; omega) hU (by omega) (by omega)
        rw [best_lens] at C1
        have HU := hide hU
        clear hO hU
        go_wp2_with fail
        refine C1.mono ?_
        rintro e w4 ⟨v, rfl, hO4, hE4⟩
        have hE5 := hE.trans hE4
        have HU4 := hide (HU.out.ext hE4)
        obtain ⟨Ab, cb, rfl, hb1c, hb1m, hbb⟩ := hO4.form
        dsimp only at hbb hb1c hb1m ⊢
        rw [best_len] at hbb hb1c ⊢
        have HBs := hide hbb
        have hT := Two.new w4
        have hEw := (extNew w4 (.cells #[.slice none 0 0, .int .i64 0] 62)).alloc (.cells #[.slice none 0 0, .int .i64 0] 62)
        clear C1 HU hO4 hbb hE hE4
        go_wp2_with fail
        have hszA : ((w4.alloc (.cells #[.slice none 0 0, .int .i64 0] 62)).alloc (.cells #[.slice none 0 0, .int .i64 0] 62)).heap.size = w4.heap.size + 2 := by simp
        have hEA := hE5.trans hEw
        have hbsw := hE5.le
        have hSA : Below w4.heap.size w4 ((w4.alloc (.cells #[.slice none 0 0, .int .i64 0] 62)).alloc (.cells #[.slice none 0 0, .int .i64 0] 62)) := hEw
        have C5 := HNw.out (bestL L) Ab 256 cb _ hEA hb1c hb1m (hEw.bytes HBs.out)
        generalize (w4.alloc (.cells #[.slice none 0 0, .int .i64 0] 62)).alloc (.cells #[.slice none 0 0, .int .i64 0] 62) = wA at *
        refine C5.mono ?_
        rintro e w5 ⟨hyes, _, hE6⟩
        obtain ⟨gc, rfl, hC1⟩ := hyes (best_right L)
        have hEB := hEA.trans hE6
        have C6 := HNw.out other A2 other.length c2 w5 hEB hn2 hc2 (hEB.bytes H2.out)
        clear C5 hyes
        go_wp2_with fail
        refine C6.mono ?_
        rintro e w6 ⟨hyes, _, hE7⟩
        obtain ⟨gd, rfl, hC2⟩ := hyes HR.out
        have hC1' := hK.ext hC1 hE7
        have hT6 := hT.ext (hE6.trans hE7)
        have hS6 : Below w4.heap.size w4 w6 := hSA.trans (Below.mono (hE6.trans hE7) (by omega))
        have hle1 := hE6.le
        have hle2 := hE7.le
        rw [hszA] at hle1 hC1'
        clear C6 hyes hC1 hEA hEB hSA hEw hE6 hE7 hT
        generalize hbs : w4.heap.size = bs at *
        have HU5 := hide HU4.out
        generalize w5.heap.size = h5 at *
        generalize hh6 : w6.heap.size = h6 at *
        have HT6 := hide hT6
        have HC1 := hide hC1'
        have HC2 := hide hC2
        clear hT6 hC1' hC2
        go_wp2_with fail
        go_loopw [15] (fun x wr => ∃ (i : Nat) (ob1 ob2 : Option Nat), i ≤ L.length ∧ x = .int .i64 (i : Int) ∧ Two wr bs bs (bs + 1) ob1 ob2 (bitsOf (bestL L) (symsI (L.take i))) (bitsOf other (symsI (L.take i))) ∧ (∀ j, j < i → fine other ((L.getD j 0).toNat : Int) = true) ∧
          (∀ k, ob1 = some k → h6 ≤ k) ∧ (∀ k, ob2 = some k → h6 ≤ k) ∧ CP wr (bs + 2) h5 gc (bestL L) ∧ CP wr h5 h6 gd other ∧ Below bs w4 wr ∧ (bitsOf (bestL L) (symsI (L.take i))).length ≤ 15 * i ∧ (bitsOf other (symsI (L.take i))).length ≤ 15 * i ∧ h6 ≤ wr.heap.size) (fun x _ => L.length - (intOf x).toNat)
        case atStart => exact ⟨0, none, none, by omega, rfl, HT6.out, fun j hj => absurd hj (by omega), (fun k hk => by cases hk), (fun k hk => by cases hk), HC1.out, HC2.out, hS6, (by simp [symsI, bitsOf]), (by simp [symsI, bitsOf]), (by omega)⟩
        case round =>
          clear HT6 HC1 HC2 hS6
          obtain ⟨i, ob1, ob2, hi, rfl, hT, hall, ho1, ho2, hC1, hC2, hS, hl1, hl2, hh⟩ := hrel
          have hEr : Ext w wr := Below.trans hE5 (Below.mono hS hbsw)
          have HAll := hide hall
          clear hall
          by_cases hlt : i < L.length
          · have hiI : (i : Int) < (L.length : Int) := by omega
            rcases (hEr.bytes H1.out).2 with h0 | ⟨b, o, rfl, hB, hc⟩
            · omega
            have e1 := hc i hlt
            have hs8 : (L.getD i 0).toNat < 256 := UInt8.toNat_lt _
            have hbf := best_fine hlt
            have C1 := HPt.out (bestL L) _ _ gc bs bs ob1 _ ((L.getD i 0).toNat : Int) wr hEr hC1 (best_right L) hT.1 (.inl (by omega)) (fun k hk => .inr (by have := ho1 k hk; omega)) (by omega) (by omega) (by omega)
            rw [Huf.put_fine hbf, bits_next _ hlt hbf] at C1
            have hpb := putB_le (best_right L) hbf
            have hlB : (bitsOf (bestL L) (symsI (L.take (i + 1)))).length ≤ 15 * (i + 1) := by
              rw [symsI_next hlt, bitsOf_snoc, List.length_append]
              omega
            have HNx := hide (fun h => bits_next other hlt h)
            have HLen := hide (show fine other ((L.getD i 0).toNat : Int) = true → (bitsOf other (symsI (L.take (i + 1)))).length ≤ 15 * (i + 1) from fun h => by
              have := putB_le HR.out h
              rw [symsI_next hlt, bitsOf_snoc, List.length_append]
              omega)
            have HCell := hide (show ∀ W, Ext w W → W.cell? ⟨b, o + i, none⟩ = some (.int .u8 ((L.getD i 0).toNat : Int)) from fun W hW => by
              have h3 := H1.out.2
              rcases h3 with h0 | ⟨b', o', e', _, hc'⟩
              · omega
              simp only [Option.some.injEq, Addr.mk.injEq, and_true] at e'
              obtain ⟨rfl, rfl⟩ := e'
              rw [hW.cell (i := o + i) (by assumption)]
              exact hc' i hlt)
            have HS := hide (show ∀ j, j < i + 1 → fine other ((L.getD i 0).toNat : Int) = true → fine other ((L.getD j 0).toNat : Int) = true from fun j hj h => by
              by_cases e : j = i
              · rw [e]; exact h
              · exact HAll.out j (by omega))
            have HF := hide (show fine other ((L.getD i 0).toNat : Int) = decide (0 ≤ ((L.getD i 0).toNat : Int) ∧ ((L.getD i 0).toNat : Int) < other.length ∧ lenAt other ((L.getD i 0).toNat : Int).toNat ≠ 0) from rfl)
            clear hc hbf hpb hB
            obtain ⟨s, hs⟩ : ∃ s, s = (L.getD i 0).toNat := ⟨_, rfl⟩
            rw [← hs] at e1 hs8 C1 HNx HLen HCell HS HF
            have Hs := hide hs
            clear hs
            go_wp2_with fail
            refine C1.mono ?_
            rintro e w7 ⟨rfl, ob3, hW7, hN7, hM7⟩
            have hT7 := hT.first hW7 hN7 hM7
            have ho3 := hN7.le hh ho1
            have hC1b := hK.mod hC1 hM7 (.inl (by omega)) (fun k hk => .inr (by have := ho1 k hk; omega))
            have hC2b := hK.mod hC2 hM7 (.inl (by omega)) (fun k hk => .inr (ho1 k hk))
            have hS7 := hS.trans (hM7.below (B := bs) (by omega) (Nat.le_refl _) (fun k hk => by have := ho1 k hk; omega))
            have hE7 : Ext w w7 := Below.trans hE5 (Below.mono hS7 hbsw)
            have hh7 : h6 ≤ w7.heap.size := Nat.le_trans hh hM7.size
            have e2 := HCell.out w7 hE7
            have C2 := HPt.out other _ _ gd (bs + 1) bs ob2 _ (s : Int) w7 hE7 hC2b HR.out hT7.2.1 (.inl (by omega)) (fun k hk => .inr (ho2 k hk)) (by omega) (by omega) (by omega)
            clear C1 hW7 hN7 hM7 hT hS hEr hC1 hC2 e1
            cases hf : fine other (s : Int) with
            | true =>
              rw [Huf.put_fine hf, HNx.out hf] at C2
              have HF1 := hide hf
              clear hf HF
              go_wp2_with fail
              refine C2.mono ?_
              rintro e w8 ⟨rfl, ob4, hW8, hN8, hM8⟩
              have hT8 := (hT7.swap.first hW8 hN8 hM8).swap
              have ho4 := hN8.le hh7 ho2
              have hC1c := hK.mod hC1b hM8 (.inl (by omega)) (fun k hk => .inr (by have := ho2 k hk; omega))
              have hC2c := hK.mod hC2b hM8 (.inl (by omega)) (fun k hk => .inr (ho2 k hk))
              have hS8 := hS7.trans (hM8.below (B := bs) (by omega) (by omega) (fun k hk => by have := ho2 k hk; omega))
              have hh8 : h6 ≤ w8.heap.size := Nat.le_trans hh7 hM8.size
              have hl2' := HLen.out HF1.out
              clear C2 hW8 hN8 hM8 hT7 hS7 hE7 hC1b hC2b e2
              go_wp2
              go_roundw
              case rel => exact ⟨i + 1, ob3, ob4, by omega, by go_num, hT8, fun j hj => HS.out j hj HF1.out, ho3, ho4, hC1c, hC2c, hS8, hlB, hl2', hh8⟩
              case measure =>
                simp only [intOf]
                omega
            | false =>
              rw [Huf.put_bad hf] at C2
              have hnf := HF.out
              rw [hf] at hnf
              have hnf2 := of_decide_eq_false hnf.symm
              rw [Int.toNat_natCast] at hnf2
              have HNf := hide hnf2
              clear hf HF hnf hnf2
              generalize bitsOf other (symsI (L.take i)) ++ putX other (s : Int) = BX at C2
              go_wp2_with fail
              refine C2.mono ?_
              rintro e w8 ⟨rfl, ob4, hW8, hN8, hM8⟩
              have hS8 := hS7.trans (hM8.below (B := bs) (by omega) (by omega) (fun k hk => by have := ho2 k hk; omega))
              have hE8 : Ext w w8 := Below.trans hE5 (Below.mono hS8 hbsw)
              have e3 := HCell.out w8 hE8
              clear C2 hW8 hN8 hM8 hT7 hS7 hE7 hC1b hC2b e2
              by_cases hso : s < other.length
              · have h0 : lenAt other s = 0 := Classical.byContradiction fun h => HNf.out ⟨by omega, by omega, h⟩
                rcases (hE8.bytes H2.out).2 with hn | ⟨b2, o2, rfl, hB2, hc2'⟩
                · omega
                have e4 := hc2' s hso
                have e4' : w8.cell? ⟨b2, o2 + s, none⟩ = some (.int .u8 0) := by
                  rw [e4]
                  unfold lenAt at h0
                  rw [h0]
                  rfl
                have hsoI : ¬ ((other.length : Int) ≤ (s : Int)) := by omega
                clear hc2' e4 h0
                go_wp2
                go_ret
                exact ⟨rfl, hE8⟩
              · have hsoI : (other.length : Int) ≤ (s : Int) := by omega
                go_wp2
                go_ret
                exact ⟨rfl, hE8⟩
          · obtain rfl : L.length = i := by omega
            rw [List.take_length] at hT hl1 hl2
            have hEw4 := hEr
            have hbest := best_bits (syms := L) HR.out (by omega) (fun s hs => by
              obtain ⟨j, hj, rfl⟩ := List.mem_iff_getElem.1 hs
              have := of_decide_eq_true (HAll.out j hj)
              rw [Int.toNat_natCast] at this
              have h3 := this.2.2
              rwa [List.getD_eq_getElem?_getD, List.getElem?_eq_getElem hj] at h3)
            have hcost := cost_counts (bestL L) L
            have hU6 : U32At wr wr.heap.size (some ⟨go, 0, none⟩) 256 (counts L) := by
              have := HU4.out
              exact u32_below this hS (by omega) (by have := hS.size; omega)
            have hB6 := (HBs.out.below hS (by omega)).mono (show bs ≤ wr.heap.size by have := hS.size; omega)
            have CC := refCost_any (some ⟨go, 0, none⟩) Ab 256 256 256 cb (counts L) (bestL L) wr hU6 hB6
            have hce : costE (counts L) (bestL L) = ((bitsOf (bestL L) (symsI L)).length, 0) := by
              unfold costE
              rw [if_pos ⟨by rw [counts_len, best_len], by rw [best_len]; omega⟩, best_len, hcost]
            rw [hce] at CC
            unfold TellsI at CC
            dsimp only at CC
            change (bitsOf (bestL L) (symsI L)).length ≤ (bitsOf other (symsI L)).length at hbest
            have HT := hide hT
            clear hce hcost hU6 hB6 hT
            go_wp2_with fail
            refine CC.mono ?_
            rintro e w7 ⟨rfl, hE7⟩
            have CL := fun W (h : Wrt W bs bs ob1 (bitsOf (bestL L) (symsI L))) => wlen_any h
            have CM := fun W (h : Wrt W bs (bs + 1) ob2 (bitsOf other (symsI L))) => wlen_any h
            have hW1 := HT.out.1.ext hE7
            have hW2 := HT.out.2.1.ext hE7
            have HW1 := hide hW1
            have HW2 := hide hW2
            clear CC HT hW1 hW2
            generalize (bitsOf (bestL L) (symsI L)).length = k1 at *
            generalize (bitsOf other (symsI L)).length = k2 at *
            have hkb : ((k1 : Int) == (k1 : Int)) = true := by simp
            have hk1 : k1 ≤ 6000 := by omega
            have hk2 : k2 ≤ 6000 := by omega
            have hbI2 : (k1 : Int) ≤ (k2 : Int) := by omega
            have hEf := hEr.trans hE7
            clear hl1 hl2 hS hEr hE7 hC1 hC2 hbest hEw4
            go_wp2_with fail
            refine (CL _ HW1.out).mono ?_
            rintro e w8 ⟨rfl, rfl⟩
            go_wp2_with fail
            refine (CL _ HW1.out).mono ?_
            rintro e w8 ⟨rfl, rfl⟩
            go_wp2_with fail
            refine (CM _ HW2.out).mono ?_
            rintro e w8 ⟨rfl, rfl⟩
            go_wp2
            go_ret
            exact ⟨rfl, hEf⟩
end Go.Proofs.Ytjpmabdnaooglaa

namespace Go.Proofs.Ytjpmabdnaooglaa
open Go.RowKit

theorem wpList_makeB {ops : Array Oper} {rest : List Oper} {o : Oper} {a : Act} {Q : Exit → Act → World → Prop} {w : World} (hgd : o.guard = none) (x y : Operand) (ho : o.op = .makeSlice 22 x y) {n : Nat} (hx : a.eval x = .int .i64 (n : Int)) (hy : a.eval y = .int .i64 (n : Int)) (hn : n ≤ 1000)
    (h : ∀ w', OwnB w' w.heap.size (.slice (some ⟨w.heap.size, 0, none⟩) n n) (List.replicate n 0) → Ext w w' → wpList Try.prog ops Q rest (a.put o.dst (.slice (some ⟨w.heap.size, 0, none⟩) n n)) w') : wpList Try.prog ops Q (o :: rest) a w := by
  obtain ⟨i, hi, hz, hsz, hby⟩ := info_parts byte_info
  refine wpList_make_full w hgd x y 22 ho w.heap.size 5 i _ 1 Try.underlying22 hi hz hsz .i64 .i64 _ _ n hx hy rfl rfl (by rw [hby]; omega) (by unfold maxLen; omega) (Nat.le_refl _) ?_
  intro w' h1 h2
  refine h w' ?_ (Below.grown (Ext.refl w) h2 (Nat.le_refl _) fun k hk => by cases hk)
  unfold OwnB
  have e : (madeCells (Value.int .u8 0).cells (n * 1)).toList = (List.replicate n (0 : UInt8)).map byteV := by
    have : madeCells (Value.int .u8 0).cells n = ((List.replicate n (0 : UInt8)).map byteV).toArray := by
      apply Array.ext
      · simp [size_madeCells]
      · intro i h1 h2
        simp [madeCells, Value.cells, byteV, Nat.mod_one]
    rw [Nat.mul_one, this]
  rw [e] at h1
  simpa using h1
end Go.Proofs.Ytjpmabdnaooglaa

namespace Go.Proofs.Ytjpmabdnaooglaa.Len

/-- An item of the program's: its weight, its symbol; 300: put together. -/
abbrev PI := Nat × Nat
def pSym : List Nat → Nat
  | [s] => s
  | _ => 300
def pOf (x : Item) : PI := (x.1, pSym x.2)
def pairsP : List PI → List PI
  | a :: b :: r => (a.1 + b.1, 300) :: pairsP r
  | _ => []
def mergeP : List PI → List PI → List PI
  | [], ps => ps
  | ls, [] => ls
  | a :: ls, b :: ps => if a.1 ≤ b.1 then a :: mergeP ls (b :: ps) else b :: mergeP (a :: ls) ps
termination_by ls ps => ls.length + ps.length
theorem mergeP_nil (l : List PI) : mergeP l [] = l := by cases l <;> simp [mergeP]
theorem nil_mergeP (l : List PI) : mergeP [] l = l := by simp [mergeP]
theorem mergeP_cons (a b : PI) (ls ps : List PI) : mergeP (a :: ls) (b :: ps) = if a.1 ≤ b.1 then a :: mergeP ls (b :: ps) else b :: mergeP (a :: ls) ps := by rw [mergeP]
def rowP (lv : List PI) : Nat → List PI
  | 0 => lv
  | r + 1 => mergeP lv (pairsP (rowP lv r))
theorem mergeP_len : ∀ (ls ps : List PI), (mergeP ls ps).length = ls.length + ps.length
  | [], ps => by rw [nil_mergeP]; simp
  | a :: ls, [] => by rw [mergeP_nil]; simp
  | a :: ls, b :: ps => by
    rw [mergeP_cons]
    split
    · rw [List.length_cons, mergeP_len ls (b :: ps)]; simp; omega
    · rw [List.length_cons, mergeP_len (a :: ls) ps]; simp; omega
termination_by ls ps => ls.length + ps.length
theorem pairsP_len : ∀ l : List PI, (pairsP l).length = l.length / 2
  | [] => rfl
  | [_] => by simp [pairsP]
  | a :: b :: r => by rw [pairsP, List.length_cons, pairsP_len r]; simp; omega
theorem pairsP_get : ∀ (l : List PI) (k : Nat), 2 * k + 1 < l.length → (pairsP l).getD k (0, 0) = ((l.getD (2 * k) (0, 0)).1 + (l.getD (2 * k + 1) (0, 0)).1, 300)
  | [], k, h => by simp at h
  | [_], k, h => by simp at h
  | a :: b :: r, 0, _ => by simp [pairsP]
  | a :: b :: r, k + 1, h => by
    have := pairsP_get r k (by simp at h; omega)
    rw [pairsP]
    simp only [List.getD_cons_succ, show 2 * (k + 1) = 2 * k + 1 + 1 by omega]
    exact this
theorem pairsP_eq (l : List PI) : pairsP l = (List.range (l.length / 2)).map fun k => ((l.getD (2 * k) (0, 0)).1 + (l.getD (2 * k + 1) (0, 0)).1, 300) := by
  apply List.ext_getElem
  · rw [pairsP_len]; simp
  · intro i h1 h2
    rw [pairsP_len] at h1
    have := pairsP_get l i (by omega)
    rw [List.getD_eq_getElem?_getD, List.getElem?_eq_getElem (by rw [pairsP_len]; exact h1)] at this
    simp only [Option.getD_some] at this
    rw [this]
    simp

/-! Both sorts of rows. -/
/-- The lists of a row's items aren't empty. -/
def Full (l : List Item) : Prop := ∀ x ∈ l, 1 ≤ x.2.length
theorem merge_map (f : Item → PI) (hf : ∀ x, (f x).1 = x.1) : ∀ (ls ps : List Item), (mergeI ls ps).map f = mergeP (ls.map f) (ps.map f)
  | [], ps => by rw [nil_mergeI, List.map_nil, nil_mergeP]
  | a :: ls, [] => by rw [mergeI_nil, List.map_nil, mergeP_nil]
  | a :: ls, b :: ps => by
    rw [mergeI_cons, List.map_cons, List.map_cons, mergeP_cons, hf, hf]
    by_cases h : a.1 ≤ b.1
    · rw [if_pos h, if_pos h, List.map_cons, merge_map f hf ls (b :: ps), List.map_cons]
    · rw [if_neg h, if_neg h, List.map_cons, merge_map f hf (a :: ls) ps, List.map_cons]
termination_by ls ps => ls.length + ps.length
theorem pSym_two {a b : List Nat} (ha : 1 ≤ a.length) (hb : 1 ≤ b.length) : pSym (a ++ b) = 300 := by
  match a, b, ha, hb with
  | x :: a, y :: b, _, _ =>
    cases a <;> rfl
theorem pairs_map : ∀ {l : List Item}, Full l → (pairsOf l).map pOf = pairsP (l.map pOf)
  | [], _ => rfl
  | [_], _ => by simp [pairsOf, pairsP]
  | a :: b :: r, h => by
    rw [pairsOf, List.map_cons, List.map_cons, List.map_cons, pairsP, pairs_map (l := r) fun x hx => h x (by simp [hx])]
    congr 1
    unfold pOf
    simp only
    rw [pSym_two (h a (by simp)) (h b (by simp))]
theorem pairs_full : ∀ {l : List Item}, Full l → Full (pairsOf l)
  | [], _ => by simp [pairsOf, Full]
  | [_], _ => by simp [pairsOf, Full]
  | a :: b :: r, h => by
    intro x hx
    rw [pairsOf] at hx
    rcases List.mem_cons.1 hx with e | e
    · rw [e]
      have := h a (by simp)
      simp only [List.length_append]
      omega
    · exact pairs_full (l := r) (fun y hy => h y (by simp [hy])) x e
theorem pairs_two : ∀ {l : List Item}, Full l → ∀ x ∈ pairsOf l, pSym x.2 = 300
  | [], _, x, hx => by simp [pairsOf] at hx
  | [_], _, x, hx => by simp [pairsOf] at hx
  | a :: b :: r, h, x, hx => by
    rw [pairsOf] at hx
    rcases List.mem_cons.1 hx with e | e
    · rw [e]
      exact pSym_two (h a (by simp)) (h b (by simp))
    · exact pairs_two (l := r) (fun y hy => h y (by simp [hy])) x e
theorem row_full {lv : List Item} (h : Full lv) : ∀ r, Full (row lv r)
  | 0 => h
  | r + 1 => fun x hx => by
    rw [row] at hx
    rcases merge_mem hx with e | e
    · exact h x e
    · exact pairs_full (row_full h r) x e
theorem row_map {lv : List Item} (h : Full lv) : ∀ r, (row lv r).map pOf = rowP (lv.map pOf) r
  | 0 => rfl
  | r + 1 => by rw [row, rowP, merge_map pOf (fun _ => rfl), pairs_map (row_full h r), row_map h r]
theorem sum_map_append (F : Item → Nat) (a b : List Item) : ((a ++ b).map F).sum = (a.map F).sum + (b.map F).sum := by simp
/-- The first of a merged row, whatever is summed up of them. -/
theorem merge_takeF : ∀ (ls ps : List Item) (m : Nat), m ≤ ls.length + ps.length → ∃ a, a ≤ m ∧ a ≤ ls.length ∧ m - a ≤ ps.length ∧
    ∀ F : Item → Nat, (((mergeI ls ps).take m).map F).sum = ((ls.take a).map F).sum + ((ps.take (m - a)).map F).sum
  | ls, ps, 0, _ => ⟨0, by omega, by omega, by omega, fun F => by simp⟩
  | [], ps, m + 1, h => ⟨0, by omega, by omega, by simpa using h, fun F => by rw [nil_mergeI]; simp⟩
  | a :: ls, [], m + 1, h => ⟨m + 1, by omega, by simpa using h, by omega, fun F => by rw [mergeI_nil]; simp⟩
  | a :: ls, b :: ps, m + 1, h => by
    rw [mergeI_cons]
    by_cases hab : a.1 ≤ b.1
    · rw [if_pos hab]
      obtain ⟨k, h1, h2, h3, h4⟩ := merge_takeF ls (b :: ps) m (by simp at h ⊢; omega)
      refine ⟨k + 1, by omega, by simpa using h2, by rw [show m + 1 - (k + 1) = m - k by omega]; exact h3, fun F => ?_⟩
      rw [List.take_succ_cons, List.take_succ_cons, List.map_cons, List.map_cons, List.sum_cons, List.sum_cons, h4 F, show m + 1 - (k + 1) = m - k by omega]
      omega
    · rw [if_neg hab]
      obtain ⟨k, h1, h2, h3, h4⟩ := merge_takeF (a :: ls) ps m (by simp at h ⊢; omega)
      refine ⟨k, by omega, h2, by simp; omega, fun F => ?_⟩
      rw [show m + 1 - k = (m - k) + 1 by omega, List.take_succ_cons, List.take_succ_cons, List.map_cons, List.map_cons, List.sum_cons, List.sum_cons, h4 F]
      omega
termination_by ls ps => ls.length + ps.length
/-- How often a symbol stands in items. -/
theorem count_syms (q : Nat) : ∀ l : List Item, (syms l).count q = (l.map fun x => x.2.count q).sum
  | [] => rfl
  | a :: l => by rw [syms_cons, List.count_append, count_syms q l, List.map_cons, List.sum_cons]
theorem countP_map (p : PI → Bool) (f : Item → PI) : ∀ l : List Item, ((l.map f).countP p) = (l.map fun x => if p (f x) then 1 else 0).sum
  | [] => rfl
  | a :: l => by rw [List.map_cons, List.countP_cons, countP_map p f l, List.map_cons, List.sum_cons]; omega
/-- Those that are put together, of items. -/
def packs (l : List PI) : Nat := l.countP fun x => x.2 == 300
/-- What is counted of a symbol from row r back to the first one, m items being taken of row r. -/
def cntP (lv : List PI) (q : Nat) : Nat → Nat → Nat
  | 0, m => ((rowP lv 0).take m).countP fun x => x.2 == q
  | r + 1, m => (((rowP lv (r + 1)).take m).countP fun x => x.2 == q) + cntP lv q r (2 * packs ((rowP lv (r + 1)).take m))
/-- Leaves: one symbol each, below 300. -/
def Single (l : List Item) : Prop := ∀ x ∈ l, ∃ s, x.2 = [s] ∧ s < 300
theorem Single.full {l : List Item} (h : Single l) : Full l := fun x hx => by obtain ⟨s, e, _⟩ := h x hx; rw [e]; simp
theorem sum_congr_mem (F G : Item → Nat) : ∀ {l : List Item}, (∀ x ∈ l, F x = G x) → (l.map F).sum = (l.map G).sum
  | [], _ => rfl
  | a :: l, h => by rw [List.map_cons, List.map_cons, List.sum_cons, List.sum_cons, h a (by simp), sum_congr_mem F G fun x hx => h x (by simp [hx])]
theorem sum_zero_mem (F : Item → Nat) {l : List Item} (h : ∀ x ∈ l, F x = 0) : (l.map F).sum = 0 := by
  rw [sum_congr_mem F (fun _ => 0) h]
  induction l with
  | nil => rfl
  | cons a l ih => rw [List.map_cons, List.sum_cons, ih fun x hx => h x (by simp [hx])]
theorem sum_one_mem (F : Item → Nat) {l : List Item} (h : ∀ x ∈ l, F x = 1) : (l.map F).sum = l.length := by
  induction l with
  | nil => rfl
  | cons a l ih => rw [List.map_cons, List.sum_cons, ih fun x hx => h x (by simp [hx]), h a (by simp), List.length_cons]; omega
section
variable {lv : List Item}
theorem single_count (q s : Nat) : [s].count q = if s == q then 1 else 0 := by rw [List.count_singleton]
/-- Of a row but the first one: those that are put together, and what the others say. -/
theorem row_parts (h : Single lv) (r m : Nat) (hm : m ≤ (row lv (r + 1)).length) : ∃ k, k ≤ m ∧ 2 * k ≤ (row lv r).length ∧ packs ((rowP (lv.map pOf) (r + 1)).take m) = k ∧
    ∀ q, q < 300 → (syms ((row lv (r + 1)).take m)).count q = (((rowP (lv.map pOf) (r + 1)).take m).countP fun x => x.2 == q) + (syms ((row lv r).take (2 * k))).count q := by
  rw [row_len] at hm
  obtain ⟨a, h1, h2, h3, h4⟩ := merge_takeF lv (pairsOf (row lv r)) m (by rw [pairsOf_len]; exact hm)
  rw [pairsOf_len] at h3
  have hF := row_full h.full r
  refine ⟨m - a, by omega, by omega, ?_, fun q hq => ?_⟩
  · unfold packs
    rw [← row_map h.full, ← List.map_take, countP_map, row, h4, sum_zero_mem _ fun x hx => ?_, sum_one_mem _ fun x hx => ?_, List.length_take, pairsOf_len]
    · omega
    · have := pairs_two hF x (List.mem_of_mem_take hx)
      simp [pOf, this]
    · obtain ⟨s, e, hs⟩ := h x (List.mem_of_mem_take hx)
      simp only [pOf, e, pSym, beq_iff_eq]
      rw [if_neg (by omega)]
  · rw [count_syms, ← row_map h.full, ← List.map_take, countP_map, row, h4, h4]
    have e1 : (((pairsOf (row lv r)).take (m - a)).map fun x => x.2.count q).sum = (syms ((row lv r).take (2 * (m - a)))).count q := by
      rw [← count_syms]
      exact (pairs_take (row lv r) (m - a) (by omega)).2 q
    have e2 : (((pairsOf (row lv r)).take (m - a)).map fun x => if (pOf x).2 == q then 1 else 0).sum = 0 := sum_zero_mem _ fun x hx => by
      have := pairs_two hF x (List.mem_of_mem_take hx)
      simp only [pOf, this, beq_iff_eq]
      rw [if_neg (by omega)]
    have e3 : ((lv.take a).map fun x => x.2.count q).sum = ((lv.take a).map fun x => if (pOf x).2 == q then 1 else 0).sum := sum_congr_mem _ _ fun x hx => by
      obtain ⟨s, e, hs⟩ := h x (List.mem_of_mem_take hx)
      simp only [pOf, e, pSym]
      exact single_count q s
    rw [e1, e2, e3, Nat.add_zero]
/-- What is counted is what the lists of symbols say. -/
theorem cntP_eq (h : Single lv) (q : Nat) (hq : q < 300) : ∀ (r m : Nat), m ≤ (row lv r).length → cntP (lv.map pOf) q r m = (syms ((row lv r).take m)).count q
  | 0, m, _ => by
    rw [cntP, rowP, ← List.map_take, countP_map, count_syms, row]
    refine sum_congr_mem _ _ fun x hx => ?_
    obtain ⟨s, e, hs⟩ := h x (List.mem_of_mem_take hx)
    simp only [pOf, e, pSym]
    exact (single_count q s).symm
  | r + 1, m, hm => by
    obtain ⟨k, _, h2, h3, h4⟩ := row_parts h r m hm
    rw [cntP, h3, cntP_eq h q hq r (2 * k) h2, h4 q hq]
/-- How many are taken of the row ahead. -/
theorem packs_le (h : Single lv) (r m : Nat) (hm : m ≤ (row lv (r + 1)).length) : 2 * packs ((rowP (lv.map pOf) (r + 1)).take m) ≤ (row lv r).length := by
  obtain ⟨k, _, h2, h3, _⟩ := row_parts h r m hm
  rw [h3]
  exact h2
theorem packs_zero (h : Single lv) (m : Nat) : packs ((rowP (lv.map pOf) 0).take m) = 0 := by
  unfold packs
  rw [rowP, ← List.map_take, countP_map]
  refine sum_zero_mem _ fun x hx => ?_
  obtain ⟨s, e, hs⟩ := h x (List.mem_of_mem_take hx)
  simp only [pOf, e, pSym, beq_iff_eq]
  rw [if_neg (by omega)]
end
/-! The leaves in order. -/
/-- The leaves as they are met. -/
def metTo (often : List Nat) : Nat → List PI
  | 0 => []
  | j + 1 => if often.getD j 0 = 0 then metTo often j else metTo often j ++ [(often.getD j 0, j)]
theorem insI_perm (x : Item) : ∀ l : List Item, (insI x l).Perm (x :: l)
  | [] => .refl _
  | a :: l => by
    rw [insI]
    split
    · exact ((insI_perm x l).cons a).trans (.swap x a l)
    · exact .refl _
theorem met_perm (often : List Nat) : ∀ j, (metTo often j).Perm ((usedTo often j).map pOf)
  | 0 => .refl _
  | j + 1 => by
    rw [metTo, usedTo]
    split
    · exact met_perm often j
    · refine .trans ?_ ((insI_perm _ _).map pOf).symm
      rw [List.map_cons]
      exact (List.perm_append_singleton _ _).trans ((met_perm often j).cons _)
theorem met_len (often : List Nat) (j : Nat) : (metTo often j).length = (usedTo often j).length := by rw [(met_perm often j).length_eq, List.length_map]
theorem used_single {often : List Nat} {j : Nat} (hj : j ≤ 300) : Single (usedTo often j) := fun x hx => by
  obtain ⟨q, h1, _, e⟩ := used_each hx
  rw [e]
  exact ⟨q, rfl, by omega⟩
/-- Lesser weights ahead, of equal ones lesser symbols. -/
def LexP (a b : PI) : Prop := a.1 < b.1 ∨ a.1 = b.1 ∧ a.2 < b.2
theorem used_lexP (often : List Nat) (j : Nat) : ((usedTo often j).map pOf).Pairwise LexP := by
  rw [List.pairwise_map]
  refine (used_lex j).imp_of_mem fun {a b} ha hb hl => ?_
  obtain ⟨q, _, _, rfl⟩ := used_each ha
  obtain ⟨p, _, _, rfl⟩ := used_each hb
  exact hl
/-- Whatever has the same items in that order is the leaves. -/
theorem met_sorted {often : List Nat} {j : Nat} {l : List PI} (hp : l.Perm (metTo often j)) (hs : l.Pairwise fun a b => LexP a b ∨ a = b) : l = (usedTo often j).map pOf :=
  (hp.trans (met_perm often j)).eq_of_pairwise (le := fun a b => LexP a b ∨ a = b) (fun a b _ _ h1 h2 => by
    rcases h1 with h1 | h1
    · rcases h2 with h2 | h2
      · unfold LexP at h1 h2
        omega
      · exact h2.symm
    · exact h1) hs ((used_lexP often j).imp fun h => .inl h)
end Go.Proofs.Ytjpmabdnaooglaa.Len

