/- The program's bytes of a bucket. The program's dictionary of chapter 16: below, Len, At, seek. The program's Find, Range and All of chapter 16. The program's Find and All of chapter 16, and what a nil dictionary tells. -/
import Derived.Test.YtcphapdjimeoaaaGreatB01
import Derived.Test.YtcphapdjimeoaaaGreatB02
import Derived.Test.YtcphapdjimeoaaaGreatB03
import Derived.Test.YtcphapdjimeoaaaGreatB06
import Derived.Test.YtcphapdjimeoaaaGreatB21
import Derived.BigQuiet
namespace Go.Proofs.YtcphapdjimeoaaaGreat
open Go.RowKit Num Wrd Dic

theorem dText_any (s : List UInt8) (w : World) (hs : s.length ≤ 1000000) : Calls Tryz.prog 73 #[.string ⟨s.toArray⟩] w (MadeB w (textB s)) := by
  have := ownText_any ⟨s.toArray⟩ w (by rw [txt_size]; exact hs)
  rw [txt_size] at this
  simpa [textB] using this
theorem wrap_u64 {n : Nat} (h : n ≤ 1000000000) : IntKind.u64.wrap (n : Int) = (n : Int) := by rw [IntKind.wrap_u64]; omega
theorem Dic.drop_next {l : List (List UInt8)} {i : Nat} (h : i + 1 < l.length) (was : List UInt8) : tailB was (l.drop (i + 1)) = itemB was (l.getD (i + 1) []) ++ tailB (l.getD (i + 1) []) (l.drop (i + 2)) := by rw [drop_is h, tailB]
attribute [local go_sem ↓] run_txtAt run_txtLen run_txtCut run_txtTop run_cutTx
set_option maxHeartbeats 4000000 in
set_option maxRecDepth 10000 in
theorem dBucket_any (A : Option Addr) (m c : Nat) (L : List (List UInt8)) (w : World) (h : TextsAt w w.heap.size A (m + 1) L) (hm : m ≤ 64) (hc : m + 1 ≤ c) (hs : ∀ s, s ∈ L → s.length ≤ 25) :
    Calls Tryz.prog 49 #[.slice A ((m + 1 : Nat)) c] w (MadeB w (bucketB L)) := by
  have hl := h.1
  have hA := h
  have HIn := hide (bucket_len hs)
  rw [hl] at HIn
  have HLe := hide (show ∀ i, i < m + 1 → (L.getD i []).length ≤ 25 from fun i hi => hs _ (by
    rw [List.getD_eq_getElem?_getD, List.getElem?_eq_getElem (by omega)]
    exact List.getElem_mem _))
  have HS := hide (show bucketB L = textB (L.getD 0 []) ++ tailB (L.getD 0 []) (L.drop 1) by
    have : L = L.getD 0 [] :: L.drop 1 := by have := drop_is (l := L) (i := 0) (by omega); rwa [List.drop_zero] at this
    conv => lhs; rw [this, bucketB])
  have HSt := hide (fun (i : Nat) (hi : i < m) (was : List UInt8) => drop_next (l := L) (i := i) (by omega) was)
  have HEnd := hide (show ∀ was, tailB was (L.drop (m + 1)) = [] from fun was => by rw [List.drop_of_length_le (by omega)]; rfl)
  obtain ⟨P, hP⟩ : ∃ P, P = bucketB L := ⟨_, rfl⟩
  rw [← hP] at HIn HS ⊢
  have hcell : ∃ b o, A = some ⟨b, o, none⟩ ∧ ∀ W, Ext w W → ∀ j, j < m + 1 → W.cell? ⟨b, o + j, none⟩ = some (.string ⟨(L.getD j []).toArray⟩) := by
    rcases hA.2 with h0 | ⟨b, o, rfl, hb, hc⟩
    · omega
    · exact ⟨b, o, rfl, fun W hW j hj => (hW.cell hb).trans (hc j hj)⟩
  obtain ⟨b, o, rfl, hcell⟩ := hcell
  have HC := hide hcell
  have c0 := hcell w (Ext.refl w) 0 (by omega)
  rw [Nat.add_zero] at c0
  have hm1 : ((m + 1 : Nat) : Int) = (m : Int) + 1 := by omega
  obtain ⟨d, rfl⟩ : ∃ d, c = d + 1 := ⟨c - 1, by omega⟩
  have hCut : ∀ W, (Instr.slice 24 (.slice (some ⟨b, o, none⟩) ((m + 1 : Nat)) (d + 1)) (some (.int .i64 1)) none none).run Tryz.prog W = .ok (.slice (cutAt (some ⟨b, o, none⟩) (d + 1) 1) m d) W := fun W => by
    have := run_cutTx W (some ⟨b, o, none⟩) (m + 1) (d + 1) .i64 1 (by omega) (by omega)
    simpa using this
  have hA1 : m = 0 ∨ cutAt (some ⟨b, o, none⟩) (d + 1) 1 = some ⟨b, o + 1, none⟩ := by
    rcases Nat.eq_zero_or_pos m with h0 | h0
    · exact .inl h0
    · exact .inr (by simp [cutAt, show ¬ d = 0 by omega, Addr.add])
  generalize cutAt (some ⟨b, o, none⟩) (d + 1) 1 = A1 at *
  have CT := fun W => dText_any (L.getD 0 []) W (by have := HLe.out 0 (by omega); omega)
  have HA1 := hide hA1
  have HCell0 := hide c0
  have HCu := hide hCut
  have hmI : (m : Int) ≤ 64 := by omega
  have hcu := hCut
  clear h hl hA hcell hs hP hA1 hCut hc
  obtain ⟨s0, hs0⟩ : ∃ s, s = L.getD 0 [] := ⟨_, rfl⟩
  rw [← hs0] at c0 CT
  have HS0 := hide hs0
  clear hs0
  go_enter Tryz.func49, Tryz.ntmps49
  go_wp2_with fail
  refine (CT w).mono ?_
  rintro e w2 ⟨v2, rfl, hO2, hE2⟩
  have HO2 := hide hO2
  have HE2 := hide hE2
  have c2 := HC.out w2 hE2 0 (by omega)
  rw [Nat.add_zero, ← HS0.out] at c2
  clear hO2 hE2 CT
  go_wp2
  go_loopw [14, 3] (fun x v wr => ∃ (j : Nat) (X : List UInt8), j ≤ m ∧ x = .int .i64 (j : Int) ∧ OwnB wr w.heap.size v X ∧ P = X ++ tailB (L.getD j []) (L.drop (j + 1)) ∧ Ext w wr) (fun x _ _ => m - (intOf x).toNat)
  case atStart => exact ⟨0, textB s0, by omega, rfl, HO2.out, by rw [HS.out, ← HS0.out], HE2.out⟩
  case round =>
    clear c0 c2 hcu HO2 HE2
    obtain ⟨j, X, hj, rfl, hO, hX, hE⟩ := hrel
    have HXl := hide (show X.length ≤ 2000 by have := HIn.out; rw [hX, List.length_append] at this; omega)
    by_cases hlt : j < m
    · have hjI : (j : Int) < (m : Int) := by omega
      rw [HSt.out j hlt] at hX
      rcases HA1.out with h0 | h0
      · omega
      subst h0
      have hc1 := HC.out wr hE (j + 1) (by omega)
      rw [show o + (j + 1) = o + 1 + j by omega] at hc1
      have hc0 := HC.out wr hE j (by omega)
      have HL0 := hide (HLe.out j (by omega))
      have HL1 := hide (HLe.out (j + 1) (by omega))
      have HXe := hide hX
      obtain ⟨t, ht⟩ : ∃ t, t = L.getD (j + 1) [] := ⟨_, rfl⟩
      obtain ⟨y, hy⟩ : ∃ y, y = L.getD j [] := ⟨_, rfl⟩
      rw [← ht] at hc1 HL1 HXe
      rw [← hy] at hc0 HL0 HXe
      have HT := hide ht
      have CA := fun W => dSame_any y t W (by have := HL0.out; omega) (by have := HL1.out; omega)
      have hal := (alike_le y t).2
      have HIt := hide (show itemB y t = enc (alike y t) ++ textB (t.drop (alike y t)) from rfl)
      generalize alike y t = a at *
      have haI : (a : Int) ≤ (t.length : Int) := by omega
      have ha25 : a ≤ 25 := by have := HL1.out; omega
      have hwa := wrap_u64 (n := a) (by omega)
      have CN := fun W => ownNum_any a W (by omega)
      have CX := fun W => dText_any (t.drop a) W (by have := HL1.out; rw [List.length_drop]; omega)
      have HO := hide hO
      have HE := hide hE
      clear hO hE hX ht hy hal
      go_wp2_with fail
      refine (CA _).mono ?_
      rintro e w3 ⟨rfl, hQ3⟩
      have HO3 := hide (HO.out.ext hQ3.ext)
      have HE3 := hide (HE.out.trans hQ3.ext)
      clear hQ3 CA
      go_wp2_with fail
      refine (CN _).mono ?_
      rintro e w5 ⟨v5, rfl, hO5, hE5⟩
      have HO5 := hide (HO3.out.ext hE5)
      have HE5 := hide (HE3.out.trans hE5)
      obtain ⟨A5, c5, hv5, -, -, q5⟩ := hO5.form
      obtain ⟨m5, hm5⟩ : ∃ m, m = (enc a).length := ⟨_, rfl⟩
      rw [← hm5] at hv5 q5
      have HM5 := hide hm5
      have HQ5 := hide q5
      subst hv5
      clear hO5 hE5 q5 hm5 hc0 hc1 CN
      go_wp2_with (at_builtin; refine wpList_appAt rfl (.tmp 25) (.tmp 28) rfl rfl HO5.out rfl HQ5.out (by have := HXl.out; have := HM5.out; have := enc_len a; omega) HE5.out.le ?_; intro v6 w6 hO6 hG6 hN6; have HO6 := hide hO6; have HE6 := hide (show Ext w w6 from Below.grown HE5.out hG6 HE5.out.le (fun k hk => (HO5.out.lt k hk).1)); clear hO6 hG6 hN6)
      refine (CX w6).mono ?_
      rintro e w7 ⟨v7, rfl, hO7, hE7⟩
      have HO7 := hide (HO6.out.ext hE7)
      have HE7 := hide (HE6.out.trans hE7)
      obtain ⟨Z, hZ⟩ : ∃ Z, Z = textB (t.drop a) := ⟨_, rfl⟩
      rw [← hZ] at hO7
      obtain ⟨A7, c7, hv7, -, -, q7⟩ := hO7.form
      obtain ⟨m7, hm7⟩ : ∃ m, m = Z.length := ⟨_, rfl⟩
      rw [← hm7] at hv7 q7
      have HM7 := hide hm7
      have HQ7 := hide q7
      have HZ := hide hZ
      have HZl := hide (show Z.length ≤ 40 by
        rw [hZ]
        unfold textB
        have := HL1.out
        have := enc_len (t.drop a).length
        rw [List.length_append, List.length_drop] at *
        omega)
      subst hv7
      clear hO7 hE7 q7 hm7 hZ CX
      go_wp2_with (at_builtin; refine wpList_appAt rfl (.tmp 30) (.tmp 34) rfl rfl HO7.out rfl HQ7.out (by have := HXl.out; have := enc_len a; have := HZl.out; have := HM7.out; rw [List.length_append]; omega) HE7.out.le ?_; intro v8 w8 hO8 hG8 hN8; have HO8 := hide hO8; have HE8 := hide (show Ext w w8 from Below.grown HE7.out hG8 HE7.out.le (fun k hk => (HO7.out.lt k hk).1)); clear hO8 hG8 hN8)
      go_roundw
      case rel => exact ⟨j + 1, X ++ enc a ++ Z, by omega, by go_num, HO8.out, by rw [HXe.out, HIt.out, ← HZ.out, ← HT.out]; simp only [List.append_assoc], HE8.out⟩
      case measure => simp [intOf]; omega
    · have hjI : ¬ (j : Int) < (m : Int) := by omega
      obtain rfl : j = m := by omega
      rw [HEnd.out, List.append_nil] at hX
      subst hX
      have HO := hide hO
      have HE := hide hE
      clear hO hE
      go_wp2
      go_ret
      exact ⟨_, rfl, HO.out, HE.out⟩
end Go.Proofs.YtcphapdjimeoaaaGreat

namespace Go.Proofs.YtcphapdjimeoaaaGreat
open Go.RowKit Wrd Dic

/-- So many texts of a row are below s. -/
def LowTo (w : World) (l : List (List UInt8)) (s : List UInt8) (e : Ending) (w' : World) : Prop := ∃ i, IsLow l s i ∧ e = .returned (.int .i64 (i : Int)) ∧ Ext w w'
theorem TextsAt.cellAt {w w' : World} {A : Option Addr} {n i : Nat} {L : List (List UInt8)} (h : TextsAt w w.heap.size A n L) (hi : i < n) (hE : Ext w w') : ∃ b o, A = some ⟨b, o, none⟩ ∧ w'.cell? ⟨b, o + i, none⟩ = some (.string ⟨(L.getD i []).toArray⟩) := by
  rcases h.2 with h0 | ⟨b, o, e, hb, hc⟩
  · omega
  · exact ⟨b, o, e, (hE.cell hb).trans (hc i hi)⟩
attribute [local go_sem ↓] run_txtAt run_txtLen run_txtCut run_txtTop run_cutTx
/-- Block g is a dictionary of these texts. -/
structure DicAt (w : World) (g : Nat) (size : Nat) (A : Option Addr) (c : Nat) (F : List (List UInt8)) (A2 : Option Addr) (c2 : Nat) (l : List (List UInt8)) : Prop where
  whole : Whole w g 70 #[.slice A l.length c, .int .i64 (size : Int), .slice A2 F.length c2]
  texts : TextsAt w w.heap.size A l.length l
  firsts : TextsAt w w.heap.size A2 F.length F
  are : FirstsOf size l F
  rise : Rising l
  riseF : Rising F
  size1 : 1 ≤ size
  size2 : size ≤ 64
  len : l.length ≤ 900000
  room : l.length ≤ c ∧ c ≤ maxLen
def DicLst (w : World) (g : Nat) (l : List (List UInt8)) : Prop := ∃ size A c F A2 c2, DicAt w g size A c F A2 c2 l
theorem DicAt.ext {w w' : World} {g size c c2 : Nat} {A A2 : Option Addr} {F l : List (List UInt8)} (h : DicAt w g size A c F A2 c2 l) (hE : Ext w w') : DicAt w' g size A c F A2 c2 l :=
  ⟨h.whole.ext hE, h.texts.later hE, h.firsts.later hE, h.are, h.rise, h.riseF, h.size1, h.size2, h.len, h.room⟩
theorem dicLst_keep' {W W' : World} {g : Nat} {l : List (List UInt8)} (h : DicLst W g l) (hE : Ext W W') : DicLst W' g l := by
  obtain ⟨size, A, c, F, A2, c2, h⟩ := h
  exact ⟨size, A, c, F, A2, c2, h.ext hE⟩
set_option maxHeartbeats 1000000 in
theorem dLenW_any {w : World} {g n c : Nat} {A : Option Addr} {v1 v2 : Value} (h : Whole w g 70 #[.slice A n c, v1, v2]) : Calls Tryz.prog 17 #[.pointer (some ⟨g, 0, none⟩)] w fun e w' => e = .returned (.int .i64 (n : Int)) ∧ w = w' := by
  have c0 := h.at 0 (u := .slice A n c) rfl
  clear h
  go_enter Tryz.func17, Tryz.ntmps17
  go_wp2
  go_ret
  exact ⟨rfl, rfl⟩
theorem dLen_any {w : World} {g size c c2 : Nat} {A A2 : Option Addr} {F l : List (List UInt8)} (h : DicAt w g size A c F A2 c2 l) : Calls Tryz.prog 17 #[.pointer (some ⟨g, 0, none⟩)] w fun e w' => e = .returned (.int .i64 (l.length : Int)) ∧ w = w' := dLenW_any h.whole
theorem dLenNil_any (w : World) : Calls Tryz.prog 17 #[.pointer none] w fun e w' => e = .returned (.int .i64 0) ∧ w = w' := by
  go_enter Tryz.func17, Tryz.ntmps17
  go_wp2
  go_ret
  exact ⟨rfl, rfl⟩
/-- What At tells. -/
def Dic.inD (l : List (List UInt8)) (i : Int) : Bool := decide (0 ≤ i ∧ i < (l.length : Int))
def Dic.atD (l : List (List UInt8)) (i : Int) : List UInt8 := if inD l i = true then l.getD i.toNat [] else []
set_option maxHeartbeats 1000000 in
theorem dAtW_any {w : World} {g c : Nat} {A : Option Addr} {v1 v2 : Value} {l : List (List UInt8)} (h : Whole w g 70 #[.slice A l.length c, v1, v2]) (ht : TextsAt w w.heap.size A l.length l) (i : Int) : Calls Tryz.prog 106 #[.pointer (some ⟨g, 0, none⟩), .int .i64 i] w fun e w' => e = .returned (.tuple #[.string ⟨(atD l i).toArray⟩, .bool (inD l i)]) ∧ w = w' := by
  have CL := dLenW_any h
  by_cases h0 : i < 0
  · have hin : inD l i = false := decide_eq_false (by omega)
    have HR := hide (show atD l i = [] by unfold atD; rw [hin]; rfl)
    rw [hin]
    generalize atD l i = res at *
    clear CL h hin ht
    go_enter Tryz.func106, Tryz.ntmps106
    go_wp2
    go_ret2
    rw [HR.out]
    exact ⟨rfl, rfl⟩
  · by_cases h1 : i < (l.length : Int)
    · have hin : inD l i = true := decide_eq_true (by omega)
      have HR := hide (show atD l i = l.getD i.toNat [] by unfold atD; rw [hin]; rfl)
      rw [hin]
      generalize atD l i = res at *
      obtain ⟨k, rfl⟩ : ∃ k : Nat, i = (k : Int) := ⟨i.toNat, by omega⟩
      rw [Int.toNat_natCast] at HR
      have c0 := h.at 0 (u := .slice A l.length c) rfl
      obtain ⟨b, o, rfl, hc⟩ := ht.cellAt (show k < l.length by omega) (Ext.refl w)
      rw [← HR.out] at hc
      have h3 : ¬ (l.length : Int) ≤ (k : Int) := by omega
      generalize l.length = n at *
      clear h hin HR ht
      go_enter Tryz.func106, Tryz.ntmps106
      go_wp2_with fail
      refine CL.mono ?_
      rintro e w' ⟨rfl, rfl⟩
      clear CL
      go_wp2
      go_ret2
      exact ⟨rfl, rfl⟩
    · have hin : inD l i = false := decide_eq_false (by omega)
      have HR := hide (show atD l i = [] by unfold atD; rw [hin]; rfl)
      rw [hin]
      generalize atD l i = res at *
      have h3 : (l.length : Int) ≤ i := by omega
      generalize l.length = n at *
      clear h hin ht
      go_enter Tryz.func106, Tryz.ntmps106
      go_wp2_with fail
      refine CL.mono ?_
      rintro e w' ⟨rfl, rfl⟩
      clear CL
      go_wp2
      go_ret2
      rw [HR.out]
      exact ⟨rfl, rfl⟩
theorem dAt_any {w : World} {g size c c2 : Nat} {A A2 : Option Addr} {F l : List (List UInt8)} (h : DicAt w g size A c F A2 c2 l) (i : Int) : Calls Tryz.prog 106 #[.pointer (some ⟨g, 0, none⟩), .int .i64 i] w fun e w' => e = .returned (.tuple #[.string ⟨(atD l i).toArray⟩, .bool (inD l i)]) ∧ w = w' := dAtW_any h.whole h.texts i
theorem dAtNil_any (i : Int) (w : World) : Calls Tryz.prog 106 #[.pointer none, .int .i64 i] w fun e w' => e = .returned (.tuple #[.string ⟨#[]⟩, .bool false]) ∧ w = w' := by
  have CL := dLenNil_any w
  by_cases h0 : i < 0
  · clear CL
    go_enter Tryz.func106, Tryz.ntmps106
    go_wp2
    go_ret2
    exact ⟨rfl, rfl⟩
  · have h1 : 0 ≤ i := by omega
    go_enter Tryz.func106, Tryz.ntmps106
    go_wp2_with fail
    refine CL.mono ?_
    rintro e w' ⟨rfl, rfl⟩
    clear CL
    go_wp2
    go_ret2
    exact ⟨rfl, rfl⟩
/-- A part of a list of texts. -/
theorem run_partTx (W : World) (a : Option Addr) (n c : Nat) (l h : Nat) (h1 : l ≤ h) (h2 : h ≤ c) :
    (Instr.slice 68 (.slice a n c) (some (.int .i64 (l : Int))) (some (.int .i64 (h : Int))) none).run Tryz.prog W = .ok (.slice (cutAt a c l) (h - l) (c - l)) W := by
  rw [run_slice_lh (P := Tryz.prog) (w := W) 68 a n c (by kernel_rfl) .i64 .i64 (l : Int) (h : Int) (by omega) (by omega) (by omega)]
  have hs : (sizeOf (Tryz.prog.elem 68)).run Tryz.prog W = .ok 1 W := by kernel_rfl
  rw [hs]
  simp [Result.andThen, sliced, cutAt]
end Go.Proofs.YtcphapdjimeoaaaGreat

namespace Go.Proofs.YtcphapdjimeoaaaGreat
open Go.RowKit Wrd Dic

attribute [local go_sem ↓] run_txtAt run_txtLen run_txtCut run_txtTop run_cutTx
/-- What Range tells. -/
def RngTo (w : World) (r : Nat × Nat) (e : Ending) (w' : World) : Prop := e = .returned (.tuple #[.int .i64 (r.1 : Int), .int .i64 (r.2 : Int)]) ∧ Ext w w'
end Go.Proofs.YtcphapdjimeoaaaGreat

namespace Go.Proofs.YtcphapdjimeoaaaGreat
open Go.RowKit Wrd Dic

attribute [local go_sem ↓] run_txtAt run_txtLen run_txtCut run_txtTop run_cutTx
/-- What Find tells. -/
def FndTo (w : World) (r : Nat × Bool) (e : Ending) (w' : World) : Prop := e = .returned (.tuple #[.int .i64 (r.1 : Int), .bool r.2]) ∧ Ext w w'
set_option maxHeartbeats 1000000 in
theorem dAll_any {w : World} {g size c c2 : Nat} {A A2 : Option Addr} {F l : List (List UInt8)} (h : DicAt w g size A c F A2 c2 l) : Calls Tryz.prog 18 #[.pointer (some ⟨g, 0, none⟩)] w (MadeTx w l) := by
  have C := dClone_any A l.length c l w h.room.1 (by have := h.len; omega) h.texts
  have c0 := h.whole.at 0 (u := .slice A l.length c) rfl
  obtain ⟨n, hn⟩ : ∃ n, n = l.length := ⟨_, rfl⟩
  rw [← hn] at C c0
  have HN := hide hn
  clear h hn
  go_enter Tryz.func18, Tryz.ntmps18
  go_wp2_with fail
  refine C.mono ?_
  rintro e w2 ⟨v, rfl, hO, hE⟩
  have HE := hide hE
  obtain ⟨B, d, rfl, h1, h2, h3⟩ := hO.form
  have H1 := hide h1
  have H2 := hide h2
  have H3 := hide h3
  rw [← HN.out] at H1 H3
  clear C hO hE h1 h2 h3
  go_wp2
  go_ret
  exact ⟨B, d, rfl, by rw [← HN.out]; exact H1.out, H2.out, by rw [← HN.out]; exact H3.out, HE.out⟩
theorem dAllNil_any (w : World) : Calls Tryz.prog 18 #[.pointer none] w fun e w' => ∃ A c, e = .returned (.slice A 0 c) ∧ Ext w w' := by
  go_enter Tryz.func18, Tryz.ntmps18
  go_wp2
  go_ret
  exact ⟨none, 0, rfl, Ext.refl _⟩
end Go.Proofs.YtcphapdjimeoaaaGreat

