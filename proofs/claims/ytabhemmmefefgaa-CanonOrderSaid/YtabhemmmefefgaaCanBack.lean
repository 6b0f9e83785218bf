/- The law CanonBack. -/
import Derived.Test.YtabhemmmefefgaaCanWrites
import Derived.Test.YtabhemmmefefgaaCanReads
namespace Go.Proofs.Ytabhemmmefefgaa
open Go.RowKit Len Can

theorem Can.readE_back {l b : List UInt8} (hr : right l = true) (hP : Bit.Packs b (wbits l)) : readE b (l.length : Int) 0 = (l, 0, (wbits l).length) := by
  obtain ⟨h300, _⟩ := right_facts hr
  have := read_back hr l [] [] [] 64 rfl (by simpa using hP) (.inl (Nat.le_refl _))
  unfold readE
  rw [if_neg (by omega), Int.toNat_natCast]
  simpa using this

set_option maxHeartbeats 1000000 in
set_option maxRecDepth 100000 in
theorem canonBack_walk0 (A : Option Addr) (n c : Nat) (l : List UInt8) (w : World) (hL : CodesC w) (hW : WriteC w) (hR : ReadC w) (hn : n ≤ c) (hc : c ≤ maxLen) (hb : Bytes w w.heap.size A n l) :
    Calls Try.prog 9 #[.slice A n c] w fun e w' => e = .returned (.bool true) ∧ Below w.heap.size w w' := by
  have C0 := alive8_any hL (Ext.refl w)
  have CW := fun W base g ob B => hW l A n c W base g ob B
  have HB := hide hb
  have Hl := hide hb.1
  cases hr : right l with
  | false =>
    rw [hr] at CW
    rw [check_wrong hr] at CW
    clear hr hW hR hb
    go_enter Try.func9, Try.ntmps9
    go_wp2_with fail
    refine C0.mono ?_
    rintro e w1 ⟨rfl, hE1⟩
    have hN : Wrt (w1.alloc (.cells #[.slice none 0 0, .int .i64 0] 35)) w.heap.size w1.heap.size none [] := by
      obtain ⟨v1, l1, ⟨a1, a2, a3, a4⟩, a5, a6⟩ := Wrt.new w1
      exact ⟨v1, l1, ⟨a1, a2.mono hE1.le, a3, hE1.le⟩, a5, a6⟩
    have hF1 : Below w.heap.size w (w1.alloc (.cells #[.slice none 0 0, .int .i64 0] 35)) := Ext.alloc hE1 _
    have C1 := CW _ _ _ _ _ hF1 hn hc (HB.out.below hF1 (Nat.le_refl _)) hN (by simp)
    have hbound := hN.bound
    have hob := hN.ob
    have hgl := hN.le
    clear C0 CW hN
    go_wp2_with fail
    refine C1.mono ?_
    rintro e w2 ⟨rfl, ob2, hW2, _, hM2⟩
    have hF2 := hF1.trans (hM2.below hbound hgl (fun k hk => (hob k hk).1))
    have hW3 : Wrt w2 w.heap.size w1.heap.size ob2 [] := by simpa using hW2
    clear C1 hW2 hM2 hob hbound hgl
    go_wp2_with fail
    refine (wlen_any hW3).mono ?_
    rintro e w3 ⟨rfl, rfl⟩
    go_wp2
    go_ret
    exact ⟨rfl, hF2⟩
  | true =>
    rw [hr, if_pos rfl] at CW
    rw [check_right hr] at CW
    have HRB := hide (fun (b : List UInt8) (hP : Bit.Packs b (wbits l)) => readE_back hr hP)
    obtain ⟨h300, _⟩ := right_facts hr
    have hwl := wbits_len l
    have CR := fun (W : World) (base g : Nat) (b : List UInt8) (hX : Below w.heap.size w W) (h : Rdr W base g b 0) => hR (l.length : Int) W base g 0 b hX (by omega) (by omega) h
    rw [hb.1] at h300 hwl HRB CR
    clear hr hW hR hb
    generalize wbits l = B at *
    go_enter Try.func9, Try.ntmps9
    go_wp2_with fail
    refine C0.mono ?_
    rintro e w1 ⟨rfl, hE1⟩
    have hN : Wrt (w1.alloc (.cells #[.slice none 0 0, .int .i64 0] 35)) w.heap.size w1.heap.size none [] := by
      obtain ⟨v1, l1, ⟨a1, a2, a3, a4⟩, a5, a6⟩ := Wrt.new w1
      exact ⟨v1, l1, ⟨a1, a2.mono hE1.le, a3, hE1.le⟩, a5, a6⟩
    have hF1 : Below w.heap.size w (w1.alloc (.cells #[.slice none 0 0, .int .i64 0] 35)) := Ext.alloc hE1 _
    have C1 := CW _ _ _ _ _ hF1 hn hc (HB.out.below hF1 (Nat.le_refl _)) hN (by simp)
    have hbound := hN.bound
    have hob := hN.ob
    have hgl := hN.le
    clear C0 CW hN
    go_wp2_with fail
    refine C1.mono ?_
    rintro e w2 ⟨rfl, ob2, hW2, _, hM2⟩
    have hF2 := hF1.trans (hM2.below hbound hgl (fun k hk => (hob k hk).1))
    rw [List.nil_append] at hW2
    clear C1 hM2 hob hbound hgl
    go_wp2_with fail
    refine (wbytes_any hW2 (by omega)).mono ?_
    rintro e w3 ⟨l3, hP3, v3, rfl, hO3, hE3⟩
    have hF3 := hF2.trans (Below.mono hE3 hF2.size)
    obtain ⟨A3, n3, c3, rfl, hc3, _, hb3⟩ := hO3.form'
    have hl3 := hb3.1
    have hp1 := hP3.1
    have hn3 : n3 ≤ 1000000 := by omega
    have HP3 := hide hP3
    have HRB3 := hide (HRB.out l3 hP3)
    clear hO3 hP3 hp1 hl3 hW2
    go_wp2_with fail
    refine (newReader_any _ _ _ l3 _ hc3 hn3 hb3).mono ?_
    rintro e w4 ⟨g, rfl, hR4, hE4⟩
    have hF4 := hF3.trans (Below.mono hE4 hF3.size)
    have hgw : w.heap.size ≤ g := Nat.le_trans hF3.size hR4.le
    have C2 := CR w4 _ g l3 hF4 hR4
    rw [HRB3.out] at C2
    clear CR hb3 hE3 hR4
    go_wp2_with fail
    refine C2.mono ?_
    rintro e w5 ⟨v5, q5, rfl, hO5, hR5, hq5, hM5⟩
    dsimp only at hO5 hq5
    have hq := hq5 rfl
    subst hq
    have hF5 := hF4.trans (hM5.below hF4.size hgw (fun k hk => by cases hk))
    obtain ⟨A5, n5, c5, rfl, _, _, hb5⟩ := hO5.form'
    have hS := same_any _ _ _ _ c5 c l l w5 hb5 ((HB.out.below hF5 (Nat.le_refl _)).mono hF5.size)
    rw [sameB_true rfl] at hS
    have HR5 := hide hR5
    have HPad := hide (Bit.pad_back HP3.out).1
    clear hO5 hq5 hM5 hb5 C2 hR5
    go_wp2_with fail
    refine hS.mono ?_
    rintro e w6 ⟨rfl, hE6⟩
    have hF6 := hF5.trans (Below.mono hE6 hF5.size)
    clear hS
    go_wp2_with fail
    refine (pad_any (HR5.out.ext hE6)).mono ?_
    rintro e w7 ⟨rfl, hQ7⟩
    rw [HPad.out]
    have hF7 := hF6.trans (Below.mono hQ7.ext hF6.size)
    go_wp2
    go_ret
    exact ⟨rfl, hF7⟩
end Go.Proofs.Ytabhemmmefefgaa
