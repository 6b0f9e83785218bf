/- The law BitsWrites. -/
import Derived.Test.YtolahdofglmanaaBitAlive
import Derived.Test.YtolahdofglmanaaBitOps
import Derived.Test.YtolahdofglmanaaBitRef2
import Derived.Test.YtolahdofglmanaaBitRef3
import Derived.Test.YtolahdofglmanaaStrs
import Derived.StillTailTactics
namespace Go.Proofs.Ytolahdofglmanaa
open Go.RowKit

theorem RefW.new (w : World) : RefW (w.alloc (.cells #[.slice none 0 0] 30)) w.heap.size w.heap.size none [] :=
  ⟨.slice none 0 0, Whole.new w _ _, OwnB.nil _ _, by simp [Value.ownBlock], Nat.le_refl _, rfl⟩

/-- A writer of the program and one of the document: neither lies in the other. -/
def Both (w : World) (base g1 g2 : Nat) (ob1 ob2 : Option Nat) (B : List Bool) (R : List UInt8) : Prop :=
  Wrt w base g1 ob1 B ∧ RefW w base g2 ob2 R ∧ g1 ≠ g2 ∧ ob1 ≠ some g2 ∧ ob2 ≠ some g1 ∧ (ob1 = none ∨ ob1 ≠ ob2)
theorem NewOb.apart {w : World} {ob ob' o2 : Option Nat} (h : NewOb w ob ob') (h2 : ∀ k, o2 = some k → k < w.heap.size) (hn : ob = none ∨ ob ≠ o2) : ob' = none ∨ ob' ≠ o2 := by
  rcases h with rfl | ⟨n, rfl, hn'⟩
  · exact hn
  · right
    intro e
    have := h2 n e.symm
    omega
theorem ob_symm {a b : Option Nat} (h : a = none ∨ a ≠ b) : b = none ∨ b ≠ a := by
  rcases h with rfl | h
  · cases b <;> simp
  · exact .inr (fun e => h e.symm)
theorem Both.first {w w' : World} {base g1 g2 : Nat} {ob1 ob2 : Option Nat} {B B' : List Bool} {R : List UInt8} {err : Int} {e : Ending} (h : Both w base g1 g2 ob1 ob2 B R) (hp : Puts w base g1 ob1 B' err e w') :
    e = .returned (.int .i64 err) ∧ ∃ ob1', Both w' base g1 g2 ob1' ob2 B' R ∧ Below base w w' := by
  obtain ⟨hW, hR, hg, h12, h21, hob⟩ := h
  obtain ⟨he, ob1', hW', hN, hM⟩ := hp
  refine ⟨he, ob1', ⟨hW', hR.kept hM (Ne.symm hg) h12 h21 (ob_symm hob), hg, hN.ne hR.lt h12, h21, hN.apart (fun k hk => (hR.own k hk).2) hob⟩, hM.below hW.bound hW.le (fun k hk => (hW.ob k hk).1)⟩
theorem Both.second {w w' : World} {base g1 g2 : Nat} {ob1 ob2 : Option Nat} {B : List Bool} {R R' : List UInt8} {err : Int} {e : Ending} (h : Both w base g1 g2 ob1 ob2 B R) (hp : RefPuts w base g2 ob2 R' err e w') :
    e = .returned (.int .i64 err) ∧ ∃ ob2', Both w' base g1 g2 ob1 ob2' B R' ∧ Below base w w' := by
  obtain ⟨hW, hR, hg, h12, h21, hob⟩ := h
  obtain ⟨he, ob2', hR', hN, hM⟩ := hp
  refine ⟨he, ob2', ⟨hW.kept hM hg h21 h12 hob, hR', hg, h12, hN.ne hW.lt h21, ob_symm (hN.apart (fun k hk => (hW.ob k hk).2) (ob_symm hob))⟩, hM.below hW.bound hR.le (fun k hk => (hR.own k hk).1)⟩
theorem Both.start (w1 : World) {b : Nat} (hb : b ≤ w1.heap.size) :
    Both ((w1.alloc (.cells #[.slice none 0 0, .int .i64 0] 28)).alloc (.cells #[.slice none 0 0] 30)) b w1.heap.size (w1.heap.size + 1) none none [] [] := by
  have hz1 : (w1.alloc (.cells #[.slice none 0 0, .int .i64 0] 28)).heap.size = w1.heap.size + 1 := by simp
  have h1 := (Wrt.new w1).ext (extNew _ (.cells #[.slice none 0 0] 30))
  have h2 := RefW.new (w1.alloc (.cells #[.slice none 0 0, .int .i64 0] 28))
  rw [hz1] at h2
  obtain ⟨v1, l1, ⟨a1, a2, a3, a4⟩, a5, a6⟩ := h1
  obtain ⟨v2, b1, b2, b3, b4, b5⟩ := h2
  exact ⟨⟨v1, l1, ⟨a1, a2.mono hb, a3, hb⟩, a5, a6⟩, ⟨v2, b1, b2.mono (Nat.le_succ_of_le hb), b3, Nat.le_succ_of_le hb, b5⟩, by omega, by simp, by simp, .inl rfl⟩
theorem below_drewN {B : Nat} {a b : World} (h : Below B a b) (n : Nat) : Below B a (b.drewN n) := ⟨h.os, h.tape, h.output, h.size, h.block⟩
theorem map_app (B C : List Bool) : B.map bit8 ++ C.map bit8 = (B ++ C).map bit8 := by rw [List.map_append]

theorem Wrt.lenQ {w : World} {base g : Nat} {ob : Option Nat} {B : List Bool} (h : Wrt w base g ob B) (m : Nat) :
    Calls Try.prog 13 #[.pointer (some ⟨g, 0, none⟩)] (w.drewN m) fun e w' => e = .returned (.int .i64 (B.length : Nat)) ∧ ∃ n, w' = w.drewN n :=
  Calls.quiet_of ((wlen_any (h.ext ((Ext.refl w).drewN m))).mono fun _ _ ⟨he, hw⟩ => ⟨he, 0, hw.symm⟩)
theorem RefW.cellLen {w : World} {base g : Nat} {ob : Option Nat} {B : List Bool} (h : RefW w base g ob (B.map bit8)) : ∃ A c, w.cell? ⟨g, 0, none⟩ = some (.slice A B.length c) := by
  obtain ⟨v, hW, hO, _⟩ := h
  obtain ⟨A, c, rfl, _⟩ := hO.form
  refine ⟨A, c, ?_⟩
  have := hW.at 0 rfl
  rwa [show (B.map bit8).length = B.length by simp] at this
theorem Both.drew {w : World} {base g1 g2 : Nat} {ob1 ob2 : Option Nat} {B : List Bool} {R : List UInt8} (h : Both w base g1 g2 ob1 ob2 B R) : Both w.drew base g1 g2 ob1 ob2 B R := h
theorem Both.drewN {w : World} {base g1 g2 : Nat} {ob1 ob2 : Option Nat} {B : List Bool} {R : List UInt8} (h : Both w base g1 g2 ob1 ob2 B R) (m : Nat) : Both (w.drewN m) base g1 g2 ob1 ob2 B R := h

set_option maxHeartbeats 2000000 in
theorem bitsWrites_walk (A : Option Addr) (n c : Nat) (L : List OpV) (w : World) (_hn : n ≤ c) (_hc : c ≤ maxLen) (hb : OpsAt w w.heap.size A n L) :
    Calls Try.prog 3 #[.slice A n c] w fun e w' => e = .returned (.bool true) ∧ Below w.heap.size w w' := by
  have C0 := alive2_any w
  by_cases hbig : 60 < n
  · go_enter Try.func3, Try.ntmps3
    go_wp2_with fail
    refine C0.mono ?_
    rintro e w1 ⟨rfl, hE1⟩
    go_wp2
    go_ret
    exact ⟨rfl, hE1⟩
  · obtain ⟨hLn, hcells⟩ := hb
    go_enter Try.func3, Try.ntmps3
    go_wp2_with fail
    refine C0.mono ?_
    rintro e w1 ⟨rfl, hE1⟩
    have hB0 := Both.start w1 hE1.le
    have hEB : Below w.heap.size w ((w1.alloc (.cells #[.slice none 0 0, .int .i64 0] 28)).alloc (.cells #[.slice none 0 0] 30)) := Ext.alloc (Ext.alloc hE1 _) _
    go_wp2
    go_loopw [5, 6, 7] (fun i _ _ wr => ∃ (k : Nat) (B : List Bool) (ob1 ob2 : Option Nat), i = .int .i64 (k : Int) ∧ k ≤ n ∧ B.length ≤ 4000 ∧ Both wr w.heap.size w1.heap.size (w1.heap.size + 1) ob1 ob2 B (B.map bit8) ∧ Below w.heap.size w wr) (fun i _ _ _ => n - (intOf i).toNat)
    case atStart => exact ⟨0, [], none, none, rfl, by omega, by simp, hB0, hEB⟩
    case round =>
      obtain ⟨k, B, ob1, ob2, rfl, hk, hB, hBoth, hE⟩ := hrel
      by_cases hlt : k < n
      · rcases hcells with h0 | ⟨b, off, rfl, hbl, hcells⟩
        · omega
        obtain ⟨hop, hok⟩ := hcells k hlt
        have hop' := hop.below hE hbl
        obtain ⟨c0, c1, c2⟩ := hop'
        obtain ⟨ok1, ok2, ok3, ok4⟩ := hok
        clear hcells
        generalize L.getD k default = op at *
        have hw1 : w1.heap.size ≠ w1.heap.size + 1 := by omega
        generalize w1.heap.size + 1 = g2 at *
        generalize w1.heap.size = g1 at *
        by_cases hk2 : op.k % 2 = 0
        · have ht : ((op.k : Int) % 2 == 0) = true := by simp; omega
          clear hk2
          have HB := hide hBoth
          go_wp2_with fail
          go_still_tail 10, (by kernel_rfl)
          change wpList _ _ _ _ _ wr.drew
          have hBd : Both wr.drew w.heap.size g1 g2 ob1 ob2 B (B.map bit8) := hBoth
          clear hBoth
          go_wp2_with fail
          refine (put_any hBd.1 op.x op.n (by omega)).mono ?_
          rintro e w3 hp
          obtain ⟨rfl, ob3, hB3, hE3⟩ := hBd.first hp
          have hE3' : Below w.heap.size w w3 := Below.trans (Below.drew hE) hE3
          obtain ⟨c0, c1, c2⟩ := hop.below hE3' hbl
          clear hp hBd hB0 hEB hE3 hE HB
          go_wp2_with fail
          go_still_tail 10, (by kernel_rfl)
          change wpList _ _ _ _ _ w3.drew
          replace hB3 := hB3.drew
          go_wp2_with fail
          refine (refPut_any hB3.2.1 op.x op.n ok2 (by simp; omega)).mono ?_
          rintro e w4 hp
          obtain ⟨rfl, ob4, hB4, hE4⟩ := hB3.second hp
          rw [map_app] at hB4
          have hE4' : Below w.heap.size w w4 := Below.trans (Below.drew hE3') hE4
          have hlen : (B ++ Bit.putBits op.x op.n).length ≤ 4064 := by rw [List.length_append]; have := Bit.putBits_le op.x op.n; omega
          have hee : ((Bit.putErr op.x op.n) != (Bit.putErr op.x op.n)) = false := by simp
          clear hp hB3 hE4 hE3' c0 c1 c2
          generalize Bit.putErr op.x op.n = E at *
          generalize B ++ Bit.putBits op.x op.n = B' at *
          obtain ⟨A2, cc, d0⟩ := hB4.2.1.cellLen
          have CL := hB4.1.lenQ
          have hll : ((B'.length : Int) != (B'.length : Int)) = false := by simp
          have HB4 := hide hB4
          clear hB4
          by_cases hbg : 4000 < B'.length
          · go_wp2_with fail
            go_quiet (first | (go_at_call 13; exact CL _))
            go_wp2
            go_ret
            exact ⟨rfl, below_drewN hE4' _⟩
          · go_wp2_with fail
            go_quiet (first | (go_at_call 13; exact CL _))
            go_wp2
            go_roundw
            case rel => exact ⟨k + 1, B', ob3, ob4, by go_num, by omega, by omega, HB4.out.drewN _, below_drewN hE4' _⟩
            case measure => simp [intOf]; omega
        · have ht : ((op.k : Int) % 2 == 0) = false := by simp; omega
          clear hk2
          go_wp2_with fail
          refine (unary_any hBoth.1 op.n (by omega)).mono ?_
          rintro e w3 hp
          obtain ⟨rfl, ob3, hB3, hE3⟩ := hBoth.first hp
          have hE3' : Below w.heap.size w w3 := hE.trans hE3
          obtain ⟨c0, c1, c2⟩ := hop.below hE3' hbl
          clear hp hBoth hB0 hEB hE3 hE
          go_wp2_with fail
          refine (refUnary_any hB3.2.1 op.n (by simp; omega)).mono ?_
          rintro e w4 hp
          obtain ⟨rfl, ob4, hB4, hE4⟩ := hB3.second hp
          rw [map_app] at hB4
          have hE4' : Below w.heap.size w w4 := hE3'.trans hE4
          have hlen : (B ++ Bit.unaryBits op.n).length ≤ 104001 := by rw [List.length_append]; have := Bit.unaryBits_le op.n; omega
          have hee : ((Bit.unaryErr op.n) != (Bit.unaryErr op.n)) = false := by simp
          clear hp hB3 hE4 hE3' c0 c1 c2
          generalize Bit.unaryErr op.n = E at *
          generalize B ++ Bit.unaryBits op.n = B' at *
          obtain ⟨A2, cc, d0⟩ := hB4.2.1.cellLen
          have CL := hB4.1.lenQ
          have hll : ((B'.length : Int) != (B'.length : Int)) = false := by simp
          have HB4 := hide hB4
          clear hB4
          by_cases hbg : 4000 < B'.length
          · go_wp2_with fail
            go_quiet (first | (go_at_call 13; exact CL _))
            go_wp2
            go_ret
            exact ⟨rfl, below_drewN hE4' _⟩
          · go_wp2_with fail
            go_quiet (first | (go_at_call 13; exact CL _))
            go_wp2
            go_roundw
            case rel => exact ⟨k + 1, B', ob3, ob4, by go_num, by omega, by omega, HB4.out.drewN _, below_drewN hE4' _⟩
            case measure => simp [intOf]; omega
      · obtain rfl : k = n := by omega
        clear hcells
        go_wp2_with fail
        refine (wbytes_any hBoth.1 (by omega)).mono ?_
        rintro e w3 ⟨l3, hP3, v3, rfl, hO3, hE3⟩
        have hR3 := hBoth.2.1.ext hE3
        go_wp2_with fail
        refine (refBytes_any hR3 (by omega)).mono ?_
        rintro e w4 ⟨l4, hP4, v4, rfl, hO4, hE4⟩
        obtain rfl := hP3.uniq hP4
        obtain ⟨A3, n3, c3, rfl, _, _, hb3⟩ := hO3.form'
        obtain ⟨A4, n4, c4, rfl, _, _, hb4⟩ := hO4.form'
        replace hb3 := hE4.bytes hb3
        have hE5 : Below w.heap.size w w4 := hE.trans (Below.mono (hE3.trans hE4) hE.size)
        clear hO3 hO4
        go_wp2_with fail
        refine (same_any _ _ _ _ _ _ l3 l3 _ hb3 hb4).mono ?_
        rintro e w5 ⟨rfl, hE6⟩
        go_wp2
        go_ret
        exact ⟨ret_bool (sameB_true rfl), hE5.trans (Below.mono hE6 hE5.size)⟩
end Go.Proofs.Ytolahdofglmanaa
