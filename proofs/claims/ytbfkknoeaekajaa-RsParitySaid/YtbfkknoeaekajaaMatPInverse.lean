/- Contract of the program's Inverse. -/
import Derived.Test.YtbfkknoeaekajaaMatPFrom
import Derived.Test.YtbfkknoeaekajaaMatPLead
import Derived.Test.YtbfkknoeaekajaaMatPBase
import Derived.Test.YtbfkknoeaekajaaMatInvR
namespace Go.Proofs.Ytbfkknoeaekajaa
open Go.RowKit

/-- One column more is cleared. -/
theorem inner_lead {n i p : Nat} {A F : Mat.M} (h : Mat.Inner n i A F) (hi : i < n) (hip : i ≤ p) (hp : p < n) (h0 : F p i ≠ 0) : Mat.Inner n (i + 1) A (clearTo i i n (leadS i p i F)) := by
  have h1 := h.swap hi hp hip
  have hs : Mat.sw i p i = p := if_pos rfl
  have h2 := h1.scale (by show F (Mat.sw i p i) i ≠ 0; rw [hs]; exact h0)
  have e : (fun a b => if a = i then Mat.fm ((fun a => F (Mat.sw i p a)) a b) (Mat.fi ((fun a => F (Mat.sw i p a)) i i)) else (fun a => F (Mat.sw i p a)) a b) = leadS i p i F := by
    funext a b
    unfold leadS
    dsimp only
    rw [hs, Mat.fm_comm]
  rw [e] at h2
  obtain ⟨h2, h3⟩ := h2
  have h4 : leadS i p i F i i = 1 := by
    unfold leadS
    rw [if_pos rfl, hs, Mat.fi_fm h0]
  clear e h1 h3
  generalize leadS i p i F = G at *
  have key : ∀ k, k ≤ n → Mat.Inner n i A (clearTo i i k G) ∧ ∀ a, a < k → clearTo i i k G a i = Mat.one a i := by
    intro k
    induction k with
    | zero => intro _; rw [clearTo_none]; exact ⟨h2, fun a ha => absurd ha (by omega)⟩
    | succ k ih =>
      intro hk
      obtain ⟨q1, q2⟩ := ih (by omega)
      by_cases hki : k = i
      · subst hki
        rw [← clearTo_same]
        refine ⟨q1, fun a ha => ?_⟩
        by_cases h5 : a < k
        · exact q2 a h5
        · obtain rfl : a = k := by omega
          rw [clearTo_lead, h4]
          unfold Mat.one
          rw [if_pos rfl]
      · have q3 := q1.add hi (by rw [clearTo_lead]; exact h4) hki q2
        rw [clearTo_at, clearTo_lead] at q3
        have e2 := clearTo_step (col := i) (F := G) hki
        rw [e2] at q3
        refine ⟨q3.1, fun a ha => ?_⟩
        have := q3.2.2 a ha
        rw [← this, ← e2]
  obtain ⟨k1, k2⟩ := key n (Nat.le_refl _)
  exact k1.next k2

theorem red_info : (Try.prog.info? 91).map (·.size) = some 4 := by kernel_rfl

theorem red_one {r c l : Int} {v : Value} (h : v.oneCell' = true) : (#[.int .i64 r, .int .i64 c, v, .int .i64 l] : Array Value).all (·.oneCell') = true := by
  simp [h]
  exact ⟨rfl, rfl, rfl⟩

set_option maxHeartbeats 4000000 in
set_option maxRecDepth 100000 in
theorem matInverse_any (m : MV) (A : Option Addr) (k : Nat) (w : World) (hm : m.lies w A k) :
    Calls Try.prog 62 #[m.arg A k] w (MadeM w m.invE.1 m.invE.2) := by
  have M1 := fun W => matMay_any m A k W hm.2.1
  have hE1 := extNew w (.cells #[.int .i64 m.r, .int .i64 m.c, .slice A m.l.length k] 42)
  have hE2 := extNew (w.alloc (.cells #[.int .i64 m.r, .int .i64 m.c, .slice A m.l.length k] 42)) (.cells #[.int .i64 0, .int .i64 0, .slice none 0 0] 42)
  have hWa := (Whole.new w 42 #[.int .i64 m.r, .int .i64 m.c, .slice A m.l.length k]).ext hE2
  have hWr := Whole.new (w.alloc (.cells #[.int .i64 m.r, .int .i64 m.c, .slice A m.l.length k] 42)) 42 #[.int .i64 0, .int .i64 0, .slice none 0 0]
  have hE := hE1.trans hE2
  rw [World.size_alloc] at hWr
  clear hE1 hE2
  unfold MV.arg at M1 ⊢
  by_cases hmay : m.may = true
  · rw [hmay] at M1
    by_cases hrc : m.r = m.c
    · have HI := hide (fun (n : Nat) (hr : m.r = n) (v : Nat → UInt8) hv => MV.invE_flat (n := n) hmay hr (by rw [← hrc]; exact hr) (v := v) hv)
      have HV := hide (fun (X : Mat.M) hX => MV.invE_of hmay hrc (X := X) hX)
      obtain ⟨q1, q2, q3, q4, q5⟩ := MV.may_iff.1 hmay
      have HF := hide (show ∀ i j, m.at i j = m.l.getD (i * m.c.toNat + j) 0 from fun _ _ => rfl)
      generalize m.invE = res at *
      generalize m.at = fa at *
      clear hmay
      obtain ⟨mr, mc, ml⟩ := m
      dsimp only at *
      subst hrc
      obtain ⟨n, rfl⟩ := Int.eq_ofNat_of_zero_le q1
      simp only [Int.toNat_natCast] at *
      have hn : n ≤ 255 := by omega
      have ml5 : ml.length = n * n := by omega
      have CB := fun W (hX : Ext w W) => beside_any (n := n) (k := k) (A := A) (l := ml) (fa := fa) (w := W) hn hm.2.2 ml5 (hX.bytes hm.1) HF.out
      have hne : ((n : Int) != (n : Int)) = false := by simp
      obtain ⟨c2, hc2⟩ : ∃ c2, c2 = 2 * n := ⟨_, rfl⟩
      rw [← hc2] at CB
      have hcb : c2 ≤ 510 := by omega
      have hcn : n ≤ c2 := by omega
      have HC2 := hide hc2
      unfold ownV matV at CB
      clear q1 q2 q3 q4 q5 ml5 hm HF hc2
      go_enter Try.func62, Try.ntmps62
      go_wp2_with (refine wpList_load_row rfl 42 (.tmp 6) rfl _ rfl _ _ _ _ hWa Try.underlying42 rfl mat_info ?_)
      refine (M1 _).mono ?_
      rintro e w2 ⟨rfl, hF2⟩
      have hE2 := hE.trans hF2
      have hWa2 := hWa.ext hF2
      have hWr2 := hWr.ext hF2
      have d0 := hWa2.at 0 (u := .int .i64 (n : Int)) rfl
      have d1 := hWa2.at 1 (u := .int .i64 (n : Int)) rfl
      clear M1 hF2 hWa hWr hE
      go_wp2_with (refine wpList_load_row rfl 42 (.tmp 1) rfl _ rfl _ _ _ _ hWa2 Try.underlying42 rfl mat_info ?_)
      refine (CB _ hE2).mono ?_
      rintro e w3 ⟨g, rfl, hM3, hF3⟩
      have hE3 := hE2.trans hF3
      have hW2 := Whole.new w3 91 #[.int .i64 0, .int .i64 0, .slice none 0 0, .int .i64 0]
      have hE4 := extNew w3 (.cells #[.int .i64 0, .int .i64 0, .slice none 0 0, .int .i64 0] 91)
      have hbase : w.heap.size + 1 < w2.heap.size := hWr2.lt
      have hgl := hM3.2.2.1
      have hgb := hM3.2.1
      go_wp2_with (refine wpList_storeW rfl 91 (.tmp 4) (.tmp 19) rfl rfl rfl hW2 rfl red_info (red_one rfl) ?_; intro w5 hW5 hG5 _; have hWa5 := (((hWa2.ext hF3).ext hE4).grown hG5 (by have := (hWa2.ext hF3).lt; omega)); have d15 := hWa5.at 1 (u := .int .i64 (n : Int)) rfl)
      have hWr5 := ((hWr2.ext hF3).ext hE4).grown hG5 (by have := (hWr2.ext hF3).lt; omega)
      have hE5 : Ext w w5 := Below.grown (hE3.trans hE4) hG5 (hE3.trans hE4).le (fun k hk => by cases hk; exact hE3.le)
      have hM5 : OwnM w5 w2.heap.size g n c2 (n * c2) (Mat.both n fa) := ⟨(Mod.ofRow (ob := none) hG5).own (hM3.1.ext hE4) (by simp [Value.ownBlock]; omega) (by simp [Classical.em]), hgb, by have := hE4.le; have := hG5.size; omega, Nat.le_refl _⟩
      obtain ⟨gr, hgr⟩ : ∃ gr, gr = w3.heap.size := ⟨_, rfl⟩
      rw [← hgr] at hW5 ⊢
      have hgrg : gr ≠ g := by omega
      have hgrb : w2.heap.size ≤ gr := by have := hF3.le; omega
      have hR5 : Red w5 gr g w2.heap.size n c2 (n * c2) 0 (Mat.both n fa) := ⟨hW5, hM5, hgrb, hgrg⟩
      clear hgr hG5 hE4 hW2 hM3 hF3 hE3 d0 d1 hWa2 hWr2 CB hM5 hW5 hgl
      go_loopw [22] (fun x wr => ∃ j : Nat, j ≤ n ∧ x = .int .i64 (j : Int) ∧ (∃ F, Red wr gr g w2.heap.size n c2 (n * c2) j F ∧ Mat.Inner n j fa F) ∧ Whole wr w.heap.size 42 #[.int .i64 n, .int .i64 n, .slice A ml.length k] ∧ Whole wr (w.heap.size + 1) 42 #[.int .i64 0, .int .i64 0, .slice none 0 0] ∧ Ext w wr) (fun x _ => n - (intOf x).toNat)
      case atStart => exact ⟨0, by omega, rfl, ⟨_, hR5, Mat.Inner.start n fa⟩, hWa5, hWr5, hE5⟩
      case round =>
        obtain ⟨j, hj, rfl, ⟨F, hR, hIn⟩, hWa, hWr, hEr⟩ := hrel
        by_cases hlt : j < n
        · have CL := lead_any hn hcb (col := j) (by omega) hj hR
          have HIn := hide hIn
          have HR := hide hR
          clear hIn hR
          go_wp2_with fail
          refine CL.mono ?_
          rintro e w6 (⟨rfl, hz, hE6⟩ | ⟨rfl, p, hp1, hp2, hz, hp0, hR6, hM6⟩)
          · have HK := hide (HIn.out.flat hlt hz)
            have hWr6 := hWr.ext hE6
            have hE06 := hEr.trans hE6
            clear hz CL
            go_wp2_with (refine wpList_storeW rfl 42 (.tmp 2) (.tmp 28) rfl rfl rfl hWr6 rfl mat_info (mat_one rfl) ?_; intro w7 hW7 hG7 _)
            refine bodyPost_ret (results_mat rfl _ rfl rfl hW7 rfl) rfl ?_
            obtain ⟨v, hv⟩ := HK.out
            rw [HI.out n rfl v hv]
            exact MadeM.zero 14 (Below.grown hE06 hG7 hE06.le (fun k hk => by cases hk; omega))
          · have HIn6 := hide (inner_lead HIn.out hlt hp1 hp2 hp0)
            have hWa6 := hM6.whole hWa (by omega) (by simp; omega)
            have hWr6 := hM6.whole hWr (by omega) (by simp; omega)
            have hE6 : Ext w w6 := Below.trans hEr (hM6.below hEr.le (by omega) (fun k hk => by cases hk; omega))
            clear hz hp0 CL hM6
            go_wp2
            go_roundw
            case rel => exact ⟨j + 1, by omega, by go_num, ⟨_, hR6, HIn6.out⟩, hWa6, hWr6, hE6⟩
            case measure => simp [intOf]; omega
        · obtain rfl : j = n := by omega
          have d0 := hR.1.at 0 (u := .int .i64 (j : Int)) rfl
          have d1 := hR.1.at 1 (u := .int .i64 (c2 : Int)) rfl
          have d2 := hR.1.at 2 (u := .slice (some ⟨g, 0, none⟩) (j * c2) (j * c2)) rfl
          have e1 := hWa.at 1 (u := .int .i64 (j : Int)) rfl
          have CF := from_any (col := j) (d := j) hn hcb (by rw [HC2.out]; omega) (by omega) hR.2.1
          have HX := hide (HV.out _ hIn.done)
          have HIn := hide hIn
          clear hIn hR
          unfold ownV matV at CF
          go_wp2_with fail
          refine CF.mono ?_
          rintro e w6 ⟨g2, rfl, hM6, hE6⟩
          have hWr6 := hWr.ext hE6
          have hE06 := hEr.trans hE6
          go_wp2_with (refine wpList_storeW rfl 42 (.tmp 2) (.tmp 34) rfl rfl rfl hWr6 rfl mat_info (mat_one rfl) ?_; intro w7 hW7 hG7 _)
          refine bodyPost_ret (results_mat rfl _ rfl rfl hW7 rfl) rfl ?_
          rw [HX.out]
          have hO7 := (Mod.ofRow (ob := none) hG7).own hM6.1 (by simp [Value.ownBlock]; have := hM6.2.1; have := hWr.lt; omega) (by simp [Classical.em])
          exact ⟨_, rfl, hO7.mono hEr.le, Below.grown hE06 hG7 hE06.le (fun k hk => by cases hk; omega)⟩
    · have HN := hide (MV.invE_not fun h => hrc h.2)
      have hne : (m.r != m.c) = true := by simpa using hrc
      clear hrc hmay
      go_enter Try.func62, Try.ntmps62
      go_wp2_with (refine wpList_load_row rfl 42 (.tmp 6) rfl _ rfl _ _ _ _ hWa Try.underlying42 rfl mat_info ?_)
      refine (M1 _).mono ?_
      rintro e w2 ⟨rfl, hF2⟩
      have hE2 := hE.trans hF2
      have hWa2 := hWa.ext hF2
      have hWr2 := hWr.ext hF2
      have d0 := hWa2.at 0 (u := .int .i64 m.r) rfl
      have d1 := hWa2.at 1 (u := .int .i64 m.c) rfl
      go_wp2_with (refine wpList_storeW rfl 42 (.tmp 2) (.tmp 16) rfl rfl rfl hWr2 rfl mat_info (mat_one rfl) ?_; intro w7 hW7 hG7 _)
      refine bodyPost_ret (results_mat rfl _ rfl rfl hW7 rfl) rfl ?_
      rw [HN.out]
      exact MadeM.zero 13 (Below.grown hE2 hG7 hE2.le (fun k hk => by cases hk; omega))
  · have HN := hide (MV.invE_not fun h => hmay h.1)
    rw [Bool.not_eq_true] at hmay
    rw [hmay] at M1
    clear hmay
    go_enter Try.func62, Try.ntmps62
    go_wp2_with (refine wpList_load_row rfl 42 (.tmp 6) rfl _ rfl _ _ _ _ hWa Try.underlying42 rfl mat_info ?_)
    refine (M1 _).mono ?_
    rintro e w2 ⟨rfl, hF2⟩
    have hE2 := hE.trans hF2
    have hWr2 := hWr.ext hF2
    go_wp2_with (refine wpList_storeW rfl 42 (.tmp 2) (.tmp 16) rfl rfl rfl hWr2 rfl mat_info (mat_one rfl) ?_; intro w7 hW7 hG7 _)
    refine bodyPost_ret (results_mat rfl _ rfl rfl hW7 rfl) rfl ?_
    rw [HN.out]
    exact MadeM.zero 13 (Below.grown hE2 hG7 hE2.le (fun k hk => by cases hk; omega))
end Go.Proofs.Ytbfkknoeaekajaa
