/- The document's Read of chapter 17. The document's Columns of chapter 17. The document's Same of chapter 9: two slices of numbers. The beginning of a slice of bytes; numbers of 64 bits. What the laws of chapter 17 ask of the program; the example; RecsChecks, RecsBytes, RecsGroups, RecsReads, RecsOne. RecsGroups, RecsReads, RecsOne, RecsBack. Lists of numbers of 64 bits without a sign: such a slice, the call's own, append of one. -/
import Derived.Test.YtkgkppblkdihkaaB01
import Derived.Test.YtkgkppblkdihkaaB02
import Derived.BigQuiet
import Derived.OpenShut
import Derived.Laws.OwnMore
import Derived.Maps.AppendAt
namespace Go.Proofs.Ytkgkppblkdihkaa
open Go.RowKit Rcs Num

theorem OwnRc.notKind {w : World} {base b : Nat} {v : Value} {l : List Rc} {t : TypeId} {cs : Array Value} (h : OwnRc w base v l) (hb : Whole w b t cs) (ht : t ≠ 42) : v.ownBlock ≠ some b := by
  intro e
  rcases h.2 with ⟨rfl, _⟩ | ⟨g', cap, cur, rfl, _, hg, _⟩
  · simp [Value.ownBlock] at e
  · simp only [Value.ownBlock, Option.some.injEq] at e
    subst e
    unfold Whole at hb
    rw [hb] at hg
    simp only [Option.some.injEq, Obj.cells.injEq] at hg
    exact ht hg.2.1
/-- The reader: a cursor, and what is read so far. -/
def RdSt (w W : World) (g : Nat) (b : List UInt8) (q : Nat) (e : Int) (v : Value) (L : List Rc) : Prop := RefC W w.heap.size g b q e ∧ OwnRc W w.heap.size v L ∧ Ext w W
section
variable {w W W' : World} {g q : Nat} {b : List UInt8} {e : Int} {v : Value} {L : List Rc}
theorem RdSt.ext (h : RdSt w W g b q e v L) (hE : Ext W W') : RdSt w W' g b q e v L := ⟨h.1.ext hE, h.2.1.ext hE, h.2.2.trans hE⟩
/-- A block that is made now lies apart. -/
theorem RdSt.fresh (h : RdSt w W g b q e v L) : W.heap.size ≠ g ∧ v.ownBlock ≠ some W.heap.size ∧ w.heap.size ≤ W.heap.size :=
  ⟨by have := h.1.lt; omega, fun hv => by have := (h.2.1.lt _ hv).2; omega, h.2.2.le⟩
theorem RdSt.cur {q' : Nat} {e' : Int} (h : RdSt w W g b q e v L) (hC : CurTo W w.heap.size g b q' e' W') : RdSt w W' g b q' e' v L := by
  have hne : v.ownBlock ≠ some g := by
    obtain ⟨x, hW, _⟩ := h.1
    exact h.2.1.notKind hW (by decide)
  exact ⟨hC.1, hC.2.ownRc h.2.1 hne (by cases hv : v.ownBlock <;> simp), Below.trans h.2.2 (hC.2.below h.2.2.le h.1.le (fun k hk => by cases hk))⟩
/-- What was read has grown. -/
theorem RdSt.grow {v' : Value} {L' : List Rc} (h : RdSt w W g b q e v L) (hO : OwnRc W' w.heap.size v' L') (hG : W.grownBy W' v.ownBlock) : RdSt w W' g b q e v' L' := by
  obtain ⟨⟨x, h1, h2, h3, h4, h5⟩, h6, h7⟩ := h
  have hg := h6.notKind h1 (by decide)
  refine ⟨⟨x, h1.ownGrown hG hg, World.ownsRow.kept h2 hG ?_, h3, h4, h5⟩, hO, Below.grown h7 hG h7.le (fun k hk => (h6.lt k hk).1)⟩
  cases hx : x.ownBlock with
  | none => exact .inl rfl
  | some k =>
    refine .inr fun e => ?_
    rcases h6.2 with ⟨rfl, _⟩ | ⟨gv, cap, cur, rfl, _, hv, _⟩
    · simp [Value.ownBlock] at e
    · simp only [Value.ownBlock, Option.some.injEq] at e
      subst e
      exact h2.notKind (show Whole W k 42 cur from hv) (by decide) hx
/-- A store into the record's block. -/
theorem RdSt.put {g2 : Nat} {cs : Array Value} (h : RdSt w W g b q e v L) (hW : Whole W g2 42 cs) (hG : W.grownBy W' (some g2)) (hF : g2 ≠ g ∧ v.ownBlock ≠ some g2 ∧ w.heap.size ≤ g2) : RdSt w W' g b q e v L := by
  obtain ⟨⟨x, h1, h2, h3, h4, h5⟩, h6, h7⟩ := h
  have hx := h2.notKind hW (by decide)
  refine ⟨⟨x, h1.grown hG (fun e => hF.1 e.symm), World.ownsRow.kept h2 hG ?_, h3, h4, h5⟩, h6.kept hG (.inr hF.2.1), Below.grown h7 hG h7.le (fun k hk => by cases hk; exact hF.2.2)⟩
  cases hv : x.ownBlock with
  | none => exact .inl rfl
  | some k => exact .inr (fun e => hx (by rw [hv, e]))
end
/-- Where a cursor stands, as its cell tells. -/
def curPlace (W : World) (g : Nat) : Nat := match W.cell? ⟨g, 1, none⟩ with
  | some v => (intOf v).toNat
  | none => 0
theorem RefC.place {W : World} {base g q : Nat} {b : List UInt8} {e : Int} (h : RefC W base g b q e) : curPlace W g = q := by
  obtain ⟨_, _, _, h1, _⟩ := h.cells
  unfold curPlace
  rw [h1]
  simp [intOf]
theorem RefC.err {W : World} {base g q : Nat} {b : List UInt8} {e : Int} (h : RefC W base g b q e) : W.cell? ⟨g, 2, none⟩ = some (.int .i64 e) := by
  obtain ⟨_, _, _, _, h2, _⟩ := h.cells
  exact h2
/-- What was read so far, and what comes. -/
def Rcs.comb (L : List Rc) (r : List Rc × Int) : List Rc × Int := if r.2 ≠ 0 then ([], r.2) else (L ++ r.1, 0)
theorem Rcs.comb_end {whole : Bool} {b : List UInt8} {q f : Nat} (L : List Rc) (h : b.length ≤ q) : comb L (readF whole b f q) = (L, 0) := by
  cases f with
  | zero => simp [comb, readF]
  | succ f => rw [readF, if_pos h]; simp [comb]
theorem Rcs.comb_bad {whole : Bool} {b : List UInt8} {q f : Nat} (L : List Rc) (h : q < b.length) (he : (recR whole b q).2.2 ≠ 0) : comb L (readF whole b (f + 1) q) = ([], (recR whole b q).2.2) := by
  rw [readF, if_neg (by omega), if_pos he]
  unfold comb
  rw [if_pos he]
theorem Rcs.comb_next {whole : Bool} {b : List UInt8} {q f : Nat} (L : List Rc) (h : q < b.length) (he : (recR whole b q).2.2 = 0) : comb L (readF whole b (f + 1) q) = comb (L ++ [(recR whole b q).1]) (readF whole b f (recR whole b q).2.1) := by
  rw [readF, if_neg (by omega), if_neg (by omega)]
  unfold comb
  by_cases h2 : (readF whole b f (recR whole b q).2.1).2 = 0
  · rw [if_neg (show ¬ (readF whole b f (recR whole b q).2.1).2 ≠ 0 from fun h => h h2), if_neg (show ¬ (0 : Int) ≠ 0 by simp), if_neg (show ¬ (readF whole b f (recR whole b q).2.1).2 ≠ 0 from fun h => h h2)]
    simp
  · rw [if_pos h2, if_pos h2, if_pos h2]
theorem Rcs.comb_start (whole : Bool) (b : List UInt8) : readE whole b = comb [] (readF whole b b.length 0) := by
  have key : ∀ f q, (readF whole b f q).2 ≠ 0 → (readF whole b f q).1 = [] := fun f q h => by
    cases f with
    | zero => rfl
    | succ f =>
      rw [readF] at h ⊢
      split
      · rfl
      · split
        · rfl
        · split
          · rfl
          · rename_i h1 h2 h3
            rw [if_neg h1, if_neg h2, if_neg h3] at h
            exact absurd rfl h
  unfold comb readE
  by_cases h : (readF whole b b.length 0).2 = 0
  · rw [if_neg (by omega), List.nil_append, ← h]
  · rw [if_pos h, ← key _ _ h]
/-- A log and an error are told. -/
def MadeRc (w : World) (r : List Rc × Int) (e : Ending) (w' : World) : Prop := ∃ v, e = .returned (.tuple #[v, .int .i64 r.2]) ∧ OwnRc w' w.heap.size v r.1 ∧ Ext w w'

set_option maxHeartbeats 4000000 in
set_option maxRecDepth 10000 in
theorem refRead17_any (whole : Bool) (A : Option Addr) (n c : Nat) (b : List UInt8) (w : World) (h : Bytes w w.heap.size A n b) (hn : n ≤ 1000000) : Calls Try.prog 22 #[.bool whole, .slice A n c] w (MadeRc w (readE whole b)) := by
  have CN := refNew_any A n c b w hn h
  have hl := h.1
  have HS0 := hide (comb_start whole b)
  have HE0 := hide (fun (q f : Nat) (L : List Rc) (hq : b.length ≤ q) => comb_end (whole := whole) (f := f) L hq)
  have HBad := hide (fun (q f : Nat) (L : List Rc) (hq : q < b.length) (he : (recR whole b q).2.2 ≠ 0) => comb_bad (f := f) L hq he)
  have HNext := hide (fun (q f : Nat) (L : List Rc) (hq : q < b.length) (he : (recR whole b q).2.2 = 0) => comb_next (f := f) L hq he)
  have HOne := hide (fun (q : Nat) (he : (recR whole b q).2.2 = 0) => one_is (whole := whole) (b := b) (q := q) (r := (recR whole b q).1) (q' := (recR whole b q).2.1) (by rw [← he]))
  have HBl := hide (show b.length ≤ 1000000 by omega)
  unfold MadeRc
  generalize hres : readE whole b = res at *
  clear h hn hl
  cases whole with
  | false =>
    go_enter Try.func22, Try.ntmps22
    go_wp2_with fail
    refine CN.mono ?_
    rintro e wn ⟨g, rfl, hC, hE⟩
    have HSn := hide (show RdSt w wn g b 0 0 (.slice none 0 0) [] from ⟨hC, OwnRc.nil _ _, hE⟩)
    clear hC hE CN
    go_wp2
    go_loopw [7] (fun v wr => ∃ (q f : Nat) (L : List Rc), RdSt w wr g b q 0 v L ∧ L.length ≤ q ∧ b.length ≤ q + f ∧ q ≤ b.length ∧ res = comb L (readF false b f q)) (fun _ wr => b.length - curPlace wr g)
    case atStart => exact ⟨0, b.length, [], HSn.out, by simp, by omega, by omega, HS0.out⟩
    case round =>
      clear HSn HS0 hres
      obtain ⟨q, f, L, hS, hLq, hf, hq, hrs⟩ := hrel
      have HS := hide hS
      have HRes := hide hrs
      clear hS hrs
      by_cases hlt : q < b.length
      · have hlI : (0 : Int) < ((b.length - q : Nat) : Int) := by omega
        obtain ⟨s1, s2, s3, hs⟩ : ∃ s1 s2 s3, srcR false b q = (s1, s2, s3) := ⟨_, _, _, rfl⟩
        obtain ⟨x1, x2, x3, hx⟩ : ∃ x1 x2 x3, txtR false b q = (x1, x2, x3) := ⟨_, _, _, rfl⟩
        have HX1 := hide (show textR b q 0 4000 = (s1, s2, s3) from hs)
        have HX2 := hide (show textR b s2 s3 4000 = (x1, x2, x3) by unfold txtR at hx; rw [hs] at hx; exact hx)
        obtain ⟨t1, ht1⟩ : ∃ t1 : Nat, t1 = 0 := ⟨_, rfl⟩
        have hrec : recR false b q = (⟨0, 0, s1, x1⟩, x2, x3) := by unfold recR; rw [hs, hx]; rfl
        obtain ⟨f', rfl⟩ : ∃ f', f = f' + 1 := ⟨f - 1, by omega⟩
        have hLl : L.length ≤ 1000000 := by have := HBl.out; omega
        by_cases he : x3 = 0
        · subst he
          have HR := hide (show res = comb (L ++ [⟨0, 0, s1, x1⟩]) (readF false b f' x2) by rw [HRes.out, HNext.out q f' L hlt (by rw [hrec]), hrec])
          have h1 := HOne.out q (by rw [hrec])
          rw [hrec] at h1
          obtain ⟨hq2, hx2, -⟩ := h1
          clear hrec hs hx hlt ht1
          have CL := curLeft_any HS.out.1
          go_wp2_with fail
          refine CL.mono ?_
          rintro e w1 ⟨rfl, hQ1⟩
          have HS1 := hide (HS.out.ext hQ1.ext)
          have HG := hide HS1.out.fresh
          have HW2 := hide (Whole.new w1 42 #[.int .u64 0, .int .u8 0, .string ⟨#[]⟩, .string ⟨#[]⟩])
          have HS2 := hide (HS1.out.ext (extNew w1 (.cells #[.int .u64 0, .int .u8 0, .string ⟨#[]⟩, .string ⟨#[]⟩] 42)))
          clear hQ1 CL
          go_wp2_with fail
          generalize hw2 : w1.alloc (.cells #[.int .u64 0, .int .u8 0, .string ⟨#[]⟩, .string ⟨#[]⟩] 42) = w2 at *
          generalize w1.heap.size = g2 at *
          clear hw2
          have CC := curText_any HS2.out.1 4000 (by omega)
          rw [HX1.out] at CC
          dsimp only at CC
          refine CC.mono ?_
          rintro e w3 ⟨rfl, hC⟩
          have HW3 := hide (hC.2.whole HW2.out HG.out.1 (by simp))
          have HS3 := hide (HS2.out.cur hC)
          clear hC CC
          go_wp2_with (refine wpList_storeC rfl 9 (.tmp 24) (.tmp 23) rfl #[.int .u64 0, .int .u8 0, .string ⟨s1.toArray⟩, .string ⟨#[]⟩] rfl rfl HW3.out (by simp) (by kernel_rfl) rfl rfl rfl ?_; intro w4 hW hG; have HS4 := hide (HS3.out.put HW3.out hG HG.out); have HW4 := hide hW; clear hW hG)
          have CC := curText_any HS4.out.1 4000 (by omega)
          rw [HX2.out] at CC
          dsimp only at CC
          refine CC.mono ?_
          rintro e w5 ⟨rfl, hC⟩
          have HW5 := hide (hC.2.whole HW4.out HG.out.1 (by simp))
          have HS5 := hide (HS4.out.cur hC)
          clear hC CC
          go_wp2_with (first | (refine wpList_storeC rfl 9 (.tmp 27) (.tmp 26) rfl #[.int .u64 0, .int .u8 0, .string ⟨s1.toArray⟩, .string ⟨x1.toArray⟩] rfl rfl HW5.out (by simp) (by kernel_rfl) rfl rfl rfl ?_; intro w6 hW hG; have HS6 := hide (HS5.out.put HW5.out hG HG.out); have HW6 := hide hW; clear hW hG; have ce := HS6.out.1.err; have k0 := HW6.out.at 0 (u := .int .u64 0) rfl; have k1 := HW6.out.at 1 (u := .int .u8 0) rfl; have k2 := HW6.out.at 2 (u := .string ⟨s1.toArray⟩) rfl; have k3 := HW6.out.at 3 (u := .string ⟨x1.toArray⟩) rfl) | (at_builtin; refine wpList_appRc rfl (.tmp 37) (.tmp 39) rfl rfl ⟨0, 0, s1, x1⟩ (HS6.out.2.1.ext (extNew w6 _)) rfl hLl HS6.out.2.2.le ?_; intro vn wz hO hG _; have HSz := hide ((HS6.out.ext (extNew w6 _)).grow hO hG); clear hO hG))
          go_roundw
          case rel => exact ⟨x2, f', L ++ [⟨0, 0, s1, x1⟩], HSz.out, by rw [List.length_append, List.length_singleton]; omega, by omega, hx2, HR.out⟩
          case measure => rw [HSz.out.1.place, HS.out.1.place]; omega
        · have heb : (x3 != 0) = true := by simpa using he
          have HR := hide (show res = ([], x3) by rw [HRes.out, HBad.out q f' L hlt (by rw [hrec]; exact he), hrec])
          clear hrec hs hx hlt he ht1
          have CL := curLeft_any HS.out.1
          go_wp2_with fail
          refine CL.mono ?_
          rintro e w1 ⟨rfl, hQ1⟩
          have HS1 := hide (HS.out.ext hQ1.ext)
          have HG := hide HS1.out.fresh
          have HW2 := hide (Whole.new w1 42 #[.int .u64 0, .int .u8 0, .string ⟨#[]⟩, .string ⟨#[]⟩])
          have HS2 := hide (HS1.out.ext (extNew w1 (.cells #[.int .u64 0, .int .u8 0, .string ⟨#[]⟩, .string ⟨#[]⟩] 42)))
          clear hQ1 CL
          go_wp2_with fail
          generalize hw2 : w1.alloc (.cells #[.int .u64 0, .int .u8 0, .string ⟨#[]⟩, .string ⟨#[]⟩] 42) = w2 at *
          generalize w1.heap.size = g2 at *
          clear hw2
          have CC := curText_any HS2.out.1 4000 (by omega)
          rw [HX1.out] at CC
          dsimp only at CC
          refine CC.mono ?_
          rintro e w3 ⟨rfl, hC⟩
          have HW3 := hide (hC.2.whole HW2.out HG.out.1 (by simp))
          have HS3 := hide (HS2.out.cur hC)
          clear hC CC
          go_wp2_with (refine wpList_storeC rfl 9 (.tmp 24) (.tmp 23) rfl #[.int .u64 0, .int .u8 0, .string ⟨s1.toArray⟩, .string ⟨#[]⟩] rfl rfl HW3.out (by simp) (by kernel_rfl) rfl rfl rfl ?_; intro w4 hW hG; have HS4 := hide (HS3.out.put HW3.out hG HG.out); have HW4 := hide hW; clear hW hG)
          have CC := curText_any HS4.out.1 4000 (by omega)
          rw [HX2.out] at CC
          dsimp only at CC
          refine CC.mono ?_
          rintro e w5 ⟨rfl, hC⟩
          have HW5 := hide (hC.2.whole HW4.out HG.out.1 (by simp))
          have HS5 := hide (HS4.out.cur hC)
          clear hC CC
          go_wp2_with (refine wpList_storeC rfl 9 (.tmp 27) (.tmp 26) rfl #[.int .u64 0, .int .u8 0, .string ⟨s1.toArray⟩, .string ⟨x1.toArray⟩] rfl rfl HW5.out (by simp) (by kernel_rfl) rfl rfl rfl ?_; intro w6 hW hG; have HS6 := hide (HS5.out.put HW5.out hG HG.out); have HW6 := hide hW; clear hW hG; have ce := HS6.out.1.err)
          go_quiet (fail)
          go_wp2
          go_ret2
          rw [HR.out]
          exact ⟨_, rfl, OwnRc.nil _ _, HS6.out.2.2.drewN _⟩
      · have hlI : ¬ (0 : Int) < ((b.length - q : Nat) : Int) := by omega
        have hr := HRes.out
        rw [HE0.out q f L (by omega)] at hr
        subst hr
        have CL := curLeft_any HS.out.1
        clear hlt
        go_wp2_with fail
        refine CL.mono ?_
        rintro e w1 ⟨rfl, hQ1⟩
        have HS1 := hide (HS.out.ext hQ1.ext)
        clear CL hQ1
        go_wp2
        go_ret2
        exact ⟨_, rfl, HS1.out.2.1, HS1.out.2.2⟩
  | true =>
    go_enter Try.func22, Try.ntmps22
    go_wp2_with fail
    refine CN.mono ?_
    rintro e wn ⟨g, rfl, hC, hE⟩
    have HSn := hide (show RdSt w wn g b 0 0 (.slice none 0 0) [] from ⟨hC, OwnRc.nil _ _, hE⟩)
    clear hC hE CN
    go_wp2
    go_loopw [7] (fun v wr => ∃ (q f : Nat) (L : List Rc), RdSt w wr g b q 0 v L ∧ L.length ≤ q ∧ b.length ≤ q + f ∧ q ≤ b.length ∧ res = comb L (readF true b f q)) (fun _ wr => b.length - curPlace wr g)
    case atStart => exact ⟨0, b.length, [], HSn.out, by simp, by omega, by omega, HS0.out⟩
    case round =>
      clear HSn HS0 hres
      obtain ⟨q, f, L, hS, hLq, hf, hq, hrs⟩ := hrel
      have HS := hide hS
      have HRes := hide hrs
      clear hS hrs
      by_cases hlt : q < b.length
      · have hlI : (0 : Int) < ((b.length - q : Nat) : Int) := by omega
        obtain ⟨t1, t2, t3, ht⟩ : ∃ t1 t2 t3, timeR true b q = (t1, t2, t3) := ⟨_, _, _, rfl⟩
        obtain ⟨lc, l2, l3, hl⟩ : ∃ (c : UInt8) (l2 : Nat) (l3 : Int), lvR true b q = (c.toNat, l2, l3) := ⟨_, _, _, rfl⟩
        obtain ⟨s1, s2, s3, hs⟩ : ∃ s1 s2 s3, srcR true b q = (s1, s2, s3) := ⟨_, _, _, rfl⟩
        obtain ⟨x1, x2, x3, hx⟩ : ∃ x1 x2 x3, txtR true b q = (x1, x2, x3) := ⟨_, _, _, rfl⟩
        have HT := hide (show numR b q 0 = (t1, t2, t3) from ht)
        have HL := hide (show byteR b t2 t3 = (lc.toNat, l2, l3) by unfold lvR at hl; rw [ht] at hl; exact hl)
        have HX1 := hide (show textR b l2 l3 4000 = (s1, s2, s3) by unfold srcR at hs; rw [hl] at hs; exact hs)
        have HX2 := hide (show textR b s2 s3 4000 = (x1, x2, x3) by unfold txtR at hx; rw [hs] at hx; exact hx)
        have hrec : recR true b q = (⟨t1, lc, s1, x1⟩, x2, x3) := by unfold recR; rw [ht, hl, hs, hx]; simp
        obtain ⟨r, hr⟩ : ∃ r : Rc, r = ⟨t1, lc, s1, x1⟩ := ⟨_, rfl⟩
        obtain ⟨f', rfl⟩ : ∃ f', f = f' + 1 := ⟨f - 1, by omega⟩
        have hLl : L.length ≤ 1000000 := by have := HBl.out; omega
        by_cases he : x3 = 0
        · subst he
          have HR := hide (show res = comb (L ++ [⟨t1, lc, s1, x1⟩]) (readF true b f' x2) by rw [HRes.out, HNext.out q f' L hlt (by rw [hrec]), hrec])
          have h1 := HOne.out q (by rw [hrec])
          rw [hrec] at h1
          obtain ⟨hq2, hx2, -⟩ := h1
          clear hrec hs hx hlt ht hl hr
          have CL := curLeft_any HS.out.1
          go_wp2_with fail
          refine CL.mono ?_
          rintro e w1 ⟨rfl, hQ1⟩
          have HS1 := hide (HS.out.ext hQ1.ext)
          have HG := hide HS1.out.fresh
          have HW2 := hide (Whole.new w1 42 #[.int .u64 0, .int .u8 0, .string ⟨#[]⟩, .string ⟨#[]⟩])
          have HS2 := hide (HS1.out.ext (extNew w1 (.cells #[.int .u64 0, .int .u8 0, .string ⟨#[]⟩, .string ⟨#[]⟩] 42)))
          clear hQ1 CL
          go_wp2_with fail
          generalize hw2 : w1.alloc (.cells #[.int .u64 0, .int .u8 0, .string ⟨#[]⟩, .string ⟨#[]⟩] 42) = w2 at *
          generalize w1.heap.size = g2 at *
          clear hw2
          have CC := curNum_any HS2.out.1
          rw [HT.out] at CC
          dsimp only at CC
          refine CC.mono ?_
          rintro e w3 ⟨rfl, hC⟩
          have HW3 := hide (hC.2.whole HW2.out HG.out.1 (by simp))
          have HS3 := hide (HS2.out.cur hC)
          clear hC CC
          go_wp2_with (refine wpList_storeC rfl 40 (.tmp 18) (.tmp 17) rfl #[.int .u64 (t1 : Int), .int .u8 0, .string ⟨#[]⟩, .string ⟨#[]⟩] rfl rfl HW3.out (by simp) (by kernel_rfl) rfl rfl rfl ?_; intro w4 hW hG; have HS4 := hide (HS3.out.put HW3.out hG HG.out); have HW4 := hide hW; clear hW hG)
          have CC := curByte_any HS4.out.1
          rw [HL.out] at CC
          dsimp only at CC
          refine CC.mono ?_
          rintro e w5 ⟨rfl, hC⟩
          have HW5 := hide (hC.2.whole HW4.out HG.out.1 (by simp))
          have HS5 := hide (HS4.out.cur hC)
          clear hC CC
          go_wp2_with (refine wpList_storeC rfl 5 (.tmp 21) (.tmp 20) rfl #[.int .u64 (t1 : Int), .int .u8 (lc.toNat : Int), .string ⟨#[]⟩, .string ⟨#[]⟩] rfl rfl HW5.out (by simp) (by kernel_rfl) rfl rfl rfl ?_; intro w6 hW hG; have HS6 := hide (HS5.out.put HW5.out hG HG.out); have HW6 := hide hW; clear hW hG)
          have CC := curText_any HS6.out.1 4000 (by omega)
          rw [HX1.out] at CC
          dsimp only at CC
          refine CC.mono ?_
          rintro e w7 ⟨rfl, hC⟩
          have HW7 := hide (hC.2.whole HW6.out HG.out.1 (by simp))
          have HS7 := hide (HS6.out.cur hC)
          clear hC CC
          go_wp2_with (refine wpList_storeC rfl 9 (.tmp 24) (.tmp 23) rfl #[.int .u64 (t1 : Int), .int .u8 (lc.toNat : Int), .string ⟨s1.toArray⟩, .string ⟨#[]⟩] rfl rfl HW7.out (by simp) (by kernel_rfl) rfl rfl rfl ?_; intro w8 hW hG; have HS8 := hide (HS7.out.put HW7.out hG HG.out); have HW8 := hide hW; clear hW hG)
          have CC := curText_any HS8.out.1 4000 (by omega)
          rw [HX2.out] at CC
          dsimp only at CC
          refine CC.mono ?_
          rintro e w9 ⟨rfl, hC⟩
          have HW9 := hide (hC.2.whole HW8.out HG.out.1 (by simp))
          have HS9 := hide (HS8.out.cur hC)
          clear hC CC
          go_wp2_with (first | (refine wpList_storeC rfl 9 (.tmp 27) (.tmp 26) rfl #[.int .u64 (t1 : Int), .int .u8 (lc.toNat : Int), .string ⟨s1.toArray⟩, .string ⟨x1.toArray⟩] rfl rfl HW9.out (by simp) (by kernel_rfl) rfl rfl rfl ?_; intro w10 hW hG; have HS10 := hide (HS9.out.put HW9.out hG HG.out); have HW10 := hide hW; clear hW hG; have ce := HS10.out.1.err; have k0 := HW10.out.at 0 (u := .int .u64 (t1 : Int)) rfl; have k1 := HW10.out.at 1 (u := .int .u8 (lc.toNat : Int)) rfl; have k2 := HW10.out.at 2 (u := .string ⟨s1.toArray⟩) rfl; have k3 := HW10.out.at 3 (u := .string ⟨x1.toArray⟩) rfl) | (at_builtin; refine wpList_appRc rfl (.tmp 37) (.tmp 39) rfl rfl ⟨t1, lc, s1, x1⟩ (HS10.out.2.1.ext (extNew w10 _)) rfl hLl HS10.out.2.2.le ?_; intro vn wz hO hG _; have HSz := hide ((HS10.out.ext (extNew w10 _)).grow hO hG); clear hO hG))
          go_roundw
          case rel => exact ⟨x2, f', L ++ [⟨t1, lc, s1, x1⟩], HSz.out, by rw [List.length_append, List.length_singleton]; omega, by omega, hx2, HR.out⟩
          case measure => rw [HSz.out.1.place, HS.out.1.place]; omega
        · have heb : (x3 != 0) = true := by simpa using he
          have HR := hide (show res = ([], x3) by rw [HRes.out, HBad.out q f' L hlt (by rw [hrec]; exact he), hrec])
          clear hrec hs hx hlt he ht hl hr
          have CL := curLeft_any HS.out.1
          go_wp2_with fail
          refine CL.mono ?_
          rintro e w1 ⟨rfl, hQ1⟩
          have HS1 := hide (HS.out.ext hQ1.ext)
          have HG := hide HS1.out.fresh
          have HW2 := hide (Whole.new w1 42 #[.int .u64 0, .int .u8 0, .string ⟨#[]⟩, .string ⟨#[]⟩])
          have HS2 := hide (HS1.out.ext (extNew w1 (.cells #[.int .u64 0, .int .u8 0, .string ⟨#[]⟩, .string ⟨#[]⟩] 42)))
          clear hQ1 CL
          go_wp2_with fail
          generalize hw2 : w1.alloc (.cells #[.int .u64 0, .int .u8 0, .string ⟨#[]⟩, .string ⟨#[]⟩] 42) = w2 at *
          generalize w1.heap.size = g2 at *
          clear hw2
          have CC := curNum_any HS2.out.1
          rw [HT.out] at CC
          dsimp only at CC
          refine CC.mono ?_
          rintro e w3 ⟨rfl, hC⟩
          have HW3 := hide (hC.2.whole HW2.out HG.out.1 (by simp))
          have HS3 := hide (HS2.out.cur hC)
          clear hC CC
          go_wp2_with (refine wpList_storeC rfl 40 (.tmp 18) (.tmp 17) rfl #[.int .u64 (t1 : Int), .int .u8 0, .string ⟨#[]⟩, .string ⟨#[]⟩] rfl rfl HW3.out (by simp) (by kernel_rfl) rfl rfl rfl ?_; intro w4 hW hG; have HS4 := hide (HS3.out.put HW3.out hG HG.out); have HW4 := hide hW; clear hW hG)
          have CC := curByte_any HS4.out.1
          rw [HL.out] at CC
          dsimp only at CC
          refine CC.mono ?_
          rintro e w5 ⟨rfl, hC⟩
          have HW5 := hide (hC.2.whole HW4.out HG.out.1 (by simp))
          have HS5 := hide (HS4.out.cur hC)
          clear hC CC
          go_wp2_with (refine wpList_storeC rfl 5 (.tmp 21) (.tmp 20) rfl #[.int .u64 (t1 : Int), .int .u8 (lc.toNat : Int), .string ⟨#[]⟩, .string ⟨#[]⟩] rfl rfl HW5.out (by simp) (by kernel_rfl) rfl rfl rfl ?_; intro w6 hW hG; have HS6 := hide (HS5.out.put HW5.out hG HG.out); have HW6 := hide hW; clear hW hG)
          have CC := curText_any HS6.out.1 4000 (by omega)
          rw [HX1.out] at CC
          dsimp only at CC
          refine CC.mono ?_
          rintro e w7 ⟨rfl, hC⟩
          have HW7 := hide (hC.2.whole HW6.out HG.out.1 (by simp))
          have HS7 := hide (HS6.out.cur hC)
          clear hC CC
          go_wp2_with (refine wpList_storeC rfl 9 (.tmp 24) (.tmp 23) rfl #[.int .u64 (t1 : Int), .int .u8 (lc.toNat : Int), .string ⟨s1.toArray⟩, .string ⟨#[]⟩] rfl rfl HW7.out (by simp) (by kernel_rfl) rfl rfl rfl ?_; intro w8 hW hG; have HS8 := hide (HS7.out.put HW7.out hG HG.out); have HW8 := hide hW; clear hW hG)
          have CC := curText_any HS8.out.1 4000 (by omega)
          rw [HX2.out] at CC
          dsimp only at CC
          refine CC.mono ?_
          rintro e w9 ⟨rfl, hC⟩
          have HW9 := hide (hC.2.whole HW8.out HG.out.1 (by simp))
          have HS9 := hide (HS8.out.cur hC)
          clear hC CC
          go_wp2_with (refine wpList_storeC rfl 9 (.tmp 27) (.tmp 26) rfl #[.int .u64 (t1 : Int), .int .u8 (lc.toNat : Int), .string ⟨s1.toArray⟩, .string ⟨x1.toArray⟩] rfl rfl HW9.out (by simp) (by kernel_rfl) rfl rfl rfl ?_; intro w10 hW hG; have HS10 := hide (HS9.out.put HW9.out hG HG.out); have HW10 := hide hW; clear hW hG; have ce := HS10.out.1.err)
          go_quiet (fail)
          go_wp2
          go_ret2
          rw [HR.out]
          exact ⟨_, rfl, OwnRc.nil _ _, HS10.out.2.2.drewN _⟩
      · have hlI : ¬ (0 : Int) < ((b.length - q : Nat) : Int) := by omega
        have hr := HRes.out
        rw [HE0.out q f L (by omega)] at hr
        subst hr
        have CL := curLeft_any HS.out.1
        clear hlt
        go_wp2_with fail
        refine CL.mono ?_
        rintro e w1 ⟨rfl, hQ1⟩
        have HS1 := hide (HS.out.ext hQ1.ext)
        clear CL hQ1
        go_wp2
        go_ret2
        exact ⟨_, rfl, HS1.out.2.1, HS1.out.2.2⟩
end Go.Proofs.Ytkgkppblkdihkaa

namespace Go.Proofs.Ytkgkppblkdihkaa
open Go.RowKit Rcs Num

theorem Rcs.times_step {l : List Rc} {i was : Nat} (h : i < l.length) : timesB was (l.drop i) = enc (zig (sub64 (l.getD i default).time was)) ++ timesB (l.getD i default).time (l.drop (i + 1)) := by rw [rc_drop h, timesB]
theorem Rcs.levels_step {l : List Rc} {i : Nat} {p : Option UInt8} (h : i < l.length) : levelsB p (l.drop i) = (if p = some (l.getD i default).lv then [] else (l.getD i default).lv :: enc (rowN (l.getD i default).lv (l.drop (i + 1)) + 1)) ++ levelsB (some (l.getD i default).lv) (l.drop (i + 1)) := by rw [rc_drop h, levelsB]
theorem Rcs.run_step {l : List Rc} {i : Nat} {x : UInt8} (h : i < l.length) : rowN x (l.drop i) = if (l.getD i default).lv = x then rowN x (l.drop (i + 1)) + 1 else 0 := by rw [rc_drop h, rowN]
theorem Rcs.times_len : ∀ (l : List Rc) (was : Nat), (timesB was l).length ≤ 10 * l.length
  | [], _ => by simp [timesB]
  | r :: t, was => by
    have h1 := times_len t r.time
    have h2 := enc_len (zig (sub64 r.time was))
    rw [timesB, List.length_append, List.length_cons]
    omega
theorem Rcs.levels_len : ∀ (l : List Rc) (p : Option UInt8), (levelsB p l).length ≤ 11 * l.length
  | [], _ => by simp [levelsB]
  | r :: t, p => by
    have h1 := levels_len t (some r.lv)
    have h2 := enc_len (rowN r.lv t + 1)
    rw [levelsB, List.length_append, List.length_cons]
    split
    · simp; omega
    · simp; omega
/-- The level ahead of a place. -/
def Rcs.before (l : List Rc) (i : Nat) : Option UInt8 := if i = 0 then none else some (l.getD (i - 1) default).lv
theorem sub64_wrap {a b : Nat} (_ : a < 2 ^ 64) (hb : b < 2 ^ 64) : IntKind.u64.wrap ((a : Int) - (b : Int)) = (sub64 a b : Int) := by rw [IntKind.wrap_u64]; unfold sub64; omega

set_option maxHeartbeats 4000000 in
set_option maxRecDepth 10000 in
theorem refColumns17_any (A : Option Addr) (n c : Nat) (l : List Rc) (w : World) (h : RcsAt w w.heap.size A n l) (hn : n ≤ 20000) : Calls Try.prog 28 #[.slice A n c] w (MadeB w (columnsE l)) := by
  have hl := h.1
  have HOk := hide (fun (i : Nat) (hi : i < n) => (h.okAt hi).1)
  have HTs := hide (fun (i was : Nat) (hi : i < n) => times_step (l := l) (i := i) (was := was) (by omega))
  have HLs := hide (fun (i : Nat) (p : Option UInt8) (hi : i < n) => levels_step (l := l) (i := i) (p := p) (by omega))
  have HRn := hide (fun (i : Nat) (x : UInt8) (hi : i < n) => run_step (l := l) (i := i) (x := x) (by omega))
  have HRe := hide (show ∀ (i : Nat) (x : UInt8), n ≤ i → rowN x (l.drop i) = 0 from fun i x hi => by rw [List.drop_eq_nil_of_le (by omega)]; rfl)
  have HTe := hide (show ∀ was, timesB was (l.drop n) = [] from fun was => by rw [List.drop_eq_nil_of_le (by omega)]; rfl)
  have HLe := hide (show ∀ p, levelsB p (l.drop n) = [] from fun p => by rw [List.drop_eq_nil_of_le (by omega)]; rfl)
  have HT0 := hide (show timesB 0 l = [] ++ timesB 0 (l.drop 0) from rfl)
  have HL0 := hide (show levelsB none l = [] ++ levelsB (before l 0) (l.drop 0) from rfl)
  have HTl := hide (show (timesB 0 l).length ≤ 200000 by have := times_len l 0; omega)
  have HLl := hide (show (levelsB none l).length ≤ 220000 by have := levels_len l none; omega)
  have HBe := hide (show ∀ i, before l (i + 1) = some (l.getD i default).lv from fun i => by simp [before])
  have HB0 := hide (show before l 0 = none from rfl)
  have HA := hide h
  have HD := hide (show columnsE l = timesB 0 l ++ levelsB none l from rfl)
  unfold MadeB
  rw [HD.out]
  obtain ⟨T, hT⟩ : ∃ T, T = timesB 0 l := ⟨_, rfl⟩
  obtain ⟨V, hV⟩ : ∃ V, V = levelsB none l := ⟨_, rfl⟩
  rw [← hT] at HT0 HTl ⊢
  rw [← hV] at HL0 HLl ⊢
  clear h hl hT hV HD
  go_enter Try.func28, Try.ntmps28
  go_wp2
  go_loopw [5, 3, 4] (fun x v y wr => ∃ (i was : Nat) (X : List UInt8), i ≤ n ∧ x = .int .i64 (i : Int) ∧ y = .int .u64 (was : Int) ∧ was < 2 ^ 64 ∧ OwnB wr w.heap.size v X ∧ T = X ++ timesB was (l.drop i) ∧ Ext w wr) (fun x _ _ _ => n - (intOf x).toNat)
  case atStart => exact ⟨0, 0, [], by omega, rfl, rfl, by decide, OwnB.nil _ _, HT0.out, Ext.refl _⟩
  case round =>
    clear HT0
    obtain ⟨i, was, X, hi, rfl, rfl, hwas, hO, hT, hE⟩ := hrel
    have HO := hide hO
    have HE := hide hE
    by_cases hlt : i < n
    · have hiI : (i : Int) < (n : Int) := by omega
      rcases (HA.out.later hE).2.1 with hn0 | ⟨b1, o1, rfl, _, hc1⟩
      · omega
      have HCell := hide (show ∀ W, Ext w W → RcAt W b1 (o1 + i * 4) (l.getD i default) from fun W hW => by
        rcases (HA.out.later hW).2.1 with h0 | ⟨b2, o2, h2, _, hc2⟩
        · omega
        · simp only [Option.some.injEq, Addr.mk.injEq, and_true] at h2
          obtain ⟨rfl, rfl⟩ := h2
          exact hc2 i hlt)
      obtain ⟨e0, -, -, -⟩ := hc1 i hlt
      rw [HTs.out i was hlt] at hT
      have ht64 := HOk.out i hlt
      obtain ⟨r, hr⟩ : ∃ r, r = l.getD i default := ⟨_, rfl⟩
      rw [← hr] at e0 hT ht64 HCell
      have HTi := hide hT
      have hXl : X.length ≤ 200000 := by have h1 := HTl.out; rw [hT, List.length_append] at h1; omega
      have hsw := sub64_wrap ht64 hwas
      have hs64 := sub_lt r.time was
      have CZ := fun W => refZig_any (sub64 r.time was) W (by omega)
      have CN := fun W => refNum_any (zig (sub64 r.time was)) W (zig_lt hs64)
      obtain ⟨d, hd⟩ : ∃ d, d = sub64 r.time was := ⟨_, rfl⟩
      rw [← hd] at hsw CZ CN HTi
      obtain ⟨Z, hZ⟩ : ∃ Z, Z = enc (zig d) := ⟨_, rfl⟩
      have hZl : Z.length ≤ 10 := by rw [hZ]; exact enc_len _
      rw [← hZ] at CN HTi
      generalize zig d = zz at *
      clear hc1 hr hT hd hZ hO hE hwas
      go_wp2_with fail
      refine (CZ _).mono ?_
      rintro e w' ⟨rfl, rfl⟩
      go_wp2_with fail
      refine (CN _).mono ?_
      rintro e w4 ⟨v4, rfl, hO4, hE4⟩
      obtain ⟨A4, c4, hv4, -, -, q4⟩ := hO4.form
      obtain ⟨m4, hm4⟩ : ∃ m, m = Z.length := ⟨_, rfl⟩
      rw [← hm4] at hv4 q4
      have HM4 := hide hm4
      have HQ4 := hide q4
      have HE4 := hide (HE.out.trans hE4)
      have HO4 := hide (HO.out.ext hE4)
      subst hv4
      clear hO4 q4 hm4 hE4 CZ CN e0 hs64 hsw
      go_wp2_with (at_builtin; refine wpList_appAt rfl (.tmp 14) (.tmp 23) rfl rfl HO4.out rfl HQ4.out (by have := HM4.out; omega) HE4.out.le ?_; intro v5 w5 hO5 hG5 _; have HO5 := hide hO5; have HE5 := hide (show Ext w w5 from Below.grown HE4.out hG5 HE4.out.le (fun k hk => (HO4.out.lt k hk).1)); obtain ⟨f0, -, -, -⟩ := HCell.out w5 HE5.out; clear hO5 hG5)
      go_roundw
      case rel => exact ⟨i + 1, r.time, X ++ Z, by omega, by go_num, rfl, ht64, HO5.out, by rw [HTi.out, List.append_assoc], HE5.out⟩
      case measure => simp [intOf]; omega
    · have hiI : ¬ (i : Int) < (n : Int) := by omega
      have hin : i = n := by omega
      rw [hin, HTe.out, List.append_nil] at hT
      subst hT
      clear hlt hin hO hE
      obtain ⟨w0, rfl⟩ : ∃ W, W = wr := ⟨_, rfl⟩
      go_wp2
      go_loopw [6, 3] (fun x v wr => ∃ (i : Nat) (Y : List UInt8), i ≤ n ∧ x = .int .i64 (i : Int) ∧ OwnB wr w.heap.size v (T ++ Y) ∧ V = Y ++ levelsB (before l i) (l.drop i) ∧ Ext w wr) (fun x _ _ => n - (intOf x).toNat)
      case atStart => exact ⟨0, [], by omega, rfl, by rw [List.append_nil]; exact HO.out, HL0.out, HE.out⟩
      case round =>
        clear HL0 HO HE
        obtain ⟨i, Y, hi, rfl, hO, hV, hE⟩ := hrel
        have HO := hide hO
        have HE := hide hE
        by_cases hlt : i < n
        · have hiI : (i : Int) < (n : Int) := by omega
          have hlt0 := hide hlt
          rcases (HA.out.later hE).2.1 with hn0 | ⟨b1, o1, rfl, _, hc1⟩
          · omega
          have HCell := hide (show ∀ W, Ext w W → ∀ j, j < n → RcAt W b1 (o1 + j * 4) (l.getD j default) from fun W hW j hj => by
            rcases (HA.out.later hW).2.1 with h0 | ⟨b2, o2, h2, _, hc2⟩
            · omega
            · simp only [Option.some.injEq, Addr.mk.injEq, and_true] at h2
              obtain ⟨rfl, rfl⟩ := h2
              exact hc2 j hj)
          obtain ⟨-, e1, -, -⟩ := hc1 i hlt
          rw [HLs.out i _ hlt] at hV
          obtain ⟨x, hx⟩ : ∃ x, x = (l.getD i default).lv := ⟨_, rfl⟩
          rw [← hx] at e1 hV
          have HXe := hide hx
          have HVq := hide hV
          clear hV hO hE hlt hx
          rcases Nat.eq_zero_or_pos i with hi0 | hi0
          · have hd0 : decide ((0 : Int) < (i : Int)) = false := decide_eq_false (by omega)
            have hdn : decide (0 < i) = false := decide_eq_false (by omega)
            have HV := hide (show V = Y ++ ((x :: enc (rowN x (l.drop (i + 1)) + 1)) ++ levelsB (some x) (l.drop (i + 1))) by rw [HVq.out, hi0, HB0.out, if_neg (by simp)])
            clear hc1 hi0
            obtain ⟨wp, rfl⟩ : ∃ W, W = wr := ⟨_, rfl⟩
            go_wp2_with fail
            go_quiet (fail)
            clear hd0 hdn e1
            go_wp2
            go_loopw [7] (fun y wk => ∃ k : Nat, 1 ≤ k ∧ i + k ≤ n ∧ y = .int .i64 (k : Int) ∧ rowN x (l.drop (i + 1)) + 1 = k + rowN x (l.drop (i + k)) ∧ Qt wp wk) (fun y _ => n - (intOf y).toNat)
            case atStart => exact ⟨1, by omega, by have := hlt0.out; omega, rfl, by omega, ⟨_, rfl⟩⟩
            case round =>
              obtain ⟨k, hk1, hk2, rfl, hk3, hQ⟩ := hrel
              obtain ⟨j, hj⟩ : ∃ j, j = i + k := ⟨_, rfl⟩
              have hjI : (i : Int) + (k : Int) = (j : Int) := by omega
              have w1 : IntKind.i64.wrap ((i : Int) + (k : Int)) = (j : Int) := by rw [IntKind.wrap_i64]; omega
              obtain ⟨-, f1, -, -⟩ := HCell.out wr (HE.out.trans hQ.ext) i hlt0.out
              rw [← HXe.out] at f1
              by_cases hk : j < n
              · have hjd : decide ((j : Int) < (n : Int)) = true := decide_eq_true (by omega)
                have hjn : decide (j < n) = true := decide_eq_true hk
                have hjL : (j : Int) < (n : Int) := by omega
                obtain ⟨-, f2, -, -⟩ := HCell.out wr (HE.out.trans hQ.ext) j hk
                have hrs := HRn.out j x hk
                obtain ⟨z, hz0⟩ : ∃ z, z = (l.getD j default).lv := ⟨_, rfl⟩
                rw [← hz0] at f2 hrs
                by_cases hz : z = x
                · have hzx : ((z.toNat : Int) == (x.toNat : Int)) = true := by rw [hz]; simp
                  rw [if_pos hz] at hrs
                  have HK := hide (show rowN x (l.drop (i + 1)) + 1 = (k + 1) + rowN x (l.drop (i + (k + 1))) by rw [hk3, ← hj, hrs, show i + (k + 1) = j + 1 by omega]; omega)
                  have HJ := hide hj
                  clear hz hz0 hrs hk3 hj
                  go_wp2_with fail
                  go_quiet (fail)
                  clear w1 hjd hjn hzx f1 f2 hjI hjL
                  go_wp2
                  go_roundw
                  case rel => exact ⟨k + 1, by omega, by have := HJ.out; omega, by go_num, HK.out, hQ.drewN _⟩
                  case measure => have := HJ.out; simp [intOf]; omega
                · have hzx : ((z.toNat : Int) == (x.toNat : Int)) = false := by rw [beq_eq_false_iff_ne]; exact fun e => hz (UInt8.toNat_inj.1 (by omega))
                  rw [if_neg hz] at hrs
                  have HRun0 := hide (show rowN x (l.drop (i + k)) = 0 by rw [← hj]; exact hrs)
                  have HJ := hide hj
                  clear hz hz0 hrs hj
                  go_wp2_with fail
                  go_quiet (fail)
                  clear w1 hjd hjn hzx f1 f2 hjI hjL
                  have hR : rowN x (l.drop (i + 1)) + 1 = k := by rw [hk3, HRun0.out, Nat.add_zero]
                  have HVi := hide (show V = (Y ++ [x] ++ enc k) ++ levelsB (before l (i + 1)) (l.drop (i + 1)) by rw [HV.out, hR, HBe.out, ← HXe.out]; simp)
                  have HEq := hide (HE.out.trans (hQ.drewN nq).ext)
                  have HOq := hide (HO.out.ext (hQ.drewN nq).ext)
                  have hkw : IntKind.u64.wrap (k : Int) = (k : Int) := by rw [IntKind.wrap_u64]; omega
                  obtain ⟨-, g1, -, -⟩ := HCell.out _ HEq.out i hlt0.out
                  rw [← HXe.out] at g1
                  clear hR hk3 hQ
                  generalize hwq : World.drewN wr nq = wq at *
                  clear hwq
                  have hYl : (T ++ Y).length ≤ 500000 := by have h1 := HLl.out; have h2 := HTl.out; rw [HV.out, List.length_append] at h1; rw [List.length_append]; omega
                  have HYl := hide hYl
                  have CN := fun W => refNum_any k W (by omega)
                  clear hYl
                  go_wp2_with (at_builtin; refine wpList_appAt rfl (.tmp 75) (.tmp 81) rfl rfl (HOq.out.ext (extNew wq _)) rfl (bytesNew wq [x] #[.int .u8 (x.toNat : Int)] 5 (0, 0) rfl 1 rfl) (by have := HYl.out; omega) (HEq.out.trans (extNew wq _)).le ?_; intro v3 w3 hO3 hG3 _; have HO3 := hide hO3; have HE3 := hide (show Ext w w3 from Below.grown (HEq.out.trans (extNew wq _)) hG3 (HEq.out.trans (extNew wq _)).le (fun k hk => (HOq.out.lt k hk).1)); clear hO3 hG3 g1)
                  refine (CN w3).mono ?_
                  rintro e w4 ⟨v4, rfl, hO4, hE4⟩
                  obtain ⟨A4, c4, hv4, -, -, q4⟩ := hO4.form
                  obtain ⟨m4, hm4⟩ : ∃ m, m = (enc k).length := ⟨_, rfl⟩
                  have hm10 := enc_len k
                  rw [← hm4] at hv4 q4 hm10
                  have HQ4 := hide q4
                  have HE4 := hide (HE3.out.trans hE4)
                  have HO4 := hide (HO3.out.ext hE4)
                  subst hv4
                  clear hO4 q4 hm4 hE4 CN
                  go_wp2_with (at_builtin; refine wpList_appAt rfl (.tmp 83) (.tmp 86) rfl rfl HO4.out rfl HQ4.out (by have := HYl.out; rw [List.length_append, List.length_singleton]; omega) HE4.out.le ?_; intro v5 w5 hO5 hG5 _; have HO5 := hide hO5; have HE5 := hide (show Ext w w5 from Below.grown HE4.out hG5 HE4.out.le (fun k hk => (HO4.out.lt k hk).1)); clear hO5 hG5)
                  go_roundw
                  case rel => exact ⟨i + 1, Y ++ [x] ++ enc k, by have := hlt0.out; omega, by go_num, by rw [← List.append_assoc, ← List.append_assoc]; exact HO5.out, HVi.out, HE5.out⟩
                  case measure => have := hlt0.out; simp [intOf]; omega
              · have hjd : decide ((j : Int) < (n : Int)) = false := decide_eq_false (by omega)
                have hjn : decide (j < n) = false := decide_eq_false hk
                have HRun0 := hide (show rowN x (l.drop (i + k)) = 0 from HRe.out (i + k) x (by omega))
                have HJ := hide hj
                clear hj hk
                go_wp2_with fail
                go_quiet (fail)
                clear w1 hjd hjn f1 hjI
                have hR : rowN x (l.drop (i + 1)) + 1 = k := by rw [hk3, HRun0.out, Nat.add_zero]
                have HVi := hide (show V = (Y ++ [x] ++ enc k) ++ levelsB (before l (i + 1)) (l.drop (i + 1)) by rw [HV.out, hR, HBe.out, ← HXe.out]; simp)
                have HEq := hide (HE.out.trans (hQ.drewN nq).ext)
                have HOq := hide (HO.out.ext (hQ.drewN nq).ext)
                have hkw : IntKind.u64.wrap (k : Int) = (k : Int) := by rw [IntKind.wrap_u64]; omega
                obtain ⟨-, g1, -, -⟩ := HCell.out _ HEq.out i hlt0.out
                rw [← HXe.out] at g1
                clear hR hk3 hQ
                generalize hwq : World.drewN wr nq = wq at *
                clear hwq
                have hYl : (T ++ Y).length ≤ 500000 := by have h1 := HLl.out; have h2 := HTl.out; rw [HV.out, List.length_append] at h1; rw [List.length_append]; omega
                have HYl := hide hYl
                have CN := fun W => refNum_any k W (by omega)
                clear hYl
                go_wp2_with (at_builtin; refine wpList_appAt rfl (.tmp 75) (.tmp 81) rfl rfl (HOq.out.ext (extNew wq _)) rfl (bytesNew wq [x] #[.int .u8 (x.toNat : Int)] 5 (0, 0) rfl 1 rfl) (by have := HYl.out; omega) (HEq.out.trans (extNew wq _)).le ?_; intro v3 w3 hO3 hG3 _; have HO3 := hide hO3; have HE3 := hide (show Ext w w3 from Below.grown (HEq.out.trans (extNew wq _)) hG3 (HEq.out.trans (extNew wq _)).le (fun k hk => (HOq.out.lt k hk).1)); clear hO3 hG3 g1)
                refine (CN w3).mono ?_
                rintro e w4 ⟨v4, rfl, hO4, hE4⟩
                obtain ⟨A4, c4, hv4, -, -, q4⟩ := hO4.form
                obtain ⟨m4, hm4⟩ : ∃ m, m = (enc k).length := ⟨_, rfl⟩
                have hm10 := enc_len k
                rw [← hm4] at hv4 q4 hm10
                have HQ4 := hide q4
                have HE4 := hide (HE3.out.trans hE4)
                have HO4 := hide (HO3.out.ext hE4)
                subst hv4
                clear hO4 q4 hm4 hE4 CN
                go_wp2_with (at_builtin; refine wpList_appAt rfl (.tmp 83) (.tmp 86) rfl rfl HO4.out rfl HQ4.out (by have := HYl.out; rw [List.length_append, List.length_singleton]; omega) HE4.out.le ?_; intro v5 w5 hO5 hG5 _; have HO5 := hide hO5; have HE5 := hide (show Ext w w5 from Below.grown HE4.out hG5 HE4.out.le (fun k hk => (HO4.out.lt k hk).1)); clear hO5 hG5)
                go_roundw
                case rel => exact ⟨i + 1, Y ++ [x] ++ enc k, by have := hlt0.out; omega, by go_num, by rw [← List.append_assoc, ← List.append_assoc]; exact HO5.out, HVi.out, HE5.out⟩
                case measure => have := hlt0.out; simp [intOf]; omega
          · have hd0 : decide ((0 : Int) < (i : Int)) = true := decide_eq_true (by omega)
            have hdn : decide (0 < i) = true := decide_eq_true hi0
            have hi0I : (0 : Int) < (i : Int) := by omega
            obtain ⟨p, hp⟩ : ∃ p, p = i - 1 := ⟨_, rfl⟩
            have hpi : (i : Int) - 1 = (p : Int) := by omega
            have hpn : (p : Int) < (n : Int) := by omega
            have wp1 : IntKind.i64.wrap ((i : Int) - 1) = (p : Int) := by rw [IntKind.wrap_i64]; omega
            obtain ⟨-, e2, -, -⟩ := hc1 p (by omega)
            have hbf : before l i = some (l.getD p default).lv := by unfold before; rw [if_neg (by omega), hp]
            obtain ⟨y, hy⟩ : ∃ y, y = (l.getD p default).lv := ⟨_, rfl⟩
            rw [← hy] at e2 hbf
            by_cases hxy : x = y
            · have hxe : ((x.toNat : Int) == (y.toNat : Int)) = true := by rw [hxy]; simp
              have HVi := hide (show V = Y ++ levelsB (before l (i + 1)) (l.drop (i + 1)) by rw [HVq.out, hbf, if_pos (by rw [hxy]), HBe.out, ← HXe.out]; rfl)
              clear hc1 hi0 hp hy hbf hxy
              go_wp2_with fail
              go_quiet (fail)
              clear wp1 hd0 hdn hxe e1 e2 hpi hpn hi0I
              go_wp2
              go_roundw
              case rel => exact ⟨i + 1, Y, by have := hlt0.out; omega, by go_num, HO.out.ext ((Ext.refl _).drewN _), HVi.out, HE.out.drewN _⟩
              case measure => have := hlt0.out; simp [intOf]; omega
            · have hxe : ((x.toNat : Int) == (y.toNat : Int)) = false := by rw [beq_eq_false_iff_ne]; exact fun e => hxy (UInt8.toNat_inj.1 (by omega))
              have HV := hide (show V = Y ++ ((x :: enc (rowN x (l.drop (i + 1)) + 1)) ++ levelsB (some x) (l.drop (i + 1))) by rw [HVq.out, hbf, if_neg (fun e => hxy (by injection e with e; exact e.symm))])
              clear hc1 hi0 hp hy hbf hxy
              obtain ⟨wp, rfl⟩ : ∃ W, W = wr := ⟨_, rfl⟩
              go_wp2_with fail
              go_quiet (fail)
              clear wp1 hd0 hdn hxe e1 e2 hpi hpn hi0I
              go_wp2
              go_loopw [7] (fun y wk => ∃ k : Nat, 1 ≤ k ∧ i + k ≤ n ∧ y = .int .i64 (k : Int) ∧ rowN x (l.drop (i + 1)) + 1 = k + rowN x (l.drop (i + k)) ∧ Qt wp wk) (fun y _ => n - (intOf y).toNat)
              case atStart => exact ⟨1, by omega, by have := hlt0.out; omega, rfl, by omega, ⟨_, rfl⟩⟩
              case round =>
                obtain ⟨k, hk1, hk2, rfl, hk3, hQ⟩ := hrel
                obtain ⟨j, hj⟩ : ∃ j, j = i + k := ⟨_, rfl⟩
                have hjI : (i : Int) + (k : Int) = (j : Int) := by omega
                have w1 : IntKind.i64.wrap ((i : Int) + (k : Int)) = (j : Int) := by rw [IntKind.wrap_i64]; omega
                obtain ⟨-, f1, -, -⟩ := HCell.out wr (HE.out.trans hQ.ext) i hlt0.out
                rw [← HXe.out] at f1
                by_cases hk : j < n
                · have hjd : decide ((j : Int) < (n : Int)) = true := decide_eq_true (by omega)
                  have hjn : decide (j < n) = true := decide_eq_true hk
                  have hjL : (j : Int) < (n : Int) := by omega
                  obtain ⟨-, f2, -, -⟩ := HCell.out wr (HE.out.trans hQ.ext) j hk
                  have hrs := HRn.out j x hk
                  obtain ⟨z, hz0⟩ : ∃ z, z = (l.getD j default).lv := ⟨_, rfl⟩
                  rw [← hz0] at f2 hrs
                  by_cases hz : z = x
                  · have hzx : ((z.toNat : Int) == (x.toNat : Int)) = true := by rw [hz]; simp
                    rw [if_pos hz] at hrs
                    have HK := hide (show rowN x (l.drop (i + 1)) + 1 = (k + 1) + rowN x (l.drop (i + (k + 1))) by rw [hk3, ← hj, hrs, show i + (k + 1) = j + 1 by omega]; omega)
                    have HJ := hide hj
                    clear hz hz0 hrs hk3 hj
                    go_wp2_with fail
                    go_quiet (fail)
                    clear w1 hjd hjn hzx f1 f2 hjI hjL
                    go_wp2
                    go_roundw
                    case rel => exact ⟨k + 1, by omega, by have := HJ.out; omega, by go_num, HK.out, hQ.drewN _⟩
                    case measure => have := HJ.out; simp [intOf]; omega
                  · have hzx : ((z.toNat : Int) == (x.toNat : Int)) = false := by rw [beq_eq_false_iff_ne]; exact fun e => hz (UInt8.toNat_inj.1 (by omega))
                    rw [if_neg hz] at hrs
                    have HRun0 := hide (show rowN x (l.drop (i + k)) = 0 by rw [← hj]; exact hrs)
                    have HJ := hide hj
                    clear hz hz0 hrs hj
                    go_wp2_with fail
                    go_quiet (fail)
                    clear w1 hjd hjn hzx f1 f2 hjI hjL
                    have hR : rowN x (l.drop (i + 1)) + 1 = k := by rw [hk3, HRun0.out, Nat.add_zero]
                    have HVi := hide (show V = (Y ++ [x] ++ enc k) ++ levelsB (before l (i + 1)) (l.drop (i + 1)) by rw [HV.out, hR, HBe.out, ← HXe.out]; simp)
                    have HEq := hide (HE.out.trans (hQ.drewN nq).ext)
                    have HOq := hide (HO.out.ext (hQ.drewN nq).ext)
                    have hkw : IntKind.u64.wrap (k : Int) = (k : Int) := by rw [IntKind.wrap_u64]; omega
                    obtain ⟨-, g1, -, -⟩ := HCell.out _ HEq.out i hlt0.out
                    rw [← HXe.out] at g1
                    clear hR hk3 hQ
                    generalize hwq : World.drewN wr nq = wq at *
                    clear hwq
                    have hYl : (T ++ Y).length ≤ 500000 := by have h1 := HLl.out; have h2 := HTl.out; rw [HV.out, List.length_append] at h1; rw [List.length_append]; omega
                    have HYl := hide hYl
                    have CN := fun W => refNum_any k W (by omega)
                    clear hYl
                    go_wp2_with (at_builtin; refine wpList_appAt rfl (.tmp 75) (.tmp 81) rfl rfl (HOq.out.ext (extNew wq _)) rfl (bytesNew wq [x] #[.int .u8 (x.toNat : Int)] 5 (0, 0) rfl 1 rfl) (by have := HYl.out; omega) (HEq.out.trans (extNew wq _)).le ?_; intro v3 w3 hO3 hG3 _; have HO3 := hide hO3; have HE3 := hide (show Ext w w3 from Below.grown (HEq.out.trans (extNew wq _)) hG3 (HEq.out.trans (extNew wq _)).le (fun k hk => (HOq.out.lt k hk).1)); clear hO3 hG3 g1)
                    refine (CN w3).mono ?_
                    rintro e w4 ⟨v4, rfl, hO4, hE4⟩
                    obtain ⟨A4, c4, hv4, -, -, q4⟩ := hO4.form
                    obtain ⟨m4, hm4⟩ : ∃ m, m = (enc k).length := ⟨_, rfl⟩
                    have hm10 := enc_len k
                    rw [← hm4] at hv4 q4 hm10
                    have HQ4 := hide q4
                    have HE4 := hide (HE3.out.trans hE4)
                    have HO4 := hide (HO3.out.ext hE4)
                    subst hv4
                    clear hO4 q4 hm4 hE4 CN
                    go_wp2_with (at_builtin; refine wpList_appAt rfl (.tmp 83) (.tmp 86) rfl rfl HO4.out rfl HQ4.out (by have := HYl.out; rw [List.length_append, List.length_singleton]; omega) HE4.out.le ?_; intro v5 w5 hO5 hG5 _; have HO5 := hide hO5; have HE5 := hide (show Ext w w5 from Below.grown HE4.out hG5 HE4.out.le (fun k hk => (HO4.out.lt k hk).1)); clear hO5 hG5)
                    go_roundw
                    case rel => exact ⟨i + 1, Y ++ [x] ++ enc k, by have := hlt0.out; omega, by go_num, by rw [← List.append_assoc, ← List.append_assoc]; exact HO5.out, HVi.out, HE5.out⟩
                    case measure => have := hlt0.out; simp [intOf]; omega
                · have hjd : decide ((j : Int) < (n : Int)) = false := decide_eq_false (by omega)
                  have hjn : decide (j < n) = false := decide_eq_false hk
                  have HRun0 := hide (show rowN x (l.drop (i + k)) = 0 from HRe.out (i + k) x (by omega))
                  have HJ := hide hj
                  clear hj hk
                  go_wp2_with fail
                  go_quiet (fail)
                  clear w1 hjd hjn f1 hjI
                  have hR : rowN x (l.drop (i + 1)) + 1 = k := by rw [hk3, HRun0.out, Nat.add_zero]
                  have HVi := hide (show V = (Y ++ [x] ++ enc k) ++ levelsB (before l (i + 1)) (l.drop (i + 1)) by rw [HV.out, hR, HBe.out, ← HXe.out]; simp)
                  have HEq := hide (HE.out.trans (hQ.drewN nq).ext)
                  have HOq := hide (HO.out.ext (hQ.drewN nq).ext)
                  have hkw : IntKind.u64.wrap (k : Int) = (k : Int) := by rw [IntKind.wrap_u64]; omega
                  obtain ⟨-, g1, -, -⟩ := HCell.out _ HEq.out i hlt0.out
                  rw [← HXe.out] at g1
                  clear hR hk3 hQ
                  generalize hwq : World.drewN wr nq = wq at *
                  clear hwq
                  have hYl : (T ++ Y).length ≤ 500000 := by have h1 := HLl.out; have h2 := HTl.out; rw [HV.out, List.length_append] at h1; rw [List.length_append]; omega
                  have HYl := hide hYl
                  have CN := fun W => refNum_any k W (by omega)
                  clear hYl
                  go_wp2_with (at_builtin; refine wpList_appAt rfl (.tmp 75) (.tmp 81) rfl rfl (HOq.out.ext (extNew wq _)) rfl (bytesNew wq [x] #[.int .u8 (x.toNat : Int)] 5 (0, 0) rfl 1 rfl) (by have := HYl.out; omega) (HEq.out.trans (extNew wq _)).le ?_; intro v3 w3 hO3 hG3 _; have HO3 := hide hO3; have HE3 := hide (show Ext w w3 from Below.grown (HEq.out.trans (extNew wq _)) hG3 (HEq.out.trans (extNew wq _)).le (fun k hk => (HOq.out.lt k hk).1)); clear hO3 hG3 g1)
                  refine (CN w3).mono ?_
                  rintro e w4 ⟨v4, rfl, hO4, hE4⟩
                  obtain ⟨A4, c4, hv4, -, -, q4⟩ := hO4.form
                  obtain ⟨m4, hm4⟩ : ∃ m, m = (enc k).length := ⟨_, rfl⟩
                  have hm10 := enc_len k
                  rw [← hm4] at hv4 q4 hm10
                  have HQ4 := hide q4
                  have HE4 := hide (HE3.out.trans hE4)
                  have HO4 := hide (HO3.out.ext hE4)
                  subst hv4
                  clear hO4 q4 hm4 hE4 CN
                  go_wp2_with (at_builtin; refine wpList_appAt rfl (.tmp 83) (.tmp 86) rfl rfl HO4.out rfl HQ4.out (by have := HYl.out; rw [List.length_append, List.length_singleton]; omega) HE4.out.le ?_; intro v5 w5 hO5 hG5 _; have HO5 := hide hO5; have HE5 := hide (show Ext w w5 from Below.grown HE4.out hG5 HE4.out.le (fun k hk => (HO4.out.lt k hk).1)); clear hO5 hG5)
                  go_roundw
                  case rel => exact ⟨i + 1, Y ++ [x] ++ enc k, by have := hlt0.out; omega, by go_num, by rw [← List.append_assoc, ← List.append_assoc]; exact HO5.out, HVi.out, HE5.out⟩
                  case measure => have := hlt0.out; simp [intOf]; omega
        · have hiI : ¬ (i : Int) < (n : Int) := by omega
          have hin : i = n := by omega
          rw [hin, HLe.out, List.append_nil] at hV
          subst hV
          clear hlt hin hO hE
          go_wp2
          go_ret
          exact ⟨_, rfl, HO.out, HE.out⟩
end Go.Proofs.Ytkgkppblkdihkaa

namespace Go.Proofs.Ytkgkppblkdihkaa
open Go.RowKit

theorem Huf.list_ext {a b : List Int} (hl : a.length = b.length) (h : ∀ i, i < a.length → a.getD i 0 = b.getD i 0) : a = b := by
  refine List.ext_getElem hl fun i h1 h2 => ?_
  have := h i h1
  rwa [List.getD_eq_getElem?_getD, List.getD_eq_getElem?_getD, List.getElem?_eq_getElem h1, List.getElem?_eq_getElem h2] at this
set_option maxHeartbeats 1000000 in
set_option maxRecDepth 100000 in
theorem refSame9Q_any (A1 A2 : Option Addr) (c1 c2 : Nat) (a b : List Int) (w : World) (h1 : IntsAt w w.heap.size A1 a.length a) (h2 : IntsAt w w.heap.size A2 b.length b) (hn0 : a.length ≤ 140737488355328) :
    Calls Try.prog 24 #[.slice A1 a.length c1, .slice A2 b.length c2] w fun e w' => e = .returned (.bool (decide (a = b))) ∧ Qt w w' := by
  by_cases hl : a.length = b.length
  · have HEq := hide (show (∀ i, i < a.length → a.getD i 0 = b.getD i 0) → decide (a = b) = true from fun h => decide_eq_true (Huf.list_ext hl h))
    have HNe := hide (show ∀ i, a.getD i 0 ≠ b.getD i 0 → decide (a = b) = false from fun i h => decide_eq_false fun e => h (by rw [e]))
    have hlb : ((a.length : Int) != (b.length : Int)) = false := by simp; omega
    have HA := hide h1
    have HB := hide h2
    generalize decide (a = b) = res at *
    rw [← hl] at HB ⊢
    generalize a.length = n at *
    clear h1 h2 hl
    go_enter Try.func24, Try.ntmps24
    go_wp2
    go_loopw [5] (fun x wr => ∃ i : Nat, i ≤ n ∧ x = .int .i64 (i : Int) ∧ (∀ j, j < i → a.getD j 0 = b.getD j 0) ∧ Qt w wr) (fun x _ => n - (intOf x).toNat)
    case atStart => exact ⟨0, by omega, rfl, fun j hj => absurd hj (by omega), Qt.refl _⟩
    case round =>
      obtain ⟨i, hi, rfl, hall, hQ⟩ := hrel
      have HAll := hide hall
      clear hall
      by_cases hlt : i < n
      · have hiI : (i : Int) < (n : Int) := by omega
        rcases (HA.out.later hQ.ext).2 with hn | ⟨b1, o1, rfl, _, hc1⟩
        · omega
        rcases (HB.out.later hQ.ext).2 with hn | ⟨b2, o2, rfl, _, hc2⟩
        · omega
        have e1 := hc1 i hlt
        have e2 := hc2 i hlt
        have hNe := HNe.out i
        clear hc1 hc2
        by_cases he : a.getD i 0 = b.getD i 0
        · have HE := hide he
          obtain ⟨y, hy⟩ : ∃ y, y = b.getD i 0 := ⟨_, rfl⟩
          rw [he, ← hy] at e1
          rw [← hy] at e2
          clear he hNe hy
          go_wp2_with fail
          go_quiet (fail)
          go_wp2
          go_roundw
          case rel => exact ⟨i + 1, by omega, by go_num, fun j hj => (by
            by_cases e : j = i
            · rw [e]; exact HE.out
            · exact HAll.out j (by omega)), hQ.drewN _⟩
          case measure => simp [intOf]; omega
        · have HN := hide (hNe he)
          have heb : (a.getD i 0 != b.getD i 0) = true := by simpa using he
          generalize a.getD i 0 = y1 at *
          generalize b.getD i 0 = y2 at *
          clear hNe he
          go_wp2_with fail
          go_quiet (fail)
          go_wp2
          go_ret
          exact ⟨ret_bool HN.out.symm, hQ.drewN _⟩
      · obtain rfl : n = i := by omega
        have HN := hide (HEq.out HAll.out)
        go_wp2
        go_ret
        exact ⟨ret_bool HN.out.symm, hQ⟩
  · have HN := hide (show decide (a = b) = false from decide_eq_false fun e => hl (by rw [e]))
    have hlb : ((a.length : Int) != (b.length : Int)) = true := by simp; omega
    generalize decide (a = b) = res at *
    clear h1 h2
    go_enter Try.func24, Try.ntmps24
    go_wp2
    go_ret
    exact ⟨ret_bool HN.out.symm, Qt.refl _⟩
theorem refSame9_any (A1 A2 : Option Addr) (c1 c2 : Nat) (a b : List Int) (w : World) (h1 : IntsAt w w.heap.size A1 a.length a) (h2 : IntsAt w w.heap.size A2 b.length b) (hn0 : a.length ≤ 140737488355328) :
    Calls Try.prog 24 #[.slice A1 a.length c1, .slice A2 b.length c2] w fun e w' => e = .returned (.bool (decide (a = b))) ∧ Ext w w' :=
  (refSame9Q_any A1 A2 c1 c2 a b w h1 h2 hn0).mono fun _ _ ⟨h1, h2⟩ => ⟨h1, h2.ext⟩
end Go.Proofs.Ytkgkppblkdihkaa

namespace Go.Proofs.Ytkgkppblkdihkaa
open Go.RowKit

/-- A number of 64 bits. -/
def IsI64 (x : Int) : Prop := -9223372036854775808 ≤ x ∧ x ≤ 9223372036854775807
open Go.WideMaps in
theorem isI64_of {x : Int} (h : (Lit.int .i64 x).wf = true) : IsI64 x := by
  have := bounds_i64 h
  unfold IsI64
  omega
/-- 'b[:n]' of bytes. -/
theorem run_headB (W : World) (a : Option Addr) (n c : Nat) (k : IntKind) (h : Int) (h0 : 0 ≤ h) (h1 : h ≤ c) :
    (Instr.slice 32 (.slice a n c) none (some (.int k h)) none).run Try.prog W = .ok (.slice (cutAt a c 0) h.toNat c) W := by
  rw [run_slice_h (P := Try.prog) (w := W) 32 a n c (by kernel_rfl) k h h0 h1]
  have hs : (sizeOf (Try.prog.elem 32)).run Try.prog W = .ok 1 W := by kernel_rfl
  rw [hs]
  simp [Result.andThen, sliced, cutAt]
theorem Ef.bytes_take {w : World} {B n k : Nat} {A : Option Addr} {l : List UInt8} (h : Bytes w B A n l) (hk : k ≤ n) : Bytes w B A k (l.take k) := by
  refine ⟨by rw [List.length_take, h.1]; omega, ?_⟩
  rcases h.2 with h0 | ⟨b, off, rfl, hB, hc⟩
  · exact .inl (by omega)
  · refine .inr ⟨b, off, rfl, hB, fun i hi => ?_⟩
    have := hc i (by omega)
    rw [List.getD_eq_getElem?_getD, List.getElem?_take, if_pos hi, ← List.getD_eq_getElem?_getD]
    exact this
theorem Ef.bytes_head {w : World} {B n c k : Nat} {A : Option Addr} {l : List UInt8} (h : Bytes w B A n l) (hk : k ≤ n) (hc : n ≤ c) : Bytes w B (cutAt A c 0) k (l.take k) := by
  have h1 := bytes_take (h.drop (k := 0) (c := c) (by omega) hc) (k := k) (by omega)
  rwa [List.drop_zero] at h1
end Go.Proofs.Ytkgkppblkdihkaa

namespace Go.Proofs.Ytkgkppblkdihkaa
open Go.RowKit Rcs Num

/-- What Read tells. -/
def RdToR (W : World) (r : List Rc × Int) (e : Ending) (w' : World) : Prop := ∃ A c, e = .returned (.tuple #[.slice A r.1.length c, .int .i64 r.2]) ∧ r.1.length ≤ c ∧ c ≤ maxLen ∧ RcsAt w' w'.heap.size A r.1.length r.1 ∧ Ext W w'
/-- From world w on, the program's functions tell what the document's tell. -/
def RCheckC (w : World) : Prop := ∀ (l : List Rc) (A : Option Addr) (n c : Nat) (W : World), Ext w W → n ≤ c → c ≤ maxLen → RcsAt W W.heap.size A n l → Calls Try.prog 13 #[.slice A n c] W fun e w' => e = .returned (.int .i64 (checkE l)) ∧ Ext W w'
def RWeightC (w : World) : Prop := ∀ (l : List Rc) (A : Option Addr) (n c : Nat) (W : World), Ext w W → n ≤ c → c ≤ maxLen → weightE l ≤ 1099511627776 → RcsAt W W.heap.size A n l → Calls Try.prog 16 #[.slice A n c] W fun e w' => e = .returned (.int .i64 (weightE l : Int)) ∧ Ext W w'
def RBytesC (w : World) : Prop := ∀ (whole : Bool) (l : List Rc) (A : Option Addr) (n c : Nat) (W : World), Ext w W → n ≤ c → c ≤ maxLen → weightE l ≤ 100000 → RcsAt W W.heap.size A n l → Calls Try.prog 19 #[.bool whole, .slice A n c] W (MadeB W (bytesB whole l))
def RReadC (w : World) : Prop := ∀ (whole : Bool) (b : List UInt8) (A : Option Addr) (c : Nat) (W : World), Ext w W → b.length ≤ c → c ≤ maxLen → b.length ≤ 20000 → Bytes W W.heap.size A b.length b → Calls Try.prog 21 #[.bool whole, .slice A b.length c] W (RdToR W (readE whole b))
def RGroupsC (w : World) : Prop := ∀ (size : Int) (whole : Bool) (l : List Rc) (A : Option Addr) (n c : Nat) (W : World), Ext w W → IsI64 size → n ≤ c → c ≤ maxLen → weightE l ≤ 100000 → RcsAt W W.heap.size A n l → Calls Try.prog 25 #[.int .i64 size, .bool whole, .slice A n c] W (MadeL W (groupsI size whole l))
def RColumnsC (w : World) : Prop := ∀ (l : List Rc) (A : Option Addr) (n c : Nat) (W : World), Ext w W → n ≤ c → c ≤ maxLen → n ≤ 1000 → RcsAt W W.heap.size A n l → Calls Try.prog 27 #[.slice A n c] W (MadeB W (columnsE l))

theorem Rcs.groups_is (size : Int) (whole : Bool) (l : List Rc) : groupsI size whole l = restI (if size < 1 then 1 else size) whole l 0 := by simp [groupsI, restI, groupsE, groupsAt]
theorem refGroups17_any (size : Int) (whole : Bool) (A : Option Addr) (n c : Nat) (l : List Rc) (w : World) (hs : IsI64 size) (h : RcsAt w w.heap.size A n l) (hw : weightE l ≤ 1000000) :
    Calls Try.prog 26 #[.int .i64 size, .bool whole, .slice A n c] w (MadeL w (groupsI size whole l)) := by
  rw [groups_is]
  unfold IsI64 at hs
  exact refGroupsG_any _ whole A n c l w size (by
    by_cases h1 : size < 1
    · exact .inl ⟨h1, by rw [if_pos h1]⟩
    · exact .inr ⟨by omega, by rw [if_neg h1]⟩) (by split <;> omega) h hw
set_option maxHeartbeats 2000000 in
set_option maxRecDepth 100000 in
theorem alive17_any {w W : World} (hB : RColumnsC w) (hE : Ext w W) : Calls Try.prog 12 #[] W fun e W' => e = .returned (.bool true) ∧ Ext W W' := by
  have hE1 := extNew W (.cells #[.int .u64 5, .int .u8 1, .string ⟨#[]⟩, .string ⟨#[]⟩, .int .u64 3, .int .u8 1, .string ⟨#[]⟩, .string ⟨#[]⟩] 42)
  have hL1 := rcsNew W [⟨5, 1, [], []⟩, ⟨3, 1, [], []⟩] #[.int .u64 5, .int .u8 1, .string ⟨#[]⟩, .string ⟨#[]⟩, .int .u64 3, .int .u8 1, .string ⟨#[]⟩, .string ⟨#[]⟩] 42 (0, 0) rfl 2 rfl (by unfold Rc.ok maxLen; simp)
  have C := hB [⟨5, 1, [], []⟩, ⟨3, 1, [], []⟩] _ 2 2 _ (hE.trans hE1) (Nat.le_refl _) (by unfold maxLen; omega) (by omega) hL1
  rw [example17] at C
  unfold MadeB at C
  clear hL1 hB
  go_enter Try.func12, Try.ntmps12
  go_wp2_with fail
  refine C.mono ?_
  rintro e w2 ⟨v2, rfl, hO2, hE2⟩
  have hE3 := extNew w2 (.cells #[.int .u8 10, .int .u8 3, .int .u8 1, .int .u8 2] 5)
  obtain ⟨A2, c2, rfl, _, _, h2⟩ := hO2.form
  have CS := same_any _ _ _ _ c2 4 _ _ _ (hE3.bytes h2) (bytesNew w2 [10, 3, 1, 2] #[.int .u8 10, .int .u8 3, .int .u8 1, .int .u8 2] 5 (0, 0) rfl 4 rfl)
  rw [sameB_true rfl] at CS
  have hF := (hE1.trans hE2).trans hE3
  clear C hO2 h2
  go_wp2_with fail
  refine CS.mono ?_
  rintro e w5 ⟨rfl, hE5⟩
  go_wp2
  go_ret
  exact ⟨rfl, hF.trans hE5⟩

set_option maxHeartbeats 2000000 in
set_option maxRecDepth 100000 in
theorem recsChecks_walk0 (A : Option Addr) (n c : Nat) (l : List Rc) (w : World) (hB : RColumnsC w) (hK : RCheckC w) (hW : RWeightC w) (hn : n ≤ c) (hc : c ≤ maxLen) (h : RcsAt w w.heap.size A n l) :
    Calls Try.prog 3 #[.slice A n c] w fun e w' => e = .returned (.bool true) ∧ Ext w w' := by
  have C0 := alive17_any hB (Ext.refl w)
  have CK := hide (fun W (hE : Ext w W) => hK l A n c W hE hn hc (h.later hE))
  have CR := hide (fun W (hE : Ext w W) => refCheck17_any A n c l W (h.later hE))
  have CG := hide (fun W (hE : Ext w W) => refGreat17_any A n c l 1099511627776 1099511627776 W (h.later hE) (by omega))
  have CV := hide (fun W (hE : Ext w W) => refWeight17_any A n c l W (h.later hE) (by omega))
  have HW := hide (fun W (hE : Ext w W) (hl : weightE l ≤ 1099511627776) => hW l A n c W hE hn hc hl (h.later hE))
  have HWi := hide (wgt_is l 0)
  have HGn := hide (fun hg => great_no (l := l) (records := 1099511627776) (bytes := 1099511627776) hg (by omega))
  have hceq : (checkE l != checkE l) = false := by simp
  generalize checkE l = ck at *
  clear hB hK hW h
  go_enter Try.func3, Try.ntmps3
  go_wp2_with fail
  refine C0.mono ?_
  rintro e w1 ⟨rfl, hE1⟩
  have HE1 := hide hE1
  have C1 := CK.out w1 hE1
  clear C0 hE1
  go_wp2_with fail
  refine C1.mono ?_
  rintro e w2 ⟨rfl, hE2⟩
  have HE2 := hide (HE1.out.trans hE2)
  have C2 := CR.out w2 HE2.out
  clear C1 hE2
  go_wp2_with fail
  refine C2.mono ?_
  rintro e w3 ⟨rfl, hQ3⟩
  have HE3 := hide (HE2.out.trans hQ3.ext)
  have C3 := CG.out w3 HE3.out
  clear C2 hQ3
  cases hg : greatE l 1099511627776 1099511627776 with
  | true =>
    rw [hg] at C3
    clear hg
    go_wp2_with fail
    refine C3.mono ?_
    rintro e w4 ⟨rfl, hQ4⟩
    go_wp2
    go_ret
    exact ⟨rfl, HE3.out.trans hQ4.ext⟩
  | false =>
    rw [hg] at C3
    obtain ⟨-, g2⟩ := HGn.out hg
    have hw : weightE l ≤ 1099511627776 := by omega
    have hwi : wgtF 0 l = weightE l := by
      unfold greatE at hg
      have hg := of_decide_eq_false hg
      have h1 : ¬ (1099511627776 : Int) < (wgtF 0 l : Int) := fun e => hg (.inr e)
      have := HWi.out (by omega)
      omega
    have C4 := hide (fun W hE => HW.out W hE hw)
    have C5 := CV
    rw [hwi] at C5
    have hweq : ((weightE l : Int) == (weightE l : Int)) = true := by simp
    generalize weightE l = wl at *
    clear hg g2 hw hwi
    go_wp2_with fail
    refine C3.mono ?_
    rintro e w4 ⟨rfl, hQ4⟩
    have HE4 := hide (HE3.out.trans hQ4.ext)
    have D4 := C4.out w4 HE4.out
    clear C3 hQ4
    go_wp2_with fail
    refine D4.mono ?_
    rintro e w5 ⟨rfl, hE5⟩
    have HE5 := hide (HE4.out.trans hE5)
    have D5 := C5.out w5 HE5.out
    clear D4 hE5
    go_wp2_with fail
    refine D5.mono ?_
    rintro e w6 ⟨rfl, hQ6⟩
    have HE6 := hide (HE5.out.trans hQ6.ext)
    clear D5 hQ6
    go_wp2
    go_ret
    exact ⟨rfl, HE6.out⟩

set_option maxHeartbeats 2000000 in
set_option maxRecDepth 100000 in
theorem recsBytes_walk0 (whole : Bool) (A : Option Addr) (n c : Nat) (l : List Rc) (w : World) (hB : RColumnsC w) (hY : RBytesC w) (hn : n ≤ c) (hc : c ≤ maxLen) (h : RcsAt w w.heap.size A n l) :
    Calls Try.prog 4 #[.bool whole, .slice A n c] w fun e w' => e = .returned (.bool true) ∧ Ext w w' := by
  have C0 := alive17_any hB (Ext.refl w)
  have CG := hide (fun W (hE : Ext w W) => refGreat17_any A n c l 50 3000 W (h.later hE) (by omega))
  cases hg : greatE l 50 3000 with
  | true =>
    rw [hg] at CG
    clear hg
    go_enter Try.func4, Try.ntmps4
    go_wp2_with fail
    refine C0.mono ?_
    rintro e w1 ⟨rfl, hE1⟩
    have C1 := CG.out w1 hE1
    clear C0
    go_wp2_with fail
    refine C1.mono ?_
    rintro e w2 ⟨rfl, hQ2⟩
    go_wp2
    go_ret
    exact ⟨rfl, hE1.trans hQ2.ext⟩
  | false =>
    rw [hg] at CG
    obtain ⟨-, g2⟩ := great_no hg (by omega)
    have CY := hide (fun W (hE : Ext w W) => hY whole l A n c W hE hn hc (by omega) (h.later hE))
    have CR := hide (fun W (hE : Ext w W) => refBytes17_any whole A n c l W (h.later hE) (by omega))
    clear hg g2 hB hY h
    generalize bytesB whole l = res at *
    go_enter Try.func4, Try.ntmps4
    go_wp2_with fail
    refine C0.mono ?_
    rintro e w1 ⟨rfl, hE1⟩
    have HE1 := hide hE1
    have C1 := CG.out w1 hE1
    clear C0 hE1
    go_wp2_with fail
    refine C1.mono ?_
    rintro e w2 ⟨rfl, hQ2⟩
    have HE2 := hide (HE1.out.trans hQ2.ext)
    have C2 := CY.out w2 HE2.out
    clear C1 hQ2
    go_wp2_with fail
    refine C2.mono ?_
    rintro e w3 ⟨v3, rfl, hO3, hE3⟩
    have HE3 := hide (HE2.out.trans hE3)
    have HO3 := hide hO3
    have C3 := CR.out w3 HE3.out
    clear C2 hE3 hO3
    go_wp2_with fail
    refine C3.mono ?_
    rintro e w4 ⟨v4, rfl, hO4, hE4⟩
    have HE4 := hide (HE3.out.trans hE4)
    obtain ⟨A4, c4, rfl, _, _, h4⟩ := (HO3.out.ext hE4).form
    obtain ⟨A5, c5, rfl, _, _, h5⟩ := hO4.form
    have CS := same_any _ _ _ _ c4 c5 _ _ _ h4 h5
    rw [sameB_true rfl] at CS
    clear C3 hO4 h4 h5 hE4
    generalize res.length = k2 at *
    go_wp2_with fail
    refine CS.mono ?_
    rintro e w5 ⟨rfl, hE5⟩
    go_wp2
    go_ret
    exact ⟨rfl, HE4.out.trans hE5⟩
end Go.Proofs.Ytkgkppblkdihkaa

namespace Go.Proofs.Ytkgkppblkdihkaa
open Go.RowKit Rcs Num

theorem Rcs.read_len (whole : Bool) (b : List UInt8) : ∀ (f q : Nat), (readF whole b f q).1.length ≤ f
  | 0, _ => by simp [readF]
  | f + 1, q => by
    have := read_len whole b f (recR whole b q).2.1
    rw [readF]
    split
    · simp
    · split
      · simp
      · split
        · simp
        · simp; omega
theorem Rcs.read_fine (whole : Bool) (b : List UInt8) : ∀ (f q : Nat), ∀ r ∈ (readF whole b f q).1, r.time < 2 ^ 64 ∧ r.src.length ≤ 4000 ∧ r.text.length ≤ 4000
  | 0, _ => by simp [readF]
  | f + 1, q => by
    intro r hr
    rw [readF] at hr
    split at hr
    · simp at hr
    · split at hr
      · simp at hr
      · rename_i h1 h2
        split at hr
        · simp at hr
        · rcases List.mem_cons.1 hr with rfl | hr
          · exact (one_is (whole := whole) (b := b) (q := q) (q' := (recR whole b q).2.1) (r := (recR whole b q).1) (by rw [← Decidable.not_not.1 h2])).2.2.2
          · exact read_fine whole b f _ r hr
theorem Rcs.read_ok (whole : Bool) (b : List UInt8) : ∀ r ∈ (readE whole b).1, r.ok := fun r hr => by
  have h := read_fine whole b b.length 0 r hr
  unfold Rc.ok maxLen
  omega
theorem Rcs.groups_few (whole : Bool) (size : Int) : ∀ (f : Nat) (l : List Rc), (groupsF whole size f l).length ≤ f
  | 0, _ => by simp [groupsF]
  | _ + 1, [] => by simp [groupsF]
  | f + 1, r :: t => by
    have := groups_few whole size f (t.drop (moreG whole size (oneB whole r).length t))
    rw [groupsF, List.length_cons]
    omega
theorem Rcs.weight_bytes (whole : Bool) : ∀ l : List Rc, weightE l ≤ 16 * (bytesB whole l).length
  | [] => by simp [weightE]
  | r :: t => by
    have h1 := weight_bytes whole t
    have h2 := enc_pos r.src.length
    have h3 := enc_pos r.text.length
    have h4 : (txtB r.src).length + (txtB r.text).length ≤ (oneB whole r).length := by unfold oneB; simp only [List.length_append]; omega
    unfold txtB at h4
    unfold weightE at h1 ⊢
    unfold bytesB at h1 ⊢
    rw [List.flatMap_cons, List.length_append, List.map_cons, List.sum_cons]
    simp only [List.length_append] at h4
    omega

set_option maxHeartbeats 2000000 in
set_option maxRecDepth 100000 in
theorem recsGroups_walk0 (size : Int) (whole : Bool) (A : Option Addr) (n c : Nat) (l : List Rc) (w : World) (hB : RColumnsC w) (hY : RGroupsC w) (hs : IsI64 size) (hn : n ≤ c) (hc : c ≤ maxLen) (h : RcsAt w w.heap.size A n l) :
    Calls Try.prog 8 #[.int .i64 size, .bool whole, .slice A n c] w fun e w' => e = .returned (.bool true) ∧ Ext w w' := by
  have C0 := alive17_any hB (Ext.refl w)
  have CG := hide (fun W (hE : Ext w W) => refGreat17_any A n c l 50 3000 W (h.later hE) (by omega))
  cases hg : greatE l 50 3000 with
  | true =>
    rw [hg] at CG
    clear hg
    go_enter Try.func8, Try.ntmps8
    go_wp2_with fail
    refine C0.mono ?_
    rintro e w1 ⟨rfl, hE1⟩
    have HE1 := hide hE1
    have C1 := CG.out w1 hE1
    clear C0 hE1
    go_wp2_with fail
    refine C1.mono ?_
    rintro e w2 ⟨rfl, hQ2⟩
    have HE2 := hide (HE1.out.trans hQ2.ext)
    clear C1 hQ2
    go_wp2
    go_ret
    exact ⟨rfl, HE2.out⟩
  | false =>
    rw [hg] at CG
    obtain ⟨-, g2⟩ := great_no hg (by omega)
    have CY := hide (fun W (hE : Ext w W) => hY size whole l A n c W hE hs hn hc (by omega) (h.later hE))
    have CR := hide (fun W (hE : Ext w W) => refGroups17_any size whole A n c l W hs (h.later hE) (by omega))
    have HLn := hide (show (groupsI size whole l).length ≤ 1000000 by unfold groupsI groupsE; rw [List.length_map]; have h1 := groups_few whole (if size < 1 then 1 else size) l.length l; have h2 := weight_len l; omega)
    clear hg g2 hB hY h
    unfold MadeL at CY CR
    generalize groupsI size whole l = res at *
    go_enter Try.func8, Try.ntmps8
    go_wp2_with fail
    refine C0.mono ?_
    rintro e w1 ⟨rfl, hE1⟩
    have HE1 := hide hE1
    have C1 := CG.out w1 hE1
    clear C0 hE1
    go_wp2_with fail
    refine C1.mono ?_
    rintro e w2 ⟨rfl, hQ2⟩
    have HE2 := hide (HE1.out.trans hQ2.ext)
    clear C1 hQ2
    have C2 := CY.out w2 HE2.out
    go_wp2_with fail
    refine C2.mono ?_
    rintro e w3 ⟨A3, c3, rfl, hc3, hm3, hI3, hE3⟩
    have HE3 := hide (HE2.out.trans hE3)
    have HI3 := hide hI3
    have C3 := CR.out w3 HE3.out
    clear C2 hE3 hI3
    go_wp2_with fail
    refine C3.mono ?_
    rintro e w4 ⟨A4, c4, rfl, hc4, hm4, hI4, hE4⟩
    have HE4 := hide (HE3.out.trans hE4)
    have CS := refSame9_any A3 A4 c3 c4 res res w4 (HI3.out.later hE4) hI4 (by have := HLn.out; omega)
    rw [decide_eq_true rfl] at CS
    clear C3 hI4 hE4 hc3 hc4 hm3 hm4
    generalize res.length = k2 at *
    go_wp2_with fail
    refine CS.mono ?_
    rintro e w5 ⟨rfl, hE5⟩
    go_wp2
    go_ret
    exact ⟨rfl, HE4.out.trans hE5⟩

set_option maxHeartbeats 2000000 in
set_option maxRecDepth 100000 in
theorem recsReads_walk0 (whole : Bool) (A : Option Addr) (n c : Nat) (b : List UInt8) (w : World) (hB : RColumnsC w) (hR : RReadC w) (hn : n ≤ c) (hc : c ≤ maxLen) (h : Bytes w w.heap.size A n b) :
    Calls Try.prog 5 #[.bool whole, .slice A n c] w fun e w' => e = .returned (.bool true) ∧ Ext w w' := by
  have C0 := alive17_any hB (Ext.refl w)
  have hl := h.1
  by_cases hbig : 1000 < n
  · have hbI : (1000 : Int) < (n : Int) := by omega
    clear hl
    go_enter Try.func5, Try.ntmps5
    go_wp2_with fail
    refine C0.mono ?_
    rintro e w1 ⟨rfl, hE1⟩
    have HE1 := hide hE1
    clear C0 hE1
    go_wp2
    go_ret
    exact ⟨rfl, HE1.out⟩
  have hbI : ¬ (1000 : Int) < (n : Int) := by omega
  have CY := fun (W : World) (hE : Ext w W) => hR whole b A c W hE (by omega) hc (by omega) (by rw [hl]; exact hE.bytes h)
  rw [hl] at CY
  have HY := hide CY
  have CR := hide (fun (W : World) (hE : Ext w W) => refRead17_any whole A n c b W (hE.bytes h) (by omega))
  have HOk := hide (read_ok whole b)
  have HLn := hide (show (readE whole b).1.length ≤ 1000 by have := read_len whole b b.length 0; unfold readE; omega)
  unfold RdToR at HY
  unfold MadeRc at CR
  generalize readE whole b = res at *
  clear hB hR h CY hl hbig
  go_enter Try.func5, Try.ntmps5
  go_wp2_with fail
  refine C0.mono ?_
  rintro e w1 ⟨rfl, hE1⟩
  have HE1 := hide hE1
  clear C0 hE1
  have C2 := HY.out w1 HE1.out
  go_wp2_with fail
  refine C2.mono ?_
  rintro e w3 ⟨A3, c3, rfl, hc3, hm3, hI3, hE3⟩
  have HE3 := hide (HE1.out.trans hE3)
  have HI3 := hide hI3
  have C3 := CR.out w3 HE3.out
  clear C2 hE3 hI3
  go_wp2_with fail
  refine C3.mono ?_
  rintro e w4 ⟨v4, rfl, hO4, hE4⟩
  have HE4 := hide (HE3.out.trans hE4)
  obtain ⟨A4, c4, rfl, hc4, hm4, hI4⟩ := hO4.form HOk.out
  have CS := refSame17_any A3 A4 c3 c4 res.1 res.1 w4 (HI3.out.later hE4) hI4 (by have := HLn.out; omega)
  rw [decide_eq_true rfl] at CS
  have heb : (res.2 == res.2) = true := by simp
  clear C3 hI4 hE4 hc3 hc4 hm3 hm4 hO4
  generalize res.2 = er at *
  generalize res.1.length = k2 at *
  go_wp2_with fail
  refine CS.mono ?_
  rintro e w5 ⟨rfl, hQ5⟩
  go_wp2
  go_ret
  exact ⟨rfl, HE4.out.trans hQ5.ext⟩

set_option maxHeartbeats 2000000 in
set_option maxRecDepth 100000 in
theorem recsOne_walk0 (whole : Bool) (A : Option Addr) (n c : Nat) (b : List UInt8) (w : World) (hB : RColumnsC w) (hR : RReadC w) (hY : RBytesC w) (hn : n ≤ c) (hc : c ≤ maxLen) (h : Bytes w w.heap.size A n b) :
    Calls Try.prog 7 #[.bool whole, .slice A n c] w fun e w' => e = .returned (.bool true) ∧ Ext w w' := by
  have C0 := alive17_any hB (Ext.refl w)
  have hl := h.1
  by_cases hbig : 1000 < n
  · have hbI : (1000 : Int) < (n : Int) := by omega
    clear hl
    go_enter Try.func7, Try.ntmps7
    go_wp2_with fail
    refine C0.mono ?_
    rintro e w1 ⟨rfl, hE1⟩
    have HE1 := hide hE1
    clear C0 hE1
    go_wp2
    go_ret
    exact ⟨rfl, HE1.out⟩
  have hbI : ¬ (1000 : Int) < (n : Int) := by omega
  have CR := fun (W : World) (hE : Ext w W) => hR whole b A c W hE (by omega) hc (by omega) (by rw [hl]; exact hE.bytes h)
  rw [hl] at CR
  have HR := hide CR
  have H := hide h
  obtain ⟨l, er, hr⟩ : ∃ l er, readE whole b = (l, er) := ⟨_, _, rfl⟩
  rw [hr] at HR
  unfold RdToR at HR
  dsimp only at HR
  by_cases he : er = 0
  · subst he
    obtain ⟨o1, -⟩ := read_one hr
    have hw := weight_bytes whole l
    rw [o1, hl] at hw
    have CY := hide (fun (A' : Option Addr) (c' : Nat) (W : World) (hE : Ext w W) (h1 : l.length ≤ c') (h2 : c' ≤ maxLen) (h3 : RcsAt W W.heap.size A' l.length l) => hY whole l A' l.length c' W hE h1 h2 (by omega) h3)
    rw [o1] at CY
    generalize hk : l.length = k at *
    clear hB hR hY h CR hl hr o1 hw hk
    go_enter Try.func7, Try.ntmps7
    go_wp2_with fail
    refine C0.mono ?_
    rintro e w1 ⟨rfl, hE1⟩
    have HE1 := hide hE1
    clear C0 hE1
    have C2 := HR.out w1 HE1.out
    go_wp2_with fail
    refine C2.mono ?_
    rintro e w3 ⟨A3, c3, rfl, hc3, hm3, hI3, hE3⟩
    have HE3 := hide (HE1.out.trans hE3)
    have C3 := CY.out A3 c3 w3 HE3.out hc3 hm3 hI3
    clear C2 hE3 hI3
    go_wp2_with fail
    refine C3.mono ?_
    rintro e w4 ⟨v4, rfl, hO4, hE4⟩
    have HE4 := hide (HE3.out.trans hE4)
    obtain ⟨A4, c4, rfl, _, _, h4⟩ := hO4.form
    have CS := same_any _ _ _ _ c4 c _ _ _ h4 (HE4.out.bytes H.out)
    rw [sameB_true rfl] at CS
    clear C3 hO4 h4 hE4
    generalize b.length = k4 at *
    go_wp2_with fail
    refine CS.mono ?_
    rintro e w5 ⟨rfl, hE5⟩
    go_wp2
    go_ret
    exact ⟨rfl, HE4.out.trans hE5⟩
  · have heb : (er != 0) = true := by simpa using he
    generalize l.length = k at *
    clear hB hR hY h CR hl hr he
    go_enter Try.func7, Try.ntmps7
    go_wp2_with fail
    refine C0.mono ?_
    rintro e w1 ⟨rfl, hE1⟩
    have HE1 := hide hE1
    clear C0 hE1
    have C2 := HR.out w1 HE1.out
    go_wp2_with fail
    refine C2.mono ?_
    rintro e w3 ⟨A3, c3, rfl, hc3, hm3, hI3, hE3⟩
    have HE3 := hide (HE1.out.trans hE3)
    clear C2 hE3 hI3
    go_wp2
    go_ret
    exact ⟨rfl, HE3.out⟩

set_option maxHeartbeats 4000000 in
set_option maxRecDepth 100000 in
theorem recsBack_walk0 (whole : Bool) (A : Option Addr) (n c : Nat) (l : List Rc) (w : World) (hB : RColumnsC w) (hR : RReadC w) (hY : RBytesC w) (hn : n ≤ c) (hc : c ≤ maxLen) (h : RcsAt w w.heap.size A n l) :
    Calls Try.prog 6 #[.bool whole, .slice A n c] w fun e w' => e = .returned (.bool true) ∧ Ext w w' := by
  have C0 := alive17_any hB (Ext.refl w)
  have CG := hide (fun W (hE : Ext w W) => refGreat17_any A n c l 50 3000 W (h.later hE) (by omega))
  have hl := h.1
  cases hg : greatE l 50 3000 with
  | true =>
    rw [hg] at CG
    clear hg hl
    go_enter Try.func6, Try.ntmps6
    go_wp2_with fail
    refine C0.mono ?_
    rintro e w1 ⟨rfl, hE1⟩
    have HE1 := hide hE1
    have C1 := CG.out w1 hE1
    clear C0 hE1
    go_wp2_with fail
    refine C1.mono ?_
    rintro e w2 ⟨rfl, hQ2⟩
    have HE2 := hide (HE1.out.trans hQ2.ext)
    clear C1 hQ2
    go_wp2
    go_ret
    exact ⟨rfl, HE2.out⟩
  | false =>
    rw [hg] at CG
    obtain ⟨g1, g2⟩ := great_no hg (by omega)
    rw [hl] at g1
    have HY := hide (fun W (hE : Ext w W) => hY whole l A n c W hE hn hc (by omega) (h.later hE))
    have HBk := hide (read_back whole (l := l) (fun r hr => ⟨(h.2.2 r hr).1, by have := weight_mem hr; omega, by have := weight_mem hr; omega⟩))
    have HBl := hide (show (bytesB whole l).length ≤ 6000 by have := bytes_small whole l; omega)
    have HR := hide hR
    have HA := hide h
    have HWok := hide (show ∀ r ∈ l.map (bare whole), r.ok from fun r hr => by
      obtain ⟨x, hx, rfl⟩ := List.mem_map.1 hr
      have := h.2.2 x hx
      unfold bare
      split
      · exact this
      · exact ⟨by show 0 < 2 ^ 64; decide, this.2.1, this.2.2⟩)
    have HSn := hide (show ∀ i, i < n → (l.take (i + 1)).map (bare whole) = (l.take i).map (bare whole) ++ [bare whole (l.getD i default)] from fun i hi => by rw [rc_take (by omega), List.map_append]; rfl)
    have HAll := hide (show (l.take n).map (bare whole) = l.map (bare whole) by rw [List.take_of_length_le (by omega)])
    have H0 := hide (show (l.take 0).map (bare whole) = [] by simp)
    have HLt := hide (show ∀ i, ((l.take i).map (bare whole)).length ≤ 1000000 from fun i => by rw [List.length_map, List.length_take]; omega)
    have HLen := hide (show (l.map (bare whole)).length = n by rw [List.length_map]; exact hl)
    clear hg g2 hB hY h hR hl
    cases whole with
    | false =>
      go_enter Try.func6, Try.ntmps6
      go_wp2_with fail
      refine C0.mono ?_
      rintro e w1 ⟨rfl, hE1⟩
      have HE1 := hide hE1
      have C1 := CG.out w1 hE1
      clear C0 hE1
      go_wp2_with fail
      refine C1.mono ?_
      rintro e w2 ⟨rfl, hQ2⟩
      have HE2 := hide (HE1.out.trans hQ2.ext)
      clear C1 hQ2
      go_wp2
      go_loopw [6, 5] (fun x v wr => ∃ i : Nat, i ≤ n ∧ x = .int .i64 (i : Int) ∧ OwnRc wr w.heap.size v ((l.take i).map (bare false)) ∧ Ext w wr) (fun x _ _ => n - (intOf x).toNat)
      case atStart => exact ⟨0, by omega, rfl, by rw [H0.out]; exact OwnRc.nil _ _, HE2.out⟩
      case round =>
        clear H0 HE2
        obtain ⟨i, hi, rfl, hO, hE⟩ := hrel
        have HO := hide hO
        have HE := hide hE
        clear hO hE
        by_cases hlt : i < n
        · have hiI : (i : Int) < (n : Int) := by omega
          rcases (HA.out.later HE.out).2.1 with hn0 | ⟨b1, o1, rfl, _, hc1⟩
          · omega
          obtain ⟨e0, e1, e2, e3⟩ := hc1 i hlt
          have HSi := hide (HSn.out i hlt)
          have hLi := HLt.out i
          obtain ⟨r, hr⟩ : ∃ r, r = l.getD i default := ⟨_, rfl⟩
          rw [← hr] at e0 e1 e2 e3 HSi
          clear hc1 hr
          obtain ⟨L, hL⟩ : ∃ L, L = (l.take i).map (bare false) := ⟨_, rfl⟩
          rw [← hL] at HO HSi hLi
          clear hL
          have HLi := hide hLi
          clear hLi
          go_wp2_with (at_builtin; refine wpList_appRc (c := 1) rfl (.tmp 28) (.tmp 30) rfl rfl ⟨0, 0, r.src, r.text⟩ (HO.out.ext ((extNew wr _).trans (extNew _ _))) (by rw [World.size_alloc]; rfl) HLi.out (HE.out.trans (extNew wr _)).le ?_; intro vn wz hO hG _; have HOz := hide hO; have HEz := hide (show Ext w wz from Below.grown ((HE.out.trans (extNew wr _)).trans (extNew _ _)) hG ((HE.out.trans (extNew wr _)).trans (extNew _ _)).le (fun k hk => (HO.out.lt k hk).1)); clear hO hG)
          go_roundw
          case rel => exact ⟨i + 1, by omega, by go_num, by rw [HSi.out]; exact HOz.out, HEz.out⟩
          case measure => simp [intOf]; omega
        · have hiI : ¬ (i : Int) < (n : Int) := by omega
          have hin : i = n := by omega
          rw [hin, HAll.out] at HO
          have C2 := HY.out wr HE.out
          clear hlt hin
          go_wp2_with fail
          refine C2.mono ?_
          rintro e w3 ⟨v3, rfl, hO3, hE3⟩
          have HE3 := hide (HE.out.trans hE3)
          have HO3 := hide (HO.out.ext hE3)
          obtain ⟨A3, c3, rfl, hc3, hm3, h3⟩ := hO3.form
          have C3 := HR.out false (bytesB false l) A3 c3 w3 HE3.out hc3 hm3 (by have := HBl.out; omega) h3
          rw [HBk.out] at C3
          unfold RdToR at C3
          dsimp only at C3
          clear C2 hO3 hE3 h3
          generalize (bytesB false l).length = k3 at *
          generalize l.map (bare false) = W at *
          go_wp2_with fail
          refine C3.mono ?_
          rintro e w4 ⟨A4, c4, rfl, hc4, hm4, hI4, hE4⟩
          have HE4 := hide (HE3.out.trans hE4)
          obtain ⟨A5, c5, hv5, hc5, hm5, hI5⟩ := (HO3.out.ext hE4).form HWok.out
          subst hv5
          have CS := refSame17_any A4 A5 c4 c5 W W w4 hI4 hI5 (by rw [HLen.out]; omega)
          rw [decide_eq_true rfl] at CS
          clear C3 hI4 hE4 hI5 HO HO3
          generalize W.length = k5 at *
          go_wp2_with fail
          refine CS.mono ?_
          rintro e w5 ⟨rfl, hQ5⟩
          go_wp2
          go_ret
          exact ⟨rfl, HE4.out.trans hQ5.ext⟩
    | true =>
      go_enter Try.func6, Try.ntmps6
      go_wp2_with fail
      refine C0.mono ?_
      rintro e w1 ⟨rfl, hE1⟩
      have HE1 := hide hE1
      have C1 := CG.out w1 hE1
      clear C0 hE1
      go_wp2_with fail
      refine C1.mono ?_
      rintro e w2 ⟨rfl, hQ2⟩
      have HE2 := hide (HE1.out.trans hQ2.ext)
      clear C1 hQ2
      go_wp2
      go_loopw [6, 5] (fun x v wr => ∃ i : Nat, i ≤ n ∧ x = .int .i64 (i : Int) ∧ OwnRc wr w.heap.size v ((l.take i).map (bare true)) ∧ Ext w wr) (fun x _ _ => n - (intOf x).toNat)
      case atStart => exact ⟨0, by omega, rfl, by rw [H0.out]; exact OwnRc.nil _ _, HE2.out⟩
      case round =>
        clear H0 HE2
        obtain ⟨i, hi, rfl, hO, hE⟩ := hrel
        have HO := hide hO
        have HE := hide hE
        clear hO hE
        by_cases hlt : i < n
        · have hiI : (i : Int) < (n : Int) := by omega
          rcases (HA.out.later HE.out).2.1 with hn0 | ⟨b1, o1, rfl, _, hc1⟩
          · omega
          obtain ⟨e0, e1, e2, e3⟩ := hc1 i hlt
          have HSi := hide (HSn.out i hlt)
          have hLi := HLt.out i
          obtain ⟨r, hr⟩ : ∃ r, r = l.getD i default := ⟨_, rfl⟩
          rw [← hr] at e0 e1 e2 e3 HSi
          clear hc1 hr
          obtain ⟨L, hL⟩ : ∃ L, L = (l.take i).map (bare true) := ⟨_, rfl⟩
          rw [← hL] at HO HSi hLi
          clear hL
          have HLi := hide hLi
          clear hLi
          go_wp2_with (at_builtin; refine wpList_appRc (c := 1) rfl (.tmp 28) (.tmp 30) rfl rfl ⟨r.time, r.lv, r.src, r.text⟩ (HO.out.ext ((extNew wr _).trans (extNew _ _))) (by rw [World.size_alloc]; rfl) HLi.out (HE.out.trans (extNew wr _)).le ?_; intro vn wz hO hG _; have HOz := hide hO; have HEz := hide (show Ext w wz from Below.grown ((HE.out.trans (extNew wr _)).trans (extNew _ _)) hG ((HE.out.trans (extNew wr _)).trans (extNew _ _)).le (fun k hk => (HO.out.lt k hk).1)); clear hO hG)
          go_roundw
          case rel => exact ⟨i + 1, by omega, by go_num, by rw [HSi.out]; exact HOz.out, HEz.out⟩
          case measure => simp [intOf]; omega
        · have hiI : ¬ (i : Int) < (n : Int) := by omega
          have hin : i = n := by omega
          rw [hin, HAll.out] at HO
          have C2 := HY.out wr HE.out
          clear hlt hin
          go_wp2_with fail
          refine C2.mono ?_
          rintro e w3 ⟨v3, rfl, hO3, hE3⟩
          have HE3 := hide (HE.out.trans hE3)
          have HO3 := hide (HO.out.ext hE3)
          obtain ⟨A3, c3, rfl, hc3, hm3, h3⟩ := hO3.form
          have C3 := HR.out true (bytesB true l) A3 c3 w3 HE3.out hc3 hm3 (by have := HBl.out; omega) h3
          rw [HBk.out] at C3
          unfold RdToR at C3
          dsimp only at C3
          clear C2 hO3 hE3 h3
          generalize (bytesB true l).length = k3 at *
          generalize l.map (bare true) = W at *
          go_wp2_with fail
          refine C3.mono ?_
          rintro e w4 ⟨A4, c4, rfl, hc4, hm4, hI4, hE4⟩
          have HE4 := hide (HE3.out.trans hE4)
          obtain ⟨A5, c5, hv5, hc5, hm5, hI5⟩ := (HO3.out.ext hE4).form HWok.out
          subst hv5
          have CS := refSame17_any A4 A5 c4 c5 W W w4 hI4 hI5 (by rw [HLen.out]; omega)
          rw [decide_eq_true rfl] at CS
          clear C3 hI4 hE4 hI5 HO HO3
          generalize W.length = k5 at *
          go_wp2_with fail
          refine CS.mono ?_
          rintro e w5 ⟨rfl, hQ5⟩
          go_wp2
          go_ret
          exact ⟨rfl, HE4.out.trans hQ5.ext⟩
end Go.Proofs.Ytkgkppblkdihkaa

namespace Go.Proofs.Ytkgkppblkdihkaa
open Go.RowKit

/-- A slice that reads as these numbers. -/
def U64At (w : World) (B : Nat) (A : Option Addr) (n : Nat) (L : List Nat) : Prop :=
  L.length = n ∧ (n = 0 ∨ ∃ b off, A = some ⟨b, off, none⟩ ∧ b < B ∧ ∀ i, i < n → w.cell? ⟨b, off + i, none⟩ = some (.int .u64 ((L.getD i 0 : Nat) : Int)))
theorem U64At.later {w w' : World} {A : Option Addr} {n : Nat} {L : List Nat} (h : U64At w w.heap.size A n L) (hE : Ext w w') : U64At w' w'.heap.size A n L := by
  refine ⟨h.1, ?_⟩
  rcases h.2 with h0 | ⟨b, off, hA, hB, hc⟩
  · exact .inl h0
  · exact .inr ⟨b, off, hA, Nat.lt_of_lt_of_le hB hE.le, fun i hi => by rw [hE.cell hB]; exact hc i hi⟩
def u64V (x : Nat) : Value := .int .u64 (x : Int)
/-- v is nil, or lies in a block of the call's own, and reads as these numbers. -/
def Own64 (w : World) (base : Nat) (v : Value) (L : List Nat) : Prop := w.ownsRow base 40 1 v L.length (L.map u64V)
theorem u64_info : (Try.prog.info? 40).map (fun i => (i.zero, i.size, i.bytes)) = some (some (.int .u64 0), 1, 8) := by kernel_rfl
theorem Own64.nil (w : World) (base : Nat) : Own64 w base (.slice none 0 0) [] := World.ownsRow_nil w base _ _
theorem Own64.ext {w w' : World} {base : Nat} {v : Value} {L : List Nat} (h : Own64 w base v L) (hE : Ext w w') : Own64 w' base v L :=
  World.ownsRow.kept h (hE.grown none) (by cases hv : v.ownBlock <;> simp)
theorem Own64.lt {w : World} {base : Nat} {v : Value} {L : List Nat} (h : Own64 w base v L) : ∀ k, v.ownBlock = some k → base ≤ k ∧ k < w.heap.size := World.ownsRow.lt h
theorem Own64.form {w : World} {base : Nat} {v : Value} {L : List Nat} (h : Own64 w base v L) : ∃ A c, v = .slice A L.length c ∧ L.length ≤ c ∧ U64At w w.heap.size A L.length L := by
  have hl := h.lt
  rcases h.2 with ⟨rfl, h0⟩ | ⟨g, cap, cur, rfl, hb, hg, hn, hc, hs, ht⟩
  · exact ⟨none, 0, by rw [h0], by omega, rfl, .inl h0⟩
  · refine ⟨_, cap, rfl, hn, rfl, .inr ⟨g, 0, rfl, (hl g rfl).2, fun i hi => ?_⟩⟩
    have hk := World.ownsRow.cellAt h i (by omega)
    rw [Nat.zero_add, hk]
    simp [hi, u64V]
section
variable {o : Oper} {a : Act} {Q : Exit → Act → World → Prop} {w : World} {base : Nat} {v : Value} {L : List Nat}
/-- append of one number, which lies in a block of its own. -/
theorem wpList_app64 {ops : Array Oper} {rest : List Oper} (hgd : o.guard = none) (s x : Operand) (ho : o.op = .call { callee := .builtin .append, args := #[s, x], argTypes := #[52, 52] }) (hs : a.eval s = v) (p : Nat)
    (hown : Own64 (w.alloc (.cells #[.int .u64 (p : Int)] 40)) base v L) {c : Nat} (hx : a.eval x = .slice (some ⟨w.heap.size, 0, none⟩) 1 c) (hlen : L.length ≤ 1000000) (hbase : base ≤ w.heap.size)
    (h : ∀ v' w', Own64 w' base v' (L ++ [p]) → (w.alloc (.cells #[.int .u64 (p : Int)] 40)).grownBy w' v.ownBlock → wpList Try.prog ops Q rest (a.put o.dst v') w') :
    wpList Try.prog ops Q (o :: rest) a (w.alloc (.cells #[.int .u64 (p : Int)] 40)) := by
  obtain ⟨i, hi, hz, hsz, hby⟩ := info_parts u64_info
  refine wpList_append_own_at _ hgd s x 52 ho base 40 i _ 1 8 Try.underlying52 hi hz hsz hby rfl (by omega) v L.length (L.map u64V) hs hown ⟨w.heap.size, 0, none⟩ 1 c [.int .u64 (p : Int)] hx rfl (by
    intro j u hu
    match j, hu with
    | 0, hu =>
      have : (⟨w.heap.size, 0, none⟩ : Addr).add 0 = ⟨w.heap.size, 0, none⟩ := rfl
      rw [this, cellNew]
      simpa using hu
    | j + 1, hu => simp at hu) (by
    intro u hu
    simp at hu
    subst hu
    rfl) (by unfold maxLen; omega) (by omega) (by simp; omega) ?_
  intro v' w' h2 h3 _ h5
  refine h v' w' ?_ h3
  unfold Own64
  rw [List.length_append, List.map_append]
  exact h2
end
theorem Mod.own64 {w w' : World} {g : Nat} {ob : Option Nat} (h : Mod w w' g ob) {base : Nat} {v : Value} {L : List Nat} (hv : Own64 w base v L) (hg : v.ownBlock ≠ some g) (ho : v.ownBlock = none ∨ v.ownBlock ≠ ob) : Own64 w' base v L := by
  refine ⟨hv.1, ?_⟩
  rcases hv.2 with hn | ⟨x, cap, cur, rfl, hb, hgg, rest⟩
  · exact .inl hn
  · refine .inr ⟨x, cap, cur, rfl, hb, ?_, rest⟩
    rw [h.block x (Array.getElem?_eq_some_iff.1 hgg).1 (by intro e; subst e; simp [Value.ownBlock] at hg) (by
      intro e
      rcases ho with ho | ho
      · simp [Value.ownBlock] at ho
      · exact ho (by simpa [Value.ownBlock] using e))]
    exact hgg
/-- Such a list and bytes of the call's own lie apart. -/
theorem Own64.apart {w : World} {base base2 : Nat} {v u : Value} {L : List Nat} {l : List UInt8} (h : Own64 w base v L) (k : OwnB w base2 u l) : v.ownBlock = none ∨ v.ownBlock ≠ u.ownBlock := by
  rcases h.2 with ⟨rfl, _⟩ | ⟨g, cap, cur, rfl, _, hg, _⟩
  · exact .inl rfl
  · refine .inr fun e => ?_
    rcases k.2 with ⟨rfl, _⟩ | ⟨g2, cap2, cur2, rfl, _, hg2, _⟩
    · simp [Value.ownBlock] at e
    · simp only [Value.ownBlock, Option.some.injEq] at e
      subst e
      rw [hg] at hg2
      simp only [Option.some.injEq, Obj.cells.injEq] at hg2
      exact absurd hg2.2.1 (by decide)
end Go.Proofs.Ytkgkppblkdihkaa

