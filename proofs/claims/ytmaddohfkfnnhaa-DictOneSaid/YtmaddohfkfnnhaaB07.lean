/- The program's Write of chapter 16. The program's Find, Range and All of chapter 16. The program's Find and All of chapter 16, and what a nil dictionary tells. The document's Write of chapter 16. The document's functions of chapter 15: Small, Words, One, Term. The document's functions of chapter 15: One, Term, Same, Has. What the laws of chapter 16 ask of the program; the example; DictWrites, DictNone. What the laws of chapter 16 ask of the program, of the landed package. DictOne, DictBack. DictFinds. DictRange. The laws of chapter 16 at the landed package: their walks. What arguments that came in read as: slices of bytes, and slices of those. -/
import Derived.Test.YtmaddohfkfnnhaaB01
import Derived.Test.YtmaddohfkfnnhaaB02
import Derived.Test.YtmaddohfkfnnhaaB03
import Derived.Test.YtmaddohfkfnnhaaB04
import Derived.Test.YtmaddohfkfnnhaaB06
import Derived.BigQuiet
import Derived.OwnWalk
import Derived.Lib.SlBytesConst
import Derived.OpenShut
import Derived.ProofKit
import Derived.Deep.Slices
namespace Go.Proofs.Ytmaddohfkfnnhaa
open Go.RowKit Num Wrd Dic

attribute [local go_sem] Oper.semAt_some

theorem Three.turned {W W' : World} {base : Nat} {u v x : Value} {U V X : List UInt8} {row : Option Nat} (h : Three W base u U v V x X) (hg : W.grownBy W' row) (hr : ∀ r, row = some r → ∃ o : Obj, W.heap[r]? = some o ∧ o.isCells = false) : Three W' base u U v V x X :=
  ⟨h.1.turn hg hr, h.2.1.turn hg hr, h.2.2.1.turn hg hr, h.2.2.2⟩
theorem TextsAt.part {W : World} {B n sz p : Nat} {A : Option Addr} {L : List (List UInt8)} (h : TextsAt W B A n L) (hp : p < n) : TextsAt W B (partA A p) (min sz (n - p)) ((L.drop p).take sz) := by
  have hl := h.1
  rcases h.2 with h0 | ⟨b, o, rfl, hb, hc⟩
  · omega
  · refine ⟨by rw [List.length_take, List.length_drop]; omega, .inr ⟨b, o + p, rfl, hb, fun i hi => ?_⟩⟩
    rw [Nat.add_assoc, hc (p + i) (by omega)]
    simp [List.getD_eq_getElem?_getD, show i < sz by omega]

theorem KeepsOthers.ofExt {W W' : World} (hE : Ext W W') : KeepsOthers W W' := KeepsOthers.of_grownBy (row := none) ⟨hE.os, hE.tape, hE.output, hE.le, fun k hk _ => hE.block k hk⟩ (fun _ _ h => by cases h)
theorem KeepsOthers.ofWhole {W W' : World} {g : Nat} {t : TypeId} {cs : Array Value} (h : Whole W g t cs) (hG : W.grownBy W' (some g)) : KeepsOthers W W' := KeepsOthers.of_grownBy hG (fun j o hj ho => by
  simp only [Option.some.injEq] at hj
  subst hj
  unfold Whole at h
  rw [h] at ho
  cases ho
  rfl)
theorem KeepsOthers.ofOwn {W W' : World} {base : Nat} {v : Value} {l : List UInt8} (h : OwnB W base v l) (hG : W.grownBy W' v.ownBlock) : KeepsOthers W W' := KeepsOthers.of_grownBy hG (fun j o hj ho => by
  rcases h.2 with ⟨rfl, _⟩ | ⟨g1, c1, u1, rfl, _, hg1, _⟩
  · cases hj
  · simp only [Value.ownBlock, Option.some.injEq] at hj
    subst hj
    rw [hg1] at ho
    cases ho
    rfl)
/-- What three hold is left by a store into a block of another kind. -/
theorem Three.put {W W' : World} {base g : Nat} {u v x : Value} {U V X : List UInt8} {t : TypeId} {cs : Array Value} (h : Three W base u U v V x X) (hw : Whole W g t cs) (ht : t ≠ 5) (hG : W.grownBy W' (some g)) : Three W' base u U v V x X :=
  ⟨World.ownsRow.kept h.1 hG (.inr (h.1.notKind hw ht)), World.ownsRow.kept h.2.1 hG (.inr (h.2.1.notKind hw ht)), World.ownsRow.kept h.2.2.1 hG (.inr (h.2.2.1.notKind hw ht)), h.2.2.2⟩
theorem wpListIn_appAtR {ops : Array Oper} {rest : List Oper} {o : Oper} {a : Act} {Q : Exit → Act → World → Prop} {w : World} {base : Nat} {v : Value} {l : List UInt8} (L N : Nat) (hgd : o.guard = none) (s x : Operand) (ho : o.op = .call { callee := .builtin .append, args := #[s, x], argTypes := #[25, 25] }) (hs : a.eval s = v) (hown : OwnB w base v l)
    {A : Option Addr} {m c : Nat} {k : List UInt8} (hx : a.eval x = .slice A m c) (hb : Bytes w w.heap.size A m k) (hlen : l.length + m ≤ 140737488355328) (hbase : base ≤ w.heap.size)
    (h : ∀ v' w', OwnB w' base v' (l ++ k) → w.grownBy w' v.ownBlock → NewOb w v.ownBlock v'.ownBlock → wpListIn (Fence.wide.inRound L) N Try.prog ops Q rest (a.put o.dst v') w') : wpListIn (Fence.wide.inRound L) N Try.prog ops Q (o :: rest) a w :=
  wpListIn_plain hgd fun _ hK => operRound L N (fun c hc => by rw [ho] at hc; cases hc) (wp_appAt s x ho hs hown hx hb hlen hbase fun v' w' h2 h3 h4 => hK _ _ (h v' w' h2 h3 h4))
theorem wrt_step {W0 w W W' : World} {s : Nat} {v1 v2 x v' c1 c2 : Value} {H B P : List UInt8} (h : Three W w.heap.size v1 H v2 B x P) (h1 : Whole W s 25 #[v1]) (h2 : Whole W (s + 1) 25 #[v2]) (b1 : Whole W (s + 1 + 1) 22 #[c1]) (b2 : Whole W (s + 1 + 1 + 1) 3 #[c2]) (hE : Ext w W) (hK : KeepsOthers W0 W)
    (hO : OwnB W' w.heap.size v' (B ++ P)) (hG : W.grownBy W' v2.ownBlock) (hN : NewOb W v2.ownBlock v'.ownBlock) :
    Three W' w.heap.size v1 H v' (B ++ P) x P ∧ Whole W' s 25 #[v1] ∧ Whole W' (s + 1) 25 #[v2] ∧ Whole W' (s + 1 + 1) 22 #[c1] ∧ Whole W' (s + 1 + 1 + 1) 3 #[c2] ∧ Ext w W' ∧ KeepsOthers W0 W' :=
  ⟨(h.flip.grow hO hG hN).flip, h1.ownGrown hG (h.2.1.notKind h1 (by decide)), h2.ownGrown hG (h.2.1.notKind h2 (by decide)), b1.ownGrown hG (h.2.1.notKind b1 (by decide)), b2.ownGrown hG (h.2.1.notKind b2 (by decide)),
    Below.grown hE hG hE.le (fun k hk => (h.2.1.lt k hk).1), hK.trans (KeepsOthers.ofOwn h.2.1 hG)⟩
/-- Between two rounds. -/
structure WrtI (w : World) (s : Nat) (A : Option Addr) (n c sz : Nat) (L : List (List UInt8)) (T1 T2 : List UInt8) (k : Nat) (W : World) : Prop where
  ex : ∃ v1 v2 H B, Whole W s 25 #[v1] ∧ Whole W (s + 1) 25 #[v2] ∧ Three W w.heap.size v1 H v2 B (.slice none 0 0) [] ∧ T1 = H ++ headB (bucketsAt sz L (k * sz)) ∧ T2 = B ++ bodyB (bucketsAt sz L (k * sz))
  b1 : Whole W (s + 1 + 1) 22 #[.slice A n c]
  b2 : Whole W (s + 1 + 1 + 1) 3 #[.int .i64 (sz : Int)]
  ext : Ext w W
theorem WrtI.own {w : World} {s : Nat} {A : Option Addr} {n c sz B : Nat} {L : List (List UInt8)} {T1 T2 : List UInt8} (hB : w.heap.size ≤ B) : OwnFrom B (WrtI w s A n c sz L T1 T2) := fun k W W' row h hg hr => by
  have hr2 := fun r e => (hr r e).2
  obtain ⟨v1, v2, H, B, h1, h2, h3, h4⟩ := h.ex
  exact ⟨⟨v1, v2, H, B, h1.turn hg hr2, h2.turn hg hr2, h3.turned hg hr2, h4⟩, h.b1.turn hg hr2, h.b2.turn hg hr2, Below.grown h.ext hg h.ext.le fun r e => Nat.le_trans hB (hr r e).1⟩

set_option maxHeartbeats 4000000 in
set_option maxRecDepth 100000 in
theorem dWriteGood_any (A : Option Addr) (n c sz : Nat) (L : List (List UInt8)) (w : World) (h : TextsAt w w.heap.size A n L) (hn : n ≤ 1000) (hnc : n ≤ c) (hc : c ≤ maxLen) (hm : mayD L = true) (hs1 : 1 ≤ sz) (hs2 : sz ≤ 64) :
    Calls Try.prog 11 #[.int .i64 (sz : Int), .slice A n c] w (MadeE w (dictB sz L) 0) := by
  have hl := h.1
  have hfit := fun s hs => ((may_facts hm).2.1 s hs).2
  have hT := dict_len hs1 hs2 hfit
  rw [hl] at hT
  obtain ⟨hT1, hT2, -⟩ := hT
  have CS := fun W => dSize_any (sz : Int) W
  rw [show sizeD (sz : Int) = true from decide_eq_true (by omega)] at CS
  have CR := fun W (hW : Ext w W) => dIsRow_any A n c L W (h.later hW) (by omega) (fun s hs => by have := hfit s hs; omega)
  rw [hm] at CR
  have CN := fun W => ownNum_any n W (by omega)
  have hwn := wrap_u64 (n := n) (by omega)
  have HD := hide (show dictB sz L = (enc n ++ headB (bucketsAt sz L 0)) ++ bodyB (bucketsAt sz L 0) by unfold dictB; rw [hl, buckets_start])
  rw [buckets_start] at hT1 hT2
  obtain ⟨T1, hT1e⟩ : ∃ T, T = enc n ++ headB (bucketsAt sz L 0) := ⟨_, rfl⟩
  obtain ⟨T2, hT2e⟩ : ∃ T, T = bodyB (bucketsAt sz L 0) := ⟨_, rfl⟩
  rw [← hT1e, ← hT2e] at HD
  rw [← hT1e] at hT1
  rw [← hT2e] at hT2
  have HT1 := hide hT1
  have HT2 := hide hT2
  have HE1 := hide hT1e
  have HE2 := hide hT2e
  have HA := hide h
  have HF := hide hfit
  have HC := hide hc
  have HLn := hide hl
  have HNC := hide hnc
  clear hT1 hT2 hT1e hT2e h hm hfit hl hc hnc
  refine (callsIn_wide (n := 10)).1 ?_
  refine callsIn_of_wp_marks Try.func11 rfl trivial ?_ rfl
  simp only [Try.ntmps11, List.size_toArray, List.length_cons, List.length_nil, Nat.reduceAdd, Nat.reduceSub, Array.replicate_succ, Array.replicate_zero, List.push_toArray, List.append_toArray, List.nil_append, List.cons_append]
  gi_wp2
  refine ⟨trivial, (callsIn_wide.2 (CS w)).mono ?_⟩
  rintro e w' ⟨rfl, rfl⟩
  gi_wp2
  refine ⟨trivial, (callsIn_wide.2 (CR w (Ext.refl w))).mono ?_⟩
  rintro e w' ⟨rfl, rfl⟩
  clear CS CR
  gi_wp2
  refine ⟨trivial, (callsIn_wide.2 (CN w)).mono ?_⟩
  rintro e w1 ⟨v1, rfl, hO1, hE1⟩
  clear CN
  have HO1 := hide hO1
  have HX1 := hide hE1
  obtain ⟨A1, c1, hv1, -, -, -⟩ := hO1.form
  obtain ⟨m1, hm1⟩ : ∃ m, m = (enc n).length := ⟨_, rfl⟩
  rw [← hm1] at hv1
  clear hO1 hE1 hm1
  subst hv1
  gi_wp2
  refine ⟨trivial, (chunkTx_in _ _ _ _ _ hs1 _).mono ?_⟩
  rintro e w' ⟨rfl, rfl⟩
  gi_wp2
  have hI0 : WrtI w w1.heap.size A n c sz L T1 T2 0 ((((w1.alloc (.cells #[.slice A1 m1 c1] 25)).alloc (.cells #[.slice none 0 0] 25)).alloc (.cells #[.slice A n c] 22)).alloc (.cells #[.int .i64 (sz : Int)] 3)) := by
    have hE4 := (((extNew w1 (.cells #[.slice A1 m1 c1] 25)).alloc (.cells #[.slice none 0 0] 25)).alloc (.cells #[.slice A n c] 22)).alloc (.cells #[.int .i64 (sz : Int)] 3)
    refine ⟨⟨_, .slice none 0 0, enc n, [], (((Whole.new w1 _ _).alloc _).alloc _).alloc _, ?_, ⟨HO1.out.ext hE4, OwnB.nil _ _, OwnB.nil _ _, Ap.nil _, Ap.nil _, Ap.nil _⟩, by rw [Nat.zero_mul]; exact HE1.out, by rw [Nat.zero_mul]; exact HE2.out⟩, ?_, ?_, HX1.out.trans hE4⟩
    · have := ((Whole.new (w1.alloc (.cells #[.slice A1 m1 c1] 25)) 25 #[.slice none 0 0]).alloc (.cells #[.slice A n c] 22)).alloc (.cells #[.int .i64 (sz : Int)] 3)
      rwa [World.size_alloc] at this
    · have := (Whole.new ((w1.alloc (.cells #[.slice A1 m1 c1] 25)).alloc (.cells #[.slice none 0 0] 25)) 22 #[.slice A n c]).alloc (.cells #[.int .i64 (sz : Int)] 3)
      rwa [World.size_alloc, World.size_alloc] at this
    · have := Whole.new (((w1.alloc (.cells #[.slice A1 m1 c1] 25)).alloc (.cells #[.slice none 0 0] 25)).alloc (.cells #[.slice A n c] 22)) 3 #[.int .i64 (sz : Int)]
      rwa [World.size_alloc, World.size_alloc, World.size_alloc] at this
  have hB3 := hI0.ext.le
  have hsw := HX1.out.le
  clear HO1
  generalize (((w1.alloc (.cells #[.slice A1 m1 c1] 25)).alloc (.cells #[.slice none 0 0] 25)).alloc (.cells #[.slice A n c] 22)).alloc (.cells #[.int .i64 (sz : Int)] 3) = w3 at hI0 hB3 ⊢
  have hs4 : w1.heap.size + 4 ≤ w3.heap.size := hI0.b2.lt
  generalize w1.heap.size = s at *
  have hAf : n = 0 ∨ ∃ g o, A = some ⟨g, o, none⟩ := by
    rcases HA.out.2 with h0 | ⟨b, o, e, _⟩
    · exact .inl h0
    · exact .inr ⟨b, o, e⟩
  obtain ⟨g, off, hgo⟩ : ∃ g off, n = 0 ∨ A = some ⟨g, off, none⟩ := by
    rcases hAf with h0 | ⟨b, o, e⟩
    · exact ⟨0, 0, .inl h0⟩
    · exact ⟨b, o, .inr e⟩
  have HGO := hide hgo
  clear hAf hgo
  refine wpIn_rangeOwn (gf := 41) (lb := #[.pointer (some ⟨s + 1 + 1, 0, none⟩), .pointer (some ⟨s + 1 + 1 + 1, 0, none⟩)]) rfl (entered_of Try.func41 (by kernel_rfl) rfl) (bucketsN sz n)
    (fun k => #[.slice (partA A (k * sz)) (chunkS sz n k) (chunkS sz n k)]) (fun _ => rfl) (WrtI w s A n c sz L T1 T2) (WrtI.own hB3) hI0
    (chunkTx_gives (by omega) (by omega) HNC.out HC.out hs1 hs2 HGO.out fun k W h => ⟨h.b1.at 0 (u := .slice A n c) rfl, h.b2.at 0 (u := .int .i64 (sz : Int)) rfl⟩)
    (fun k => { tmps := #[.int .i64 (sz : Int), .slice A n c, undef, undef, .slice none 0 0, .int .i64 0, .pointer (some ⟨s, 0, none⟩), .pointer (some ⟨s + 1, 0, none⟩), .slice (partA A (k * sz)) (chunkS sz n k) (chunkS sz n k), undef, .int .i64 (sz : Int), .bool true, .bool false, .bool false, .slice A n c, .bool true, .bool false, .bool false, .slice A n c, .int .i64 (n : Int), .int .u64 (n : Int), .slice A1 m1 c1, .slice A n c, .int .i64 (sz : Int), .func (.func 41) #[] #[.pointer (some ⟨s + 1 + 1, 0, none⟩), .pointer (some ⟨s + 1 + 1 + 1, 0, none⟩)], .slice (partA A (k * sz)) (chunkS sz n k) (chunkS sz n k), undef, undef, undef, undef, undef, undef, undef, undef, undef, undef, undef, undef, undef, undef, undef], defers := [] }) ?assign ?body ?done
  case assign =>
    intro l k W K hK
    generalize chunkS sz n k = e at *
    generalize partA A (k * sz) = A4 at *
    gi_wp2
    exact hK
  case body =>
    intro l k W hI hk
    obtain ⟨v1, v2, H, B, h1, h2, h3, e1, e2⟩ := hI.ex
    obtain ⟨p, hp⟩ : ∃ p, p = k * sz := ⟨_, rfl⟩
    have hpn : p < n := by rw [hp]; exact buckets_in hs1 hk
    obtain ⟨m, hm⟩ : ∃ m, chunkS sz n k = m + 1 := ⟨chunkS sz n k - 1, by unfold chunkS; rw [← hp]; omega⟩
    have hm64 : m ≤ 64 := by unfold chunkS at hm; omega
    have hpart := (HA.out.later hI.ext).part (sz := sz) hpn
    have hmc : min sz (n - p) = m + 1 := by rw [← hm]; unfold chunkS; rw [hp]
    rw [hmc] at hpart
    rw [← hp, buckets_step hs1 (by rw [HLn.out]; exact hpn)] at e1 e2
    have hfit : ∀ s, s ∈ (L.drop p).take sz → s.length ≤ 25 := fun s hs => HF.out s (List.mem_of_mem_drop (List.mem_of_mem_take hs))
    have CB := dBucket_any (partA A p) m (m + 1) _ W hpart hm64 (Nat.le_refl _) hfit
    have HPl := hide (bucket_in hs1 hs2 HF.out p)
    have HK1 := hide (show (k + 1) * sz = p + sz by rw [hp, Nat.add_mul, Nat.one_mul])
    obtain ⟨P, hP⟩ : ∃ P, P = bucketB ((L.drop p).take sz) := ⟨_, rfl⟩
    rw [← hP] at CB HPl
    have HQ1 := hide (show T1 = (H ++ enc P.length) ++ headB (bucketsAt sz L (p + sz)) by rw [e1, hP]; simp [headB])
    have HQ2 := hide (show T2 = (B ++ P) ++ bodyB (bucketsAt sz L (p + sz)) by rw [e2, hP]; simp [bodyB])
    have HHl := hide (show H.length ≤ 100000 by have h1 := HT1.out; rw [HQ1.out, List.length_append, List.length_append] at h1; omega)
    have HBl := hide (show B.length ≤ 10000000 by have h1 := HT2.out; rw [HQ2.out, List.length_append, List.length_append] at h1; omega)
    rw [hm, ← hp]
    have HW1 := hide h1
    have HW2 := hide h2
    have H3 := hide h3
    have HX := hide hI
    have hbI := hI.ext.le
    clear hP e1 e2 hmc hpart hfit hm hp h1 h2 h3 hI
    generalize partA A p = A4 at *
    have hcast : ((m + 1 : Nat) : Int) = (m : Int) + 1 := by omega
    gi_wp2
    refine ⟨trivial, (CallsIn.inRound l (callsIn_wide.2 CB)).mono ?_⟩
    rintro e w4 ⟨v4, rfl, hO4, hE4⟩
    obtain ⟨A5, c5, hv5, -, -, -⟩ := hO4.form
    obtain ⟨q, hq⟩ : ∃ q, q = P.length := ⟨_, rfl⟩
    rw [← hq] at hv5 HPl HQ1
    subst hv5
    have hq2 : q ≤ 2000 := HPl.out
    have H34 := hide (H3.out.fresh hE4 hO4 hbI)
    obtain ⟨A6, c6, hv6, -, -, -⟩ := H3.out.1.form
    obtain ⟨A7, c7, hv7, -, -, -⟩ := H3.out.2.1.form
    obtain ⟨m6, hm6⟩ : ∃ m, m = H.length := ⟨_, rfl⟩
    obtain ⟨m7, hm7⟩ : ∃ m, m = B.length := ⟨_, rfl⟩
    rw [← hm6] at hv6
    rw [← hm7] at hv7
    subst hv6 hv7
    have HW14 := hide (HW1.out.ext hE4)
    have HW24 := hide (HW2.out.ext hE4)
    have HXE := hide hE4
    have HX4 := hide (HX.out.ext.trans hE4)
    have hlt := HW14.out.lt
    have cs1 := HW14.out.at 0 (u := .slice A6 m6 c6) rfl
    have hwq := wrap_u64 (n := q) (by omega)
    have CQ := fun X => ownNum_any q X (by omega)
    have HQe := hide hq
    clear CB hO4 hE4 hm6 hm7 hcast hwn hq
    gi_wp2
    refine wpIn_region_T (fun X => Ext w4 X) 5 7 #[false, false, false, false, false, false, false] (by kernel_rfl) (fun ⟨_, _, h⟩ => h) (by kernel_rfl) rfl rfl (Ext.refl w4).drew ?_
    intro hS0
    refine wpAnyT_take 0 (some 28) (.slice A6 m6 c6) #[true, false, false, false, false, false, false] rfl rfl rfl (by kernel_rfl) (fun _ _ _ h => h) hS0 (by rfl) (fun X hX => by have f1 := (hX.cell (i := 0) hlt).trans cs1; go_simp) ?_
    simp only [Act.put, List.setIfInBounds_toArray, List.set_cons_zero, List.set_cons_succ]
    refine wpAnyT_take 1 (some 29) (.slice A5 q c5) #[true, true, false, false, false, false, false] rfl rfl rfl (by kernel_rfl) (fun _ _ _ h => h) hS0 (by rfl) (fun X hX => by go_simp) ?_
    simp only [Act.put, List.setIfInBounds_toArray, List.set_cons_zero, List.set_cons_succ]
    refine wpAnyT_take 2 (some 30) (.int .i64 (q : Int)) #[true, true, true, false, false, false, false] rfl rfl rfl (by kernel_rfl) (fun _ _ _ h => h) hS0 (by rfl) (fun X hX => by go_simp) ?_
    simp only [Act.put, List.setIfInBounds_toArray, List.set_cons_zero, List.set_cons_succ]
    refine wpAnyT_take 3 (some 31) (.int .u64 (q : Int)) #[true, true, true, true, false, false, false] rfl rfl rfl (by kernel_rfl) (fun _ _ _ h => h) hS0 (by rfl) (fun X hX => by go_simp) ?_
    simp only [Act.put, List.setIfInBounds_toArray, List.set_cons_zero, List.set_cons_succ]
    refine wpAnyT_only 4 #[true, true, true, true, true, false, false] (by kernel_rfl) rfl rfl (by rfl) (fun K0 hK0 => ?_)
    go_simp
    refine (CQ w4.drew).mono ?_
    rintro e w5 ⟨v5, rfl, hO5, hE5⟩
    have hE45 : Ext w4 w5 := (Ext.refl w4).drew.trans hE5
    refine hK0 _ _ (fun _ => hE45) ?_
    clear hK0 K0 CQ hS0
    have HE5 := hide (HX4.out.trans hE45)
    have H35 := hide (H34.out.ext hE45)
    have hW15 := HW14.out.ext hE45
    have hW25 := HW24.out.ext hE45
    have hb15 := (HX.out.b1.ext HXE.out).ext hE45
    have hb25 := (HX.out.b2.ext HXE.out).ext hE45
    have hK5 := (KeepsOthers.ofExt HXE.out).trans (KeepsOthers.ofExt hE45)
    obtain ⟨Aq, cq, hvq, -, -, bq⟩ := hO5.form
    obtain ⟨mq, hmq⟩ : ∃ m, m = (enc q).length := ⟨_, rfl⟩
    rw [← hmq] at hvq bq
    subst hvq
    have HQ5 := hide bq
    have HM5 := hide (show mq ≤ 10 by rw [hmq]; exact enc_len q)
    clear hO5 hE5 hE45 bq hmq
    refine wpAnyT_only 5 #[true, true, true, true, true, true, false] (by kernel_rfl) rfl rfl (by rfl) (fun K1 hK1 => ?_)
    refine wp_appAt (v := .slice A6 m6 c6) (.tmp 28) (.tmp 32) rfl rfl H35.out.1 rfl HQ5.out (by have := HHl.out; have := HM5.out; omega) HE5.out.le ?_
    intro v6 w6 hO6 hG6 hN6
    refine hK1 _ _ (fun h => absurd h (by decide)) ?_
    clear hK1 K1
    simp only [Act.put, List.setIfInBounds_toArray]
    have hn1 := H35.out.1.notKind hW15 (by decide)
    have hn2 := H35.out.1.notKind hW25 (by decide)
    have hn3 := H35.out.1.notKind hb15 (by decide)
    have hn4 := H35.out.1.notKind hb25 (by decide)
    have H36 := hide (H35.out.grow hO6 hG6 hN6)
    have hW16 := hW15.ownGrown hG6 hn1
    have hW26 := hW25.ownGrown hG6 hn2
    have hb16 := hb15.ownGrown hG6 hn3
    have hb26 := hb25.ownGrown hG6 hn4
    have HE6 := hide (show Ext w w6 from Below.grown HE5.out hG6 HE5.out.le (fun k hk => (H35.out.1.lt k hk).1))
    have hK6 := hK5.trans (KeepsOthers.ofOwn H35.out.1 hG6)
    obtain ⟨G, hG⟩ : ∃ G, G = H ++ enc q := ⟨_, rfl⟩
    rw [← hG] at hO6 H36 HQ1
    obtain ⟨Ag, cg, hvg, -, -, -⟩ := hO6.form
    obtain ⟨mg, hmg⟩ : ∃ m, m = G.length := ⟨_, rfl⟩
    rw [← hmg] at hvg
    subst hvg
    clear hO6 hG6 hN6 hn1 hn2 hn3 hn4 hW15 hW25 hb15 hb25 hK5 hmg hG
    refine wpAnyT_only 6 #[true, true, true, true, true, true, true] (by kernel_rfl) rfl rfl (by rfl) (fun K2 hK2 => ?_)
    refine wpOper_putC 25 (.tmp 6) (.tmp 33) rfl #[.slice Ag mg cg] rfl rfl hW16 (by simp) (by kernel_rfl) rfl rfl rfl ?_
    intro w7 hW17 hG7
    refine hK2 _ _ (fun h => absurd h (by decide)) (wpAnyT_done (by kernel_rfl) ?_ _)
    clear hK2 K2
    have H37 := hide (H36.out.put hW16 (by decide) hG7)
    have hW27 := hW26.grown hG7 (by omega)
    have hb17 := hb16.grown hG7 (by omega)
    have hb27 := hb26.grown hG7 (by omega)
    have HE7 := hide (show Ext w w7 from Below.grown HE6.out hG7 HE6.out.le (fun k hk => by cases hk; exact hsw))
    have hK7 := hK6.trans (KeepsOthers.ofWhole hW16 hG7)
    clear hW16 hW26 hb16 hb26 hG7 hK6 H36
    have cs2 := hW27.at 0 (u := .slice A7 m7 c7) rfl
    have HP7 := hide H37.out.2.2.1.bytesOf
    gi_wp2_with (first | (refine wpListIn_appAtR l _ rfl (.tmp 34) (.tmp 35) rfl rfl H37.out.2.1 rfl HP7.out (by have := HBl.out; omega) HE7.out.le ?_; intro v8 w8 hO8 hG8 hN8; have HK := hide (wrt_step H37.out hW17 hW27 hb17 hb27 HE7.out hK7 hO8 hG8 hN8); obtain ⟨Ah, ch, hvh, -, -, -⟩ := hO8.form; obtain ⟨G2, hG2⟩ : ∃ G, G = B ++ P := ⟨_, rfl⟩; rw [← hG2] at hvh HK HQ2; obtain ⟨mh, hmh⟩ : ∃ m, m = G2.length := ⟨_, rfl⟩; rw [← hmh] at hvh; subst hvh; have cs8 := HK.out.2.2.1.at 0 (u := .slice A7 m7 c7) rfl; have fs8 := HK.out.2.2.1.frozen 0; clear hO8 hG8 hN8 hW17 hW27 hb17 hb27 hK7 cs2 hG2 hmh) | fail)
    obtain ⟨hT8, hW18, hW28, hb18, hb28, hE8, hK8⟩ := HK.out
    have hG9 := grown_setCell w8 (s + 1) 0 (.slice Ah mh ch)
    have hW29 := hW28.set 0 (.slice Ah mh ch)
    refine ⟨(hK8.trans (KeepsOthers.ofWhole hW28 hG9)).from _, ⟨_, _, G, G2, hW18.grown hG9 (by omega), hW29, (hT8.put hW28 (by decide) hG9).drop, by rw [HK1.out]; exact HQ1.out, by rw [HK1.out]; exact HQ2.out⟩, hb18.grown hG9 (by omega), hb28.grown hG9 (by omega), Below.grown hE8 hG9 hE8.le (fun k hk => by cases hk; omega)⟩
  case done =>
    intro D W hD hI hK
    obtain ⟨v1, v2, H, B, h1, h2, h3, e1, e2⟩ := hI.ex
    have hz : bucketsAt sz L (bucketsN sz n * sz) = [] := buckets_end (by
      rw [HLn.out]
      rcases Nat.lt_or_ge (bucketsN sz n * sz) n with h | h
      · have := buckets_over hs1 h
        omega
      · exact h)
    rw [hz] at e1 e2
    have e1 : T1 = H := by rw [e1]; simp [headB]
    have e2 : T2 = B := by rw [e2]; simp [bodyB]
    subst e1 e2
    have H3 := hide h3
    have HX := hide hI.ext
    obtain ⟨A6, c6, hv6, -, hc6, -⟩ := h3.1.form
    obtain ⟨A7, c7, hv7, -, hc7, -⟩ := h3.2.1.form
    obtain ⟨m6, hm6⟩ : ∃ m, m = T1.length := ⟨_, rfl⟩
    obtain ⟨m7, hm7⟩ : ∃ m, m = T2.length := ⟨_, rfl⟩
    rw [← hm6] at hv6
    rw [← hm7] at hv7
    subst hv6 hv7
    have cs1 := h1.at 0 (u := .slice A6 m6 c6) rfl
    have cs2 := h2.at 0 (u := .slice A7 m7 c7) rfl
    have hPa : Parts (W.alloc (.cells #[.slice A6 m6 c6, .slice A7 m7 c7] 25)) (W.alloc (.cells #[.slice A6 m6 c6, .slice A7 m7 c7] 25)).heap.size (some ⟨W.heap.size, 0, none⟩) [T1, T2].length [T1, T2] := by
      have hE := extNew W (.cells #[.slice A6 m6 c6, .slice A7 m7 c7] 25)
      refine ⟨rfl, .inr ⟨W.heap.size, 0, rfl, by simp, fun i hi => ?_⟩⟩
      match i, hi with
      | 0, _ => exact ⟨A6, m6, c6, cellNew W _ _ _ 0, by have := H3.out.1.len_le; omega, hE.bytes H3.out.1.bytesOf⟩
      | 1, _ => exact ⟨A7, m7, c7, cellNew W _ _ _ 1, by have := H3.out.2.1.len_le; omega, hE.bytes H3.out.2.1.bytesOf⟩
    have CA := all_any (some ⟨W.heap.size, 0, none⟩) 2 [T1, T2] _ hPa (by simp) (by have h1 := HT1.out; have h2 := HT2.out; simp; omega)
    have hEA := hide (extNew W (.cells #[.slice A6 m6 c6, .slice A7 m7 c7] 25))
    clear h3 h1 h2 hI hz hm6 hm7 hPa
    gi_wp2
    refine ⟨trivial, (callsIn_wide.2 CA).mono ?_⟩
    rintro e w5 ⟨v5, rfl, hO5, hE5⟩
    have hX5 := hEA.out.trans hE5
    have hK5 : w5.heap[D]? = some (.deferred (some [])) := (hX5.block D (Array.getElem?_eq_some_iff.1 hK).1).trans hK
    have HX5 := hide (HX.out.trans hX5)
    have HO5 := hide (hO5.mono (show w.heap.size ≤ (W.alloc (.cells #[.slice A6 m6 c6, .slice A7 m7 c7] 25)).heap.size by have := HX.out.le; have := hEA.out.le; omega))
    clear hO5 hE5 hX5 CA
    gi_wp2
    refine ⟨by simp, .inl ⟨_, _, rfl, run_takeDeferred hK5, ?_⟩⟩
    have hG := grownBy_putObj' w5 D (.deferred none)
    refine ⟨_, results_tmp2 rfl _ _ _, v5, rfl, ?_, Below.grown HX5.out hG HX5.out.le (fun r e => by cases e; omega)⟩
    rw [HD.out]
    have := HO5.out.turn hG (fun r e => by cases e; exact ⟨_, hK5, rfl⟩)
    simpa using this

set_option maxHeartbeats 1000000 in
set_option maxRecDepth 100000 in
theorem dWriteSize_any (A : Option Addr) (n c : Nat) (size : Int) (w : World) (hs : sizeD size = false) :
    Calls Try.prog 11 #[.int .i64 size, .slice A n c] w (MadeE w [] 13) := by
  have CS := fun W => dSize_any size W
  rw [hs] at CS
  clear hs
  go_enter Try.func11, Try.ntmps11
  go_wp2_with fail
  refine (CS w).mono ?_
  rintro e w' ⟨rfl, rfl⟩
  clear CS
  go_wp2
  go_ret2
  exact ⟨_, rfl, OwnB.nil _ _, Ext.refl _⟩
set_option maxHeartbeats 1000000 in
set_option maxRecDepth 100000 in
theorem dWriteRow_any (A : Option Addr) (n c : Nat) (size : Int) (L : List (List UInt8)) (w : World) (h : TextsAt w w.heap.size A n L) (hn : n ≤ 1000) (hl : ∀ s, s ∈ L → s.length ≤ 1000) (hs : sizeD size = true) (hm : mayD L = false) :
    Calls Try.prog 11 #[.int .i64 size, .slice A n c] w (MadeE w [] 13) := by
  have CS := fun W => dSize_any size W
  rw [hs] at CS
  have CR := dIsRow_any A n c L w h (by omega) (fun s hs => by have := hl s hs; omega)
  rw [hm] at CR
  clear hs hm h hl
  go_enter Try.func11, Try.ntmps11
  go_wp2_with fail
  refine (CS w).mono ?_
  rintro e w' ⟨rfl, rfl⟩
  go_wp2_with fail
  refine CR.mono ?_
  rintro e w' ⟨rfl, rfl⟩
  clear CS CR
  go_wp2
  go_ret2
  exact ⟨_, rfl, OwnB.nil _ _, Ext.refl _⟩
theorem dWrite_any (size : Int) (L : List (List UInt8)) (A : Option Addr) (n c : Nat) (w : World) (hnc : n ≤ c) (hc : c ≤ maxLen) (hn : n ≤ 1000) (hl : ∀ s, s ∈ L → s.length ≤ 1000) (h : TextsAt w w.heap.size A n L) :
    Calls Try.prog 11 #[.int .i64 size, .slice A n c] w (MadeE w (writeE size L).1 (writeE size L).2) := by
  cases hs : sizeD size with
  | false =>
    have hs1 := of_decide_eq_false hs
    rw [show writeE size L = ([], 13) by unfold writeE; rw [if_pos (by omega)]]
    exact dWriteSize_any A n c size w hs
  | true =>
    have hs1 := of_decide_eq_true hs
    cases hm : mayD L with
    | false =>
      rw [show writeE size L = ([], 13) by unfold writeE; rw [if_pos (.inr (.inr hm))]]
      exact dWriteRow_any A n c size L w h hn hl hs hm
    | true =>
      obtain ⟨sz, rfl⟩ : ∃ sz : Nat, size = (sz : Int) := ⟨size.toNat, by omega⟩
      rw [show writeE (sz : Int) L = (dictB sz L, 0) by unfold writeE; rw [if_neg (by rw [hm]; rintro (h | h | h) <;> first | omega | cases h), Int.toNat_natCast]]
      exact dWriteGood_any A n c sz L w h hn hnc hc hm (by omega) (by omega)
end Go.Proofs.Ytmaddohfkfnnhaa

namespace Go.Proofs.Ytmaddohfkfnnhaa
open Go.RowKit Wrd Dic

attribute [local go_sem ↓] run_txtAt run_txtLen run_txtCut run_txtTop run_cutTx
set_option maxHeartbeats 1000000 in
set_option maxRecDepth 10000 in
theorem dHasIn_any (t s : List UInt8) (w : World) : Calls Try.prog 48 #[.string ⟨t.toArray⟩, .string ⟨s.toArray⟩] w fun e w' => e = .returned (.bool (beginsB t s)) ∧ w = w' := by
  by_cases h : s.length ≤ t.length
  · have hI : (s.length : Int) ≤ (t.length : Int) := by omega
    have HR := hide (show beginsB t s = (t.take s.length == s) by
      unfold beginsB
      by_cases he : t.take s.length = s
      · rw [decide_eq_true ⟨h, he⟩, he]; simp
      · rw [decide_eq_false (fun hh => he hh.2)]
        symm
        rw [beq_eq_false_iff_ne]
        exact he)
    generalize beginsB t s = res at *
    have hc := fun W => run_txtTop W t .i64 (s.length : Int) (by omega) (by omega)
    simp only [Int.toNat_natCast] at hc
    go_enter Try.func48, Try.ntmps48
    go_wp2
    go_ret
    exact ⟨ret_bool HR.out.symm, rfl⟩
  · have hI : ¬ (s.length : Int) ≤ (t.length : Int) := by omega
    have HR := hide (show beginsB t s = false from decide_eq_false (fun hh => h hh.1))
    generalize beginsB t s = res at *
    clear h
    go_enter Try.func48, Try.ntmps48
    go_wp2
    go_ret
    exact ⟨ret_bool HR.out.symm, rfl⟩
theorem dHas_any (t s : List UInt8) (w : World) : Calls Try.prog 39 #[.string ⟨t.toArray⟩, .string ⟨s.toArray⟩] w fun e w' => e = .returned (.bool (beginsB t s)) ∧ w = w' := by
  have C := dHasIn_any t s w
  generalize beginsB t s = res at *
  go_enter Try.func39, Try.ntmps39
  go_wp2_with fail
  refine C.mono ?_
  rintro e w' ⟨rfl, rfl⟩
  clear C
  go_wp2
  go_ret
  exact ⟨rfl, rfl⟩
theorem entered_range1 : Entered 38 := entered_of Try.func38 (by kernel_rfl) rfl
set_option maxHeartbeats 1000000 in
set_option maxRecDepth 10000 in
theorem range1_any {w : World} {g size c c2 b2 b3 b6 i j : Nat} {A A2 : Option Addr} {F l : List (List UInt8)} {s : List UInt8} (h : DicAt w g size A c F A2 c2 l) (e2 : w.cell? ⟨b2, 0, none⟩ = some (.pointer (some ⟨g, 0, none⟩))) (e3 : w.cell? ⟨b3, 0, none⟩ = some (.string ⟨s.toArray⟩)) (e6 : w.cell? ⟨b6, 0, none⟩ = some (.int .i64 (i : Int))) (hj : i + j < l.length) :
    Calls Try.prog 38 #[.int .i64 (j : Int), .pointer (some ⟨b2, 0, none⟩), .pointer (some ⟨b6, 0, none⟩), .pointer (some ⟨b3, 0, none⟩)] w fun e w' => e = .returned (.bool (!beginsB (l.getD (i + j) []) s)) ∧ Ext w w' := by
  obtain ⟨b, o, rfl, hc⟩ := h.texts.cellAt hj (Ext.refl w)
  have c0 := h.whole.at 0 (u := .slice _ l.length c) rfl
  obtain ⟨k, hk⟩ : ∃ k, k = i + j := ⟨_, rfl⟩
  have hkI : (i : Int) + (j : Int) = (k : Int) := by omega
  rw [← hk] at hc hj ⊢
  have hl := h.len
  have hkl : (k : Int) < (l.length : Int) := by omega
  have hk9 : (k : Int) ≤ 900000 := by omega
  generalize l.getD k [] = t at *
  have CH := fun W => dHas_any t s W
  generalize beginsB t s = res at *
  generalize l.length = n at *
  clear h hj hk hl
  go_enter Try.func38, Try.ntmps38
  go_wp2_with fail
  go_quiet (first | (go_at_call 39; exact Calls.quiet_of ((CH _).mono fun _ _ ⟨he, hw⟩ => ⟨he, 0, hw.symm⟩)))
  go_wp2
  go_ret
  exact ⟨rfl, (Ext.refl w).drewN _⟩

/-- What Range tells. -/
def RngTo (w : World) (r : Nat × Nat) (e : Ending) (w' : World) : Prop := e = .returned (.tuple #[.int .i64 (r.1 : Int), .int .i64 (r.2 : Int)]) ∧ Ext w w'
set_option maxHeartbeats 2000000 in
set_option maxRecDepth 10000 in
theorem dRange_any {w : World} {g size c c2 : Nat} {A A2 : Option Addr} {F l : List (List UInt8)} (h : DicAt w g size A c F A2 c2 l) (s : List UInt8) : Calls Try.prog 21 #[.pointer (some ⟨g, 0, none⟩), .string ⟨s.toArray⟩] w (RngTo w (rangeE l s)) := by
  have hE1 := extNew w (.cells #[.pointer (some ⟨g, 0, none⟩)] 32)
  have hE2 := extNew (w.alloc (.cells #[.pointer (some ⟨g, 0, none⟩)] 32)) (.cells #[.string ⟨s.toArray⟩] 9)
  have hE := hE1.trans hE2
  have e2 : ((w.alloc (.cells #[.pointer (some ⟨g, 0, none⟩)] 32)).alloc (.cells #[.string ⟨s.toArray⟩] 9)).cell? ⟨w.heap.size, 0, none⟩ = some (.pointer (some ⟨g, 0, none⟩)) := (hE2.cell (by simp)).trans (cellNew w _ _ _ 0)
  have e3 : ((w.alloc (.cells #[.pointer (some ⟨g, 0, none⟩)] 32)).alloc (.cells #[.string ⟨s.toArray⟩] 9)).cell? ⟨w.heap.size + 1, 0, none⟩ = some (.string ⟨s.toArray⟩) := by
    have := cellNew (w.alloc (.cells #[.pointer (some ⟨g, 0, none⟩)] 32)) #[.string ⟨s.toArray⟩] 9 (0, 0) 0
    rwa [World.size_alloc] at this
  have hb2 := World.block_lt_of_cell? _ _ e2
  have hb3 := World.block_lt_of_cell? _ _ e3
  have hD := h.ext hE
  have CS := dSeek_any hD s
  have HE := hide hE
  have HH := hide h
  have HE2' := hide e2
  have HE3' := hide e3
  have HD := hide hD
  clear hE1 hE2 hE hD h
  go_enter Try.func21, Try.ntmps21
  generalize hw2 : (w.alloc (.cells #[.pointer (some ⟨g, 0, none⟩)] 32)).alloc (.cells #[.string ⟨s.toArray⟩] 9) = w2 at *
  go_wp2_with fail
  refine CS.mono ?_
  rintro e w3 ⟨i, hi, rfl, hE3⟩
  clear hw2 CS
  generalize w.heap.size = b2 at *
  obtain ⟨n, hn⟩ : ∃ n, n = l.length := ⟨_, rfl⟩
  have hil : i ≤ n := by rw [hn]; exact hi.1
  have hn9 : n ≤ 900000 := by rw [hn]; exact HH.out.len
  obtain ⟨m, hm⟩ : ∃ m, m = n - i := ⟨_, rfl⟩
  have hsub : (n : Int) - (i : Int) = (m : Int) := by omega
  have hmw : IntKind.i64.wrap (m : Int) = (m : Int) := by rw [IntKind.wrap_i64]; omega
  have hE4 := extNew w3 (.cells #[.int .i64 (i : Int)] 3)
  have hE24 := hE3.trans hE4
  have s2 := (hE24.cell (i := 0) hb2).trans e2
  have s3 := (hE24.cell (i := 0) hb3).trans e3
  have s6 := cellNew w3 #[.int .i64 (i : Int)] 3 (0, 0) 0
  have hb2' := World.block_lt_of_cell? _ _ s2
  have hb3' := World.block_lt_of_cell? _ _ s3
  have hb6 := World.block_lt_of_cell? _ _ s6
  have HD4 := hide (HD.out.ext hE24)
  have HX4 := hide (HE.out.trans hE24)
  have CL := fun W (hW : Ext (w3.alloc (.cells #[.int .i64 (i : Int)] 3)) W) => dLen_any (HD4.out.ext hW)
  rw [← hn] at CL
  have HI := hide hi
  have HN := hide hn
  have HM := hide hm
  have HC := hide (show ∀ W0, Ext (w3.alloc (.cells #[.int .i64 (i : Int)] 3)) W0 → Calls Try.prog 37 #[.int .i64 (m : Int), .func (.func 38) #[] #[.pointer (some ⟨b2, 0, none⟩), .pointer (some ⟨w3.heap.size, 0, none⟩), .pointer (some ⟨b2 + 1, 0, none⟩)]] W0 (FirstTo W0 m fun j => !beginsB (l.getD (i + j) []) s) from fun W0 hW0 =>
    searchC_any entered_range1 m _ W0 (by omega) (fun x y hxy hy hp => by
      cases hq : beginsB (l.getD (i + y) []) s with
      | false => rfl
      | true =>
        rw [begins_mono HH.out.rise hi hxy (by omega) hq] at hp
        cases hp) (fun W j hW hj => range1_any (HD4.out.ext (hW0.trans hW)) (((hW0.trans hW).cell hb2').trans s2) (((hW0.trans hW).cell hb3').trans s3) (((hW0.trans hW).cell hb6).trans s6) (by omega)))
  clear hE3 e2 e3 hi hn hm hE4 hE24 HE2' HE3' HD
  go_wp2_with fail
  generalize w3.alloc (.cells #[.int .i64 (i : Int)] 3) = w4 at *
  generalize w3.heap.size = b6 at *
  refine wp_region_T (fun X => Ext w4 X) 5 7 #[false, false, false, false, false, false, false] (by kernel_rfl) rfl rfl (Ext.refl w4).drew ?_
  intro hS0
  refine wpAnyT_take 0 (some 11) (.pointer (some ⟨g, 0, none⟩)) #[true, false, false, false, false, false, false] rfl rfl rfl (by kernel_rfl) (fun _ _ _ h => h) hS0 (by rfl) (fun X hX => by have f1 := (hX.cell (i := 0) hb2').trans s2; have f6 := (hX.cell (i := 0) hb6).trans s6; go_simp) ?_
  simp only [Act.put, List.setIfInBounds_toArray, List.set_cons_zero, List.set_cons_succ]
  refine wpAnyT_take 2 (some 13) (.int .i64 (i : Int)) #[true, false, true, false, false, false, false] rfl rfl rfl (by kernel_rfl) (fun _ _ _ h => h) hS0 (by rfl) (fun X hX => by have f1 := (hX.cell (i := 0) hb2').trans s2; have f6 := (hX.cell (i := 0) hb6).trans s6; go_simp) ?_
  simp only [Act.put, List.setIfInBounds_toArray, List.set_cons_zero, List.set_cons_succ]
  refine wpAnyT_take 4 (some 15) (.func (.func 38) #[] #[.pointer (some ⟨b2, 0, none⟩), .pointer (some ⟨b6, 0, none⟩), .pointer (some ⟨b2 + 1, 0, none⟩)]) #[true, false, true, false, true, false, false] rfl rfl rfl (by kernel_rfl) (fun _ _ _ h => h) hS0 (by rfl) (fun X hX => by go_simp) ?_
  simp only [Act.put, List.setIfInBounds_toArray, List.set_cons_zero, List.set_cons_succ]
  refine wpAnyT_only 1 #[true, true, true, false, true, false, false] (by kernel_rfl) rfl rfl (by rfl) (fun K0 hK0 => ?_)
  go_simp
  refine (CL w4.drew hS0).mono ?_
  rintro e w5 ⟨rfl, rfl⟩
  refine hK0 _ _ (fun _ => hS0) ?_
  clear hK0 K0
  refine wpAnyT_take 3 (some 14) (.int .i64 (m : Int)) #[true, true, true, true, true, false, false] rfl rfl rfl (by kernel_rfl) (fun _ _ _ h => h) hS0 (by rfl) (fun X hX => by go_simp) ?_
  simp only [Act.put, List.setIfInBounds_toArray, List.set_cons_zero, List.set_cons_succ]
  refine wpAnyT_only 5 #[true, true, true, true, true, true, false] (by kernel_rfl) rfl rfl (by rfl) (fun K1 hK1 => ?_)
  go_simp
  refine (HC.out w4.drew hS0).mono ?_
  rintro e w6 ⟨k, h1, h2, h3, rfl, hE6⟩
  refine hK1 _ _ (fun h => absurd h (by decide)) ?_
  clear hK1 K1
  refine wpAnyT_only 6 #[true, true, true, true, true, true, true] (by kernel_rfl) rfl rfl (by rfl) (fun K2 hK2 => ?_)
  go_simp
  refine hK2 _ _ (fun h => absurd h (by decide)) (wpAnyT_done (by kernel_rfl) ?_ _)
  clear hK2 K2
  have HR := hide (show rangeE l s = if k = 0 then (0, 0) else (i, i + k) from range_low HI.out (by have := HM.out; rw [← HN.out]; omega) (fun j hj => by simpa using h2 j hj) (fun j hj hjl => by simpa using h3 j hj (by have := HM.out; have := HN.out; omega)))
  have d6 := ((hS0.trans hE6).cell (i := 0) hb6).trans s6
  have HX6 := hide (HX4.out.trans (hS0.trans hE6))
  have hk9 : (k : Int) ≤ 900000 := by have := HM.out; omega
  generalize rangeE l s = res at *
  clear h2 h3 hE6 s2 s3 s6 hb2 hb2' hb3 hb3' CL hS0 hsub
  rcases Nat.eq_zero_or_pos k with rfl | hk0
  · have HR0 := hide (show res = (0, 0) from HR.out)
    go_wp2
    go_ret2
    rw [HR0.out]
    exact ⟨rfl, HX6.out⟩
  · have HR0 := hide (show res = (i, i + k) by rw [HR.out, if_neg (by omega)])
    have hk0' : ((k : Int) == 0) = false := by rw [beq_eq_false_iff_ne]; omega
    have hi9 : (i : Int) ≤ 900000 := by omega
    go_wp2_with fail
    go_quiet (fail)
    go_wp2
    go_ret2
    rw [HR0.out]
    exact ⟨by simp, HX6.out.drewN _⟩
end Go.Proofs.Ytmaddohfkfnnhaa

namespace Go.Proofs.Ytmaddohfkfnnhaa
open Go.RowKit Wrd Dic

attribute [local go_sem ↓] run_txtAt run_txtLen run_txtCut run_txtTop run_cutTx
/-- What Find tells. -/
def FndTo (w : World) (r : Nat × Bool) (e : Ending) (w' : World) : Prop := e = .returned (.tuple #[.int .i64 (r.1 : Int), .bool r.2]) ∧ Ext w w'
set_option maxHeartbeats 1000000 in
set_option maxRecDepth 10000 in
theorem dFind_any {w : World} {g size c c2 : Nat} {A A2 : Option Addr} {F l : List (List UInt8)} (h : DicAt w g size A c F A2 c2 l) (s : List UInt8) : Calls Try.prog 19 #[.pointer (some ⟨g, 0, none⟩), .string ⟨s.toArray⟩] w (FndTo w (findE l s)) := by
  have CS := dSeek_any h s
  have HF := hide (show ∀ i, IsLow l s i → findE l s = if i < l.length ∧ l.getD i [] = s then (i, true) else (0, false) from fun i hi => find_low h.rise hi)
  generalize findE l s = res at *
  have HH := hide h
  clear h
  go_enter Try.func19, Try.ntmps19
  go_wp2_with fail
  refine CS.mono ?_
  rintro e w2 ⟨i, hi, rfl, hE2⟩
  have hR := HF.out i hi
  have CA := dAt_any (HH.out.ext hE2) (i : Int)
  have HX := hide hE2
  clear CS HF hi hE2
  by_cases hil : i < l.length
  · have hin : inD l (i : Int) = true := decide_eq_true (by omega)
    have hat : atD l (i : Int) = l.getD i [] := by unfold atD; rw [hin]; simp
    rw [hin, hat] at CA
    clear hin hat
    by_cases he : l.getD i [] = s
    · have HR := hide (show res = (i, true) by rw [hR, if_pos ⟨hil, he⟩])
      rw [he] at CA
      clear hR hil he
      go_wp2_with fail
      refine CA.mono ?_
      rintro e w' ⟨rfl, rfl⟩
      clear CA
      go_wp2
      go_ret2
      rw [HR.out]
      exact ⟨rfl, HX.out⟩
    · have HR := hide (show res = (0, false) by rw [hR, if_neg (fun hh => he hh.2)])
      clear hR hil
      generalize l.getD i [] = t at *
      have hb : (t == s) = false := by rw [beq_eq_false_iff_ne]; exact he
      clear he
      go_wp2_with fail
      refine CA.mono ?_
      rintro e w' ⟨rfl, rfl⟩
      clear CA
      go_wp2
      go_ret2
      rw [HR.out]
      exact ⟨rfl, HX.out⟩
  · have hin : inD l (i : Int) = false := decide_eq_false (by omega)
    rw [hin] at CA
    have HR := hide (show res = (0, false) by rw [hR, if_neg (fun hh => hil hh.1)])
    generalize atD l (i : Int) = t at *
    clear hR hil hin
    go_wp2_with fail
    refine CA.mono ?_
    rintro e w' ⟨rfl, rfl⟩
    clear CA
    go_wp2
    go_ret2
    rw [HR.out]
    exact ⟨rfl, HX.out⟩
set_option maxHeartbeats 1000000 in
theorem dAll_any {w : World} {g size c c2 : Nat} {A A2 : Option Addr} {F l : List (List UInt8)} (h : DicAt w g size A c F A2 c2 l) : Calls Try.prog 16 #[.pointer (some ⟨g, 0, none⟩)] w (MadeTx w l) := by
  have C := dClone_any A l.length c l w h.room.1 (by have := h.len; omega) h.texts
  have c0 := h.whole.at 0 (u := .slice A l.length c) rfl
  obtain ⟨n, hn⟩ : ∃ n, n = l.length := ⟨_, rfl⟩
  rw [← hn] at C c0
  have HN := hide hn
  clear h hn
  go_enter Try.func16, Try.ntmps16
  go_wp2_with fail
  refine C.mono ?_
  rintro e w2 ⟨v, rfl, hO, hE⟩
  have HE := hide hE
  obtain ⟨B, d, rfl, h1, h2, h3⟩ := hO.form
  have H1 := hide h1
  have H2 := hide h2
  have H3 := hide h3
  rw [← HN.out] at H1 H3
  clear C hO hE h1 h2 h3
  go_wp2
  go_ret
  exact ⟨B, d, rfl, by rw [← HN.out]; exact H1.out, H2.out, by rw [← HN.out]; exact H3.out, HE.out⟩
theorem dAllNil_any (w : World) : Calls Try.prog 16 #[.pointer none] w fun e w' => ∃ A c, e = .returned (.slice A 0 c) ∧ Ext w w' := by
  go_enter Try.func16, Try.ntmps16
  go_wp2
  go_ret
  exact ⟨none, 0, rfl, Ext.refl _⟩
set_option maxHeartbeats 1000000 in
theorem dFindNil_any (s : List UInt8) (w : World) : Calls Try.prog 19 #[.pointer none, .string ⟨s.toArray⟩] w fun e w' => e = .returned (.tuple #[.int .i64 0, .bool false]) ∧ Ext w w' := by
  have CS := dSeekNil_any s w
  have CA := dAtNil_any 0 w
  go_enter Try.func19, Try.ntmps19
  go_wp2_with fail
  refine CS.mono ?_
  rintro e w2 ⟨rfl, rfl⟩
  clear CS
  go_wp2_with fail
  refine CA.mono ?_
  rintro e w' ⟨rfl, rfl⟩
  clear CA
  go_wp2
  go_ret2
  exact ⟨rfl, Ext.refl _⟩
set_option maxHeartbeats 2000000 in
set_option maxRecDepth 10000 in
theorem dRangeNil_any (s : List UInt8) (w : World) : Calls Try.prog 21 #[.pointer none, .string ⟨s.toArray⟩] w fun e w' => e = .returned (.tuple #[.int .i64 0, .int .i64 0]) ∧ Ext w w' := by
  have hE1 := extNew w (.cells #[.pointer none] 32)
  have hE2 := extNew (w.alloc (.cells #[.pointer none] 32)) (.cells #[.string ⟨s.toArray⟩] 9)
  have hE := hE1.trans hE2
  have e2 : ((w.alloc (.cells #[.pointer none] 32)).alloc (.cells #[.string ⟨s.toArray⟩] 9)).cell? ⟨w.heap.size, 0, none⟩ = some (.pointer none) := (hE2.cell (by simp)).trans (cellNew w _ _ _ 0)
  have e3 : ((w.alloc (.cells #[.pointer none] 32)).alloc (.cells #[.string ⟨s.toArray⟩] 9)).cell? ⟨w.heap.size + 1, 0, none⟩ = some (.string ⟨s.toArray⟩) := by
    have := cellNew (w.alloc (.cells #[.pointer none] 32)) #[.string ⟨s.toArray⟩] 9 (0, 0) 0
    rwa [World.size_alloc] at this
  have hb2 := World.block_lt_of_cell? _ _ e2
  have CS := fun W => dSeekNil_any s W
  have CL := fun W => dLenNil_any W
  have HC := fun (b2 b6 : Nat) W => searchNil_any (.func (.func 38) #[] #[.pointer (some ⟨b2, 0, none⟩), .pointer (some ⟨b6, 0, none⟩), .pointer (some ⟨b2 + 1, 0, none⟩)]) W
  have HE := hide hE
  clear hE1 hE2 hE
  go_enter Try.func21, Try.ntmps21
  generalize hw2 : (w.alloc (.cells #[.pointer none] 32)).alloc (.cells #[.string ⟨s.toArray⟩] 9) = w2 at *
  go_wp2_with fail
  refine (CS w2).mono ?_
  rintro e w3 ⟨rfl, rfl⟩
  clear hw2 CS
  generalize w.heap.size = b2 at *
  have hE4 := extNew w2 (.cells #[.int .i64 0] 3)
  have s2 := (hE4.cell (i := 0) hb2).trans e2
  have s6 := cellNew w2 #[.int .i64 0] 3 (0, 0) 0
  have hb2' := World.block_lt_of_cell? _ _ s2
  have hb6 := World.block_lt_of_cell? _ _ s6
  have HX4 := hide (HE.out.trans hE4)
  have HC := HC b2 w2.heap.size
  have h0w : IntKind.i64.wrap 0 = 0 := by rw [IntKind.wrap_i64]; omega
  clear e2 e3 hE4
  go_wp2_with fail
  generalize w2.alloc (.cells #[.int .i64 0] 3) = w4 at *
  generalize w2.heap.size = b6 at *
  refine wp_region_T (fun X => Ext w4 X) 5 7 #[false, false, false, false, false, false, false] (by kernel_rfl) rfl rfl (Ext.refl w4).drew ?_
  intro hS0
  refine wpAnyT_take 0 (some 11) (.pointer none) #[true, false, false, false, false, false, false] rfl rfl rfl (by kernel_rfl) (fun _ _ _ h => h) hS0 (by rfl) (fun X hX => by have f1 := (hX.cell (i := 0) hb2').trans s2; have f6 := (hX.cell (i := 0) hb6).trans s6; go_simp) ?_
  simp only [Act.put, List.setIfInBounds_toArray, List.set_cons_zero, List.set_cons_succ]
  refine wpAnyT_take 2 (some 13) (.int .i64 0) #[true, false, true, false, false, false, false] rfl rfl rfl (by kernel_rfl) (fun _ _ _ h => h) hS0 (by rfl) (fun X hX => by have f1 := (hX.cell (i := 0) hb2').trans s2; have f6 := (hX.cell (i := 0) hb6).trans s6; go_simp) ?_
  simp only [Act.put, List.setIfInBounds_toArray, List.set_cons_zero, List.set_cons_succ]
  refine wpAnyT_take 4 (some 15) (.func (.func 38) #[] #[.pointer (some ⟨b2, 0, none⟩), .pointer (some ⟨b6, 0, none⟩), .pointer (some ⟨b2 + 1, 0, none⟩)]) #[true, false, true, false, true, false, false] rfl rfl rfl (by kernel_rfl) (fun _ _ _ h => h) hS0 (by rfl) (fun X hX => by go_simp) ?_
  simp only [Act.put, List.setIfInBounds_toArray, List.set_cons_zero, List.set_cons_succ]
  refine wpAnyT_only 1 #[true, true, true, false, true, false, false] (by kernel_rfl) rfl rfl (by rfl) (fun K0 hK0 => ?_)
  go_simp
  refine (CL w4.drew).mono ?_
  rintro e w5 ⟨rfl, rfl⟩
  refine hK0 _ _ (fun _ => hS0) ?_
  clear hK0 K0
  refine wpAnyT_take 3 (some 14) (.int .i64 0) #[true, true, true, true, true, false, false] rfl rfl rfl (by kernel_rfl) (fun _ _ _ h => h) hS0 (by rfl) (fun X hX => by go_simp) ?_
  simp only [Act.put, List.setIfInBounds_toArray, List.set_cons_zero, List.set_cons_succ]
  refine wpAnyT_only 5 #[true, true, true, true, true, true, false] (by kernel_rfl) rfl rfl (by rfl) (fun K1 hK1 => ?_)
  go_simp
  refine (HC w4.drew).mono ?_
  rintro e w6 ⟨rfl, rfl⟩
  refine hK1 _ _ (fun h => absurd h (by decide)) ?_
  clear hK1 K1
  refine wpAnyT_only 6 #[true, true, true, true, true, true, true] (by kernel_rfl) rfl rfl (by rfl) (fun K2 hK2 => ?_)
  go_simp
  refine hK2 _ _ (fun h => absurd h (by decide)) (wpAnyT_done (by kernel_rfl) ?_ _)
  clear hK2 K2
  have HX6 := hide (HX4.out.trans hS0)
  clear HC CL s2 s6 hb2 hb2' hb6 hS0
  go_wp2
  go_ret2
  exact ⟨rfl, HX6.out⟩
end Go.Proofs.Ytmaddohfkfnnhaa

namespace Go.Proofs.Ytmaddohfkfnnhaa
open Go.RowKit Wrd Dic Num

theorem refTextL_any (s : List UInt8) (w : World) (hs : s.length ≤ 1000000) : Calls Try.prog 32 #[.string ⟨s.toArray⟩] w (MadeB w (textB s)) := by
  have := refText_any ⟨s.toArray⟩ w (by rw [txt_size]; exact hs)
  rw [txt_size] at this
  simpa [textB] using this
theorem u64_wrap {n : Nat} (h : n ≤ 1000000000) : IntKind.u64.wrap (n : Int) = (n : Int) := by rw [IntKind.wrap_u64]; omega

attribute [local go_sem ↓] run_txtAt run_txtLen run_txtCut run_txtTop
set_option maxHeartbeats 4000000 in
set_option maxRecDepth 10000 in
theorem refWrite16_any (A : Option Addr) (n c : Nat) (l : List (List UInt8)) (size : Int) (w : World) (h : TextsAt w w.heap.size A n l) (hn : n ≤ 1000) (hl : ∀ s, s ∈ l → s.length ≤ 1000000) (hs : -9223372036854775808 ≤ size ∧ size ≤ 9223372036854775807) :
    Calls Try.prog 12 #[.int .i64 size, .slice A n c] w (MadeE w (writeE size l).1 (writeE size l).2) := by
  unfold MadeE
  have hln := h.1
  have CM := fun W (hE : Ext w W) => refMay16_any A n c l W (h.later hE) (by omega) hl
  by_cases h1 : size < 1
  · have hw : writeE size l = ([], 13) := by unfold writeE; rw [if_pos (.inl h1)]
    rw [hw]
    clear CM hw hl h hln
    go_enter Try.func12, Try.ntmps12
    go_wp2
    go_ret2
    exact ⟨_, rfl, OwnB.nil _ _, Ext.refl _⟩
  by_cases h2 : 64 < size
  · have hw : writeE size l = ([], 13) := by unfold writeE; rw [if_pos (.inr (.inl h2))]
    rw [hw]
    clear CM hw hl h hln
    go_enter Try.func12, Try.ntmps12
    go_wp2
    go_ret2
    exact ⟨_, rfl, OwnB.nil _ _, Ext.refl _⟩
  cases hm : mayD l with
  | false =>
    have hw : writeE size l = ([], 13) := by unfold writeE; rw [if_pos (.inr (.inr hm))]
    rw [hw]
    rw [hm] at CM
    have CC := CM w (Ext.refl w)
    clear CM hw hl h hln hm
    go_enter Try.func12, Try.ntmps12
    go_wp2_with fail
    refine CC.mono ?_
    rintro e w1 ⟨rfl, hQ1⟩
    have hE1 := hQ1.ext
    go_wp2
    go_ret2
    exact ⟨_, rfl, OwnB.nil _ _, hE1⟩
  | true =>
    obtain ⟨sz, rfl⟩ : ∃ sz : Nat, size = (sz : Int) := ⟨size.toNat, by omega⟩
    have hsz1 : 1 ≤ sz := by omega
    have hsz2 : sz ≤ 64 := by omega
    have hw : writeE (sz : Int) l = (dictB sz l, 0) := by unfold writeE; rw [if_neg (by rw [hm]; simp; omega)]; simp
    obtain ⟨-, hfit, -⟩ := may_facts hm
    obtain ⟨hb1, hb2, -⟩ := dict_len hsz1 hsz2 (l := l) (fun s hs => (hfit s hs).2)
    rw [hw]
    rw [hm] at CM
    have CC := CM w (Ext.refl w)
    have CN := hide (fun (x : Nat) (W : World) (hx : x ≤ 1000000000) => refNum_any x W (by omega))
    have HFit := hide (show ∀ i, i < n → (l.getD i []).length ≤ 25 from fun i hi => by
      rw [List.getD_eq_getElem?_getD, List.getElem?_eq_getElem (by omega)]
      exact (hfit _ (List.getElem_mem _)).2)
    have HIn := hide (fun i => bucket_in hsz1 hsz2 (l := l) (fun s hs => (hfit s hs).2) i)
    have HStep := hide (fun (i : Nat) (hi : i < n) => buckets_step hsz1 (l := l) (i := i) (by omega))
    have HBs := hide (fun (i : Nat) (hi : i < n) => bucket_start hsz1 (l := l) (i := i) (by omega))
    have HTs := hide (fun (k e : Nat) (h1 : k < e) (h2 : k < n) => tail_step (l := l) (k := k) (e := e) h1 (by omega))
    have HTe := hide (fun (k e : Nat) (was : List UInt8) (h : e ≤ k ∨ n ≤ k) => tail_end (l := l) (k := k) (e := e) (by omega) was)
    have HEnd := hide (fun (i : Nat) (hi : n ≤ i) => buckets_end (size := sz) (l := l) (i := i) (by omega))
    have HA := hide (fun W (hE : Ext w W) => h.later hE)
    have HD := hide (show dictB sz l = (enc n ++ headB (bucketsOf sz l)) ++ bodyB (bucketsOf sz l) by rw [← hln]; rfl)
    rw [buckets_start] at HD hb1 hb2
    rw [hln] at hb1 hb2
    have HT1 := hide (show (enc n ++ headB (bucketsAt sz l 0)).length ≤ 100000 by omega)
    have HT2 := hide (show (bodyB (bucketsAt sz l 0)).length ≤ 10000000 by omega)
    obtain ⟨T1, hT1⟩ : ∃ T1, T1 = enc n ++ headB (bucketsAt sz l 0) := ⟨_, rfl⟩
    obtain ⟨T2, hT2⟩ : ∃ T2, T2 = bodyB (bucketsAt sz l 0) := ⟨_, rfl⟩
    rw [← hT1] at HT1
    rw [← hT2] at HT2
    rw [← hT1, ← hT2] at HD
    have HI1 := hide hT1
    have HI2 := hide (show T2 = [] ++ bodyB (bucketsAt sz l 0) by rw [hT2]; rfl)
    have hwn := u64_wrap (n := n) (by omega)
    rw [HD.out]
    clear CM hw hl h hln hm hfit hT1 hT2 hb1 hb2 HD hs
    go_enter Try.func12, Try.ntmps12
    go_wp2_with fail
    refine CC.mono ?_
    rintro e w1 ⟨rfl, hQ1⟩
    have HE1 := hide hQ1.ext
    clear CC hQ1
    go_wp2_with fail
    refine (CN.out n w1 (by omega)).mono ?_
    rintro e w2 ⟨v2, rfl, hO2, hE2⟩
    have HO2 := hide (hO2.mono HE1.out.le)
    have HE2 := hide (HE1.out.trans hE2)
    clear hO2 hE2 HE1
    have H30 := hide (show Three w2 w.heap.size v2 (enc n) (.slice none 0 0) [] (.slice none 0 0) [] from ⟨HO2.out, OwnB.nil _ _, OwnB.nil _ _, Ap.nil _, Ap.nil _, Ap.nil _⟩)
    go_wp2
    go_loopw [8, 6, 7] (fun y u v wr => ∃ (i : Nat) (H B : List UInt8), i ≤ n + 64 ∧ y = .int .i64 (i : Int) ∧ Three wr w.heap.size u H v B (.slice none 0 0) [] ∧ T1 = H ++ headB (bucketsAt sz l i) ∧ T2 = B ++ bodyB (bucketsAt sz l i) ∧ Ext w wr) (fun y _ _ _ => n + 64 - (intOf y).toNat)
    case atStart => exact ⟨0, enc n, [], by omega, rfl, H30.out, HI1.out, HI2.out, HE2.out⟩
    case round =>
      clear HI1 HI2 H30 HE2 HO2
      obtain ⟨i, H, B, hi, rfl, h3, ht1, ht2, hE⟩ := hrel
      have HE := hide hE
      have H3 := hide h3
      have HT1' := hide ht1
      have HT2' := hide ht2
      clear hE h3 ht1 ht2
      by_cases hlt : i < n
      · have hiI : (i : Int) < (n : Int) := by omega
        rcases (HA.out wr HE.out).2 with h0 | ⟨b1, o1, rfl, -, hc1⟩
        · omega
        have hc := hc1 i hlt
        have HCell := hide (show ∀ W, Ext w W → ∀ j, j < n → W.cell? ⟨b1, o1 + j, none⟩ = some (.string ⟨(l.getD j []).toArray⟩) from fun W hW j hj => by
          rcases (HA.out W hW).2 with h0 | ⟨b2, o2, h2, -, hc2⟩
          · omega
          · simp only [Option.some.injEq, Addr.mk.injEq, and_true] at h2
            obtain ⟨rfl, rfl⟩ := h2
            exact hc2 j hj)
        have HP := hide (HBs.out i hlt)
        have HSi := hide (HStep.out i hlt)
        have HPl := hide (HIn.out i)
        obtain ⟨P, hP⟩ : ∃ P, P = bucketB ((l.drop i).take sz) := ⟨_, rfl⟩
        have hH1 := HT1'.out
        have hH2 := HT2'.out
        rw [HSi.out] at hH1 hH2
        rw [← hP] at HP HPl
        have HH1 := hide (show T1 = H ++ enc P.length ++ headB (bucketsAt sz l (i + sz)) by rw [hH1, hP]; simp [headB])
        have HH2 := hide (show T2 = B ++ P ++ bodyB (bucketsAt sz l (i + sz)) by rw [hH2, hP]; simp [bodyB])
        have HS0 := hide (HFit.out i hlt)
        obtain ⟨s0, hs0⟩ : ∃ s, s = l.getD i [] := ⟨_, rfl⟩
        rw [← hs0] at hc HP HS0
        have CT := refTextL_any s0 wr (by have := HS0.out; omega)
        have HSe := hide hs0
        clear hP hH1 hH2 hc1 HT1' HT2' HSi hs0
        go_wp2_with fail
        refine CT.mono ?_
        rintro e w4 ⟨v4, rfl, hO4, hE4⟩
        have H34 := hide (H3.out.fresh hE4 hO4 HE.out.le)
        have HE4 := hide (HE.out.trans hE4)
        clear hO4 hE4 CT hc
        go_wp2
        obtain ⟨wo, rfl⟩ : ∃ W, W = wr := ⟨_, rfl⟩
        go_loopw [10, 9] (fun y x wk => ∃ (k : Nat) (X : List UInt8), i + 1 ≤ k ∧ k ≤ n ∧ y = .int .i64 (k : Int) ∧ Three wk w.heap.size u6 H u7 B x X ∧ P = X ++ tailB (l.getD (k - 1) []) (left l k (i + sz)) ∧ Ext w wk) (fun y _ _ => n - (intOf y).toNat)
        case atStart => exact ⟨i + 1, textB s0, by omega, by omega, rfl, H34.out, by rw [HP.out, show i + 1 - 1 = i by omega, ← HSe.out], HE4.out⟩
        case round =>
          clear H34 HP HSe HS0
          obtain ⟨k, X, hk1, hkn, rfl, h3k, hPk, hEk⟩ := hrel
          by_cases hcont : k < i + sz ∧ k < n
          · obtain ⟨hk3, hk4⟩ := hcont
            have hkI1 : (k : Int) < (i : Int) + (sz : Int) := by omega
            have hkI2 : (k : Int) < (n : Int) := by omega
            obtain ⟨j, hj⟩ : ∃ j, k = j + 1 := ⟨k - 1, by omega⟩
            have hj1 : (k : Int) - 1 = (j : Int) := by omega
            have hjI : (j : Int) < (n : Int) := by omega
            have hk0 : (0 : Int) < (k : Int) := by omega
            have cj := HCell.out wr hEk j (by omega)
            have ck := HCell.out wr hEk k hk4
            rw [HTs.out k (i + sz) hk3 hk4, show k - 1 = j by omega] at hPk
            have HSj := hide (HFit.out j (by omega))
            have HSk := hide (HFit.out k hk4)
            obtain ⟨sk, hsk⟩ : ∃ s, s = l.getD k [] := ⟨_, rfl⟩
            obtain ⟨sj, hsj⟩ : ∃ s, s = l.getD j [] := ⟨_, rfl⟩
            rw [← hsk] at hPk ck HSk
            rw [← hsj] at hPk cj HSj
            have HSke := hide hsk
            have hall := (alike_le sj sk).2
            have CA := fun m => Calls.quiet_of (refAlike_any sj sk (wr.drewN m) (by have := HSj.out; omega))
            have HIt := hide (show itemB sj sk = enc (alike sj sk) ++ textB (sk.drop (alike sj sk)) from rfl)
            generalize alike sj sk = a at *
            have haI : (a : Int) ≤ (sk.length : Int) := by omega
            have ha25 : a ≤ 25 := by have := HSk.out; omega
            have hwa := u64_wrap (n := a) (by omega)
            have HPk := hide hPk
            have HXl := hide (show X.length ≤ 2000 by have h1 := HPl.out; rw [hPk, List.length_append] at h1; omega)
            have H3k := hide (h3k.ext (Ext.refl wr))
            have HEk := hide hEk
            clear hPk h3k hEk hsk hsj hk3 hall hj
            go_wp2_with fail
            go_quiet (first | (go_at_call 33; exact CA _))
            go_wp2_with fail
            refine (CN.out a _ (by omega)).mono ?_
            rintro e w5 ⟨v5, rfl, hO5, hE5⟩
            have hQ5 := ((Ext.refl wr).drewN _).trans hE5
            have H35 := hide (H3k.out.ext hQ5)
            have HE5 := hide (HEk.out.trans hQ5)
            obtain ⟨A5, c5, hv5, -, -, q5⟩ := hO5.form
            obtain ⟨m5, hm5⟩ : ∃ m, m = (enc a).length := ⟨_, rfl⟩
            rw [← hm5] at hv5 q5
            have HM5 := hide hm5
            have HQ5 := hide q5
            subst hv5
            clear hO5 hE5 q5 hm5 hQ5 cj ck CA
            go_wp2_with (at_builtin; refine wpList_appAt rfl (.tmp 64) (.tmp 67) rfl rfl H35.out.2.2.1 rfl HQ5.out (by have := HXl.out; have := HM5.out; have := enc_len a; omega) HE5.out.le ?_; intro v6 w6 hO6 hG6 hN6; have H36 := hide (H35.out.turn.grow hO6 hG6 hN6).turn.turn; have HE6 := hide (show Ext w w6 from Below.grown HE5.out hG6 HE5.out.le (fun k hk => (H35.out.2.2.1.lt k hk).1)); have ck6 := HCell.out w6 HE6.out k hk4; rw [← HSke.out] at ck6; clear hO6 hG6 hN6)
            refine (refTextL_any (sk.drop a) w6 (by have := HSk.out; rw [List.length_drop]; omega)).mono ?_
            rintro e w7 ⟨v7, rfl, hO7, hE7⟩
            have H37 := hide (H36.out.ext hE7)
            have HE7 := hide (HE6.out.trans hE7)
            obtain ⟨Z, hZ⟩ : ∃ Z, Z = textB (sk.drop a) := ⟨_, rfl⟩
            rw [← hZ] at hO7
            obtain ⟨A7, c7, hv7, -, -, q7⟩ := hO7.form
            obtain ⟨m7, hm7⟩ : ∃ m, m = Z.length := ⟨_, rfl⟩
            rw [← hm7] at hv7 q7
            have HM7 := hide hm7
            have HQ7 := hide q7
            have HZ := hide hZ
            have HZl := hide (show Z.length ≤ 40 by
              rw [hZ]
              unfold textB
              have := HSk.out
              have := enc_len (sk.drop a).length
              rw [List.length_append, List.length_drop] at *
              omega)
            subst hv7
            clear hO7 hE7 q7 hm7 hZ ck6
            go_wp2_with (at_builtin; refine wpList_appAt rfl (.tmp 69) (.tmp 76) rfl rfl H37.out.2.2.1 rfl HQ7.out (by have := HXl.out; have := enc_len a; have := HZl.out; have := HM7.out; rw [List.length_append]; omega) HE7.out.le ?_; intro v8 w8 hO8 hG8 hN8; have H38 := hide (H37.out.turn.grow hO8 hG8 hN8).turn.turn; have HE8 := hide (show Ext w w8 from Below.grown HE7.out hG8 HE7.out.le (fun k hk => (H37.out.2.2.1.lt k hk).1)); clear hO8 hG8 hN8)
            go_roundw
            case rel => exact ⟨k + 1, X ++ enc a ++ Z, by omega, by omega, by go_num, H38.out, by rw [HPk.out, HIt.out, ← HZ.out, show k + 1 - 1 = k by omega, ← HSke.out]; simp only [List.append_assoc], HE8.out⟩
            case measure => simp [intOf]; omega
          · have HXP : P = X := by rw [hPk, HTe.out k (i + sz) _ (by omega), List.append_nil]
            subst HXP
            have HXl := hide HPl.out
            obtain ⟨X, hX⟩ : ∃ X, X = P := ⟨_, rfl⟩
            rw [← hX] at h3k HH1 HH2 HXl
            have HHl := hide (show H.length ≤ 100000 by have h1 := HT1.out; rw [HH1.out, List.length_append, List.length_append] at h1; omega)
            have HBl := hide (show B.length ≤ 10000000 by have h1 := HT2.out; rw [HH2.out, List.length_append, List.length_append] at h1; omega)
            obtain ⟨A9, c9, hv9, -, -, -⟩ := h3k.2.2.1.form
            subst hv9
            have hwx := u64_wrap (n := X.length) (by have := HXl.out; omega)
            have H3k := hide h3k
            have HEk := hide hEk
            clear h3k hEk hPk hX HPl
            by_cases hge : i + sz ≤ k
            · have hgI : ¬ (k : Int) < (i : Int) + (sz : Int) := by omega
              clear hcont hge
              go_wp2_with fail
              refine (CN.out X.length wr (by have := HXl.out; omega)).mono ?_
              rintro e w5 ⟨v5, rfl, hO5, hE5⟩
              have h35 := (H3k.out.ext hE5).drop.flip.flip
              have H35 := hide (H3k.out.ext hE5)
              have HE5 := hide (HEk.out.trans hE5)
              obtain ⟨A5, c5, hv5, -, -, q5⟩ := hO5.form
              obtain ⟨m5, hm5⟩ : ∃ m, m = (enc X.length).length := ⟨_, rfl⟩
              rw [← hm5] at hv5 q5
              have HM5 := hide hm5
              have HQ5 := hide q5
              subst hv5
              clear hO5 hE5 q5 hm5 h35
              go_wp2_with (first | (at_builtin; refine wpList_appAt rfl (.tmp 78) (.tmp 82) rfl rfl H35.out.1 rfl HQ5.out (by have := HM5.out; have := HHl.out; have := enc_len X.length; omega) HE5.out.le ?_; intro v6 w6 hO6 hG6 hN6; have H36 := hide (H35.out.grow hO6 hG6 hN6); have HE6 := hide (show Ext w w6 from Below.grown HE5.out hG6 HE5.out.le (fun k hk => (H35.out.1.lt k hk).1)); clear hO6 hG6 hN6) | (at_builtin; refine wpList_appAt rfl (.tmp 84) (.tmp 85) rfl rfl H36.out.2.1 rfl H36.out.2.2.1.bytesOf (by have := HXl.out; have := HBl.out; omega) HE6.out.le ?_; intro v7 w7 hO7 hG7 hN7; have H37 := hide (H36.out.flip.grow hO7 hG7 hN7).flip.drop; have HE7 := hide (show Ext w w7 from Below.grown HE6.out hG7 HE6.out.le (fun k hk => (H36.out.2.1.lt k hk).1)); clear hO7 hG7 hN7))
              go_roundw
              case rel => exact ⟨i + sz, H ++ enc X.length, B ++ X, by omega, by go_num, H37.out, HH1.out, HH2.out, HE7.out⟩
              case measure => simp [intOf]; omega
            · have hgI : (k : Int) < (i : Int) + (sz : Int) := by omega
              have hgI2 : ¬ (k : Int) < (n : Int) := by omega
              clear hcont hge
              go_wp2_with fail
              refine (CN.out X.length wr (by have := HXl.out; omega)).mono ?_
              rintro e w5 ⟨v5, rfl, hO5, hE5⟩
              have h35 := (H3k.out.ext hE5).drop.flip.flip
              have H35 := hide (H3k.out.ext hE5)
              have HE5 := hide (HEk.out.trans hE5)
              obtain ⟨A5, c5, hv5, -, -, q5⟩ := hO5.form
              obtain ⟨m5, hm5⟩ : ∃ m, m = (enc X.length).length := ⟨_, rfl⟩
              rw [← hm5] at hv5 q5
              have HM5 := hide hm5
              have HQ5 := hide q5
              subst hv5
              clear hO5 hE5 q5 hm5 h35
              go_wp2_with (first | (at_builtin; refine wpList_appAt rfl (.tmp 78) (.tmp 82) rfl rfl H35.out.1 rfl HQ5.out (by have := HM5.out; have := HHl.out; have := enc_len X.length; omega) HE5.out.le ?_; intro v6 w6 hO6 hG6 hN6; have H36 := hide (H35.out.grow hO6 hG6 hN6); have HE6 := hide (show Ext w w6 from Below.grown HE5.out hG6 HE5.out.le (fun k hk => (H35.out.1.lt k hk).1)); clear hO6 hG6 hN6) | (at_builtin; refine wpList_appAt rfl (.tmp 84) (.tmp 85) rfl rfl H36.out.2.1 rfl H36.out.2.2.1.bytesOf (by have := HXl.out; have := HBl.out; omega) HE6.out.le ?_; intro v7 w7 hO7 hG7 hN7; have H37 := hide (H36.out.flip.grow hO7 hG7 hN7).flip.drop; have HE7 := hide (show Ext w w7 from Below.grown HE6.out hG7 HE6.out.le (fun k hk => (H36.out.2.1.lt k hk).1)); clear hO7 hG7 hN7))
              go_roundw
              case rel => exact ⟨i + sz, H ++ enc X.length, B ++ X, by omega, by go_num, H37.out, HH1.out, HH2.out, HE7.out⟩
              case measure => simp [intOf]; omega
      · have hiI : ¬ (i : Int) < (n : Int) := by omega
        have hz : bucketsAt sz l i = [] := HEnd.out i (by omega)
        have h1 := HT1'.out
        have h2 := HT2'.out
        rw [hz] at h1 h2
        have h1 : T1 = H := by rw [h1]; simp [headB]
        have h2 : T2 = B := by rw [h2]; simp [bodyB]
        subst h1 h2
        obtain ⟨A7, c7, hv7, -, -, -⟩ := H3.out.2.1.form
        subst hv7
        clear HT1' HT2' hz hlt h1 h2
        go_wp2_with (at_builtin; refine wpList_appAt rfl (.tmp 87) (.tmp 88) rfl rfl H3.out.1 rfl H3.out.2.1.bytesOf (by have := HT1.out; have := HT2.out; omega) HE.out.le ?_; intro v6 w6 hO6 hG6 hN6; have HO6 := hide hO6; have HE6 := hide (show Ext w w6 from Below.grown HE.out hG6 HE.out.le (fun k hk => (H3.out.1.lt k hk).1)); clear hO6 hG6 hN6)
        go_ret2
        exact ⟨_, rfl, HO6.out, HE6.out⟩
end Go.Proofs.Ytmaddohfkfnnhaa

namespace Go.Proofs.Ytmaddohfkfnnhaa
open Go.RowKit Wrd

attribute [local go_sem ↓] run_txtAt run_txtLen run_txtCut
theorem small_zero {c : UInt8} (h : isL c = false) : ((small c).toNat : Int) = 0 := by rw [isL_no.1 h]; rfl
theorem small_ne {c : UInt8} (h : isL c = true) : (small c).toNat ≠ 0 := fun e => isL_iff.1 h (UInt8.toNat_inj.1 (by simpa using e))

theorem Wrd.drop_at {l : List UInt8} {i : Nat} (h : i < l.length) : l.drop i = l.getD i 0 :: l.drop (i + 1) := by
  rw [List.drop_eq_getElem_cons h, List.getD_eq_getElem?_getD, List.getElem?_eq_getElem h]
  rfl
/-- Is there a letter ahead of the place? -/
def Wrd.prior (l : List UInt8) (i : Nat) : Bool := decide (0 < i) && isL (l.getD (i - 1) 0)
theorem Wrd.prior_next (l : List UInt8) (i : Nat) : prior l (i + 1) = isL (l.getD i 0) := by simp [prior]
theorem Wrd.words_at {l : List UInt8} {i : Nat} (h : i < l.length) : wordsF (prior l i) (l.drop i) = (if isL (l.getD i 0) = true ∧ prior l i = false then [wordR 24 (l.drop i)] else []) ++ wordsF (prior l (i + 1)) (l.drop (i + 1)) := by
  rw [prior_next]
  conv => lhs; rw [drop_at h, wordsF]
  rw [← drop_at h]
theorem Wrd.word_at {l : List UInt8} {k m : Nat} (h : k < l.length) : wordR (m + 1) (l.drop k) = if isL (l.getD k 0) = true then small (l.getD k 0) :: wordR m (l.drop (k + 1)) else [] := by rw [drop_at h, wordR]

end Go.Proofs.Ytmaddohfkfnnhaa

namespace Go.Proofs.Ytmaddohfkfnnhaa
open Go.RowKit Wrd

theorem Wrd.list_ext {a b : List (List UInt8)} (hl : a.length = b.length) (h : ∀ i, i < a.length → a.getD i [] = b.getD i []) : a = b := by
  refine List.ext_getElem hl fun i h1 h2 => ?_
  have := h i h1
  rwa [List.getD_eq_getElem?_getD, List.getD_eq_getElem?_getD, List.getElem?_eq_getElem h1, List.getElem?_eq_getElem h2] at this
set_option maxHeartbeats 1000000 in
set_option maxRecDepth 100000 in
theorem refSame15_any (A1 A2 : Option Addr) (c1 c2 : Nat) (a b : List (List UInt8)) (w : World) (h1 : TextsAt w w.heap.size A1 a.length a) (h2 : TextsAt w w.heap.size A2 b.length b) (hn0 : a.length ≤ 140737488355328) :
    Calls Try.prog 15 #[.slice A1 a.length c1, .slice A2 b.length c2] w fun e w' => e = .returned (.bool (decide (a = b))) ∧ Ext w w' := by
  by_cases hl : a.length = b.length
  · have HEq := hide (show (∀ i, i < a.length → a.getD i [] = b.getD i []) → decide (a = b) = true from fun h => decide_eq_true (Wrd.list_ext hl h))
    have HNe := hide (show ∀ i, a.getD i [] ≠ b.getD i [] → decide (a = b) = false from fun i h => decide_eq_false fun e => h (by rw [e]))
    have hlb : ((a.length : Int) != (b.length : Int)) = false := by simp; omega
    have HA := hide h1
    have HB := hide h2
    generalize decide (a = b) = res at *
    rw [← hl] at HB ⊢
    generalize a.length = n at *
    clear h1 h2 hl
    go_enter Try.func15, Try.ntmps15
    go_wp2
    go_loopw [5] (fun x wr => ∃ i : Nat, i ≤ n ∧ x = .int .i64 (i : Int) ∧ (∀ j, j < i → a.getD j [] = b.getD j []) ∧ Qt w wr) (fun x _ => n - (intOf x).toNat)
    case atStart => exact ⟨0, by omega, rfl, fun j hj => absurd hj (by omega), Qt.refl _⟩
    case round =>
      obtain ⟨i, hi, rfl, hall, hQ⟩ := hrel
      have HAll := hide hall
      clear hall
      by_cases hlt : i < n
      · have hiI : (i : Int) < (n : Int) := by omega
        rcases (HA.out.later hQ.ext).2 with hn | ⟨b1, o1, rfl, _, hc1⟩
        · omega
        rcases (HB.out.later hQ.ext).2 with hn | ⟨b2, o2, rfl, _, hc2⟩
        · omega
        have e1 := hc1 i hlt
        have e2 := hc2 i hlt
        have hNe := HNe.out i
        clear hc1 hc2
        by_cases he : a.getD i [] = b.getD i []
        · have HE := hide he
          obtain ⟨y, hy⟩ : ∃ y, y = b.getD i [] := ⟨_, rfl⟩
          rw [he, ← hy] at e1
          rw [← hy] at e2
          clear he hNe hy
          go_wp2_with fail
          go_quiet (fail)
          go_wp2
          go_roundw
          case rel => exact ⟨i + 1, by omega, by go_num, fun j hj => (by
            by_cases e : j = i
            · rw [e]; exact HE.out
            · exact HAll.out j (by omega)), hQ.drewN _⟩
          case measure => simp [intOf]; omega
        · have HN := hide (hNe he)
          have heb : (!(a.getD i [] == b.getD i [])) = true := by simpa using he
          generalize a.getD i [] = y1 at *
          generalize b.getD i [] = y2 at *
          clear hNe he
          go_wp2_with fail
          go_quiet (fail)
          go_wp2
          go_ret
          exact ⟨ret_bool HN.out.symm, (hQ.drewN _).ext⟩
      · obtain rfl : n = i := by omega
        have HN := hide (HEq.out HAll.out)
        go_wp2
        go_ret
        exact ⟨ret_bool HN.out.symm, hQ.ext⟩
  · have HN := hide (show decide (a = b) = false from decide_eq_false fun e => hl (by rw [e]))
    have hlb : ((a.length : Int) != (b.length : Int)) = true := by simp; omega
    generalize decide (a = b) = res at *
    clear h1 h2
    go_enter Try.func15, Try.ntmps15
    go_wp2
    go_ret
    exact ⟨ret_bool HN.out.symm, Ext.refl _⟩

theorem Wrd.mem_at {l : List (List UInt8)} {i : Nat} (h : i < l.length) : l.getD i [] ∈ l := by
  rw [List.getD_eq_getElem?_getD, List.getElem?_eq_getElem h]
  exact List.getElem_mem _
theorem Wrd.at_mem {l : List (List UInt8)} {x : List UInt8} (h : x ∈ l) : ∃ i, i < l.length ∧ l.getD i [] = x := by
  obtain ⟨i, hi, rfl⟩ := List.getElem_of_mem h
  exact ⟨i, hi, by rw [List.getD_eq_getElem?_getD, List.getElem?_eq_getElem hi]; rfl⟩
attribute [local go_sem ↓] run_txtAt run_txtLen run_txtCut
/-- What One tells. -/
def OneTo (w : World) (l : List UInt8) (e : Ending) (w' : World) : Prop := e = .returned (.tuple #[.string ⟨(oneE l).1.toArray⟩, .bool (oneE l).2]) ∧ Ext w w'
end Go.Proofs.Ytmaddohfkfnnhaa

namespace Go.Proofs.Ytmaddohfkfnnhaa
open Go.RowKit Wrd Dic Num

/-- Block g is a dictionary of these texts. -/
abbrev DctP := World → Nat → List (List UInt8) → Prop
def DctKeep (LP : DctP) : Prop := ∀ {W W' : World} {g : Nat} {l : List (List UInt8)}, LP W g l → Ext W W' → LP W' g l
/-- What Read tells. -/
def RdToD (LP : DctP) (W : World) (r : List (List UInt8) × Nat × Int) (e : Ending) (w' : World) : Prop :=
  Ext W w' ∧ (r.2.2 = 0 → ∃ g, e = .returned (.tuple #[.pointer (some ⟨g, 0, none⟩), .int .i64 (r.2.1 : Int), .int .i64 0]) ∧ LP w' g r.1) ∧ (r.2.2 ≠ 0 → e = .returned (.tuple #[.pointer none, .int .i64 0, .int .i64 r.2.2]))
/-- What At tells. -/
def Dic.inE (l : List (List UInt8)) (i : Int) : Bool := decide (0 ≤ i ∧ i < (l.length : Int))
def Dic.atE (l : List (List UInt8)) (i : Int) : List UInt8 := if inE l i = true then l.getD i.toNat [] else []
/-- From world w on, the program's functions tell what the document's tell. -/
def DWriteC (w : World) : Prop := ∀ (size : Int) (l : List (List UInt8)) (A : Option Addr) (n c : Nat) (W : World), Ext w W → IsI64 size → n ≤ c → c ≤ maxLen → n ≤ 1000 → (∀ s, s ∈ l → s.length ≤ 1000) → TextsAt W W.heap.size A n l → Calls Try.prog 11 #[.int .i64 size, .slice A n c] W (MadeE W (writeE size l).1 (writeE size l).2)
def DReadC (LP : DctP) (w : World) : Prop := ∀ (size : Int) (b : List UInt8) (A : Option Addr) (c : Nat) (W : World), Ext w W → IsI64 size → b.length ≤ c → c ≤ maxLen → b.length ≤ 20000 → Bytes W W.heap.size A b.length b → Calls Try.prog 14 #[.int .i64 size, .slice A b.length c] W (RdToD LP W (readE b size))
def DLenC (LP : DctP) (w : World) : Prop := ∀ (l : List (List UInt8)) (g : Nat) (W : World), Ext w W → LP W g l → Calls Try.prog 18 #[.pointer (some ⟨g, 0, none⟩)] W fun e w' => e = .returned (.int .i64 (l.length : Int)) ∧ Ext W w'
def DAtC (LP : DctP) (w : World) : Prop := ∀ (l : List (List UInt8)) (i : Int) (g : Nat) (W : World), Ext w W → IsI64 i → LP W g l → Calls Try.prog 23 #[.pointer (some ⟨g, 0, none⟩), .int .i64 i] W fun e w' => e = .returned (.tuple #[.string ⟨(atE l i).toArray⟩, .bool (inE l i)]) ∧ Ext W w'
def DFindC (LP : DctP) (w : World) : Prop := ∀ (l : List (List UInt8)) (s : List UInt8) (g : Nat) (W : World), Ext w W → s.length ≤ 1000 → LP W g l → Calls Try.prog 19 #[.pointer (some ⟨g, 0, none⟩), .string ⟨s.toArray⟩] W fun e w' => e = .returned (.tuple #[.int .i64 ((findE l s).1 : Int), .bool (findE l s).2]) ∧ Ext W w'
def DRangeC (LP : DctP) (w : World) : Prop := ∀ (l : List (List UInt8)) (s : List UInt8) (g : Nat) (W : World), Ext w W → s.length ≤ 1000 → LP W g l → Calls Try.prog 21 #[.pointer (some ⟨g, 0, none⟩), .string ⟨s.toArray⟩] W fun e w' => e = .returned (.tuple #[.int .i64 ((rangeE l s).1 : Int), .int .i64 ((rangeE l s).2 : Int)]) ∧ Ext W w'
def DAllC (LP : DctP) (w : World) : Prop := ∀ (l : List (List UInt8)) (g : Nat) (W : World), Ext w W → LP W g l → Calls Try.prog 16 #[.pointer (some ⟨g, 0, none⟩)] W (MadeTx W l)
/-- Of a nil dictionary. -/
def DNilC (w : World) : Prop := ∀ (i : Int) (s : List UInt8) (W : World), Ext w W → IsI64 i → s.length ≤ maxLen →
  (Calls Try.prog 18 #[.pointer none] W fun e w' => e = .returned (.int .i64 0) ∧ Ext W w') ∧
  (Calls Try.prog 23 #[.pointer none, .int .i64 i] W fun e w' => e = .returned (.tuple #[.string ⟨#[]⟩, .bool false]) ∧ Ext W w') ∧
  (Calls Try.prog 19 #[.pointer none, .string ⟨s.toArray⟩] W fun e w' => e = .returned (.tuple #[.int .i64 0, .bool false]) ∧ Ext W w') ∧
  (Calls Try.prog 21 #[.pointer none, .string ⟨s.toArray⟩] W fun e w' => e = .returned (.tuple #[.int .i64 0, .int .i64 0]) ∧ Ext W w') ∧
  (Calls Try.prog 16 #[.pointer none] W fun e w' => ∃ A c, e = .returned (.slice A 0 c) ∧ Ext W w')

/-- Are texts more than statements look at? -/
def Dic.greatE (l : List (List UInt8)) : Bool := decide (300 < l.length) || l.any fun s => decide (60 < s.length)
theorem Dic.great_no {l : List (List UInt8)} (h : greatE l = false) : l.length ≤ 300 ∧ ∀ s, s ∈ l → s.length ≤ 60 := by
  unfold greatE at h
  rw [Bool.or_eq_false_iff, decide_eq_false_iff_not, List.any_eq_false] at h
  exact ⟨by omega, fun s hs => by have := h.2 s hs; simpa using this⟩
attribute [local go_sem ↓] run_txtAt run_txtLen run_txtCut run_txtTop
set_option maxHeartbeats 1000000 in
set_option maxRecDepth 10000 in
theorem great16_any (A : Option Addr) (n c : Nat) (l : List (List UInt8)) (w : World) (h : TextsAt w w.heap.size A n l) : Calls Try.prog 10 #[.slice A n c] w fun e w' => e = .returned (.bool (greatE l)) ∧ Ext w w' := by
  have hl := h.1
  by_cases hb : 300 < n
  · have hbI : (300 : Int) < (n : Int) := by omega
    have hg : greatE l = true := by unfold greatE; rw [decide_eq_true (by omega)]; rfl
    rw [hg]
    clear hl hg hb
    go_enter Try.func10, Try.ntmps10
    go_wp2
    go_ret
    exact ⟨rfl, Ext.refl _⟩
  have hbI : ¬ (300 : Int) < (n : Int) := by omega
  have HYes := hide (show ∀ i, i < n → 60 < (l.getD i []).length → greatE l = true from fun i hi h => by
    unfold greatE
    rw [Bool.or_eq_true]
    refine .inr (List.any_eq_true.2 ⟨l.getD i [], ?_, decide_eq_true h⟩)
    rw [List.getD_eq_getElem?_getD, List.getElem?_eq_getElem (by omega)]
    exact List.getElem_mem _)
  have HNo := hide (show (∀ i, i < n → (l.getD i []).length ≤ 60) → greatE l = false from fun h => by
    unfold greatE
    rw [decide_eq_false (by omega), Bool.false_or, List.any_eq_false]
    intro s hs
    obtain ⟨i, hi, rfl⟩ := List.getElem_of_mem hs
    have := h i (by omega)
    rw [List.getD_eq_getElem?_getD, List.getElem?_eq_getElem hi] at this
    have h2 : (l[i]).length ≤ 60 := this
    simp
    omega)
  have HA := hide h
  generalize greatE l = res at *
  clear h hl hb
  go_enter Try.func10, Try.ntmps10
  go_wp2
  go_loopw [3] (fun x wr => ∃ i : Nat, i ≤ n ∧ x = .int .i64 (i : Int) ∧ (∀ j, j < i → (l.getD j []).length ≤ 60) ∧ wr = w) (fun x _ => n - (intOf x).toNat)
  case atStart => exact ⟨0, by omega, rfl, fun j hj => absurd hj (by omega), rfl⟩
  case round =>
    obtain ⟨i, hi, rfl, hall, rfl⟩ := hrel
    have HAll := hide hall
    clear hall
    by_cases hlt : i < n
    · have hiI : (i : Int) < (n : Int) := by omega
      rcases HA.out.2 with hn0 | ⟨b1, o1, rfl, _, hc1⟩
      · omega
      have e1 := hc1 i hlt
      have HY := hide (HYes.out i hlt)
      have HNx := hide (show (l.getD i []).length ≤ 60 → ∀ j, j < i + 1 → (l.getD j []).length ≤ 60 from fun h j hj => by
        by_cases e : j = i
        · rw [e]; exact h
        · exact HAll.out j (by omega))
      obtain ⟨y, hy⟩ : ∃ y, y = l.getD i [] := ⟨_, rfl⟩
      rw [← hy] at e1 HY HNx
      clear hc1 hy
      by_cases g : 60 < y.length
      · have gI : (60 : Int) < (y.length : Int) := by omega
        have HR := hide (HY.out g)
        clear HY HNx g
        go_wp2
        go_ret
        exact ⟨ret_bool HR.out.symm, Ext.refl _⟩
      · have gI : ¬ (60 : Int) < (y.length : Int) := by omega
        have hNx := hide (HNx.out (by omega))
        clear HY HNx g
        go_wp2
        go_roundw
        case rel => exact ⟨i + 1, by omega, by go_num, hNx.out, by first | rfl | trivial⟩
        case measure => simp [intOf]; omega
    · have hiI : ¬ (i : Int) < (n : Int) := by omega
      have HR := hide (HNo.out (fun j hj => HAll.out j (by omega)))
      clear hlt
      go_wp2
      go_ret
      exact ⟨ret_bool HR.out.symm, Ext.refl _⟩

set_option maxHeartbeats 2000000 in
set_option maxRecDepth 100000 in
theorem alive16_any {w W : World} (hB : DWriteC w) (hE : Ext w W) : Calls Try.prog 9 #[] W fun e W' => e = .returned (.bool true) ∧ Ext W W' := by
  have kc := fun (w : World) (C : Array Value) (n c : Nat) => Lib.run_convert_bytes_const (P := Try.prog) w 25 5 C n c Try.underlying25 Try.underlying5
  have hE1 := extNew W (.cells #[.string ⟨#[100, 105, 115, 107]⟩, .string ⟨#[100, 105, 115, 107, 115]⟩, .string ⟨#[102, 117, 108, 108]⟩] 9)
  have hL1 := textsNew W [[100, 105, 115, 107], [100, 105, 115, 107, 115], [102, 117, 108, 108]] #[.string ⟨#[100, 105, 115, 107]⟩, .string ⟨#[100, 105, 115, 107, 115]⟩, .string ⟨#[102, 117, 108, 108]⟩] 9 (0, 0) rfl 3 rfl
  have C := hB 2 [[100, 105, 115, 107], [100, 105, 115, 107, 115], [102, 117, 108, 108]] _ 3 3 _ (hE.trans hE1) (by unfold IsI64; omega) (Nat.le_refl _) (by unfold maxLen; omega) (by omega) (by simp) hL1
  rw [example16] at C
  unfold MadeE at C
  dsimp only at C
  clear hL1 hB
  go_enter Try.func9, Try.ntmps9
  go_wp2_with fail
  refine C.mono ?_
  rintro e w2 ⟨v2, rfl, hO2, hE2⟩
  have hE3 := extNew w2 (.cells #[.int .u8 3, .int .u8 8, .int .u8 5, .int .u8 4, .int .u8 100, .int .u8 105, .int .u8 115, .int .u8 107, .int .u8 4, .int .u8 1, .int .u8 115, .int .u8 4, .int .u8 102, .int .u8 117, .int .u8 108, .int .u8 108] 5 (16, 17))
  obtain ⟨A2, c2, rfl, _, _, h2⟩ := hO2.form
  have CS := same_any _ _ _ _ c2 16 _ _ _ (hE3.bytes h2) (bytesNew w2 [3, 8, 5, 4, 100, 105, 115, 107, 4, 1, 115, 4, 102, 117, 108, 108] #[.int .u8 3, .int .u8 8, .int .u8 5, .int .u8 4, .int .u8 100, .int .u8 105, .int .u8 115, .int .u8 107, .int .u8 4, .int .u8 1, .int .u8 115, .int .u8 4, .int .u8 102, .int .u8 117, .int .u8 108, .int .u8 108] 5 (16, 17) rfl 16 rfl)
  rw [sameB_true rfl] at CS
  have hF := (hE1.trans hE2).trans hE3
  clear C hO2 h2
  go_wp2_with fail
  refine CS.mono ?_
  rintro e w5 ⟨rfl, hE5⟩
  go_wp2
  go_ret
  exact ⟨rfl, hF.trans hE5⟩

set_option maxHeartbeats 2000000 in
set_option maxRecDepth 100000 in
theorem dictWrites_walk0 (size : Int) (A : Option Addr) (n c : Nat) (l : List (List UInt8)) (w : World) (hB : DWriteC w) (hs : IsI64 size) (hn : n ≤ c) (hc : c ≤ maxLen) (h : TextsAt w w.heap.size A n l) :
    Calls Try.prog 3 #[.int .i64 size, .slice A n c] w fun e w' => e = .returned (.bool true) ∧ Ext w w' := by
  have C0 := alive16_any hB (Ext.refl w)
  have CG := hide (fun W (hE : Ext w W) => great16_any A n c l W (h.later hE))
  have H := hide h
  have HL := hide h.1
  have HB := hide hB
  clear h hB
  cases hg : greatE l with
  | true =>
    rw [hg] at CG
    clear hg
    go_enter Try.func3, Try.ntmps3
    go_wp2_with fail
    refine C0.mono ?_
    rintro e w1 ⟨rfl, hE1⟩
    have CC := CG.out w1 hE1
    clear C0
    go_wp2_with fail
    refine CC.mono ?_
    rintro e w2 ⟨rfl, hE2⟩
    go_wp2
    go_ret
    exact ⟨rfl, hE1.trans hE2⟩
  | false =>
    rw [hg] at CG
    obtain ⟨g1, g2⟩ := great_no hg
    rw [HL.out] at g1
    have HG := hide g2
    clear hg g2
    go_enter Try.func3, Try.ntmps3
    go_wp2_with fail
    refine C0.mono ?_
    rintro e w1 ⟨rfl, hE1⟩
    have CC := CG.out w1 hE1
    have HE1 := hide hE1
    clear C0 hE1
    go_wp2_with fail
    refine CC.mono ?_
    rintro e w2 ⟨rfl, hE2⟩
    have HE2 := hide (HE1.out.trans hE2)
    have C1 := HB.out size l A n c w2 HE2.out hs hn hc (by omega) (fun s hs => by have := HG.out s hs; omega) (H.out.later HE2.out)
    clear CC hE2
    go_wp2_with fail
    refine C1.mono ?_
    rintro e w3 ⟨v3, rfl, hO3, hE3⟩
    have HE3 := hide (HE2.out.trans hE3)
    have HO3 := hide hO3
    have C2 := refWrite16_any A n c l size w3 (H.out.later HE3.out) (by omega) (fun s hs => by have := HG.out s hs; omega) hs
    clear C1 hE3 hO3
    generalize writeE size l = res at *
    go_wp2_with fail
    refine C2.mono ?_
    rintro e w4 ⟨v4, rfl, hO4, hE4⟩
    have HE4 := hide (HE3.out.trans hE4)
    obtain ⟨A4, c4, rfl, _, _, h4⟩ := (HO3.out.ext hE4).form
    obtain ⟨A5, c5, rfl, _, _, h5⟩ := hO4.form
    have CS := same_any _ _ _ _ c4 c5 _ _ _ h4 h5
    rw [sameB_true rfl] at CS
    have heb : (res.2 == res.2) = true := by simp
    clear C2 hO4 h4 h5 hE4
    generalize res.2 = er at *
    generalize res.1.length = k2 at *
    go_wp2_with fail
    refine CS.mono ?_
    rintro e w5 ⟨rfl, hE5⟩
    go_wp2
    go_ret
    exact ⟨rfl, HE4.out.trans hE5⟩

set_option maxHeartbeats 2000000 in
set_option maxRecDepth 100000 in
theorem dictNone_walk0 (i : Int) (s : List UInt8) (w : World) (hB : DWriteC w) (hN : DNilC w) (hi : IsI64 i) (hs : s.length ≤ maxLen) :
    Calls Try.prog 8 #[.int .i64 i, .string ⟨s.toArray⟩] w fun e w' => e = .returned (.bool true) ∧ Ext w w' := by
  have C0 := alive16_any hB (Ext.refl w)
  have HN := hide (fun W hE => hN i s W hE hi hs)
  clear hN hB hs hi
  go_enter Try.func8, Try.ntmps8
  go_wp2_with fail
  refine C0.mono ?_
  rintro e w1 ⟨rfl, hE1⟩
  have C1 := (HN.out w1 hE1).2.1
  have HE1 := hide hE1
  clear C0 hE1
  go_wp2_with fail
  refine C1.mono ?_
  rintro e w2 ⟨rfl, hE2⟩
  have HE2 := hide (HE1.out.trans hE2)
  have C2 := (HN.out w2 HE2.out).2.2.1
  clear C1 hE2
  go_wp2_with fail
  refine C2.mono ?_
  rintro e w3 ⟨rfl, hE3⟩
  have HE3 := hide (HE2.out.trans hE3)
  have C3 := (HN.out w3 HE3.out).2.2.2.1
  clear C2 hE3
  go_wp2_with fail
  refine C3.mono ?_
  rintro e w4 ⟨rfl, hE4⟩
  have HE4 := hide (HE3.out.trans hE4)
  have C4 := (HN.out w4 HE4.out).1
  clear C3 hE4
  go_wp2_with fail
  refine C4.mono ?_
  rintro e w5 ⟨rfl, hE5⟩
  have HE5 := hide (HE4.out.trans hE5)
  have C5 := (HN.out w5 HE5.out).2.2.2.2
  clear C4 hE5
  go_wp2_with fail
  refine C5.mono ?_
  rintro e w6 ⟨A6, c6, rfl, hE6⟩
  have HE6 := hide (HE5.out.trans hE6)
  clear hE6
  go_wp2
  go_ret
  exact ⟨rfl, HE6.out⟩
end Go.Proofs.Ytmaddohfkfnnhaa

namespace Go.Proofs.Ytmaddohfkfnnhaa
open Go.RowKit Num Wrd Dic

theorem dicLst_keep : DctKeep DicLst := fun h hE => dicLst_keep' h hE
theorem dWriteC_any (w : World) : DWriteC w := fun size l A n c W _ _ hnc hc hn hl h => dWrite_any size l A n c W hnc hc hn hl h
theorem dReadC_any (w : World) : DReadC DicLst w := fun size b A c W _ _ hc _ hl hB => by
  cases hs : sizeD size with
  | false =>
    have hs1 := of_decide_eq_false hs
    rw [show readE b size = ([], 0, 13) by unfold readE; rw [if_pos (by omega)]]
    exact (dReadSize_any size A b.length c W hs).mono fun _ _ ⟨h1, h2⟩ => ⟨h2, fun h => absurd h (by decide), fun _ => h1⟩
  | true =>
    have hs1 := of_decide_eq_true hs
    obtain ⟨sz, rfl⟩ : ∃ sz : Nat, size = (sz : Int) := ⟨size.toNat, by omega⟩
    rw [show readE b (sz : Int) = readR b sz by unfold readE; rw [if_neg (by omega), Int.toNat_natCast]]
    exact dReadGood_any sz b A c W (by omega) (by omega) hc (by omega) hB
theorem dLenC_any (w : World) : DLenC DicLst w := fun _ _ W _ ⟨_, _, _, _, _, _, h⟩ => (dLen_any h).mono fun _ _ ⟨h1, h2⟩ => ⟨h1, h2 ▸ Ext.refl W⟩
theorem dAtC_any (w : World) : DAtC DicLst w := fun _ i _ W _ _ ⟨_, _, _, _, _, _, h⟩ => (dAt_any h i).mono fun _ _ ⟨h1, h2⟩ => ⟨h1, h2 ▸ Ext.refl W⟩
theorem dFindC_any (w : World) : DFindC DicLst w := fun _ s _ _ _ _ ⟨_, _, _, _, _, _, h⟩ => dFind_any h s
theorem dRangeC_any (w : World) : DRangeC DicLst w := fun _ s _ _ _ _ ⟨_, _, _, _, _, _, h⟩ => dRange_any h s
theorem dAllC_any (w : World) : DAllC DicLst w := fun _ _ _ _ ⟨_, _, _, _, _, _, h⟩ => dAll_any h
theorem dNilC_any (w : World) : DNilC w := fun i s W _ _ _ =>
  ⟨(dLenNil_any W).mono fun _ _ ⟨h1, h2⟩ => ⟨h1, h2 ▸ Ext.refl W⟩, (dAtNil_any i W).mono fun _ _ ⟨h1, h2⟩ => ⟨h1, h2 ▸ Ext.refl W⟩, dFindNil_any s W, dRangeNil_any s W, dAllNil_any W⟩
end Go.Proofs.Ytmaddohfkfnnhaa

namespace Go.Proofs.Ytmaddohfkfnnhaa
open Go.RowKit Wrd Dic Num

theorem Dic.tail_ge : ∀ (t : List (List UInt8)) (was : List UInt8), t.length ≤ (tailB was t).length
  | [], _ => by simp
  | s :: t, was => by
    have h1 := tail_ge t s
    have h2 := enc_pos (alike was s)
    rw [tailB, List.length_append, List.length_cons]
    unfold itemB
    rw [List.length_append]
    omega
theorem Dic.bucket_ge : ∀ c : List (List UInt8), c.length ≤ (bucketB c).length
  | [] => by simp
  | s :: t => by
    have h1 := tail_ge t s
    have h2 := enc_pos s.length
    rw [bucketB, List.length_append, List.length_cons]
    unfold textB
    rw [List.length_append]
    omega
theorem Dic.chunks_ge {size : Nat} (hs : 1 ≤ size) : ∀ (f : Nat) (l : List (List UInt8)), l.length ≤ f → l.length ≤ (bodyB (chunks size f l)).length
  | 0, l, h => by omega
  | f + 1, l, h => by
    rw [chunks]
    split
    · rename_i e; subst e; simp
    · rename_i e
      have hp : 0 < l.length := List.length_pos_iff.2 e
      have h1 := chunks_ge hs f (l.drop size) (by rw [List.length_drop]; omega)
      have h2 := bucket_ge (l.take size)
      unfold bodyB at h1 ⊢
      rw [List.flatMap_cons, List.length_append]
      rw [List.length_drop] at h1
      rw [List.length_take] at h2
      omega
theorem Dic.dict_ge {size : Nat} (hs : 1 ≤ size) (l : List (List UInt8)) : l.length ≤ (dictB size l).length := by
  have := chunks_ge hs l.length l (Nat.le_refl _)
  unfold dictB bucketsOf
  rw [List.length_append]
  omega
/-- Of a dictionary that is read: what is written, and how much it is. -/
theorem Dic.one_facts {size : Int} {b : List UInt8} {l : List (List UInt8)} {n : Nat} (h : readE b size = (l, n, 0)) : n ≤ b.length ∧ writeE size l = (b.take n, 0) ∧ l.length ≤ b.length ∧ ∀ s, s ∈ l → s.length ≤ 25 := by
  unfold readE at h
  split at h
  · simp at h
  · rename_i hs
    obtain ⟨h1, h2, h3⟩ := read_one (by omega) h
    refine ⟨h2, ?_, ?_, fun s hs => ((may_facts h1).2.1 s hs).2⟩
    · unfold writeE
      rw [if_neg (by rw [h1]; simp; omega), h3]
    · have := dict_ge (size := size.toNat) (by omega) l
      rw [h3, List.length_take] at this
      omega
/-- Of a dictionary that is written: how great it is, and what is read. -/
theorem Dic.back_facts {size : Int} {l : List (List UInt8)} (h : (writeE size l).2 = 0) (more : List UInt8) : (1 ≤ size ∧ size ≤ 64) ∧ mayD l = true ∧ (writeE size l).1.length ≤ 10 + 37 * l.length ∧ readE ((writeE size l).1 ++ more) size = (l, (writeE size l).1.length, 0) := by
  unfold writeE at h ⊢
  split at h
  · simp at h
  · rename_i hs
    rw [if_neg hs]
    have hm : mayD l = true := by cases hm : mayD l with
      | true => rfl
      | false => exact absurd (.inr (.inr hm)) hs
    refine ⟨by omega, hm, dict_small (by omega) (by omega) (fun s hs => ((may_facts hm).2.1 s hs).2), ?_⟩
    unfold readE
    rw [if_neg (by omega), read_back (by omega) (by omega) hm]
theorem Dic.write_bad {size : Int} {l : List (List UInt8)} (h : (writeE size l).2 ≠ 0) : writeE size l = ([], 13) := by
  unfold writeE at h ⊢
  split at h
  · rename_i hs; rw [if_pos hs]
  · exact absurd rfl h

set_option maxHeartbeats 2000000 in
set_option maxRecDepth 100000 in
theorem dictOne_walk0 {LP : DctP} (size : Int) (A : Option Addr) (n c : Nat) (b : List UInt8) (w : World) (hB : DWriteC w) (hR : DReadC LP w) (hA : DAllC LP w) (hbd : IsI64 size) (hn : n ≤ c) (hc : c ≤ maxLen) (h : Bytes w w.heap.size A n b) :
    Calls Try.prog 5 #[.int .i64 size, .slice A n c] w fun e w' => e = .returned (.bool true) ∧ Ext w w' := by
  have C0 := alive16_any hB (Ext.refl w)
  have hl := h.1
  by_cases hbig : 600 < n
  · have hbI : (600 : Int) < (n : Int) := by omega
    clear hl
    go_enter Try.func5, Try.ntmps5
    go_wp2_with fail
    refine C0.mono ?_
    rintro e w1 ⟨rfl, hE1⟩
    go_wp2
    go_ret
    exact ⟨rfl, hE1⟩
  have hbI : ¬ (600 : Int) < (n : Int) := by omega
  have H := hide h
  have HL := hide hl
  have HB := hide hB
  have HA := hide hA
  have CR := fun (W : World) (hE : Ext w W) => hR size b A c W hE hbd (by omega) hc (by omega) (by rw [hl]; exact hE.bytes h)
  rw [hl] at CR
  have HR := hide CR
  clear h hB hR hA CR hl
  obtain ⟨r1, r2, r3, hr⟩ : ∃ r1 r2 r3, readE b size = (r1, r2, r3) := ⟨_, _, _, rfl⟩
  rw [hr] at HR
  by_cases he : r3 = 0
  · subst he
    obtain ⟨o2, o1, o3, o4⟩ := one_facts hr
    have HO := hide o1
    have HO4 := hide o4
    rw [HL.out] at o2 o3
    have hlen : r1.length ≤ 1000 := by omega
    clear hr o1 o3 o4
    go_enter Try.func5, Try.ntmps5
    go_wp2_with fail
    refine C0.mono ?_
    rintro e w1 ⟨rfl, hE1⟩
    have C1 := HR.out w1 hE1
    clear C0
    go_wp2_with fail
    refine C1.mono ?_
    rintro e w2 ⟨hE2, hok, _⟩
    obtain ⟨g, rfl, hL⟩ := hok rfl
    have hF2 := hE1.trans hE2
    have C2 := HA.out r1 g w2 hF2 hL
    clear C1 hok hL hE1 hE2
    dsimp only at *
    go_wp2_with fail
    refine C2.mono ?_
    rintro e w3 ⟨Al, cl, rfl, hlc, hlm, hI, hE3⟩
    have hF3 := hF2.trans hE3
    have C3 := HB.out size r1 Al r1.length cl w3 hF3 hbd hlc hlm hlen (fun s hs => by have := HO4.out s hs; omega) hI
    rw [HO.out] at C3
    clear C2 hF2 hE3 hI
    generalize r1.length = kl at *
    go_wp2_with fail
    refine C3.mono ?_
    rintro e w4 ⟨v4, rfl, hO4, hE4⟩
    have hF4 := hF3.trans hE4
    obtain ⟨A4, c4, rfl, _, _, h4⟩ := hO4.form
    have hbt := Ef.bytes_head (hF4.bytes H.out) o2 hn
    have CS := same_any _ _ _ _ c4 c _ _ _ h4 hbt
    rw [sameB_true rfl] at CS
    have kc := fun W => run_headB W A n c .i64 (r2 : Int) (by omega) (by omega)
    rw [Int.toNat_natCast] at kc
    have i0 : (0 : Int) ≤ (r2 : Int) := by omega
    have i1 : (r2 : Int) ≤ (n : Int) := by omega
    clear C3 hO4 h4 hbt hF3 hE4
    generalize (b.take r2).length = k4 at *
    go_wp2_with fail
    refine CS.mono ?_
    rintro e w5 ⟨rfl, hE5⟩
    go_wp2
    go_ret
    exact ⟨rfl, hF4.trans hE5⟩
  · have heb : (r3 != 0) = true := by simpa using he
    have HE := hide he
    clear hr he
    go_enter Try.func5, Try.ntmps5
    go_wp2_with fail
    refine C0.mono ?_
    rintro e w1 ⟨rfl, hE1⟩
    have C1 := HR.out w1 hE1
    clear C0
    go_wp2_with fail
    refine C1.mono ?_
    rintro e w2 ⟨hE2, _, hno⟩
    obtain rfl := hno HE.out
    have hF2 := hE1.trans hE2
    clear C1 hno hE1 hE2
    dsimp only at *
    go_wp2
    go_ret
    exact ⟨rfl, hF2⟩

set_option maxHeartbeats 2000000 in
set_option maxRecDepth 100000 in
theorem dictBack_walk0 {LP : DctP} (size : Int) (A1 A2 : Option Addr) (n1 c1 n2 c2 : Nat) (l : List (List UInt8)) (m : List UInt8) (w : World) (hB : DWriteC w) (hR : DReadC LP w) (hA : DAllC LP w) (hbd : IsI64 size) (hn1 : n1 ≤ c1) (hc1 : c1 ≤ maxLen) (h1 : TextsAt w w.heap.size A1 n1 l) (h2 : Bytes w w.heap.size A2 n2 m) :
    Calls Try.prog 4 #[.int .i64 size, .slice A1 n1 c1, .slice A2 n2 c2] w fun e w' => e = .returned (.bool true) ∧ Ext w w' := by
  have C0 := alive16_any hB (Ext.refl w)
  have CG := hide (fun W (hE : Ext w W) => great16_any A1 n1 c1 l W (h1.later hE))
  have hl1 := h1.1
  have hl2 := h2.1
  cases hg : greatE l with
  | true =>
    rw [hg] at CG
    clear hg hl1 hl2
    go_enter Try.func4, Try.ntmps4
    go_wp2_with fail
    refine C0.mono ?_
    rintro e w1 ⟨rfl, hE1⟩
    have CC := CG.out w1 hE1
    clear C0
    go_wp2_with fail
    refine CC.mono ?_
    rintro e w2 ⟨rfl, hE2⟩
    go_wp2
    go_ret
    exact ⟨rfl, hE1.trans hE2⟩
  | false =>
    rw [hg] at CG
    obtain ⟨g1, g2⟩ := great_no hg
    rw [hl1] at g1
    have HG := hide g2
    clear hg g2
    by_cases hb2 : 500 < n2
    · have hbI : (500 : Int) < (n2 : Int) := by omega
      clear hl1 hl2
      go_enter Try.func4, Try.ntmps4
      go_wp2_with fail
      refine C0.mono ?_
      rintro e w1 ⟨rfl, hE1⟩
      have CC := CG.out w1 hE1
      clear C0
      go_wp2_with fail
      refine CC.mono ?_
      rintro e w2 ⟨rfl, hE2⟩
      go_wp2
      go_ret
      exact ⟨rfl, hE1.trans hE2⟩
    have hb2I : ¬ (500 : Int) < (n2 : Int) := by omega
    have H1 := hide h1
    have H2 := hide h2
    have HL1 := hide hl1
    have HL2 := hide hl2
    have HB := hide hB
    have HR := hide hR
    have HA := hide hA
    clear h1 h2 hB hR hA hl1 hl2
    by_cases he : (writeE size l).2 = 0
    · have HE := hide he
      obtain ⟨-, -, hlen, hbk⟩ := back_facts he m
      rw [HL1.out] at hlen
      have HBk := hide hbk
      clear he hbk
      go_enter Try.func4, Try.ntmps4
      go_wp2_with fail
      refine C0.mono ?_
      rintro e w1 ⟨rfl, hE1⟩
      have CC := CG.out w1 hE1
      have HE1 := hide hE1
      clear C0 hE1
      go_wp2_with fail
      refine CC.mono ?_
      rintro e w1' ⟨rfl, hE1'⟩
      have hE1 := HE1.out.trans hE1'
      have C1 := HB.out size l A1 n1 c1 w1' hE1 hbd hn1 hc1 (by omega) (fun s hs => by have := HG.out s hs; omega) (H1.out.later hE1)
      rw [HE.out] at C1
      clear CC hE1' HE1
      generalize (writeE size l).1 = b at *
      go_wp2_with fail
      refine C1.mono ?_
      rintro e w2 ⟨v2, rfl, hO2, hE2⟩
      have hF2 := hE1.trans hE2
      obtain ⟨Ab, cb, rfl, _, _, hb⟩ := hO2.form
      have hN0 := OwnB.nil w2 w2.heap.size
      have hBel0 : Below w2.heap.size w2 w2 := Below.refl _ _
      have hm0 := hF2.bytes H2.out
      have HM0 := hide hm0
      have hle0 : ([] : List UInt8).length + b.length ≤ 140737488355328 := by simp; omega
      have hle1 : ([] ++ b : List UInt8).length + n2 ≤ 140737488355328 := by simp; omega
      have hbs : w2.heap.size ≤ w2.heap.size := Nat.le_refl _
      clear C1 hO2 hE2 hm0
      go_wp2_with (first
        | (at_builtin; refine wpList_app rfl (.tmp 37) (.tmp 38) rfl rfl hN0 rfl hb hle0 hbs ?_; intro v3 w3 hO3 hG3; have hBel3 := hN0.below hBel0 hG3 hbs; have hB3 : w2.heap.size ≤ w3.heap.size := hG3.size; have hm3 : Bytes w3 w3.heap.size A2 n2 m := (HM0.out.below hBel3 (Nat.le_refl _)).mono hB3)
        | (at_builtin; refine wpList_app rfl (.tmp 39) (.tmp 40) rfl rfl hO3 rfl hm3 hle1 hB3 ?_; intro v4 w4 hO4 hG4; have hBel4 := hO3.below hBel3 hG4 hB3))
      rw [List.nil_append] at hO4
      have hE4 : Ext w2 w4 := hBel4
      have hF4 := hF2.trans hE4
      obtain ⟨A4, c4, rfl, h4c, h4m, h4⟩ := hO4.form
      have C5 := HR.out size (b ++ m) A4 c4 w4 hF4 hbd h4c h4m (by rw [List.length_append, HL2.out]; omega) h4
      rw [HBk.out] at C5
      clear hO4 h4 hG4 hO3 hG3 hm3 hBel3 hBel4 hb hN0 hBel0
      generalize (b ++ m).length = k4 at *
      go_wp2_with fail
      refine C5.mono ?_
      rintro e w5 ⟨hE5, hok, _⟩
      obtain ⟨g, rfl, hL⟩ := hok rfl
      have hF5 := hF4.trans hE5
      have C6 := HA.out l g w5 hF5 hL
      clear C5 hok hL hE5 hE4
      dsimp only at *
      go_wp2_with fail
      refine C6.mono ?_
      rintro e w6 ⟨Al, cl, rfl, hlc, hlm, hI, hE6⟩
      have hF6 := hF5.trans hE6
      have hI1 := H1.out.later hF6
      rw [← HL1.out] at hI1 g1 hn1
      have CS := refSame15_any Al A1 cl c1 l l w6 hI hI1 (by omega)
      rw [decide_eq_true rfl, HL1.out] at CS
      rw [HL1.out] at hlc ⊢
      clear C6 hI hI1 hE6
      go_wp2_with fail
      refine CS.mono ?_
      rintro e w7 ⟨rfl, hE7⟩
      go_wp2
      go_ret
      exact ⟨rfl, hF6.trans hE7⟩
    · have HW := hide (write_bad he)
      clear he
      go_enter Try.func4, Try.ntmps4
      go_wp2_with fail
      refine C0.mono ?_
      rintro e w1 ⟨rfl, hE1⟩
      have CC := CG.out w1 hE1
      have HE1 := hide hE1
      clear C0 hE1
      go_wp2_with fail
      refine CC.mono ?_
      rintro e w1' ⟨rfl, hE1'⟩
      have hE1 := HE1.out.trans hE1'
      have C1 := HB.out size l A1 n1 c1 w1' hE1 hbd hn1 hc1 (by omega) (fun s hs => by have := HG.out s hs; omega) (H1.out.later hE1)
      rw [HW.out] at C1
      clear CC hE1' HE1
      go_wp2_with fail
      refine C1.mono ?_
      rintro e w2 ⟨v2, rfl, hO2, hE2⟩
      have hF2 := hE1.trans hE2
      obtain ⟨Ab, cb, rfl, _, _, _⟩ := hO2.form
      clear C1 hO2
      dsimp only at *
      go_wp2
      go_ret
      exact ⟨rfl, hF2⟩
end Go.Proofs.Ytmaddohfkfnnhaa

namespace Go.Proofs.Ytmaddohfkfnnhaa
open Go.RowKit Wrd Dic Num

attribute [local go_sem ↓] run_txtAt run_txtLen run_txtCut run_txtTop
set_option maxHeartbeats 4000000 in
set_option maxRecDepth 100000 in
theorem dictFinds_walk0 {LP : DctP} (hK : DctKeep LP) (z : Nat) (A : Option Addr) (n c : Nat) (l : List (List UInt8)) (s : List UInt8) (i : Int) (w : World) (hB : DWriteC w) (hR : DReadC LP w) (hLnC : DLenC LP w) (hFiC : DFindC LP w) (hRaC : DRangeC LP w) (hAtC : DAtC LP w) (hz8 : z < 256) (hi64 : IsI64 i) (hn : n ≤ c) (hc : c ≤ maxLen) (h : TextsAt w w.heap.size A n l) :
    Calls Try.prog 6 #[.int .u8 (z : Int), .slice A n c, .string ⟨s.toArray⟩, .int .i64 i] w fun e w' => e = .returned (.bool true) ∧ Ext w w' := by
  have C0 := alive16_any hB (Ext.refl w)
  have CG := hide (fun W (hE : Ext w W) => great16_any A n c l W (h.later hE))
  have hl := h.1
  have HB := hide hB
  have HR := hide hR
  clear hB hR
  cases hg : greatE l with
  | true =>
    rw [hg] at CG
    clear hg hl
    go_enter Try.func6, Try.ntmps6
    go_wp2_with fail
    refine C0.mono ?_
    rintro e w1 ⟨rfl, hE1⟩
    have HE1 := hide hE1
    have CC := CG.out w1 hE1
    clear C0 hE1
    go_wp2_with fail
    refine CC.mono ?_
    rintro e w2 ⟨rfl, hE2⟩
    have HE2 := hide (HE1.out.trans hE2)
    clear CC hE2
    go_wp2
    go_ret
    exact ⟨rfl, HE2.out⟩
  | false =>
  rw [hg] at CG
  obtain ⟨g1, g2⟩ := great_no hg
  rw [hl] at g1
  have CM := hide (fun W (hE : Ext w W) => refMay16_any A n c l W (h.later hE) (by omega) (fun s hs => by have := g2 s hs; omega))
  have HG := hide g2
  clear hg g2
  by_cases hbs : 60 < s.length
  · have hbI : (60 : Int) < (s.length : Int) := by omega
    clear hl hbs
    go_enter Try.func6, Try.ntmps6
    go_wp2_with fail
    refine C0.mono ?_
    rintro e w1 ⟨rfl, hE1⟩
    have HE1 := hide hE1
    have CC := CG.out w1 hE1
    clear C0 hE1
    go_wp2_with fail
    refine CC.mono ?_
    rintro e w2 ⟨rfl, hE2⟩
    have HE2 := hide (HE1.out.trans hE2)
    clear CC hE2
    go_wp2
    go_ret
    exact ⟨rfl, HE2.out⟩
  have hbI : ¬ (60 : Int) < (s.length : Int) := by omega
  cases hm : mayD l with
  | false =>
    rw [hm] at CM
    clear hm hl hbs
    go_enter Try.func6, Try.ntmps6
    go_wp2_with fail
    refine C0.mono ?_
    rintro e w1 ⟨rfl, hE1⟩
    have HE1 := hide hE1
    have CC := CG.out w1 hE1
    clear C0 hE1
    go_wp2_with fail
    refine CC.mono ?_
    rintro e w2 ⟨rfl, hE2⟩
    have HE2 := hide (HE1.out.trans hE2)
    clear CC hE2
    have CM2 := CM.out w2 HE2.out
    go_wp2_with fail
    refine CM2.mono ?_
    rintro e w3 ⟨rfl, hQ3⟩
    have HE3 := hide (HE2.out.trans hQ3.ext)
    clear CM2 hQ3
    go_wp2
    go_ret
    exact ⟨rfl, HE3.out⟩
  | true =>
  rw [hm] at CM
  obtain ⟨q, hq⟩ : ∃ q, q = z % 64 := ⟨_, rfl⟩
  have hmod : (z : Int).tmod 64 = (q : Int) := by rw [hq, Int.tmod_eq_emod_of_nonneg (by omega)]; rfl
  have hq64 : q < 64 := by omega
  have he : (writeE (1 + (q : Int)) l).2 = 0 := by unfold writeE; rw [if_neg (by rw [hm]; simp; omega)]
  obtain ⟨-, -, hlen, hbk⟩ := back_facts he []
  rw [List.append_nil] at hbk
  have HBk := hide hbk
  have HE := hide he
  have H := hide h
  have HL := hide hl
  have HRi := hide (may_facts hm).2.2
  have HLnC := hide hLnC
  have HFiC := hide hFiC
  have HRaC := hide hRaC
  have HAtC := hide hAtC
  rw [hl] at hlen
  clear h hl he hbk hm hq hbs hLnC hFiC hRaC hAtC
  generalize hbb : (writeE (1 + (q : Int)) l).1 = b at *
  go_enter Try.func6, Try.ntmps6
  go_wp2_with fail
  refine C0.mono ?_
  rintro e w1 ⟨rfl, hE1⟩
  have HE1 := hide hE1
  have CC := CG.out w1 hE1
  clear C0 hE1
  go_wp2_with fail
  refine CC.mono ?_
  rintro e w2 ⟨rfl, hE2⟩
  have HE2 := hide (HE1.out.trans hE2)
  clear CC hE2
  have CM2 := CM.out w2 HE2.out
  go_wp2_with fail
  refine CM2.mono ?_
  rintro e w3 ⟨rfl, hQ3⟩
  have HE3 := hide (HE2.out.trans hQ3.ext)
  clear CM2 hQ3
  have C1 := HB.out (1 + (q : Int)) l A n c w3 HE3.out (by unfold IsI64; omega) hn hc (by omega) (fun s hs => by have := HG.out s hs; omega) (H.out.later HE3.out)
  rw [HE.out, hbb] at C1
  clear hbb
  go_wp2_with fail
  refine C1.mono ?_
  rintro e w4 ⟨v4, rfl, hO4, hE4⟩
  have HE4 := hide (HE3.out.trans hE4)
  obtain ⟨Ab, cb, rfl, hbc, hbm, hb⟩ := hO4.form
  have C2 := HR.out (1 + (q : Int)) b Ab cb w4 HE4.out (by unfold IsI64; omega) hbc hbm (by omega) hb
  rw [HBk.out] at C2
  clear C1 hO4 hb hE4
  go_wp2_with fail
  refine C2.mono ?_
  rintro e w5 ⟨hE5, hok, _⟩
  obtain ⟨g, rfl, hP5⟩ := hok rfl
  have HE5 := hide (HE4.out.trans hE5)
  dsimp only at *
  have HP5 := hide hP5
  clear C2 hok hP5 hE5 CM CG
  have C3 := HLnC.out l g w5 HE5.out HP5.out
  rw [HL.out] at C3
  have hnb : ((n : Int) != (n : Int)) = false := by simp
  go_wp2_with fail
  refine C3.mono ?_
  rintro e w6 ⟨rfl, hE6⟩
  have HE6 := hide (HE5.out.trans hE6)
  have HP6 := hide (hK HP5.out hE6)
  have C4 := HFiC.out l s g w6 HE6.out (by omega) HP6.out
  have C5 := hide (fun W (hE : Ext w W) => refFind16_any A n c l s W (H.out.later hE) (by omega))
  have C6 := hide (fun W (hE : Ext w W) (hP : LP W g l) => HRaC.out l s g W hE (by omega) hP)
  have C7 := hide (fun W (hE : Ext w W) => refRange_any A n c l s W (H.out.later hE) (by omega))
  have C8 := hide (fun W (hE : Ext w W) (hP : LP W g l) => HAtC.out l i g W hE hi64 hP)
  have HIn := hide (show inE l i = (decide (0 ≤ i) && decide (i < (n : Int))) by unfold inE; rw [HL.out, Bool.decide_and])
  have HAe := hide (show atE l i = if inE l i = true then l.getD i.toNat [] else [] from rfl)
  generalize findE l s = fe at *
  generalize rangeE l s = re at *
  obtain ⟨f1, f2⟩ := fe
  obtain ⟨r1, r2⟩ := re
  dsimp only at *
  clear C3 hE6 hnb
  go_wp2_with fail
  refine C4.mono ?_
  rintro e w7 ⟨rfl, hE7⟩
  have HE7 := hide (HE6.out.trans hE7)
  have HP7 := hide (hK HP6.out hE7)
  have D5 := C5.out w7 HE7.out
  clear C4 hE7
  go_wp2_with fail
  refine D5.mono ?_
  rintro e w8 ⟨rfl, rfl⟩
  have D6 := C6.out w7 HE7.out HP7.out
  clear D5
  go_wp2_with fail
  refine D6.mono ?_
  rintro e w8 ⟨rfl, hE8⟩
  have HE8 := hide (HE7.out.trans hE8)
  have HP8 := hide (hK HP7.out hE8)
  have D7 := C7.out w8 HE8.out
  clear D6 hE8
  go_wp2_with fail
  refine D7.mono ?_
  rintro e w9 ⟨rfl, rfl⟩
  have D8 := C8.out w8 HE8.out HP8.out
  clear D7
  have x1 : ((f1 : Int) == (f1 : Int)) = true := by simp
  have x2 : (f2 == f2) = true := by simp
  have x3 : ((r1 : Int) == (r1 : Int)) = true := by simp
  have x4 : ((r2 : Int) == (r2 : Int)) = true := by simp
  by_cases i0 : 0 ≤ i
  · by_cases i1 : i < (n : Int)
    · have HX := hide i1
      rw [HAe.out, HIn.out, decide_eq_true i0, decide_eq_true i1, if_pos (by rfl)] at D8
      obtain ⟨k, rfl⟩ := Int.eq_ofNat_of_zero_le i0
      rw [Int.toNat_natCast] at D8
      obtain ⟨y, hy⟩ : ∃ y, y = l.getD k [] := ⟨_, rfl⟩
      rw [← hy] at D8
      have HY := hide hy
      clear hy
      go_wp2_with fail
      refine D8.mono ?_
      rintro e wa ⟨rfl, hEa⟩
      have HEa := hide (HE8.out.trans hEa)
      rcases (H.out.later HEa.out).2 with h9 | ⟨b1, o1, rfl, _, hc1⟩
      · omega
      have e1 := hc1 k (by omega)
      rw [← HY.out] at e1
      have x5 : (y == y) = true := by simp
      clear hc1
      clear D8 hEa
      go_wp2
      go_ret
      exact ⟨rfl, HEa.out⟩
    · rw [HAe.out, HIn.out, decide_eq_true i0, decide_eq_false i1, if_neg (by simp)] at D8
      go_wp2_with fail
      refine D8.mono ?_
      rintro e wa ⟨rfl, hEa⟩
      have HEa := hide (HE8.out.trans hEa)
      clear D8 hEa
      go_wp2
      go_ret
      exact ⟨rfl, HEa.out⟩
  · rw [HAe.out, HIn.out, decide_eq_false i0, if_neg (by simp)] at D8
    rw [Bool.false_and] at D8
    go_wp2_with fail
    refine D8.mono ?_
    rintro e wa ⟨rfl, hEa⟩
    have HEa := hide (HE8.out.trans hEa)
    clear D8 hEa
    go_wp2
    go_ret
    exact ⟨rfl, HEa.out⟩
end Go.Proofs.Ytmaddohfkfnnhaa

namespace Go.Proofs.Ytmaddohfkfnnhaa
open Go.RowKit Wrd Dic Num

attribute [local go_sem ↓] run_txtAt run_txtLen run_txtCut run_txtTop
set_option maxHeartbeats 4000000 in
set_option maxRecDepth 100000 in
theorem dictRange_walk0 {LP : DctP} (z : Nat) (A : Option Addr) (n c : Nat) (l : List (List UInt8)) (s : List UInt8) (y : Nat) (w : World) (hB : DWriteC w) (hR : DReadC LP w) (hRaC : DRangeC LP w) (hz8 : z < 256) (hy16 : y < 65536) (hn : n ≤ c) (hc : c ≤ maxLen) (h : TextsAt w w.heap.size A n l) :
    Calls Try.prog 7 #[.int .u8 (z : Int), .slice A n c, .string ⟨s.toArray⟩, .int .u16 (y : Int)] w fun e w' => e = .returned (.bool true) ∧ Ext w w' := by
  have C0 := alive16_any hB (Ext.refl w)
  have CG := hide (fun W (hE : Ext w W) => great16_any A n c l W (h.later hE))
  have hl := h.1
  have HB := hide hB
  have HR := hide hR
  clear hB hR
  cases hg : greatE l with
  | true =>
    rw [hg] at CG
    clear hg hl
    go_enter Try.func7, Try.ntmps7
    go_wp2_with fail
    refine C0.mono ?_
    rintro e w1 ⟨rfl, hE1⟩
    have HE1 := hide hE1
    have CC := CG.out w1 hE1
    clear C0 hE1
    go_wp2_with fail
    refine CC.mono ?_
    rintro e w2 ⟨rfl, hE2⟩
    have HE2 := hide (HE1.out.trans hE2)
    clear CC hE2
    go_wp2
    go_ret
    exact ⟨rfl, HE2.out⟩
  | false =>
  rw [hg] at CG
  obtain ⟨g1, g2⟩ := great_no hg
  rw [hl] at g1
  have CM := hide (fun W (hE : Ext w W) => refMay16_any A n c l W (h.later hE) (by omega) (fun s hs => by have := g2 s hs; omega))
  have HG := hide g2
  clear hg g2
  by_cases hbs : 60 < s.length
  · have hbI : (60 : Int) < (s.length : Int) := by omega
    clear hl hbs
    go_enter Try.func7, Try.ntmps7
    go_wp2_with fail
    refine C0.mono ?_
    rintro e w1 ⟨rfl, hE1⟩
    have HE1 := hide hE1
    have CC := CG.out w1 hE1
    clear C0 hE1
    go_wp2_with fail
    refine CC.mono ?_
    rintro e w2 ⟨rfl, hE2⟩
    have HE2 := hide (HE1.out.trans hE2)
    clear CC hE2
    go_wp2
    go_ret
    exact ⟨rfl, HE2.out⟩
  have hbI : ¬ (60 : Int) < (s.length : Int) := by omega
  cases hm : mayD l with
  | false =>
    rw [hm] at CM
    clear hm hl hbs
    go_enter Try.func7, Try.ntmps7
    go_wp2_with fail
    refine C0.mono ?_
    rintro e w1 ⟨rfl, hE1⟩
    have HE1 := hide hE1
    have CC := CG.out w1 hE1
    clear C0 hE1
    go_wp2_with fail
    refine CC.mono ?_
    rintro e w2 ⟨rfl, hE2⟩
    have HE2 := hide (HE1.out.trans hE2)
    clear CC hE2
    have CM2 := CM.out w2 HE2.out
    go_wp2_with fail
    refine CM2.mono ?_
    rintro e w3 ⟨rfl, hQ3⟩
    have HE3 := hide (HE2.out.trans hQ3.ext)
    clear CM2 hQ3
    go_wp2
    go_ret
    exact ⟨rfl, HE3.out⟩
  | true =>
  rw [hm] at CM
  by_cases hz : n = 0
  · subst hz
    clear hm hl hbs HG
    go_enter Try.func7, Try.ntmps7
    go_wp2_with fail
    refine C0.mono ?_
    rintro e w1 ⟨rfl, hE1⟩
    have HE1 := hide hE1
    have CC := CG.out w1 hE1
    clear C0 hE1
    go_wp2_with fail
    refine CC.mono ?_
    rintro e w2 ⟨rfl, hE2⟩
    have HE2 := hide (HE1.out.trans hE2)
    clear CC hE2
    have CM2 := CM.out w2 HE2.out
    go_wp2_with fail
    refine CM2.mono ?_
    rintro e w3 ⟨rfl, hQ3⟩
    have HE3 := hide (HE2.out.trans hQ3.ext)
    clear CM2 hQ3
    go_wp2
    go_ret
    exact ⟨rfl, HE3.out⟩
  have hzI : ((n : Int) == 0) = false := by rw [beq_eq_false_iff_ne]; omega
  have HZ := hide (show 0 < n by omega)
  clear hz
  obtain ⟨q, hq⟩ : ∃ q, q = z % 64 := ⟨_, rfl⟩
  have hmod : (z : Int).tmod 64 = (q : Int) := by rw [hq, Int.tmod_eq_emod_of_nonneg (by omega)]; rfl
  have hq64 : q < 64 := by omega
  have he : (writeE (1 + (q : Int)) l).2 = 0 := by unfold writeE; rw [if_neg (by rw [hm]; simp; omega)]
  obtain ⟨-, -, hlen, hbk⟩ := back_facts he []
  rw [List.append_nil] at hbk
  have HBk := hide hbk
  have HE := hide he
  have H := hide h
  have HL := hide hl
  have HRi := hide (may_facts hm).2.2
  have HRaC := hide hRaC
  rw [hl] at hlen
  clear h hl he hbk hm hq hbs hRaC
  generalize hbb : (writeE (1 + (q : Int)) l).1 = b at *
  go_enter Try.func7, Try.ntmps7
  go_wp2_with fail
  refine C0.mono ?_
  rintro e w1 ⟨rfl, hE1⟩
  have HE1 := hide hE1
  have CC := CG.out w1 hE1
  clear C0 hE1
  go_wp2_with fail
  refine CC.mono ?_
  rintro e w2 ⟨rfl, hE2⟩
  have HE2 := hide (HE1.out.trans hE2)
  clear CC hE2
  have CM2 := CM.out w2 HE2.out
  go_wp2_with fail
  refine CM2.mono ?_
  rintro e w3 ⟨rfl, hQ3⟩
  have HE3 := hide (HE2.out.trans hQ3.ext)
  clear CM2 hQ3
  have C1 := HB.out (1 + (q : Int)) l A n c w3 HE3.out (by unfold IsI64; omega) hn hc (by omega) (fun s hs => by have := HG.out s hs; omega) (H.out.later HE3.out)
  rw [HE.out, hbb] at C1
  clear hbb
  go_wp2_with fail
  refine C1.mono ?_
  rintro e w4 ⟨v4, rfl, hO4, hE4⟩
  have HE4 := hide (HE3.out.trans hE4)
  obtain ⟨Ab, cb, rfl, hbc, hbm, hb⟩ := hO4.form
  have C2 := HR.out (1 + (q : Int)) b Ab cb w4 HE4.out (by unfold IsI64; omega) hbc hbm (by omega) hb
  rw [HBk.out] at C2
  clear C1 hO4 hb hE4
  go_wp2_with fail
  refine C2.mono ?_
  rintro e w5 ⟨hE5, hok, _⟩
  obtain ⟨g, rfl, hP5⟩ := hok rfl
  have HE5 := hide (HE4.out.trans hE5)
  dsimp only at *
  have HP5 := hide hP5
  clear C2 hok hP5 hE5 CM CG
  obtain ⟨k, hk⟩ : ∃ k, k = y % n := ⟨_, rfl⟩
  have hkm : (y : Int).tmod (n : Int) = (k : Int) := by rw [hk, Int.tmod_eq_emod_of_nonneg (by omega)]; rfl
  have hkn : k < n := by rw [hk]; exact Nat.mod_lt _ HZ.out
  have HKe := hide hk
  have HIff := hide (range_iff HRi.out s (i := k) (by rw [HL.out]; exact hkn))
  have C3 := HRaC.out l s g w5 HE5.out (by omega) HP5.out
  have C4 := hide (fun W => refBegins_any (l.getD k []) s W)
  generalize rangeE l s = re at *
  obtain ⟨r1, r2⟩ := re
  dsimp only at *
  clear hk
  go_wp2_with fail
  refine C3.mono ?_
  rintro e w6 ⟨rfl, hE6⟩
  have HE6 := hide (HE5.out.trans hE6)
  rcases (H.out.later HE6.out).2 with h9 | ⟨b1, o1, rfl, _, hc1⟩
  · omega
  have e1 := hc1 k hkn
  obtain ⟨t, ht⟩ : ∃ t, t = l.getD k [] := ⟨_, rfl⟩
  rw [← ht] at e1 HIff C4
  have D4 := C4.out w6
  clear C3 hE6 hc1 ht
  go_wp2_with fail
  refine D4.mono ?_
  rintro e w7 ⟨rfl, rfl⟩
  clear D4
  have hbe : beginsB t s = (decide ((r1 : Int) ≤ (k : Int)) && decide ((k : Int) < (r2 : Int))) := by
    have hi := HIff.out
    by_cases h1 : r1 ≤ k
    · by_cases h2 : k < r2
      · rw [hi.2 ⟨h1, h2⟩, decide_eq_true (by omega), decide_eq_true (by omega)]; rfl
      · rw [decide_eq_false (p := (k : Int) < (r2 : Int)) (by omega), Bool.and_false]
        cases hb : beginsB t s with
        | false => rfl
        | true => exact absurd (hi.1 hb).2 h2
    · rw [decide_eq_false (p := (r1 : Int) ≤ (k : Int)) (by omega), Bool.false_and]
      cases hb : beginsB t s with
      | false => rfl
      | true => exact absurd (hi.1 hb).1 h1
  by_cases h1 : (r1 : Int) ≤ (k : Int)
  · by_cases h2 : (k : Int) < (r2 : Int)
    · rw [decide_eq_true h1, decide_eq_true h2, Bool.and_self] at hbe
      rw [hbe]
      clear hbe HIff
      go_wp2
      go_ret
      exact ⟨by first | rfl | (simp; omega), HE6.out⟩
    · rw [decide_eq_true h1, decide_eq_false h2, Bool.and_false] at hbe
      rw [hbe]
      clear hbe HIff
      go_wp2
      go_ret
      exact ⟨by first | rfl | (simp; omega), HE6.out⟩
  · rw [decide_eq_false h1, Bool.false_and] at hbe
    rw [hbe]
    clear hbe HIff
    go_wp2
    go_ret
    exact ⟨by first | rfl | (simp; omega), HE6.out⟩
end Go.Proofs.Ytmaddohfkfnnhaa

namespace Go.Proofs.Ytmaddohfkfnnhaa
open Go.RowKit Go.WideMaps Wrd Dic

theorem dictWrites_walk (size : Int) (A : Option Addr) (n c : Nat) (l : List (List UInt8)) (w : World) (hs : (Lit.int .i64 size).wf = true) (hn : n ≤ c) (hc : c ≤ maxLen) (h : TextsAt w w.heap.size A n l) : Calls Try.prog 3 #[.int .i64 size, .slice A n c] w fun e w' => e = .returned (.bool true) ∧ Below w.heap.size w w' :=
  dictWrites_walk0 size A n c l w (dWriteC_any w) (isI64_of hs) hn hc h
theorem dictBack_walk (size : Int) (A1 : Option Addr) (n1 c1 : Nat) (l : List (List UInt8)) (A2 : Option Addr) (n2 c2 : Nat) (m : List UInt8) (w : World) (hs : (Lit.int .i64 size).wf = true) (hn1 : n1 ≤ c1) (hc1 : c1 ≤ maxLen) (h1 : TextsAt w w.heap.size A1 n1 l) (_ : n2 ≤ c2) (_ : c2 ≤ maxLen) (h2 : Bytes w w.heap.size A2 n2 m) : Calls Try.prog 4 #[.int .i64 size, .slice A1 n1 c1, .slice A2 n2 c2] w fun e w' => e = .returned (.bool true) ∧ Below w.heap.size w w' :=
  dictBack_walk0 size A1 A2 n1 c1 n2 c2 l m w (dWriteC_any w) (dReadC_any w) (dAllC_any w) (isI64_of hs) hn1 hc1 h1 h2
theorem dictOne_walk (size : Int) (A : Option Addr) (n c : Nat) (b : List UInt8) (w : World) (hs : (Lit.int .i64 size).wf = true) (hn : n ≤ c) (hc : c ≤ maxLen) (h : Bytes w w.heap.size A n b) : Calls Try.prog 5 #[.int .i64 size, .slice A n c] w fun e w' => e = .returned (.bool true) ∧ Below w.heap.size w w' :=
  dictOne_walk0 size A n c b w (dWriteC_any w) (dReadC_any w) (dAllC_any w) (isI64_of hs) hn hc h
theorem dictFinds_walk (x : Int) (A : Option Addr) (n c : Nat) (l : List (List UInt8)) (t : ByteArray) (i : Int) (w : World) (hx : (Lit.int .u8 x).wf = true) (hn : n ≤ c) (hc : c ≤ maxLen) (h : TextsAt w w.heap.size A n l) (hi : (Lit.int .i64 i).wf = true) : Calls Try.prog 6 #[.int .u8 x, .slice A n c, .string t, .int .i64 i] w fun e w' => e = .returned (.bool true) ∧ Below w.heap.size w w' := by
  obtain ⟨s, rfl⟩ := txt_of t
  obtain ⟨h0, h1⟩ := bounds_u8 hx
  obtain ⟨z, rfl⟩ := Int.eq_ofNat_of_zero_le h0
  exact dictFinds_walk0 (LP := DicLst) dicLst_keep z A n c l s i w (dWriteC_any w) (dReadC_any w) (dLenC_any w) (dFindC_any w) (dRangeC_any w) (dAtC_any w) (by omega) (isI64_of hi) hn hc h
theorem dictRange_walk (x : Int) (A : Option Addr) (n c : Nat) (l : List (List UInt8)) (t : ByteArray) (y : Int) (w : World) (hx : (Lit.int .u8 x).wf = true) (hn : n ≤ c) (hc : c ≤ maxLen) (h : TextsAt w w.heap.size A n l) (hy : (Lit.int .u16 y).wf = true) : Calls Try.prog 7 #[.int .u8 x, .slice A n c, .string t, .int .u16 y] w fun e w' => e = .returned (.bool true) ∧ Below w.heap.size w w' := by
  obtain ⟨s, rfl⟩ := txt_of t
  obtain ⟨h0, h1⟩ := bounds_u8 hx
  obtain ⟨z, rfl⟩ := Int.eq_ofNat_of_zero_le h0
  obtain ⟨k0, k1⟩ := bounds_u16 hy
  obtain ⟨v, rfl⟩ := Int.eq_ofNat_of_zero_le k0
  exact dictRange_walk0 (LP := DicLst) z A n c l s v w (dWriteC_any w) (dReadC_any w) (dRangeC_any w) (by omega) (by omega) hn hc h
theorem dictNone_walk (i : Int) (t : ByteArray) (w : World) (hi : (Lit.int .i64 i).wf = true) (ht : t.size ≤ maxLen) : Calls Try.prog 8 #[.int .i64 i, .string t] w fun e w' => e = .returned (.bool true) ∧ Below w.heap.size w w' := by
  obtain ⟨s, rfl⟩ := txt_of t
  exact dictNone_walk0 i s w (dWriteC_any w) (dNilC_any w) (isI64_of hi) (by rw [txt_size] at ht; exact ht)
end Go.Proofs.Ytmaddohfkfnnhaa

namespace Go.Proofs.Ytmaddohfkfnnhaa
open Go.ChangeShapes Go.WideShapes Go.ChangeAt Go.WideMaps Go.WideElems Go.RowKit

theorem own : ownKnob Try.prog.godebug = none := by kernel_rfl
theorem laidOut : laidOutB Try.prog = true := by kernel_rfl

theorem open_bytes_cs {H : Type} {enc : TypeId × Value → H} {W : World} {fuel : Nat} {cs : List Value} {x : DataW H × List MemPlace} (hf : DataW.trod enc Try.prog W 0 (fun _ => true) true fuel 25 cs = some x) :
    ∃ a n c, ∃ l : List UInt8, cs = [.slice a n c] ∧ n ≤ c ∧ c ≤ maxLen ∧ Bytes W W.heap.size a n l := by
  rcases open_ints Try.underlying25 Try.underlying5 (by kernel_rfl) hf with ⟨hcs, _⟩ | ⟨x, n, c, zs, hcs, _, hl, hm, hz, _, hcell, hwz⟩
  · exact ⟨none, 0, 0, [], hcs, by omega, by unfold maxLen; omega, Bytes.none _ _ _⟩
  · have hz' : zs.length = c := by simpa using hz
    refine ⟨some x, n, c, (zs.take n).map fun z => UInt8.ofNat z.toNat, hcs, hl, hm, by simp; omega, ?_⟩
    rcases Nat.eq_zero_or_pos n with h0 | h0
    · exact .inl h0
    obtain ⟨b, off, spot⟩ := x
    have hc0 := hcell 0 (by omega)
    have hspot : spot = none := by simpa [Addr.add] using World.cell?_spot hc0
    subst hspot
    refine .inr ⟨b, off, rfl, by simpa [Addr.add] using World.block_lt_of_cell? W _ hc0, fun i hi => ?_⟩
    have h1 := hcell i (by omega)
    have hr : 0 ≤ zs.getD i 0 ∧ zs.getD i 0 ≤ 255 := by
      have := range_u8 hwz i
      rwa [List.getD_eq_getElem?_getD]
    have e : ((((zs.take n).map fun z => UInt8.ofNat z.toNat).getD i 0).toNat : Int) = zs.getD i 0 := by
      have hi' : i < zs.length := by omega
      simp only [List.getD_eq_getElem?_getD, List.getElem?_map, List.getElem?_take, if_pos hi, List.getElem?_eq_getElem hi', Option.map_some, Option.getD_some] at hr ⊢
      rw [UInt8.toNat_ofNat']
      omega
    rw [e]
    have hadd : (⟨b, off, none⟩ : Addr).add i = ⟨b, off + i, none⟩ := by unfold Addr.add; split <;> simp_all
    rwa [hadd] at h1
/-- A slice of bytes that came in: what it reads as. -/
theorem open_bytes {H : Type} {enc : TypeId × Value → H} {W : World} {a : Option Addr} {n c : Nat} {d : DataW H} {p : List MemPlace} (h : DataW.Trod enc Try.prog W 0 (fun _ => true) true 25 (.slice a n c) d p) :
    ∃ l : List UInt8, n ≤ c ∧ c ≤ maxLen ∧ Bytes W W.heap.size a n l := by
  obtain ⟨fuel, hf⟩ := h
  obtain ⟨a', n', c', l, hcs, h1, h2, h3⟩ := open_bytes_cs hf
  simp [Value.cells] at hcs
  obtain ⟨rfl, rfl, rfl⟩ := hcs
  exact ⟨l, h1, h2, h3⟩
end Go.Proofs.Ytmaddohfkfnnhaa

