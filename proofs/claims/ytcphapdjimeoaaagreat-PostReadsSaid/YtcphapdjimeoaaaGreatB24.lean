/- The document's functions of chapter 18: Build. Laws of chapter 18: PostBuilds. Laws of chapter 18: PostHas. Laws of chapter 18: PostBack. The program's partsOf. The program's reader of rows: takeLow, fill. The program's reader of rows: takeHigh. The program's bytesMost and readAll. The program's readParts. The bits of a row as the program writes them. The program's Write of chapter 13. -/
import Derived.Test.YtcphapdjimeoaaaGreatB01
import Derived.Test.YtcphapdjimeoaaaGreatB02
import Derived.Test.YtcphapdjimeoaaaGreatB03
import Derived.Test.YtcphapdjimeoaaaGreatB05
import Derived.Test.YtcphapdjimeoaaaGreatB06
import Derived.Test.YtcphapdjimeoaaaGreatB07
import Derived.Test.YtcphapdjimeoaaaGreatB12
import Derived.Test.YtcphapdjimeoaaaGreatB15
import Derived.Test.YtcphapdjimeoaaaGreatB21
import Derived.Test.YtcphapdjimeoaaaGreatB22
import Derived.Test.YtcphapdjimeoaaaGreatB23
namespace Go.Proofs.YtcphapdjimeoaaaGreat
open Go.RowKit Pst Wrd

theorem wp_storeC {o : Oper} {a : Act} {w : World} {Q : Exit → Act → World → Prop} {K : Act → World → Prop} (ty : TypeId) (x y : Operand) (ho : o.op = .store ty x y)
    {g i : Nat} {t : TypeId} {cs : Array Value} (cs' : Array Value) {u : Value} (hx : a.eval x = .pointer (some ⟨g, i, none⟩)) (hy : a.eval y = u) (hw : Whole w g t cs) (hi : i < cs.size)
    (hs : (Tryz.prog.info? ty).map (·.size) = some 1) (h1 : u.oneCell' = true) (hcells : u.cells = #[u]) (hcs : cs.setIfInBounds i u = cs')
    (h : ∀ w', Whole w' g t cs' → w.grownBy w' (some g) → K (a.put o.dst undef) w') : o.wp Tryz.prog a w K Q := by
  subst hcs
  have hst := run_storeCells_at Tryz.prog g i t [u] 0 cs w hw (by simp; omega) (fun x hx => by simp at hx; subst hx; exact h1)
  unfold Oper.wp execOp
  cases hq : Tryz.prog.info? ty with
  | none => simp [hq] at hs
  | some d =>
    have hs' : d.size = 1 := by simpa [hq] using hs
    have hr : (storeVar ty ⟨g, i, none⟩ u).run Tryz.prog w = .ok () (w.setRow g (cs.toList.take (i + 0) ++ [u] ++ cs.toList.drop (i + 0 + [u].length)).toArray) := by
      simp only [storeVar, sizeOf, typeInfo, hcells]
      simpa [hq, hs'] using hst
    simp only [ho, hx, hy, Instr.storeAt, Instr.sureAddr, Sem.run_bind, Sem.run_pure, Result.andThen_ok, hr]
    refine h _ ?_ ⟨rfl, rfl, rfl, by simp, fun k _ hk => setRow_other w g k _ (fun e => hk (by simp [e]))⟩
    have e : (cs.toList.take (i + 0) ++ [u] ++ cs.toList.drop (i + 0 + [u].length)).toArray = cs.setIfInBounds i u := by
      apply Array.ext'
      rw [Array.toList_setIfInBounds, List.set_eq_take_append_cons_drop, if_pos (by simpa using hi)]
      simp
    rw [e]
    exact setRow_heap w g cs _ _ _ hw
/-- Texts stay where an index is written into. -/
theorem TextsAt.keptX {w w' : World} {A : Option Addr} {n g : Nat} {L : List (List UInt8)} {a1 a2 : Option Addr} {n1 c1 n2 c2 : Nat} (h : TextsAt w w.heap.size A n L) (hW : Whole w g 27 #[.slice a1 n1 c1, .slice a2 n2 c2]) (hG : w.grownBy w' (some g)) : TextsAt w' w'.heap.size A n L := by
  refine ⟨h.1, h.2.imp_right fun ⟨b, off, e, hb, hc⟩ => ⟨b, off, e, Nat.lt_of_lt_of_le hb hG.size, fun i hi => ?_⟩⟩
  have h1 := hc i hi
  have hbg : b ≠ g := fun e => by
    subst e
    rw [hW.cell] at h1
    match off + i, h1 with
    | 0, h1 => simp at h1
    | 1, h1 => simp at h1
    | k + 2, h1 => simp at h1
  have h2 : w'.heap[b]? = w.heap[b]? := hG.block b hb (by simpa using hbg)
  rw [← h1]
  unfold World.cell?
  simp only [h2]
theorem TextsAt.keptXB {w w' : World} {A : Option Addr} {n g B : Nat} {L : List (List UInt8)} {a1 a2 : Option Addr} {n1 c1 n2 c2 : Nat} (h : TextsAt w B A n L) (hB : B ≤ w.heap.size) (hW : Whole w g 27 #[.slice a1 n1 c1, .slice a2 n2 c2]) (hG : w.grownBy w' (some g)) : TextsAt w' B A n L := by
  refine ⟨h.1, h.2.imp_right fun ⟨b, off, e, hb, hc⟩ => ⟨b, off, e, hb, fun i hi => ?_⟩⟩
  have h1 := hc i hi
  have hbg : b ≠ g := fun e => by
    subst e
    rw [hW.cell] at h1
    match off + i, h1 with
    | 0, h1 => simp at h1
    | 1, h1 => simp at h1
    | k + 2, h1 => simp at h1
  have h2 : w'.heap[b]? = w.heap[b]? := hG.block b (by omega) (by simpa using hbg)
  rw [← h1]
  unfold World.cell?
  simp only [h2]
theorem TextsAt.up {w : World} {A : Option Addr} {n B B' : Nat} {L : List (List UInt8)} (h : TextsAt w B A n L) (hB : B ≤ B') : TextsAt w B' A n L := ⟨h.1, h.2.imp_right fun ⟨b, off, e, hb, hc⟩ => ⟨b, off, e, Nat.lt_of_lt_of_le hb hB, hc⟩⟩
theorem ix_info : (Tryz.prog.info? 27).map (·.size) = some 2 := by kernel_rfl
theorem results_ix {fn : Func} {p : Tmp} (h : fn.results = #[.cell p 27]) (tmps : Array Value) {w : World} {g : Nat} {cs : Array Value} (hp : tmps.getD p undef = .pointer (some ⟨g, 0, none⟩))
    (hW : Whole w g 27 cs) (hs : cs.size = 2) : (results fn tmps).run Tryz.prog w = .ok (.agg cs) w := by
  have hp' : tmps[p]?.getD undef = .pointer (some ⟨g, 0, none⟩) := by simpa using hp
  have hl := run_loadVar_row (P := Tryz.prog) w g 27 27 cs (0, 0) _ hW Tryz.underlying27 rfl (by rw [hs]; exact ix_info)
  simp [results, h, hp', asAddr, hl]
theorem ix_one (a b : Option Addr) (n c m d : Nat) : (#[.slice a n c, .slice b m d] : Array Value).all (·.oneCell') = true := by
  first | (simp; done) | (simp; exact ⟨rfl, rfl⟩) | (simp [Value.oneCell'])
theorem Pst.gather_take {l : List Rc} {i : Nat} (h : i < l.length) : gather (l.take (i + 1)) = (termsOf (l.getD i default)).foldl putT (gather (l.take i)) := by
  have e : l.take (i + 1) = l.take i ++ [l.getD i default] := by
    rw [List.take_add_one, List.getElem?_eq_getElem h, List.getD_eq_getElem?_getD, List.getElem?_eq_getElem h]
    rfl
  unfold gather gatherF
  rw [e, List.foldl_append]
  rfl

end Go.Proofs.YtcphapdjimeoaaaGreat

namespace Go.Proofs.YtcphapdjimeoaaaGreat
open Go.RowKit Pst

end Go.Proofs.YtcphapdjimeoaaaGreat

namespace Go.Proofs.YtcphapdjimeoaaaGreat
open Go.RowKit Pst Wrd

def PTermsC (w : World) : Prop := ∀ (t lv : Int) (src text : List UInt8) (W : World), Ext w W → src.length ≤ 4000 → text.length ≤ 4000 → Calls Tryz.prog 28 #[recV t lv src text] W (MadeTx W (termsE text src))
theorem Pst.ids_len (l : List Rc) (s : List UInt8) : (idsE l s).length ≤ l.length := by
  have h1 : ∀ (l : List Rc) (k : Nat), (idsF s k l).length ≤ l.length := fun l => by
    induction l with
    | nil => intro k; simp [idsF]
    | cons a t ih =>
      intro k
      have := ih (k + 1)
      rw [idsF]
      split <;> simp <;> omega
  exact h1 l 0
end Go.Proofs.YtcphapdjimeoaaaGreat

namespace Go.Proofs.YtcphapdjimeoaaaGreat
open Go.RowKit Pst

/-- An index and an error are told. -/
def RdIxTo (W : World) (r : Ix × Int) (e : Ending) (w' : World) : Prop := ∃ m : IxV, e = .returned (.tuple #[.agg #[.slice m.a1 m.n1 m.c1, .slice m.a2 m.n2 m.c2], .int .i64 r.2]) ∧ m.x = r.1 ∧ m.lies w' ∧ Ext W w'
/-- From world w on, the program's Read tells what the document's tells. -/
def PReadC (w : World) : Prop := ∀ (size bound : Int) (b : List UInt8) (A : Option Addr) (c : Nat) (W : World), Ext w W → IsI64 size → IsI64 bound → b.length ≤ c → c ≤ maxLen → b.length ≤ 30000 → Bytes W W.heap.size A b.length b → Calls Tryz.prog 6 #[.int .i64 size, .int .i64 bound, .slice A b.length c] W (RdIxTo W (readE size bound b))

theorem Pst.row_hundred {bound : Int} {l : List Int} (hb : 0 ≤ bound ∧ bound ≤ 20000) (h : listOk bound l = true) (hn : l.length ≤ 100) : (Ef.rowB bound l).length ≤ 220 := by
  have hw := (row_small hb h (by omega)).1
  have hne : 0 < l.length := by
    unfold listOk at h
    rw [Bool.and_eq_true] at h
    exact List.length_pos_iff.2 (of_decide_eq_true h.1)
  have h1 := Ef.short (bound := bound) (ids := l) (by rw [hw]) hne (by omega)
  rw [hw] at h1
  have h2 := Ef.widE_le (bound := bound) (n := l.length) hb.2
  have h3 : l.length * (Ef.widE bound l.length + 3) ≤ 100 * 17 := Nat.mul_le_mul hn (by omega)
  dsimp only at h1
  omega
theorem Pst.rows_most {bound : Int} {k : Nat} {U : List (List Int)} (h : ∀ l, l ∈ U → (Ef.rowB bound l).length ≤ k) : (U.flatMap (Ef.rowB bound)).length ≤ k * U.length := by
  induction U with
  | nil => simp
  | cons a t ih =>
    have h1 := h a (by simp)
    have h2 := ih fun l hl => h l (by simp [hl])
    rw [List.flatMap_cons, List.length_append, List.length_cons, Nat.mul_add, Nat.mul_one]
    omega
theorem Pst.rows_least {bound : Int} {U : List (List Int)} : U.length ≤ (U.flatMap (Ef.rowB bound)).length := by
  induction U with
  | nil => simp
  | cons a t ih =>
    have h1 : 0 < (Ef.rowB bound a).length := by
      have := Num.enc_pos a.length
      unfold Ef.rowB
      simp only [List.length_append]
      omega
    rw [List.flatMap_cons, List.length_append, List.length_cons]
    omega
theorem Pst.bytes_most {size bound : Int} {x : Ix} (h1 : x.terms.length ≤ 100) (h4 : ∀ l, l ∈ x.lists → l.length ≤ 100) : (bytesE size bound x).1.length ≤ 30000 := by
  unfold bytesE
  split
  · simp
  · rename_i hc
    have hm : mayE bound x = true := by cases hm : mayE bound x with
      | true => rfl
      | false => exact absurd (.inr (.inr hm)) hc
    obtain ⟨hb, hl, hd, ho⟩ := may_facts hm
    obtain ⟨-, d2, -⟩ := Dic.may_facts hd
    have k1 := Dic.dict_small (size := size.toNat) (by omega) (by omega) (l := x.terms) (fun s hs => (d2 s hs).2)
    have k2 := rows_most (bound := bound) (k := 220) (U := x.lists) (fun l hl => row_hundred hb (ho l hl) (h4 l hl))
    rw [List.length_append]
    omega
/-- Of an index that was read of so many bytes. -/
theorem Pst.read_few {size bound : Int} {b : List UInt8} {x : Ix} (h : bytesE size bound x = (b, 0)) (hm : mayE bound x = true) (hl : b.length ≤ 800) : x.terms.length ≤ 800 ∧ x.lists.length ≤ 800 ∧ (∀ s, s ∈ x.terms → s.length ≤ 25) ∧ ∀ l, l ∈ x.lists → l.length ≤ 20000 := by
  obtain ⟨hb, hlen, hd, ho⟩ := may_facts hm
  obtain ⟨-, d2, -⟩ := Dic.may_facts hd
  have hx : x.lists.length ≤ 800 := by
    unfold bytesE at h
    split at h
    · exact absurd (Prod.mk.inj h).2 (by decide)
    · have h1 := (Prod.mk.inj h).1
      have h2 := rows_least (bound := bound) (U := x.lists)
      rw [← h1, List.length_append] at hl
      omega
  refine ⟨by omega, hx, fun s hs => (d2 s hs).2, fun l hl => ?_⟩
  have h1 := ho l hl
  unfold listOk at h1
  rw [Bool.and_eq_true] at h1
  have := Ef.row_len h1.2
  omega

set_option maxHeartbeats 4000000 in
set_option maxRecDepth 100000 in
theorem postBack_walk0 (size bound : Int) (m : IxV) (A : Option Addr) (n c : Nat) (b : List UInt8) (w : World) (hB : PBuildC w) (hY : PBytesC w) (hR : PReadC w) (hs : IsI64 size) (hb : IsI64 bound) (h : m.lies w) (hn : n ≤ c) (hc : c ≤ maxLen) (hx : Bytes w w.heap.size A n b) :
    Calls Tryz.prog 4 #[.int .i64 size, .int .i64 bound, .agg #[.slice m.a1 m.n1 m.c1, .slice m.a2 m.n2 m.c2], .slice A n c] w fun e w' => e = .returned (.bool true) ∧ Ext w w' := by
  obtain ⟨w1, hw1⟩ : ∃ w1, w1 = w.alloc (.cells #[.slice m.a1 m.n1 m.c1, .slice m.a2 m.n2 m.c2] 27) := ⟨_, rfl⟩
  have HE1 := hide (show Ext w w1 by rw [hw1]; exact extNew w _)
  have HW := hide (show Whole w1 w.heap.size 27 #[.slice m.a1 m.n1 m.c1, .slice m.a2 m.n2 m.c2] by rw [hw1]; exact Whole.new w _ _)
  have C0 := alive18_any hB HE1.out
  have CG := hide (fun W (hE : Ext w W) => refGreat18_any m W (h.later hE))
  have hbl := hx.1
  subst hbl
  cases hg : greatX m.x with
  | true =>
    rw [hg] at CG
    clear hg
    go_enter Tryz.func4, Tryz.ntmps4
    go_wp2_with fail
    rw [← hw1]
    clear hw1
    refine C0.mono ?_
    rintro e w2 ⟨rfl, hE2⟩
    have HE2 := hide (HE1.out.trans hE2)
    have C1 := CG.out w2 HE2.out
    have d0 := (HW.out.ext hE2).at 0 (u := .slice m.a1 m.n1 m.c1) rfl
    have d1 := (HW.out.ext hE2).at 1 (u := .slice m.a2 m.n2 m.c2) rfl
    clear C0 hE2
    go_wp2_with fail
    refine C1.mono ?_
    rintro e w3 ⟨rfl, hE3⟩
    go_wp2
    go_ret
    exact ⟨rfl, HE2.out.trans hE3⟩
  | false =>
    rw [hg] at CG
    by_cases hlen : 800 < b.length
    · have hlI : (800 : Int) < (b.length : Int) := by omega
      clear hg
      generalize b.length = bl at *
      go_enter Tryz.func4, Tryz.ntmps4
      go_wp2_with fail
      rw [← hw1]
      clear hw1
      refine C0.mono ?_
      rintro e w2 ⟨rfl, hE2⟩
      have HE2 := hide (HE1.out.trans hE2)
      have C1 := CG.out w2 HE2.out
      have d0 := (HW.out.ext hE2).at 0 (u := .slice m.a1 m.n1 m.c1) rfl
      have d1 := (HW.out.ext hE2).at 1 (u := .slice m.a2 m.n2 m.c2) rfl
      clear C0 hE2 hlen
      go_wp2_with fail
      refine C1.mono ?_
      rintro e w3 ⟨rfl, hE3⟩
      go_wp2
      go_ret
      exact ⟨rfl, HE2.out.trans hE3⟩
    have hlI : ¬ (800 : Int) < (b.length : Int) := by omega
    obtain ⟨t1, t2, t3, t4⟩ := great_no hg
    have hl1 := h.1.2.2.1
    have hl2 := h.2.2.2.1
    have hmost := bytes_most (size := size) (bound := bound) t1 t4
    have CY := hide (fun W (hE : Ext w W) => hY size bound m W hE hs hb (by omega) (by omega) t3 (fun l hl => by have := t4 l hl; omega) (h.later hE))
    have HRB := hide (fun (he : (bytesE size bound m.x).2 = 0) => read_back he)
    have CR1 := hide (fun W (hE : Ext w W) (A' : Option Addr) (c' : Nat) (h1 : (bytesE size bound m.x).1.length ≤ c') (h2 : c' ≤ maxLen) (h3 : Bytes W W.heap.size A' (bytesE size bound m.x).1.length (bytesE size bound m.x).1) => hR size bound _ A' c' W hE hs hb h1 h2 hmost h3)
    have CS1 := hide (fun W (hE : Ext w W) (m' : IxV) (h' : m'.lies W) => refSame18_any m m' W (h.later hE) h' (by omega) (by omega) (fun l hl => by have := t4 l hl; omega))
    have CR2 := hide (fun W (hE : Ext w W) => hR size bound b A c W hE hs hb hn hc (by omega) ((Ext.bytes hE) hx))
    have HR1 := hide (fun (x : Ix) (he : readE size bound b = (x, 0)) => read_one he)
    have CY2 := hide (fun (W : World) (hE : Ext w W) (m' : IxV) (he : readE size bound b = (m'.x, 0)) (h' : m'.lies W) => show Calls Tryz.prog 10 #[.int .i64 size, .int .i64 bound, .agg #[.slice m'.a1 m'.n1 m'.c1, .slice m'.a2 m'.n2 m'.c2]] W (MadeE W b 0) from by
      obtain ⟨k1, k2⟩ := read_one he
      obtain ⟨f1, f2, f3, f4⟩ := read_few k2 k1 (by omega)
      have q1 := h'.1.2.2.1
      have q2 := h'.2.2.2.1
      have C := hY size bound m' W hE hs hb (by omega) (by omega) (fun s hs => by have := f3 s hs; omega) f4 h'
      rw [k2] at C
      exact C)
    have CM2 := hide (fun (W : World) (m' : IxV) (he : readE size bound b = (m'.x, 0)) (h' : m'.lies W) => show Calls Tryz.prog 12 #[.int .i64 bound, .agg #[.slice m'.a1 m'.n1 m'.c1, .slice m'.a2 m'.n2 m'.c2]] W (fun e w' => e = .returned (.bool true) ∧ Ext W w') from by
      obtain ⟨k1, k2⟩ := read_one he
      obtain ⟨f1, f2, f3, f4⟩ := read_few k2 k1 (by omega)
      have q1 := h'.1.2.2.1
      have C := refMay18_any bound m' W h' (by omega) (fun s hs => by have := f3 s hs; omega) (fun l hl => by have := f4 l hl; omega)
      rw [k1] at C
      exact C)
    have HX := hide hx
    generalize hE0 : bytesE size bound m.x = res at *
    obtain ⟨c1, er⟩ := res
    dsimp only at CY HRB CR1
    unfold MadeE at CY CY2
    unfold RdIxTo at CR1 CR2
    generalize hrd : readE size bound b = rd at *
    obtain ⟨x2, e2⟩ := rd
    dsimp only at CR2
    have HN := hide hn
    clear hE0 hrd hg hB hY hR h t1 t2 t3 t4 hl1 hl2 hs hb hmost hx hlen
    go_enter Tryz.func4, Tryz.ntmps4
    go_wp2_with fail
    rw [← hw1]
    clear hw1
    refine C0.mono ?_
    rintro e w2 ⟨rfl, hE2⟩
    have HE2 := hide (HE1.out.trans hE2)
    have HF2 := hide hE2
    have C1 := CG.out w2 HE2.out
    have d0 := (HW.out.ext hE2).at 0 (u := .slice m.a1 m.n1 m.c1) rfl
    have d1 := (HW.out.ext hE2).at 1 (u := .slice m.a2 m.n2 m.c2) rfl
    clear C0 hE2
    go_wp2_with fail
    refine C1.mono ?_
    rintro e w3 ⟨rfl, hE3⟩
    have HF3 := hide (HF2.out.trans hE3)
    have HE3 := hide (HE2.out.trans hE3)
    have C2 := CY.out w3 HE3.out
    clear C1 hE3 d0 d1
    have d0 := (HW.out.ext HF3.out).at 0 (u := .slice m.a1 m.n1 m.c1) rfl
    have d1 := (HW.out.ext HF3.out).at 1 (u := .slice m.a2 m.n2 m.c2) rfl
    go_wp2_with fail
    refine C2.mono ?_
    rintro e w4 ⟨v4, rfl, hO4, hE4⟩
    have HF4 := hide (HF3.out.trans hE4)
    have HE4 := hide (HE3.out.trans hE4)
    clear C2 hE4 d0 d1
    by_cases her : er = 0
    · subst her
      obtain ⟨A4, c4, rfl, k1, k2, h4⟩ := hO4.form
      have C3 := CR1.out w4 HE4.out A4 c4 k1 k2 h4
      rw [HRB.out rfl] at C3
      clear hO4 h4 CR1 HRB
      generalize c1.length = cl at *
      go_wp2_with fail
      refine C3.mono ?_
      rintro e w5 ⟨m5, rfl, hx5, hm5, hE5⟩
      have HE5 := hide (HE4.out.trans hE5)
      have hE6 := extNew w5 (.cells #[.slice m5.a1 m5.n1 m5.c1, .slice m5.a2 m5.n2 m5.c2] 27)
      have hW6 := Whole.new w5 27 #[.slice m5.a1 m5.n1 m5.c1, .slice m5.a2 m5.n2 m5.c2]
      have C4 := CS1.out _ (HE5.out.trans hE6) m5 (hm5.later hE6)
      rw [decide_eq_true hx5.symm] at C4
      obtain ⟨w6, hw6⟩ : ∃ w6, w6 = w5.alloc (.cells #[.slice m5.a1 m5.n1 m5.c1, .slice m5.a2 m5.n2 m5.c2] 27) := ⟨_, rfl⟩
      rw [← hw6] at hE6 hW6 C4
      have HF6 := hide (HF4.out.trans (hE5.trans hE6))
      have HE6 := hide (HE5.out.trans hE6)
      have d0 := (HW.out.ext HF6.out).at 0 (u := .slice m.a1 m.n1 m.c1) rfl
      have d1 := (HW.out.ext HF6.out).at 1 (u := .slice m.a2 m.n2 m.c2) rfl
      have d2 := hW6.at 0 (u := .slice m5.a1 m5.n1 m5.c1) rfl
      have d3 := hW6.at 1 (u := .slice m5.a2 m5.n2 m5.c2) rfl
      rw [hw6] at d0 d1 d2 d3 C4
      clear C3 hx5 hm5 hE5 hE6 hW6
      go_wp2_with fail
      rw [hw6] at HE6
      clear hw6 HF6
      refine C4.mono ?_
      rintro e w7 ⟨rfl, hE7⟩
      have HE7 := hide (HE6.out.trans hE7)
      clear C4 d0 d1 d2 d3 hE7
      have C5 := CR2.out w7 HE7.out
      generalize b.length = bl at *
      go_wp2_with fail
      refine C5.mono ?_
      rintro e w8 ⟨m8, rfl, hx8, hm8, hE8⟩
      have hE9 := extNew w8 (.cells #[.slice m8.a1 m8.n1 m8.c1, .slice m8.a2 m8.n2 m8.c2] 27)
      have hW9 := Whole.new w8 27 #[.slice m8.a1 m8.n1 m8.c1, .slice m8.a2 m8.n2 m8.c2]
      have HE9 := hide (HE7.out.trans (hE8.trans hE9))
      clear C5
      by_cases he2 : e2 = 0
      · subst he2
        have hm9 := hm8.later hE9
        have C6 := CY2.out _ HE9.out m8 (by rw [hx8]) hm9
        have CMx := hide (fun W (hE : Ext (w8.alloc (.cells #[.slice m8.a1 m8.n1 m8.c1, .slice m8.a2 m8.n2 m8.c2] 27)) W) => CM2.out W m8 (by rw [hx8]) (hm9.later hE))
        have HW9 := hide hW9
        have d0 := hW9.at 0 (u := .slice m8.a1 m8.n1 m8.c1) rfl
        have d1 := hW9.at 1 (u := .slice m8.a2 m8.n2 m8.c2) rfl
        clear hx8 hm8 hE8 hE9 hW9 hm9 CM2 CY2 CR2
        go_wp2_with fail
        refine C6.mono ?_
        rintro e w10 ⟨v10, rfl, hO10, hE10⟩
        obtain ⟨A10, c10, rfl, _, _, h10⟩ := hO10.form
        have CS := same_any _ _ _ _ c10 c _ _ _ h10 (Ext.bytes (HE9.out.trans hE10) HX.out)
        rw [sameB_true rfl] at CS
        have HE10 := hide (HE9.out.trans hE10)
        have HF10 := hide hE10
        have HHX := hide HX.out.1
        clear C6 hO10 h10 hE10 d0 d1
        generalize hbb : b.length = bl2 at *
        obtain rfl : bl2 = bl := HHX.out
        have HBB := hide hbb
        clear hbb HHX
        go_wp2_with fail
        refine CS.mono ?_
        rintro e w11 ⟨rfl, hE11⟩
        have hF11 := HF10.out.trans hE11
        have C7 := CMx.out w11 hF11
        have HE11 := hide (HE10.out.trans hE11)
        have d0 := (HW9.out.ext hF11).at 0 (u := .slice m8.a1 m8.n1 m8.c1) rfl
        have d1 := (HW9.out.ext hF11).at 1 (u := .slice m8.a2 m8.n2 m8.c2) rfl
        clear CS hE11 hF11 CMx
        go_wp2_with fail
        refine C7.mono ?_
        rintro e w12 ⟨rfl, hE12⟩
        go_wp2
        go_ret
        exact ⟨rfl, HE11.out.trans hE12⟩
      · have he' : (e2 != 0) = true := by simpa using he2
        clear hx8 hm8 hE8 hE9 hW9 he2 CM2 CY2 CR2
        go_wp2
        go_ret
        exact ⟨rfl, HE9.out⟩
    · have her' : (er == 0) = false := by simpa using her
      obtain ⟨A4, c4, rfl, k1, k2, h4⟩ := hO4.form
      generalize c1.length = cl at *
      have HE7 := hide HE4.out
      obtain ⟨w7, rfl⟩ : ∃ W, W = w4 := ⟨_, rfl⟩
      clear hO4 h4 CR1 HRB her
      have C5 := CR2.out w7 HE7.out
      generalize b.length = bl at *
      go_wp2_with fail
      refine C5.mono ?_
      rintro e w8 ⟨m8, rfl, hx8, hm8, hE8⟩
      have hE9 := extNew w8 (.cells #[.slice m8.a1 m8.n1 m8.c1, .slice m8.a2 m8.n2 m8.c2] 27)
      have hW9 := Whole.new w8 27 #[.slice m8.a1 m8.n1 m8.c1, .slice m8.a2 m8.n2 m8.c2]
      have HE9 := hide (HE7.out.trans (hE8.trans hE9))
      clear C5
      by_cases he2 : e2 = 0
      · subst he2
        have hm9 := hm8.later hE9
        have C6 := CY2.out _ HE9.out m8 (by rw [hx8]) hm9
        have CMx := hide (fun W (hE : Ext (w8.alloc (.cells #[.slice m8.a1 m8.n1 m8.c1, .slice m8.a2 m8.n2 m8.c2] 27)) W) => CM2.out W m8 (by rw [hx8]) (hm9.later hE))
        have HW9 := hide hW9
        have d0 := hW9.at 0 (u := .slice m8.a1 m8.n1 m8.c1) rfl
        have d1 := hW9.at 1 (u := .slice m8.a2 m8.n2 m8.c2) rfl
        clear hx8 hm8 hE8 hE9 hW9 hm9 CM2 CY2 CR2
        go_wp2_with fail
        refine C6.mono ?_
        rintro e w10 ⟨v10, rfl, hO10, hE10⟩
        obtain ⟨A10, c10, rfl, _, _, h10⟩ := hO10.form
        have CS := same_any _ _ _ _ c10 c _ _ _ h10 (Ext.bytes (HE9.out.trans hE10) HX.out)
        rw [sameB_true rfl] at CS
        have HE10 := hide (HE9.out.trans hE10)
        have HF10 := hide hE10
        have HHX := hide HX.out.1
        clear C6 hO10 h10 hE10 d0 d1
        generalize hbb : b.length = bl2 at *
        obtain rfl : bl2 = bl := HHX.out
        have HBB := hide hbb
        clear hbb HHX
        go_wp2_with fail
        refine CS.mono ?_
        rintro e w11 ⟨rfl, hE11⟩
        have hF11 := HF10.out.trans hE11
        have C7 := CMx.out w11 hF11
        have HE11 := hide (HE10.out.trans hE11)
        have d0 := (HW9.out.ext hF11).at 0 (u := .slice m8.a1 m8.n1 m8.c1) rfl
        have d1 := (HW9.out.ext hF11).at 1 (u := .slice m8.a2 m8.n2 m8.c2) rfl
        clear CS hE11 hF11 CMx
        go_wp2_with fail
        refine C7.mono ?_
        rintro e w12 ⟨rfl, hE12⟩
        go_wp2
        go_ret
        exact ⟨rfl, HE11.out.trans hE12⟩
      · have he' : (e2 != 0) = true := by simpa using he2
        clear hx8 hm8 hE8 hE9 hW9 he2 CM2 CY2 CR2
        go_wp2
        go_ret
        exact ⟨rfl, HE9.out⟩
end Go.Proofs.YtcphapdjimeoaaaGreat

namespace Go.Proofs.YtcphapdjimeoaaaGreat
open Go.RowKit Num Ef

theorem parts_info : (Tryz.prog.info? 119).map (·.size) = some 3 := by kernel_rfl
theorem parts_one (k : Int) (A1 : Option Addr) (n1 c1 : Nat) (A2 : Option Addr) (n2 c2 : Nat) : (#[.int .i64 k, .slice A1 n1 c1, .slice A2 n2 c2] : Array Value).all (·.oneCell') = true := by
  simp
  exact ⟨rfl, rfl, rfl⟩
/-- What partsOf tells. -/
def PartsTo (w : World) (k : Nat) (ids : List Int) (e : Ending) (w' : World) : Prop :=
  ∃ A1 c1 A2 c2, e = .returned (partsV k A1 ids.length c1 A2 ids.length c2) ∧ PartsV w' w'.heap.size k A1 ids.length A2 ids.length ids ∧ Ext w w'
theorem Ef.cut_bits (y k : Nat) (hk : k ≤ 14) (hy : y ≤ 1000000) : IntKind.i64.wrap (2 ^ k) = ((2 ^ k : Nat) : Int) ∧ IntKind.i64.wrap (((2 ^ k : Nat) : Int) - 1) = ((2 ^ k : Nat) : Int) - 1 ∧ 1 ≤ 2 ^ k ∧ 2 ^ k ≤ 16384 ∧ bits .and .i64 (y : Int) (((2 ^ k : Nat) : Int) - 1) = ((y % 2 ^ k : Nat) : Int) ∧ (y : Int) / 2 ^ k = ((y / 2 ^ k : Nat) : Int) ∧ y / 2 ^ k ≤ 1000000 := by
  have hpw : (2 : Nat) ^ k ≤ 2 ^ 14 := Nat.pow_le_pow_right (by omega) hk
  have h1 : 1 ≤ 2 ^ k := Nat.pow_pos (by omega)
  have e : (((2 ^ k : Nat) : Int) - 1) = ((2 ^ k - 1 : Nat) : Int) := by omega
  refine ⟨by rw [IntWalk.i64_left]; exact wrap64_pow (by omega), by rw [IntKind.wrap_i64]; omega, h1, by omega, ?_, ?_, Nat.le_trans (Nat.div_le_self _ _) hy⟩
  · have h2 : y < 4611686018427387904 := by omega
    have h3 : 2 ^ k - 1 < 4611686018427387904 := by omega
    rw [e, i64_and_nat y (2 ^ k - 1) h2 h3, Nat.and_two_pow_sub_one_eq_mod]
  · simp only [Int.natCast_ediv, Int.natCast_pow]; rfl

set_option maxHeartbeats 2000000 in
set_option maxRecDepth 10000 in
theorem efParts_any (A : Option Addr) (c : Nat) (ids : List Int) (bd : Nat) (w0 : World) (h : IntsAt w0 w0.heap.size A ids.length ids) (hb : bd ≤ 20000) (hn : ids.length ≤ 20000) (hr : row (bd : Int) ids = true) :
    Calls Tryz.prog 76 #[.int .i64 (bd : Int), .slice A ids.length c] w0 (PartsTo w0 (widE (bd : Int) ids.length) ids) := by
  have CL := fun W => efLow_any bd ids.length W hb hn
  have hk14 := widE_le (bound := (bd : Int)) (n := ids.length) (by omega)
  have HRow := hide (fun (i : Nat) (hi : i < ids.length) => row_at hr hi)
  have HA := hide h
  clear hr h
  generalize widE (bd : Int) ids.length = k at *
  obtain ⟨n, hnn⟩ : ∃ n, n = ids.length := ⟨_, rfl⟩
  rw [← hnn] at CL HRow HA hn ⊢
  have HNn := hide hnn
  clear hnn
  have hE1 := hide (extNew w0 (.cells #[.int .i64 0, .slice none 0 0, .slice none 0 0] 119))
  have hR1 := hide (Whole.new w0 119 #[.int .i64 0, .slice none 0 0, .slice none 0 0])
  go_enter Tryz.func76, Tryz.ntmps76
  go_wp2_with fail
  refine (CL _).mono ?_
  rintro e w2 ⟨rfl, hQ2⟩
  have hE2 := hE1.out.trans hQ2.ext
  have hR2 := hR1.out.ext hQ2.ext
  have hRlt := hR2.lt
  clear CL hQ2 hE1 hR1
  obtain ⟨g, hg⟩ : ∃ g, g = w2.heap.size := ⟨_, rfl⟩
  obtain ⟨R, hRR⟩ : ∃ R, R = w0.heap.size := ⟨_, rfl⟩
  have hE4 := hE2.trans (extNew w2 (.cells #[.int .i64 0, .slice none 0 0, .slice none 0 0] 119))
  have hW4 := Whole.new w2 119 #[.int .i64 0, .slice none 0 0, .slice none 0 0]
  have hR4 := hR2.ext (extNew w2 (.cells #[.int .i64 0, .slice none 0 0, .slice none 0 0] 119))
  have HG := hide hg
  have HRR := hide hRR
  rw [← hg] at hW4 hRlt
  rw [← hRR] at hR4 hRlt
  have hRw : w0.heap.size ≤ R := by omega
  have hgw : w0.heap.size ≤ g := by omega
  clear hR2 hE2 hg hRR
  go_wp2_with (refine wpList_storeW rfl 119 (.tmp 5) (.tmp 12) rfl (by rw [HG.out]; rfl) rfl hW4 rfl parts_info (parts_one ..) ?_; intro w5 hW5 hG5 hS5; clear hS5)
  rw [← HG.out, ← HRR.out]
  have hR5 := hR4.grown hG5 (by omega)
  have hE5 : Ext w0 w5 := Below.grown hE4 hG5 hE4.le (fun k hk => by cases hk; omega)
  clear hW4 hG5 hR4 hE4
  go_loopw [15] (fun x wr => ∃ i A1 c1 A2 c2 L H, i ≤ n ∧ x = .int .i64 ((i : Nat) : Int) ∧ Whole wr g 119 #[.int .i64 (k : Int), .slice A1 L.length c1, .slice A2 H.length c2] ∧ TwoI wr (g + 1) (.slice A1 L.length c1) (.slice A2 H.length c2) L H ∧ Ef.Parts k (ids.take i) L H ∧ L.length = i ∧ Whole wr R 119 #[.int .i64 0, .slice none 0 0, .slice none 0 0] ∧ Ext w0 wr) (fun x _ => n - (intOf x).toNat)
  case atStart => exact ⟨0, none, 0, none, 0, [], [], by omega, rfl, hW5, TwoI.nil _ _, by rw [List.take_zero]; exact Ef.Parts.nil hk14 _, rfl, hR5, hE5⟩
  case round =>
    clear hW5 hR5 hE5
    obtain ⟨i, A1, c1, A2, c2, L, H, hi, rfl, hW, hT, hP, hL, hR, hE⟩ := hrel
    have HP := hide hP
    have HLen := hide (show L.length ≤ 20000 ∧ H.length ≤ 20000 by
      have h1 := hP.2.1
      rw [List.length_take] at h1
      omega)
    have HL := hide hL
    clear hP hL
    by_cases hlt : i < n
    · have hiI : (i : Int) < (n : Int) := by omega
      rcases (HA.out.later hE).2 with hn0 | ⟨b1, o1, rfl, _, hc1⟩
      · omega
      have e1 := hc1 i hlt
      obtain ⟨hy0, hyb, -⟩ := HRow.out i hlt
      obtain ⟨y, hy⟩ := Int.eq_ofNat_of_zero_le hy0
      rw [hy] at e1 hyb
      have HY := hide hy
      have hym : y ≤ 1000000 := by omega
      obtain ⟨hpw, hpm, hp1, hp2, hand, hshr, hhm⟩ := cut_bits y k hk14 hym
      have HX := hide (Nat.mod_lt y (show 0 < 2 ^ k by omega))
      have HI := hide (part_is y k)
      have HM := hide hhm
      clear hc1 hy0 hy hhm
      obtain ⟨p, hp⟩ : ∃ p, p = 2 ^ k := ⟨_, rfl⟩
      obtain ⟨x, hx⟩ : ∃ x, x = y % 2 ^ k := ⟨_, rfl⟩
      obtain ⟨h, hh⟩ : ∃ h, h = y / 2 ^ k := ⟨_, rfl⟩
      rw [← hx] at HX HI hand
      rw [← hh] at HI HM hshr
      rw [← hp] at hpw hpm hp1 hp2 hand
      clear hp hx hh hyb
      go_wp2_with fail
      refine wp_region_T (fun W => Whole W g 119 #[.int .i64 (k : Int), .slice A1 L.length c1, .slice A2 H.length c2]) 9 12 #[false, false, false, false, false, false, false, false, false, false, false, false] (by kernel_rfl) rfl rfl hW ?_
      intro hS0
      refine wpAnyT_take 0 (some 19) (.pointer (some ⟨g, 1, none⟩)) #[true, false, false, false, false, false, false, false, false, false, false, false] rfl rfl rfl (by kernel_rfl) (fun _ _ _ h => h) hS0 (by rfl) (fun W hX => by have s0 := hX.at 0 (u := .int .i64 (k : Int)) rfl; have s1 := hX.at 1 (u := .slice A1 L.length c1) rfl; have s2 := hX.at 2 (u := .slice A2 H.length c2) rfl; go_simp) ?_
      simp only [Act.put, List.setIfInBounds_toArray, List.set_cons_zero, List.set_cons_succ]
      refine wpAnyT_take 1 (some 20) (.slice A1 L.length c1) #[true, true, false, false, false, false, false, false, false, false, false, false] rfl rfl rfl (by kernel_rfl) (fun _ _ _ h => h) hS0 (by rfl) (fun W hX => by have s0 := hX.at 0 (u := .int .i64 (k : Int)) rfl; have s1 := hX.at 1 (u := .slice A1 L.length c1) rfl; have s2 := hX.at 2 (u := .slice A2 H.length c2) rfl; go_simp) ?_
      simp only [Act.put, List.setIfInBounds_toArray, List.set_cons_zero, List.set_cons_succ]
      refine wpAnyT_take 2 (some 21) (.int .i64 (y : Int)) #[true, true, true, false, false, false, false, false, false, false, false, false] rfl rfl rfl (by kernel_rfl) (fun _ _ _ h => h) hS0 (by rfl) (fun W hX => by have s0 := hX.at 0 (u := .int .i64 (k : Int)) rfl; have s1 := hX.at 1 (u := .slice A1 L.length c1) rfl; have s2 := hX.at 2 (u := .slice A2 H.length c2) rfl; go_simp) ?_
      simp only [Act.put, List.setIfInBounds_toArray, List.set_cons_zero, List.set_cons_succ]
      refine wpAnyT_take 3 (some 22) (.pointer (some ⟨g, 0, none⟩)) #[true, true, true, true, false, false, false, false, false, false, false, false] rfl rfl rfl (by kernel_rfl) (fun _ _ _ h => h) hS0 (by rfl) (fun W hX => by have s0 := hX.at 0 (u := .int .i64 (k : Int)) rfl; have s1 := hX.at 1 (u := .slice A1 L.length c1) rfl; have s2 := hX.at 2 (u := .slice A2 H.length c2) rfl; go_simp) ?_
      simp only [Act.put, List.setIfInBounds_toArray, List.set_cons_zero, List.set_cons_succ]
      refine wpAnyT_take 4 (some 23) (.int .i64 (k : Int)) #[true, true, true, true, true, false, false, false, false, false, false, false] rfl rfl rfl (by kernel_rfl) (fun _ _ _ h => h) hS0 (by rfl) (fun W hX => by have s0 := hX.at 0 (u := .int .i64 (k : Int)) rfl; have s1 := hX.at 1 (u := .slice A1 L.length c1) rfl; have s2 := hX.at 2 (u := .slice A2 H.length c2) rfl; go_simp) ?_
      simp only [Act.put, List.setIfInBounds_toArray, List.set_cons_zero, List.set_cons_succ]
      refine wpAnyT_take 5 (some 24) (.int .i64 (p : Int)) #[true, true, true, true, true, true, false, false, false, false, false, false] rfl rfl rfl (by kernel_rfl) (fun _ _ _ h => h) hS0 (by rfl) (fun W hX => by have s0 := hX.at 0 (u := .int .i64 (k : Int)) rfl; have s1 := hX.at 1 (u := .slice A1 L.length c1) rfl; have s2 := hX.at 2 (u := .slice A2 H.length c2) rfl; go_simp) ?_
      simp only [Act.put, List.setIfInBounds_toArray, List.set_cons_zero, List.set_cons_succ]
      refine wpAnyT_take 6 (some 25) (.int .i64 ((p : Int) - 1)) #[true, true, true, true, true, true, true, false, false, false, false, false] rfl rfl rfl (by kernel_rfl) (fun _ _ _ h => h) hS0 (by rfl) (fun W hX => by have s0 := hX.at 0 (u := .int .i64 (k : Int)) rfl; have s1 := hX.at 1 (u := .slice A1 L.length c1) rfl; have s2 := hX.at 2 (u := .slice A2 H.length c2) rfl; go_simp) ?_
      simp only [Act.put, List.setIfInBounds_toArray, List.set_cons_zero, List.set_cons_succ]
      refine wpAnyT_take 7 (some 26) (.int .i64 (x : Int)) #[true, true, true, true, true, true, true, true, false, false, false, false] rfl rfl rfl (by kernel_rfl) (fun _ _ _ h => h) hS0 (by rfl) (fun W hX => by have s0 := hX.at 0 (u := .int .i64 (k : Int)) rfl; have s1 := hX.at 1 (u := .slice A1 L.length c1) rfl; have s2 := hX.at 2 (u := .slice A2 H.length c2) rfl; go_simp) ?_
      simp only [Act.put, List.setIfInBounds_toArray, List.set_cons_zero, List.set_cons_succ]
      have hT0 := hT.ext (Ext.refl wr).drew
      have hR0 := hR.ext (Ext.refl wr).drew
      have hE0 := hE.trans (Ext.refl wr).drew
      generalize World.drew wr = wd at *
      refine wpAnyT_only 8 #[true, true, true, true, true, true, true, true, true, false, false, false] (by kernel_rfl) rfl rfl (by rfl) (fun K0 hK0 => ?_)
      go_simp
      have hEb := extNew wd (.cells #[.int .i64 (x : Int)] 3)
      have hcb := (Whole.new wd 3 #[.int .i64 (x : Int)]).at 0 (u := .int .i64 (x : Int)) rfl
      have hSb := hS0.ext hEb
      have hTb := hT0.ext hEb
      have hRb := hR0.ext hEb
      have hE1 := hE0.trans hEb
      generalize wd.alloc (.cells #[.int .i64 (x : Int)] 3) = wb at *
      generalize wd.heap.size = gb at *
      refine hK0 _ _ (fun _ => hSb) ?_
      clear hK0 K0
      refine wpAnyT_only 9 #[true, true, true, true, true, true, true, true, true, true, false, false] (by kernel_rfl) rfl rfl (by rfl) (fun K1 hK1 => ?_)
      refine wpOper_appI (.tmp 20) (.tmp 27) rfl rfl hTb.one rfl hcb (by have := HLen.out; omega) (by have := hSb.lt; omega) ?_
      intro vn wa hO hG hN
      obtain ⟨L2, hn⟩ : ∃ Z, Z = L ++ [(x : Int)] := ⟨_, rfl⟩
      rw [← hn] at hO
      have HN5 := hide hn
      clear hn
      have hWa := hSb.ownGrown hG (hTb.ne1 (by omega))
      have hTa := hTb.grow hO hG hN
      have hRa := hRb.ownGrown hG (fun e => by have := hTb.one.lt R e; omega)
      have hEa : Ext w0 wa := Below.grown hE1 hG hE1.le (fun k hk => by have := hTb.one.lt k hk; omega)
      obtain ⟨A3, c3, hvn, hcn, -⟩ := hO.form
      subst hvn
      clear hO hG hN hTb hSb hRb hE1 hEb hcb hT0 hR0 hE0
      refine hK1 _ _ (fun h => absurd h (by decide)) ?_
      clear hK1 K1
      simp only [Act.put, List.setIfInBounds_toArray]
      refine wpAnyT_only 10 #[true, true, true, true, true, true, true, true, true, true, true, false] (by kernel_rfl) rfl rfl (by rfl) (fun K2 hK2 => ?_)
      go_simp
      refine hK2 _ _ (fun h => absurd h (by decide)) ?_
      clear hK2 K2
      refine wpAnyT_only 11 #[true, true, true, true, true, true, true, true, true, true, true, true] (by kernel_rfl) rfl rfl (by rfl) (fun K3 hK3 => ?_)
      refine wpOper_putC 43 (.tmp 29) (.tmp 28) rfl #[.int .i64 (k : Int), .slice A3 L2.length c3, .slice A2 H.length c2] rfl rfl hWa (by simp) (by kernel_rfl) rfl rfl rfl ?_
      intro w6 hWs hGs
      have hTs := hTa.below hGs (by omega)
      have hRs := hRa.grown hGs (by omega)
      have hEs : Ext w0 w6 := Below.grown hEa hGs hEa.le (fun k hk => by cases hk; omega)
      refine hK3 _ _ (fun h => absurd h (by decide)) (wpAnyT_done (by kernel_rfl) ?_ _)
      clear hK3 K3 hWa hTa hRa hEa hGs hW hT hR hE hS0 hcn
      simp only [Act.put]
      have hW := hWs
      have hT := hTs
      have hR := hRs
      have hE := hEs
      clear hWs hTs hRs hEs
      go_wp2_with fail
      refine wp_region_T (fun W => Whole W g 119 #[.int .i64 (k : Int), .slice A3 L2.length c3, .slice A2 H.length c2]) 7 10 #[false, false, false, false, false, false, false, false, false, false] (by kernel_rfl) rfl rfl hW ?_
      intro hS0
      refine wpAnyT_take 0 (some 30) (.pointer (some ⟨g, 2, none⟩)) #[true, false, false, false, false, false, false, false, false, false] rfl rfl rfl (by kernel_rfl) (fun _ _ _ h => h) hS0 (by rfl) (fun W hX => by have s0 := hX.at 0 (u := .int .i64 (k : Int)) rfl; have s1 := hX.at 1 (u := .slice A3 L2.length c3) rfl; have s2 := hX.at 2 (u := .slice A2 H.length c2) rfl; go_simp) ?_
      simp only [Act.put, List.setIfInBounds_toArray, List.set_cons_zero, List.set_cons_succ]
      refine wpAnyT_take 1 (some 31) (.slice A2 H.length c2) #[true, true, false, false, false, false, false, false, false, false] rfl rfl rfl (by kernel_rfl) (fun _ _ _ h => h) hS0 (by rfl) (fun W hX => by have s0 := hX.at 0 (u := .int .i64 (k : Int)) rfl; have s1 := hX.at 1 (u := .slice A3 L2.length c3) rfl; have s2 := hX.at 2 (u := .slice A2 H.length c2) rfl; go_simp) ?_
      simp only [Act.put, List.setIfInBounds_toArray, List.set_cons_zero, List.set_cons_succ]
      refine wpAnyT_take 2 (some 32) (.int .i64 (y : Int)) #[true, true, true, false, false, false, false, false, false, false] rfl rfl rfl (by kernel_rfl) (fun _ _ _ h => h) hS0 (by rfl) (fun W hX => by have s0 := hX.at 0 (u := .int .i64 (k : Int)) rfl; have s1 := hX.at 1 (u := .slice A3 L2.length c3) rfl; have s2 := hX.at 2 (u := .slice A2 H.length c2) rfl; go_simp) ?_
      simp only [Act.put, List.setIfInBounds_toArray, List.set_cons_zero, List.set_cons_succ]
      refine wpAnyT_take 3 (some 33) (.pointer (some ⟨g, 0, none⟩)) #[true, true, true, true, false, false, false, false, false, false] rfl rfl rfl (by kernel_rfl) (fun _ _ _ h => h) hS0 (by rfl) (fun W hX => by have s0 := hX.at 0 (u := .int .i64 (k : Int)) rfl; have s1 := hX.at 1 (u := .slice A3 L2.length c3) rfl; have s2 := hX.at 2 (u := .slice A2 H.length c2) rfl; go_simp) ?_
      simp only [Act.put, List.setIfInBounds_toArray, List.set_cons_zero, List.set_cons_succ]
      refine wpAnyT_take 4 (some 34) (.int .i64 (k : Int)) #[true, true, true, true, true, false, false, false, false, false] rfl rfl rfl (by kernel_rfl) (fun _ _ _ h => h) hS0 (by rfl) (fun W hX => by have s0 := hX.at 0 (u := .int .i64 (k : Int)) rfl; have s1 := hX.at 1 (u := .slice A3 L2.length c3) rfl; have s2 := hX.at 2 (u := .slice A2 H.length c2) rfl; go_simp) ?_
      simp only [Act.put, List.setIfInBounds_toArray, List.set_cons_zero, List.set_cons_succ]
      refine wpAnyT_take 5 (some 35) (.int .i64 (h : Int)) #[true, true, true, true, true, true, false, false, false, false] rfl rfl rfl (by kernel_rfl) (fun _ _ _ h => h) hS0 (by rfl) (fun W hX => by have s0 := hX.at 0 (u := .int .i64 (k : Int)) rfl; have s1 := hX.at 1 (u := .slice A3 L2.length c3) rfl; have s2 := hX.at 2 (u := .slice A2 H.length c2) rfl; go_simp) ?_
      simp only [Act.put, List.setIfInBounds_toArray, List.set_cons_zero, List.set_cons_succ]
      have hT0 := hT.ext (Ext.refl w6).drew
      have hR0 := hR.ext (Ext.refl w6).drew
      have hE0 := hE.trans (Ext.refl w6).drew
      generalize World.drew w6 = wd at *
      refine wpAnyT_only 6 #[true, true, true, true, true, true, true, false, false, false] (by kernel_rfl) rfl rfl (by rfl) (fun K0 hK0 => ?_)
      go_simp
      have hEb := extNew wd (.cells #[.int .i64 (h : Int)] 3)
      have hcb := (Whole.new wd 3 #[.int .i64 (h : Int)]).at 0 (u := .int .i64 (h : Int)) rfl
      have hSb := hS0.ext hEb
      have hTb := hT0.ext hEb
      have hRb := hR0.ext hEb
      have hE1 := hE0.trans hEb
      generalize wd.alloc (.cells #[.int .i64 (h : Int)] 3) = wb at *
      generalize wd.heap.size = gb at *
      refine hK0 _ _ (fun _ => hSb) ?_
      clear hK0 K0
      refine wpAnyT_only 7 #[true, true, true, true, true, true, true, true, false, false] (by kernel_rfl) rfl rfl (by rfl) (fun K1 hK1 => ?_)
      refine wpOper_appI (.tmp 31) (.tmp 36) rfl rfl hTb.two rfl hcb (by have := HLen.out; omega) (by have := hSb.lt; omega) ?_
      intro vn wa hO hG hN
      obtain ⟨H2, hn⟩ : ∃ Z, Z = H ++ [(h : Int)] := ⟨_, rfl⟩
      rw [← hn] at hO
      have HN6 := hide hn
      clear hn
      have hWa := hSb.ownGrown hG (hTb.ne2 (by omega))
      have hTa := (hTb.flip.grow hO hG hN).flip
      have hRa := hRb.ownGrown hG (fun e => by have := hTb.two.lt R e; omega)
      have hEa : Ext w0 wa := Below.grown hE1 hG hE1.le (fun k hk => by have := hTb.two.lt k hk; omega)
      obtain ⟨A4, c4, hvn, hcn, -⟩ := hO.form
      subst hvn
      clear hO hG hN hTb hSb hRb hE1 hEb hcb hT0 hR0 hE0
      refine hK1 _ _ (fun h => absurd h (by decide)) ?_
      clear hK1 K1
      simp only [Act.put, List.setIfInBounds_toArray]
      refine wpAnyT_only 8 #[true, true, true, true, true, true, true, true, true, false] (by kernel_rfl) rfl rfl (by rfl) (fun K2 hK2 => ?_)
      go_simp
      refine hK2 _ _ (fun h => absurd h (by decide)) ?_
      clear hK2 K2
      refine wpAnyT_only 9 #[true, true, true, true, true, true, true, true, true, true] (by kernel_rfl) rfl rfl (by rfl) (fun K3 hK3 => ?_)
      refine wpOper_putC 43 (.tmp 38) (.tmp 37) rfl #[.int .i64 (k : Int), .slice A3 L2.length c3, .slice A4 H2.length c4] rfl rfl hWa (by simp) (by kernel_rfl) rfl rfl rfl ?_
      intro w7 hWs hGs
      have hTs := hTa.below hGs (by omega)
      have hRs := hRa.grown hGs (by omega)
      have hEs : Ext w0 w7 := Below.grown hEa hGs hEa.le (fun k hk => by cases hk; omega)
      refine hK3 _ _ (fun h => absurd h (by decide)) (wpAnyT_done (by kernel_rfl) ?_ _)
      clear hK3 K3 hWa hTa hRa hEa hGs hW hT hR hE hS0 hcn
      simp only [Act.put]
      have hW := hWs
      have hT := hTs
      have hR := hRs
      have hE := hEs
      clear hWs hTs hRs hEs
      have HParts := hide (show Ef.Parts k (ids.take (i + 1)) L2 H2 by
        have h1 := HP.out.more (h := h) (x := x) (by rw [HL.out, List.length_take]; have := HNn.out; omega) HX.out HM.out
        rw [HN5.out, HN6.out]
        have e : ids.take i ++ [((h * 2 ^ k + x : Nat) : Int)] = ids.take (i + 1) := by
          rw [List.take_add_one, HI.out, ← HY.out, List.getD_eq_getElem?_getD, List.getElem?_eq_getElem (by have := HNn.out; omega)]
          rfl
        rw [← e]
        exact h1)
      have HLen2 := hide (show L2.length = i + 1 by rw [HN5.out, List.length_append, HL.out]; rfl)
      clear HN5 HN6 hand hshr hpw hpm hp1 hp2 hym
      go_wp2
      go_roundw
      case rel => exact ⟨i + 1, A3, c3, A4, c4, L2, H2, by omega, by go_num, hW, hT, HParts.out, HLen2.out, hR, hE⟩
      case measure => simp [intOf]; omega
    · obtain rfl : n = i := by omega
      have HL2 := hide (show L.length = n ∧ H.length = n by
        have h1 := HP.out.2.1
        rw [List.length_take] at h1
        have := HNn.out
        exact ⟨HL.out, by omega⟩)
      have HPa := hide (show Ef.Parts k ids L H by
        have := HP.out
        rwa [List.take_of_length_le (by rw [HNn.out]; exact Nat.le_refl _)] at this)
      have HT := hide hT
      clear hT HP HL
      go_wp2_with (first | (refine wpList_load_row rfl 119 (.tmp 5) rfl _ rfl _ _ _ _ hW Tryz.underlying119 rfl parts_info ?_) | (refine wpList_storeW rfl 119 (.tmp 4) (.tmp 40) rfl rfl rfl hR rfl parts_info (parts_one ..) ?_; intro w9 hW9 hG9 hS9; clear hS9))
      simp only [Act.put, List.setIfInBounds_toArray, List.set_cons_zero, List.set_cons_succ]
      refine bodyPost_ret (results_cell_row rfl _ _ _ _ _ _ _ rfl hW9 Tryz.underlying119 rfl parts_info) rfl ?_
      have hT9 := HT.out.below hG9 (by omega)
      have h1 := hT9.one.at
      have h2 := hT9.two.at
      rw [HL2.out.1] at h1
      rw [HL2.out.2] at h2
      refine ⟨A1, c1, A2, c2, ?_, ⟨⟨L, H, ?_, ?_, HPa.out⟩⟩, Below.grown hE hG9 hE.le (fun k hk => by cases hk; omega)⟩
      · rw [← HNn.out, HL2.out.1, HL2.out.2]; rfl
      · rw [← HNn.out]; exact h1
      · rw [← HNn.out]; exact h2
end Go.Proofs.YtcphapdjimeoaaaGreat

namespace Go.Proofs.YtcphapdjimeoaaaGreat
open Go.RowKit Num Ef

theorem Mod.grown {w w' : World} {g : Nat} (h : Mod w w' g none) : w.grownBy w' (some g) := ⟨h.os, h.tape, h.output, h.size, fun k hk hg => h.block k hk (fun e => hg (by rw [e])) (by simp)⟩
/-- The reader of a row, in block r, over a reader of bits in block gr; all that there was in W is there still. -/
structure RSt (W w : World) (gr r k q : Nat) (b : List UInt8) (v1 v2 : Value) (L H : List Int) : Prop where
  rd : Rdr w W.heap.size gr b q
  blk : Whole w r 173 #[.pointer (some ⟨gr, 0, none⟩), .int .i64 (k : Int), v1, v2]
  two : TwoI w (r + 1) v1 v2 L H
  lt : gr < r
  ext : Ext W w
section
variable {W w w' w2 : World} {gr r k q q' : Nat} {b : List UInt8} {v1 v2 v' : Value} {L H L' : List Int}
theorem RSt.later (h : RSt W w gr r k q b v1 v2 L H) (hE : Ext w w') : RSt W w' gr r k q b v1 v2 L H := ⟨h.rd.ext hE, h.blk.ext hE, h.two.ext hE, h.lt, h.ext.trans hE⟩
theorem RSt.get (h : RSt W w gr r k q b v1 v2 L H) (hR : Rdr w' W.heap.size gr b q') (hM : Mod w w' gr none) : RSt W w' gr r k q' b v1 v2 L H :=
  ⟨hR, hM.whole h.blk (by have := h.lt; omega) (by simp), h.two.below hM.grown (by have := h.lt; omega), h.lt, Below.trans h.ext (hM.below (B := W.heap.size) h.ext.le h.rd.le (fun k hk => by cases hk))⟩
/-- The first list has grown and is stored. -/
theorem RSt.low (h : RSt W w gr r k q b v1 v2 L H) (hO : OwnI w' (r + 1) v' L') (hG : w.grownBy w' v1.ownBlock) (hN : NewOb w v1.ownBlock v'.ownBlock) (hW2 : Whole w2 r 173 #[.pointer (some ⟨gr, 0, none⟩), .int .i64 (k : Int), v', v2]) (hG2 : w'.grownBy w2 (some r)) : RSt W w2 gr r k q b v' v2 L' H := by
  have hlt := h.lt
  have hle := h.rd.le
  have hrl := h.blk.lt
  have hB1 : Below (r + 1) w w' := Below.grown (Below.refl _ _) hG (by omega) (fun k hk => (h.two.one.lt k hk).1)
  have hB2 : Below r w' w2 := Below.grown (Below.refl _ _) hG2 (by have := hB1.size; omega) (fun k hk => by cases hk; omega)
  have hB : Below r w w2 := Below.trans (Below.mono hB1 (by omega)) hB2
  exact ⟨h.rd.below hB hlt, hW2, (h.two.grow hO hG hN).below hG2 (by omega), hlt, Below.trans h.ext (Below.mono hB (by omega))⟩
theorem RSt.high (h : RSt W w gr r k q b v1 v2 L H) (hO : OwnI w' (r + 1) v' L') (hG : w.grownBy w' v2.ownBlock) (hN : NewOb w v2.ownBlock v'.ownBlock) (hW2 : Whole w2 r 173 #[.pointer (some ⟨gr, 0, none⟩), .int .i64 (k : Int), v1, v']) (hG2 : w'.grownBy w2 (some r)) : RSt W w2 gr r k q b v1 v' L L' := by
  have hlt := h.lt
  have hle := h.rd.le
  have hrl := h.blk.lt
  have hB1 : Below (r + 1) w w' := Below.grown (Below.refl _ _) hG (by omega) (fun k hk => (h.two.two.lt k hk).1)
  have hB2 : Below r w' w2 := Below.grown (Below.refl _ _) hG2 (by have := hB1.size; omega) (fun k hk => by cases hk; omega)
  have hB : Below r w w2 := Below.trans (Below.mono hB1 (by omega)) hB2
  exact ⟨h.rd.below hB hlt, hW2, ((h.two.flip.grow hO hG hN).flip).below hG2 (by omega), hlt, Below.trans h.ext (Below.mono hB (by omega))⟩
end
/-- The low bits of n numbers. -/
def Ef.lowsOf (b : List UInt8) (k n : Nat) : List Int := (List.range n).map fun i => ((Bit.getNum b (i * k) (k : Int) : Nat) : Int)
theorem Ef.lowsOf_len (b : List UInt8) (k n : Nat) : (lowsOf b k n).length = n := by simp [lowsOf]
theorem Ef.lowsOf_succ (b : List UInt8) (k n : Nat) : lowsOf b k (n + 1) = lowsOf b k n ++ [((Bit.getNum b (n * k) (k : Int) : Nat) : Int)] := by
  unfold lowsOf
  rw [List.range_succ, List.map_append]
  rfl
theorem Ef.lowsOf_at (b : List UInt8) {k n i : Nat} (h : i < n) : (lowsOf b k n).getD i 0 = ((Bit.getNum b (i * k) (k : Int) : Nat) : Int) := by simp [lowsOf, List.getD_eq_getElem?_getD, h]
/-- What takeLow tells. -/
def LowsTo (W : World) (gr r k n : Nat) (b : List UInt8) (v2 : Value) (H : List Int) (e : Ending) (w' : World) : Prop :=
  (8 * b.length < n * k ∧ e = .returned (.int .i64 1) ∧ Ext W w') ∨ (n * k ≤ 8 * b.length ∧ e = .returned (.int .i64 0) ∧ ∃ A1 c1, RSt W w' gr r k (n * k) b (.slice A1 n c1) v2 (lowsOf b k n) H)

set_option maxHeartbeats 2000000 in
set_option maxRecDepth 10000 in
theorem takeLow_any {W w0 : World} {gr r k : Nat} {b : List UInt8} {v2 : Value} {H : List Int} (h : RSt W w0 gr r k 0 b (.slice none 0 0) v2 [] H) (n : Nat) (hn : n ≤ 20000) (hk : k ≤ 14) (hb : b.length ≤ 100000) :
    Calls Tryz.prog 115 #[.pointer (some ⟨r, 0, none⟩), .int .i64 (n : Int)] w0 (LowsTo W gr r k n b v2 H) := by
  have HB := hide hb
  have HS0 := hide h
  clear h hb
  go_enter Tryz.func115, Tryz.ntmps115
  go_wp2_with fail
  go_loopw [8] (fun x wr => ∃ i A1 c1 L, i ≤ n ∧ x = .int .i64 ((i : Nat) : Int) ∧ RSt W wr gr r k (i * k) b (.slice A1 L.length c1) v2 L H ∧ L = lowsOf b k i ∧ i * k ≤ 8 * b.length) (fun x _ => n - (intOf x).toNat)
  case atStart => exact ⟨0, none, 0, [], by omega, rfl, by rw [Nat.zero_mul]; exact HS0.out, rfl, by omega⟩
  case round =>
    clear HS0
    obtain ⟨i, A1, c1, L, hi, rfl, hS, hL, hik⟩ := hrel
    have HL := hide hL
    have HLen := hide (show L.length = i by rw [hL]; exact lowsOf_len _ _ _)
    clear hL
    by_cases hlt : i < n
    · have hiI : (i : Int) < (n : Int) := by omega
      have CG := get_any (hS.later (Ext.refl wr).drew).rd (k : Int)
      have hx2 := Bit.getNum_lt b (i * k) k
      have hpw : (2 : Nat) ^ k ≤ 2 ^ 14 := Nat.pow_le_pow_right (by omega) hk
      have HLS := hide (lowsOf_succ b k i)
      have hxs : Bit.getNum b (i * k) (k : Int) < 16384 := by omega
      have HNo := hide (show ¬ k ≤ 8 * b.length - i * k → Bit.getErr (8 * b.length - i * k) (k : Int) = 1 ∧ 8 * b.length < n * k from fun h => by
        refine ⟨by unfold Bit.getErr; rw [if_pos ⟨by omega, by omega⟩, if_neg (by omega)], ?_⟩
        have h1 : (i + 1) * k ≤ n * k := Nat.mul_le_mul_right k hlt
        rw [Nat.succ_mul] at h1
        omega)
      have HYes := hide (show k ≤ 8 * b.length - i * k → Bit.getErr (8 * b.length - i * k) (k : Int) = 0 ∧ Bit.getTo (8 * b.length - i * k) (i * k) (k : Int) = (i + 1) * k ∧ (i + 1) * k ≤ 8 * b.length from fun h => by
        have h1 : Bit.getErr (8 * b.length - i * k) (k : Int) = 0 := by unfold Bit.getErr; rw [if_pos ⟨by omega, by omega⟩, if_pos (by omega)]
        refine ⟨h1, by unfold Bit.getTo; rw [if_pos h1, Int.toNat_natCast, Nat.succ_mul], by rw [Nat.succ_mul]; omega⟩)
      generalize Bit.getNum b (i * k) (k : Int) = x at *
      generalize Bit.getErr (8 * b.length - i * k) (k : Int) = E at *
      generalize Bit.getTo (8 * b.length - i * k) (i * k) (k : Int) = q' at *
      have hblk := hS.blk
      have HIK := hide hik
      clear hx2 hpw hik
      go_wp2_with fail
      refine wp_region_T (fun W => Whole W r 173 #[.pointer (some ⟨gr, 0, none⟩), .int .i64 (k : Int), .slice A1 L.length c1, v2]) 9 15 #[false, false, false, false, false, false, false, false, false, false, false, false, false, false, false] (by kernel_rfl) rfl rfl hS.blk ?_
      intro hS0
      refine wpAnyT_take 0 (some 11) (.pointer (some ⟨r, 0, none⟩)) #[true, false, false, false, false, false, false, false, false, false, false, false, false, false, false] rfl rfl rfl (by kernel_rfl) (fun _ _ _ h => h) hS0 (by rfl) (fun W hX => by have s0 := hX.at 0 (u := .pointer (some ⟨gr, 0, none⟩)) rfl; have s1 := hX.at 1 (u := .int .i64 (k : Int)) rfl; go_simp) ?_
      simp only [Act.put, List.setIfInBounds_toArray, List.set_cons_zero, List.set_cons_succ]
      refine wpAnyT_take 1 (some 12) (.pointer (some ⟨r, 0, none⟩)) #[true, true, false, false, false, false, false, false, false, false, false, false, false, false, false] rfl rfl rfl (by kernel_rfl) (fun _ _ _ h => h) hS0 (by rfl) (fun W hX => by have s0 := hX.at 0 (u := .pointer (some ⟨gr, 0, none⟩)) rfl; have s1 := hX.at 1 (u := .int .i64 (k : Int)) rfl; go_simp) ?_
      simp only [Act.put, List.setIfInBounds_toArray, List.set_cons_zero, List.set_cons_succ]
      refine wpAnyT_take 2 (some 13) (.pointer (some ⟨r, 0, none⟩)) #[true, true, true, false, false, false, false, false, false, false, false, false, false, false, false] rfl rfl rfl (by kernel_rfl) (fun _ _ _ h => h) hS0 (by rfl) (fun W hX => by have s0 := hX.at 0 (u := .pointer (some ⟨gr, 0, none⟩)) rfl; have s1 := hX.at 1 (u := .int .i64 (k : Int)) rfl; go_simp) ?_
      simp only [Act.put, List.setIfInBounds_toArray, List.set_cons_zero, List.set_cons_succ]
      refine wpAnyT_take 3 (some 14) (.pointer (some ⟨gr, 0, none⟩)) #[true, true, true, true, false, false, false, false, false, false, false, false, false, false, false] rfl rfl rfl (by kernel_rfl) (fun _ _ _ h => h) hS0 (by rfl) (fun W hX => by have s0 := hX.at 0 (u := .pointer (some ⟨gr, 0, none⟩)) rfl; have s1 := hX.at 1 (u := .int .i64 (k : Int)) rfl; go_simp) ?_
      simp only [Act.put, List.setIfInBounds_toArray, List.set_cons_zero, List.set_cons_succ]
      refine wpAnyT_take 4 (some 15) (.pointer (some ⟨r, 0, none⟩)) #[true, true, true, true, true, false, false, false, false, false, false, false, false, false, false] rfl rfl rfl (by kernel_rfl) (fun _ _ _ h => h) hS0 (by rfl) (fun W hX => by have s0 := hX.at 0 (u := .pointer (some ⟨gr, 0, none⟩)) rfl; have s1 := hX.at 1 (u := .int .i64 (k : Int)) rfl; go_simp) ?_
      simp only [Act.put, List.setIfInBounds_toArray, List.set_cons_zero, List.set_cons_succ]
      refine wpAnyT_take 5 (some 16) (.pointer (some ⟨r, 0, none⟩)) #[true, true, true, true, true, true, false, false, false, false, false, false, false, false, false] rfl rfl rfl (by kernel_rfl) (fun _ _ _ h => h) hS0 (by rfl) (fun W hX => by have s0 := hX.at 0 (u := .pointer (some ⟨gr, 0, none⟩)) rfl; have s1 := hX.at 1 (u := .int .i64 (k : Int)) rfl; go_simp) ?_
      simp only [Act.put, List.setIfInBounds_toArray, List.set_cons_zero, List.set_cons_succ]
      refine wpAnyT_take 6 (some 17) (.pointer (some ⟨r, 1, none⟩)) #[true, true, true, true, true, true, true, false, false, false, false, false, false, false, false] rfl rfl rfl (by kernel_rfl) (fun _ _ _ h => h) hS0 (by rfl) (fun W hX => by have s0 := hX.at 0 (u := .pointer (some ⟨gr, 0, none⟩)) rfl; have s1 := hX.at 1 (u := .int .i64 (k : Int)) rfl; go_simp) ?_
      simp only [Act.put, List.setIfInBounds_toArray, List.set_cons_zero, List.set_cons_succ]
      refine wpAnyT_take 7 (some 18) (.pointer (some ⟨r, 1, none⟩)) #[true, true, true, true, true, true, true, true, false, false, false, false, false, false, false] rfl rfl rfl (by kernel_rfl) (fun _ _ _ h => h) hS0 (by rfl) (fun W hX => by have s0 := hX.at 0 (u := .pointer (some ⟨gr, 0, none⟩)) rfl; have s1 := hX.at 1 (u := .int .i64 (k : Int)) rfl; go_simp) ?_
      simp only [Act.put, List.setIfInBounds_toArray, List.set_cons_zero, List.set_cons_succ]
      refine wpAnyT_take 8 (some 19) (.int .i64 (k : Int)) #[true, true, true, true, true, true, true, true, true, false, false, false, false, false, false] rfl rfl rfl (by kernel_rfl) (fun _ _ _ h => h) hS0 (by rfl) (fun W hX => by have s0 := hX.at 0 (u := .pointer (some ⟨gr, 0, none⟩)) rfl; have s1 := hX.at 1 (u := .int .i64 (k : Int)) rfl; go_simp) ?_
      simp only [Act.put, List.setIfInBounds_toArray, List.set_cons_zero, List.set_cons_succ]
      refine wpAnyT_only 9 #[true, true, true, true, true, true, true, true, true, true, false, false, false, false, false] (by kernel_rfl) rfl rfl (by rfl) (fun K0 hK0 => ?_)
      go_simp
      go_at_call 137
      refine CG.mono ?_
      rintro e wg ⟨rfl, hRg, hMg⟩
      refine hK0 _ _ (fun h => absurd h (by decide)) ?_
      clear hK0 K0
      refine wpAnyT_pure 10 (some 10) (.tuple #[.int .u64 (x : Int), .int .i64 E]) #[true, true, true, true, true, true, true, true, true, true, true, false, false, false, false] rfl rfl rfl (by kernel_rfl) (fun _ _ _ h => h) (fun h => absurd h (by decide)) (by rfl) (fun W => by go_simp) ?_
      simp only [Act.put, List.setIfInBounds_toArray, List.set_cons_zero, List.set_cons_succ]
      refine wpAnyT_pure 11 (some 21) (.int .u64 (x : Int)) #[true, true, true, true, true, true, true, true, true, true, true, true, false, false, false] rfl rfl rfl (by kernel_rfl) (fun _ _ _ h => h) (fun h => absurd h (by decide)) (by rfl) (fun W => by go_simp) ?_
      simp only [Act.put, List.setIfInBounds_toArray, List.set_cons_zero, List.set_cons_succ]
      refine wpAnyT_pure 12 (some 22) (.int .i64 E) #[true, true, true, true, true, true, true, true, true, true, true, true, true, false, false] rfl rfl rfl (by kernel_rfl) (fun _ _ _ h => h) (fun h => absurd h (by decide)) (by rfl) (fun W => by go_simp) ?_
      simp only [Act.put, List.setIfInBounds_toArray, List.set_cons_zero, List.set_cons_succ]
      refine wpAnyT_only 13 #[true, true, true, true, true, true, true, true, true, true, true, true, true, true, false] (by kernel_rfl) rfl rfl (by rfl) (fun K1 hK1 => ?_)
      go_simp
      refine hK1 _ _ (fun h => absurd h (by decide)) ?_
      clear hK1 K1
      refine wpAnyT_only 14 #[true, true, true, true, true, true, true, true, true, true, true, true, true, true, true] (by kernel_rfl) rfl rfl (by rfl) (fun K2 hK2 => ?_)
      go_simp
      refine hK2 _ _ (fun h => absurd h (by decide)) (wpAnyT_done (by kernel_rfl) ?_ _)
      clear hK2 K2
      have hSg := (hS.later (Ext.refl wr).drew).get hRg hMg
      clear CG hRg hMg hS0 hblk hS
      by_cases hE : E = 0
      case neg =>
        have hEb : (E != 0) = true := by rw [bne_iff_ne]; exact hE
        have HF := hide (show E = 1 ∧ 8 * b.length < n * k from HNo.out (fun h => hE (HYes.out h).1))
        have HX := hide hSg.ext
        clear HNo HYes hSg hE
        go_wp2
        go_ret
        exact .inl ⟨HF.out.2, by rw [HF.out.1]; rfl, HX.out⟩
      subst hE
      have HY := hide (HYes.out (Decidable.byContradiction fun h => by have := (HNo.out h).1; omega))
      have hq' := HY.out.2.1
      subst hq'
      have hxw : IntKind.i64.wrap (x : Int) = (x : Int) := wrapI64 (x : Int) (by omega) (by omega)
      have p2 := hSg.blk.at 2 (u := .slice A1 L.length c1) rfl
      have hEx := extNew wg (.cells #[.int .i64 (x : Int)] 3)
      have hSx := hSg.later hEx
      have hcx := (Whole.new wg 3 #[.int .i64 (x : Int)]).at 0 (u := .int .i64 (x : Int)) rfl
      have hOx := hSx.two.one
      have hle : r + 1 ≤ (wg.alloc (.cells #[.int .i64 (x : Int)] 3)).heap.size := by have := hSx.blk.lt; omega
      have hLm : L.length ≤ 1000000 := by rw [HLen.out]; omega
      have HSx := hide hSx
      have HBk := hide hSx.blk
      have hne := hSx.two.ne1 (g := r) (by omega)
      obtain ⟨L2, hL2⟩ : ∃ Z, Z = L ++ [(x : Int)] := ⟨_, rfl⟩
      have HL2 := hide hL2
      clear hL2 HNo HYes hSg hSx hEx
      go_wp2_with (first
        | (at_builtin; refine wpList_appIN rfl (.tmp 31) (.tmp 34) rfl rfl hOx rfl hcx hLm hle ?_; intro vn wa hO hG hN; rw [← HL2.out] at hO; have hWa := HBk.out.ownGrown hG hne; have HSl := hide (fun w2 => HSx.out.low (w2 := w2) hO hG hN); obtain ⟨A3, c3, hvn, -, -⟩ := hO.form; subst hvn; clear hO hG hN hcx hOx)
        | (refine wpList_storeC rfl 43 (.tmp 38) (.tmp 35) rfl #[.pointer (some ⟨gr, 0, none⟩), .int .i64 (k : Int), .slice A3 L2.length c3, v2] rfl rfl hWa (by simp) (by kernel_rfl) rfl rfl rfl ?_; intro ws hWs hGs; have hSs := HSl.out ws hWs hGs; clear hWs hGs HSl hWa))
      exact ⟨⟨i + 1, A3, c3, L2, by omega, by go_num, hSs, by rw [HL2.out, HLS.out, HL.out], HY.out.2.2⟩, by simp [intOf]; omega⟩
    · obtain rfl : n = i := by omega
      have HS := hide hS
      clear hS
      go_wp2
      go_ret
      refine .inr ⟨hik, rfl, A1, c1, ?_⟩
      have h1 := HS.out
      rw [HLen.out, HL.out] at h1
      exact h1

theorem Bit.val_none {f : Nat → Bool} {n : Nat} : Bit.val f n = 0 ↔ ∀ i, i < n → f i = false := by
  constructor
  · intro h i hi
    have := Bit.val_testBit f n i hi
    rw [h, Nat.zero_testBit] at this
    exact this.symm
  · intro h
    rw [Bit.val_congr (g := fun _ => false) n h, Bit.val_zero]
/-- What fill tells. -/
def FillTo (W : World) (gr r k q : Nat) (b : List UInt8) (v1 v2 : Value) (L H : List Int) (e : Ending) (w' : World) : Prop :=
  (padZ b q = true ∧ e = .returned (.int .i64 0) ∧ RSt W w' gr r k (8 * ((q + 7) / 8)) b v1 v2 L H) ∨ (padZ b q = false ∧ e = .returned (.int .i64 2) ∧ Ext W w')

set_option maxHeartbeats 2000000 in
set_option maxRecDepth 10000 in
theorem fill_any {W w0 : World} {gr r k q : Nat} {b : List UInt8} {v1 v2 : Value} {L H : List Int} (hS : RSt W w0 gr r k q b v1 v2 L H) (hq : q ≤ 8 * b.length) :
    Calls Tryz.prog 117 #[.pointer (some ⟨r, 0, none⟩)] w0 (FillTo W gr r k q b v1 v2 L H) := by
  obtain ⟨m, hm⟩ : ∃ m, m = (8 * b.length - q) % 8 := ⟨_, rfl⟩
  have hm7 : m < 8 := by omega
  have hmq : m = (8 - q % 8) % 8 := by omega
  have hrd := hS.rd
  have hle8 := hrd.cells.2.2.2
  have HG1 := hide (show Bit.getErr (8 * b.length - q) (m : Int) = 0 by unfold Bit.getErr; rw [if_pos ⟨by omega, by omega⟩, if_pos (by omega)])
  obtain ⟨x, hx⟩ : ∃ x, x = Bit.getNum b q (m : Int) := ⟨_, rfl⟩
  have HG2 := hide hx.symm
  have HG3 := hide (show Bit.getTo (8 * b.length - q) q (m : Int) = 8 * ((q + 7) / 8) by unfold Bit.getTo; rw [if_pos HG1.out, Int.toNat_natCast]; omega)
  have HPad := hide (show x = 0 ↔ padZ b q = true by
    have e : x = Bit.val (Bit.rest b q) m := by rw [hx]; unfold Bit.getNum; rw [if_pos HG1.out, Int.toNat_natCast]
    rw [e, Bit.val_none, hmq]
    unfold padZ Bit.rest
    rw [decide_eq_true_iff])
  have hxb : x < 18446744073709551616 := by
    have h1 := Bit.getNum_lt b q m
    have h2 : (2 : Nat) ^ m ≤ 2 ^ 8 := Nat.pow_le_pow_right (by omega) (by omega)
    omega
  have htm : ((8 * b.length - q : Nat) : Int).tmod 8 = (m : Int) := by rw [Int.tmod_eq_emod_of_nonneg (by omega)]; omega
  have hDm : 8 * b.length - q ≤ 8000000 := by omega
  have CL := left_any (hrd.ext (Ext.refl w0).drew)
  have hRd := hrd.ext (Ext.refl w0).drew
  have hblk := hS.blk
  have HS := hide hS
  obtain ⟨D, hD⟩ : ∃ D, D = 8 * b.length - q := ⟨_, rfl⟩
  rw [← hD] at CL htm hDm
  clear hx hm hmq hq hle8 hrd hS hD
  go_enter Tryz.func117, Tryz.ntmps117
  go_wp2_with fail
  refine wp_region_T (fun W => Whole W r 173 #[.pointer (some ⟨gr, 0, none⟩), .int .i64 (k : Int), v1, v2]) 10 16 #[false, false, false, false, false, false, false, false, false, false, false, false, false, false, false, false] (by kernel_rfl) rfl rfl hblk ?_
  intro hS0
  refine wpAnyT_take 0 (some 6) (.pointer (some ⟨r, 0, none⟩)) #[true, false, false, false, false, false, false, false, false, false, false, false, false, false, false, false] rfl rfl rfl (by kernel_rfl) (fun _ _ _ h => h) hS0 (by rfl) (fun W hX => by have s0 := hX.at 0 (u := .pointer (some ⟨gr, 0, none⟩)) rfl; have s1 := hX.at 1 (u := .int .i64 (k : Int)) rfl; go_simp) ?_
  simp only [Act.put, List.setIfInBounds_toArray, List.set_cons_zero, List.set_cons_succ]
  refine wpAnyT_take 1 (some 7) (.pointer (some ⟨r, 0, none⟩)) #[true, true, false, false, false, false, false, false, false, false, false, false, false, false, false, false] rfl rfl rfl (by kernel_rfl) (fun _ _ _ h => h) hS0 (by rfl) (fun W hX => by have s0 := hX.at 0 (u := .pointer (some ⟨gr, 0, none⟩)) rfl; have s1 := hX.at 1 (u := .int .i64 (k : Int)) rfl; go_simp) ?_
  simp only [Act.put, List.setIfInBounds_toArray, List.set_cons_zero, List.set_cons_succ]
  refine wpAnyT_take 2 (some 8) (.pointer (some ⟨r, 0, none⟩)) #[true, true, true, false, false, false, false, false, false, false, false, false, false, false, false, false] rfl rfl rfl (by kernel_rfl) (fun _ _ _ h => h) hS0 (by rfl) (fun W hX => by have s0 := hX.at 0 (u := .pointer (some ⟨gr, 0, none⟩)) rfl; have s1 := hX.at 1 (u := .int .i64 (k : Int)) rfl; go_simp) ?_
  simp only [Act.put, List.setIfInBounds_toArray, List.set_cons_zero, List.set_cons_succ]
  refine wpAnyT_take 3 (some 9) (.pointer (some ⟨gr, 0, none⟩)) #[true, true, true, true, false, false, false, false, false, false, false, false, false, false, false, false] rfl rfl rfl (by kernel_rfl) (fun _ _ _ h => h) hS0 (by rfl) (fun W hX => by have s0 := hX.at 0 (u := .pointer (some ⟨gr, 0, none⟩)) rfl; have s1 := hX.at 1 (u := .int .i64 (k : Int)) rfl; go_simp) ?_
  simp only [Act.put, List.setIfInBounds_toArray, List.set_cons_zero, List.set_cons_succ]
  refine wpAnyT_take 4 (some 10) (.pointer (some ⟨r, 0, none⟩)) #[true, true, true, true, true, false, false, false, false, false, false, false, false, false, false, false] rfl rfl rfl (by kernel_rfl) (fun _ _ _ h => h) hS0 (by rfl) (fun W hX => by have s0 := hX.at 0 (u := .pointer (some ⟨gr, 0, none⟩)) rfl; have s1 := hX.at 1 (u := .int .i64 (k : Int)) rfl; go_simp) ?_
  simp only [Act.put, List.setIfInBounds_toArray, List.set_cons_zero, List.set_cons_succ]
  refine wpAnyT_take 5 (some 11) (.pointer (some ⟨r, 0, none⟩)) #[true, true, true, true, true, true, false, false, false, false, false, false, false, false, false, false] rfl rfl rfl (by kernel_rfl) (fun _ _ _ h => h) hS0 (by rfl) (fun W hX => by have s0 := hX.at 0 (u := .pointer (some ⟨gr, 0, none⟩)) rfl; have s1 := hX.at 1 (u := .int .i64 (k : Int)) rfl; go_simp) ?_
  simp only [Act.put, List.setIfInBounds_toArray, List.set_cons_zero, List.set_cons_succ]
  refine wpAnyT_take 6 (some 12) (.pointer (some ⟨r, 0, none⟩)) #[true, true, true, true, true, true, true, false, false, false, false, false, false, false, false, false] rfl rfl rfl (by kernel_rfl) (fun _ _ _ h => h) hS0 (by rfl) (fun W hX => by have s0 := hX.at 0 (u := .pointer (some ⟨gr, 0, none⟩)) rfl; have s1 := hX.at 1 (u := .int .i64 (k : Int)) rfl; go_simp) ?_
  simp only [Act.put, List.setIfInBounds_toArray, List.set_cons_zero, List.set_cons_succ]
  refine wpAnyT_take 7 (some 13) (.pointer (some ⟨gr, 0, none⟩)) #[true, true, true, true, true, true, true, true, false, false, false, false, false, false, false, false] rfl rfl rfl (by kernel_rfl) (fun _ _ _ h => h) hS0 (by rfl) (fun W hX => by have s0 := hX.at 0 (u := .pointer (some ⟨gr, 0, none⟩)) rfl; have s1 := hX.at 1 (u := .int .i64 (k : Int)) rfl; go_simp) ?_
  simp only [Act.put, List.setIfInBounds_toArray, List.set_cons_zero, List.set_cons_succ]
  refine wpAnyT_only 8 #[true, true, true, true, true, true, true, true, true, false, false, false, false, false, false, false] (by kernel_rfl) rfl rfl (by rfl) (fun K0 hK0 => ?_)
  go_simp
  go_at_call 118
  refine CL.mono ?_
  rintro e wl ⟨rfl, hQl⟩
  have hSl := hS0.ext hQl.ext
  have hRl := hRd.ext hQl.ext
  have CG := get_any hRl (m : Int)
  rw [HG1.out, HG2.out, HG3.out] at CG
  clear CL
  refine hK0 _ _ (fun _ => hSl) ?_
  clear hK0 K0
  refine wpAnyT_take 9 (some 15) (.int .i64 (m : Int)) #[true, true, true, true, true, true, true, true, true, true, false, false, false, false, false, false] rfl rfl rfl (by kernel_rfl) (fun _ _ _ h => h) hSl (by rfl) (fun W hX => by have s0 := hX.at 0 (u := .pointer (some ⟨gr, 0, none⟩)) rfl; have s1 := hX.at 1 (u := .int .i64 (k : Int)) rfl; go_simp) ?_
  simp only [Act.put, List.setIfInBounds_toArray, List.set_cons_zero, List.set_cons_succ]
  refine wpAnyT_only 10 #[true, true, true, true, true, true, true, true, true, true, true, false, false, false, false, false] (by kernel_rfl) rfl rfl (by rfl) (fun K1 hK1 => ?_)
  go_simp
  go_at_call 137
  refine CG.mono ?_
  rintro e wg ⟨rfl, hRg, hMg⟩
  refine hK1 _ _ (fun h => absurd h (by decide)) ?_
  clear hK1 K1
  refine wpAnyT_pure 11 (some 5) (.tuple #[.int .u64 (x : Int), .int .i64 0]) #[true, true, true, true, true, true, true, true, true, true, true, true, false, false, false, false] rfl rfl rfl (by kernel_rfl) (fun _ _ _ h => h) (fun h => absurd h (by decide)) (by rfl) (fun W => by go_simp) ?_
  simp only [Act.put, List.setIfInBounds_toArray, List.set_cons_zero, List.set_cons_succ]
  refine wpAnyT_pure 12 (some 17) (.int .u64 (x : Int)) #[true, true, true, true, true, true, true, true, true, true, true, true, true, false, false, false] rfl rfl rfl (by kernel_rfl) (fun _ _ _ h => h) (fun h => absurd h (by decide)) (by rfl) (fun W => by go_simp) ?_
  simp only [Act.put, List.setIfInBounds_toArray, List.set_cons_zero, List.set_cons_succ]
  refine wpAnyT_pure 13 (some 18) (.int .i64 0) #[true, true, true, true, true, true, true, true, true, true, true, true, true, true, false, false] rfl rfl rfl (by kernel_rfl) (fun _ _ _ h => h) (fun h => absurd h (by decide)) (by rfl) (fun W => by go_simp) ?_
  simp only [Act.put, List.setIfInBounds_toArray, List.set_cons_zero, List.set_cons_succ]
  refine wpAnyT_only 14 #[true, true, true, true, true, true, true, true, true, true, true, true, true, true, true, false] (by kernel_rfl) rfl rfl (by rfl) (fun K2 hK2 => ?_)
  go_simp
  refine hK2 _ _ (fun h => absurd h (by decide)) ?_
  clear hK2 K2
  refine wpAnyT_only 15 #[true, true, true, true, true, true, true, true, true, true, true, true, true, true, true, true] (by kernel_rfl) rfl rfl (by rfl) (fun K3 hK3 => ?_)
  go_simp
  refine hK3 _ _ (fun h => absurd h (by decide)) (wpAnyT_done (by kernel_rfl) ?_ _)
  clear hK3 K3
  have hSg := (((HS.out.later (Ext.refl w0).drew).later hQl.ext).get hRg hMg)
  have HSg := hide hSg
  clear hS0 hSl hRd hRl hQl CG hRg hMg hblk hSg HG1 HG2 HG3
  by_cases h0 : x = 0
  · have hxe : ((x : Int) != 0) = false := by subst h0; rfl
    have HP := hide (HPad.out.1 h0)
    clear h0 HPad
    go_wp2
    go_ret
    exact .inl ⟨HP.out, rfl, HSg.out⟩
  · have hxe : ((x : Int) != 0) = true := by rw [bne_iff_ne]; omega
    have HP := hide (show padZ b q = false by
      cases hp : padZ b q with
      | false => rfl
      | true => exact absurd (HPad.out.2 hp) h0)
    clear h0 HPad
    go_wp2
    go_ret
    exact .inr ⟨HP.out, rfl, HSg.out.ext⟩
end Go.Proofs.YtcphapdjimeoaaaGreat

namespace Go.Proofs.YtcphapdjimeoaaaGreat
open Go.RowKit Num Ef

theorem RSt.range {W w : World} {gr r k q : Nat} {b : List UInt8} {v1 v2 : Value} {L H : List Int} (h : RSt W w gr r k q b v1 v2 L H) : w.rangeAt r 1 [.int .i64 (k : Int), v1, v2] := by
  intro j v hv
  match j, hv with
  | 0, hv => exact h.blk.at 1 hv
  | 1, hv => exact h.blk.at 2 hv
  | 2, hv => exact h.blk.at 3 hv
  | j + 3, hv => simp at hv
theorem parts_infoL (a b c : Value) : (Tryz.prog.info? 119).map (·.size) = some [a, b, c].length := parts_info
/-- What takeHigh tells. -/
def HighsTo (W : World) (gr r k n : Nat) (b : List UInt8) (v1 : Value) (L : List Int) (R : List Int × Nat × Int) (e : Ending) (w' : World) : Prop :=
  (R.2.2 ≠ 0 ∧ e = .returned (.int .i64 R.2.2) ∧ Ext W w') ∨
  (R.2.2 = 0 ∧ e = .returned (.int .i64 0) ∧ ∃ A2 c2 H, RSt W w' gr r k R.2.1 b v1 (.slice A2 n c2) L H ∧ Ef.Parts k R.1 L H ∧ H.length = n ∧ R.2.1 ≤ 8 * b.length)
theorem Ef.ahead_iff {out : List Int} {id : Nat} : (id : Int) ≤ aheadOf out out.length ↔ 0 < out.length ∧ (id : Int) ≤ out.getD (out.length - 1) 0 := by
  unfold aheadOf
  by_cases h : out.length = 0
  · rw [if_pos h, h]
    constructor
    · intro h; omega
    · intro h; exact absurd h.1 (by omega)
  · rw [if_neg h]
    exact ⟨fun h2 => ⟨by omega, h2⟩, fun h2 => h2.2⟩
theorem Ef.ahead_snoc (out : List Int) (x : Int) : aheadOf (out ++ [x]) (out.length + 1) = x := by
  rw [aheadOf_succ, getD_last]

set_option maxHeartbeats 4000000 in
set_option maxRecDepth 10000 in
theorem takeHigh_any {W w0 : World} {gr r k : Nat} {b : List UInt8} {A1 : Option Addr} {c1 n : Nat} (hS : RSt W w0 gr r k (n * k) b (.slice A1 n c1) (.slice none 0 0) (lowsOf b k n) []) (bound : Int) (hn : n ≤ 20000) (hk : k ≤ 14) (hb : b.length ≤ 100000) (hnk : n * k ≤ 8 * b.length) :
    Calls Tryz.prog 116 #[.pointer (some ⟨r, 0, none⟩), .int .i64 bound, .int .i64 (n : Int)] w0 (HighsTo W gr r k n b (.slice A1 n c1) (lowsOf b k n) (readH b k bound n (n * k) 0 [])) := by
  have HL0 := hide (lowsOf_len b k n)
  have HLat := hide (fun (i : Nat) (hi : i < n) => (⟨lowsOf_at b (k := k) hi, Bit.getNum_lt b (i * k) k⟩ : (lowsOf b k n).getD i 0 = ((Bit.getNum b (i * k) (k : Int) : Nat) : Int) ∧ Bit.getNum b (i * k) (k : Int) < 2 ^ k))
  generalize lowsOf b k n = L at *
  obtain ⟨R, hR⟩ : ∃ R, R = readH b k bound n (n * k) 0 [] := ⟨_, rfl⟩
  rw [← hR]
  have HB := hide hb
  have HR0 := hide hR
  have HS0 := hide hS
  have HNK := hide hnk
  clear hS hb hR hnk
  go_enter Tryz.func116, Tryz.ntmps116
  go_wp2_with fail
  go_loopw [14, 7, 8] (fun x y z wr => ∃ (i h p : Nat) (A2 : Option Addr) (c2 : Nat) (H out : List Int), i ≤ n ∧ x = .int .i64 (i : Int) ∧ y = .int .i64 (h : Int) ∧ z = .int .i64 (aheadOf out out.length) ∧ RSt W wr gr r k p b (.slice A1 n c1) (.slice A2 H.length c2) L H ∧ Ef.Parts k out L H ∧ out.length = i ∧ p ≤ 8 * b.length ∧ h ≤ p ∧ R = readH b k bound (n - i) p h out) (fun x _ _ _ => n - (intOf x).toNat)
  case atStart => exact ⟨0, 0, n * k, none, 0, [], [], by omega, rfl, rfl, rfl, HS0.out, Ef.Parts.nil hk L, rfl, HNK.out, by omega, HR0.out⟩
  case round =>
    clear HS0 HR0 HNK
    obtain ⟨i, h, p, A2, c2, H, out, hi, rfl, rfl, rfl, hS, hP, hol, hp, hhp, hR⟩ := hrel
    have HP := hide hP
    have HOl := hide hol
    have HRd := hide hR
    have HPp := hide hp
    have HHl := hide (show H.length = i by rw [← hP.2.1, hol])
    clear hP hol hR hp
    by_cases hlt : i < n
    · have hiI : (i : Int) < (n : Int) := by omega
      have CU := runary_any hS.rd
      have p0 := hS.blk.at 0 (u := .pointer (some ⟨gr, 0, none⟩)) rfl
      have HNext := hide (show readH b k bound (n - i) p h out = readH b k bound (n - i - 1 + 1) p h out by rw [show n - i - 1 + 1 = n - i by omega])
      have HBad := hide (show Bit.unErr b p ≠ 0 → Bit.unErr b p = 1 ∧ R = ([], p, 1) from fun h => by
        refine ⟨by unfold Bit.unErr at h ⊢; split at h <;> rename_i h9 <;> simp_all, ?_⟩
        rw [HRd.out, HNext.out, readH, if_pos h])
      have HUn := hide (fun h => Bit.un_sub (l := b) (q := p) h)
      obtain ⟨hLi, hLx⟩ := HLat.out i hlt
      have HGo := hide (show Bit.unErr b p = 0 → R = (if 0 < out.length ∧ (((h + Bit.unNum b p) * 2 ^ k + Bit.getNum b (i * k) (k : Int) : Nat) : Int) ≤ out.getD (out.length - 1) 0 then ([], p, 2)
          else if bound ≤ (((h + Bit.unNum b p) * 2 ^ k + Bit.getNum b (i * k) (k : Int) : Nat) : Int) then ([], p, 8)
          else readH b k bound (n - i - 1) (Bit.unTo b p) (h + Bit.unNum b p) (out ++ [(((h + Bit.unNum b p) * 2 ^ k + Bit.getNum b (i * k) (k : Int) : Nat) : Int)])) from fun h => by
        rw [HRd.out, HNext.out, readH, if_neg (by rw [h]; simp), HOl.out])
      have HX := hide (And.intro hLi hLx)
      clear hLi hLx HNext HRd
      generalize Bit.getNum b (i * k) (k : Int) = x at *
      generalize Bit.unNum b p = u at *
      generalize Bit.unErr b p = E at *
      generalize Bit.unTo b p = p' at *
      have HS := hide hS
      have HHp := hide hhp
      clear hS hhp
      go_wp2_with fail
      refine CU.mono ?_
      rintro e wg ⟨rfl, hRg, hMg⟩
      have hSg := HS.out.get hRg hMg
      clear CU hRg hMg p0 HS
      by_cases hE : E = 0
      case neg =>
        have hEb : (E != 0) = true := by rw [bne_iff_ne]; exact hE
        have HF := hide (HBad.out hE)
        have HX2 := hide hSg.ext
        clear HBad HUn HGo hSg hE
        go_wp2
        go_ret
        exact .inl (by rw [HF.out.2, HF.out.1]; exact ⟨by simp, rfl, HX2.out⟩)
      subst hE
      have HU2 := hide (HUn.out rfl)
      have HG2 := hide (HGo.out rfl)
      have hhm : h + u ≤ 800000 := by
        have h1 := HU2.out.1
        have h2 := HU2.out.2.1
        have h3 := HHp.out
        have h4 := HB.out
        omega
      clear HBad HUn HGo
      obtain ⟨h', hh'⟩ : ∃ h', h' = h + u := ⟨_, rfl⟩
      have hhI : (h : Int) + (u : Int) = (h' : Int) := by omega
      rw [← hh'] at HG2 hhm
      obtain ⟨id, hid⟩ : ∃ id, id = h' * 2 ^ k + x := ⟨_, rfl⟩
      rw [← hid] at HG2
      have HId := hide hid
      have HHh := hide hh'
      have p3 := hSg.blk.at 3 (u := .slice A2 H.length c2) rfl
      have hEx := extNew wg (.cells #[.int .i64 (h' : Int)] 3)
      have hSx := hSg.later hEx
      have hcx := (Whole.new wg 3 #[.int .i64 (h' : Int)]).at 0 (u := .int .i64 (h' : Int)) rfl
      have hOx := hSx.two.two
      have hle : r + 1 ≤ (wg.alloc (.cells #[.int .i64 (h' : Int)] 3)).heap.size := by have := hSx.blk.lt; omega
      have hLm : H.length ≤ 1000000 := by rw [HHl.out]; omega
      have HSx := hide hSx
      have HBk := hide hSx.blk
      have hne := hSx.two.ne2 (g := r) (by omega)
      obtain ⟨H2, hH2⟩ : ∃ Z, Z = H ++ [(h' : Int)] := ⟨_, rfl⟩
      have HH2 := hide hH2
      have hbig : h + u ≤ 800000 := by omega
      clear hH2 hSg hSx hEx hid hh'
      go_wp2_with (first
        | (at_builtin; refine wpList_appIN rfl (.tmp 36) (.tmp 38) rfl rfl hOx rfl hcx hLm hle ?_; intro vn wa hO hG hN; rw [← HH2.out] at hO; have hWa := HBk.out.ownGrown hG hne; have HSl := hide (fun w2 => HSx.out.high (w2 := w2) hO hG hN); obtain ⟨A3, c3, hvn, -, -⟩ := hO.form; subst hvn; clear hO hG hN hcx hOx)
        | (refine wpList_storeC rfl 43 (.tmp 42) (.tmp 39) rfl #[.pointer (some ⟨gr, 0, none⟩), .int .i64 (k : Int), .slice A1 n c1, .slice A3 H2.length c3] rfl rfl hWa (by simp) (by kernel_rfl) rfl rfl rfl ?_; intro ws hWs hGs; have hSs := HSl.out ws hWs hGs; clear hWs hGs HSl hWa)
        | (refine wpList_load_mid rfl 119 (.tmp 45) rfl r 1 rfl [.int .i64 (k : Int), .slice A1 n c1, .slice A3 H2.length c3] _ hSs.range Tryz.underlying119 rfl (parts_infoL ..) ?_))
      have i1 := hSs.two.one.at
      have i2 := hSs.two.two.at
      rw [HL0.out] at i1
      have HP2 := hide (show Ef.Parts k (out ++ [(id : Int)]) L H2 by
        rw [HH2.out, HId.out]
        exact HP.out.high (by rw [HOl.out, HL0.out]; exact hlt) (by rw [HOl.out]; exact HX.out.1) HX.out.2 (by omega))
      have C3 := efNumber_any (c1 := c1) (c2 := c3) (w := ws) (i := i) (k := k) (A1 := A1) (n1 := n) (A2 := A3) (n2 := H2.length) (ids := out ++ [(id : Int)]) ⟨⟨L, H2, i1, i2, HP2.out⟩⟩ (by rw [List.length_append, HOl.out]; exact Nat.lt_succ_self i)
      rw [show (out ++ [(id : Int)]).getD i 0 = (id : Int) by rw [← HOl.out]; exact getD_last _ _] at C3
      have HSs := hide hSs
      have HAi := hide (ahead_iff (out := out) (id := id))
      have HAs := hide (show aheadOf (out ++ [(id : Int)]) (out ++ [(id : Int)]).length = (id : Int) by rw [List.length_append]; exact ahead_snoc _ _)
      clear i1 i2 hSs hle hLm hne hbig hhI hhm
      refine C3.mono ?_
      rintro e w5 ⟨rfl, hE5⟩
      have HS5 := hide (HSs.out.later hE5)
      clear C3 HSs hE5
      generalize aheadOf out out.length = z at *
      by_cases g1 : (id : Int) ≤ z
      · have HF := hide (show R = ([], p, 2) by rw [HG2.out, if_pos (HAi.out.1 g1)])
        have HX5 := hide HS5.out.ext
        clear HG2
        go_wp2
        go_ret
        exact .inl (by rw [HF.out]; exact ⟨by simp, rfl, HX5.out⟩)
      · have HG3 := HG2.out
        rw [if_neg (fun h => g1 (HAi.out.2 h))] at HG3
        by_cases g2 : bound ≤ (id : Int)
        · rw [if_pos g2] at HG3
          have HF := hide HG3
          have HX5 := hide HS5.out.ext
          clear HG2 HG3
          go_wp2
          go_ret
          exact .inl (by rw [HF.out]; exact ⟨by simp, rfl, HX5.out⟩)
        · rw [if_neg g2] at HG3
          have HF := hide HG3
          clear HG2 HG3
          go_wp2
          go_roundw
          case rel => exact ⟨i + 1, h', p', A3, c3, H2, out ++ [(id : Int)], by omega, by go_num, rfl, by rw [HAs.out], HS5.out, HP2.out, by rw [List.length_append, HOl.out]; rfl, HU2.out.2.1, by have := HU2.out.1; have := HHp.out; have := HHh.out; omega, by rw [show n - (i + 1) = n - i - 1 by omega]; exact HF.out⟩
          case measure => simp [intOf]; omega
    · obtain rfl : n = i := by omega
      have HF := hide (show R = (out, p, 0) by rw [HRd.out, Nat.sub_self, readH])
      have HS := hide hS
      clear HRd hS
      go_wp2
      go_ret
      refine .inr (by rw [HF.out]; exact ⟨rfl, rfl, A2, c2, H, by have := HS.out; rwa [HHl.out] at this, HP.out, HHl.out, HPp.out⟩)
end Go.Proofs.YtcphapdjimeoaaaGreat

namespace Go.Proofs.YtcphapdjimeoaaaGreat
open Go.RowKit Num Ef

theorem results_row3 {fn : Func} {p u v : Tmp} {ty : TypeId} (h : fn.results = #[.cell p ty, .tmp u, .tmp v]) (tmps : Array Value) {w : World} {g : Nat} {cs : Array Value} {x y : Value} (hp : tmps.getD p undef = .pointer (some ⟨g, 0, none⟩)) (hx : tmps.getD u undef = x) (hy : tmps.getD v undef = y)
    (hl : (loadVar ty ⟨g, 0, none⟩).run Tryz.prog w = .ok (.agg cs) w) : (results fn tmps).run Tryz.prog w = .ok (.tuple #[.agg cs, x, y]) w := by
  have e : (results fn tmps).run Tryz.prog w = ((asAddr (tmps.getD p undef)).run Tryz.prog w).andThen fun a w₁ => ((loadVar ty a).run Tryz.prog w₁).andThen fun z w₂ => .ok (.tuple #[z, tmps.getD u undef, tmps.getD v undef]) w₂ := by
    simp only [results, h]
    simp [Sem.run_bind, Result.andThen]
  rw [e, hp, hx, hy]
  simp [asAddr, Result.andThen, hl]
theorem exec_load_mid {a : Act} {oi : Oper} {W : World} (ty : TypeId) (x : Operand) (ho : oi.op = .load ty x) (b o : Nat) (hx : a.eval x = .pointer (some ⟨b, o, none⟩)) (cs : List Value) {d : TypeDesc} (hc : W.rangeAt b o cs)
    (hu : Tryz.prog.underlying ty = some d) (hd : d.isRow = true) (hi : (Tryz.prog.info? ty).map (·.size) = some cs.length) : (execOp a.eval oi).run Tryz.prog W = .ok (.value (.agg cs.toArray)) W := by
  unfold execOp
  simp only [ho, hx, Instr.loadAt, Instr.sureAddr, Sem.run_bind, Sem.run_pure, Result.andThen_ok, run_loadVar_mid W b o ty cs d hc hu hd hi]
theorem wpOper_putW {op : Oper} {a : Act} {w : World} {K : Act → World → Prop} {Q : Exit → Act → World → Prop} (ty : TypeId) (x y : Operand) (ho : op.op = .store ty x y)
    {g : Nat} {t : TypeId} {cs cells : Array Value} (hx : a.eval x = .pointer (some ⟨g, 0, none⟩)) (hy : a.eval y = .agg cells) (hw : Whole w g t cs) (hs : cells.size = cs.size)
    (hi : (Tryz.prog.info? ty).map (·.size) = some cells.size) (h1 : cells.all (·.oneCell') = true)
    (h : ∀ w', Whole w' g t cells → w.grownBy w' (some g) → K (a.put op.dst undef) w') : Oper.wp Tryz.prog op a w K Q := by
  refine wp_store_mid ty x y ho g 0 cells hx hy (fun j hj => ?_) hi h1 (h _ (hw.storeAll hs) (setCells_grown g _ _ _).1)
  rw [Nat.zero_add]
  refine ⟨?_, hw.frozen j⟩
  rw [hw.cell j, Array.getElem?_eq_getElem (by omega)]
  rfl
theorem whole_range {w : World} {r : Nat} {t : TypeId} {p a b c : Value} (h : Whole w r t #[p, a, b, c]) : w.rangeAt r 1 [a, b, c] := by
  intro j v hv
  match j, hv with
  | 0, hv => exact h.at 1 hv
  | 1, hv => exact h.at 2 hv
  | 2, hv => exact h.at 3 hv
  | j + 3, hv => simp at hv
/-- How many bytes a row takes at most: some number. -/
def MostTo (w : World) (e : Ending) (w' : World) : Prop := (∃ m : Nat, m ≤ 100000 ∧ e = .returned (.int .i64 (m : Int))) ∧ Qt w w'

set_option maxHeartbeats 1000000 in
set_option maxRecDepth 10000 in
theorem efMost_any (bd n : Nat) (w : World) (hb : bd ≤ 20000) (hn : n ≤ 20000) : Calls Tryz.prog 95 #[.int .i64 (bd : Int), .int .i64 (n : Int)] w (MostTo w) := by
  have CL := efLow_any bd n w hb hn
  have hk14 := widE_le (bound := (bd : Int)) (n := n) (by omega)
  generalize widE (bd : Int) n = k at *
  obtain ⟨z, hz⟩ : ∃ z, z = bd / 2 ^ k := ⟨_, rfl⟩
  have hshr : (bd : Int) / 2 ^ k = (z : Int) := by rw [hz]; simp only [Int.natCast_ediv, Int.natCast_pow]; rfl
  have hz2 : z ≤ 20000 := by rw [hz]; exact Nat.le_trans (Nat.div_le_self _ _) hb
  obtain ⟨y, hy⟩ : ∃ y, y = n * k := ⟨_, rfl⟩
  have hmul : (n : Int) * (k : Int) = (y : Int) := by rw [hy]; push_cast; rfl
  have hy2 : y ≤ 280000 := by rw [hy]; exact Nat.le_trans (Nat.mul_le_mul hn hk14) (by omega)
  clear hz hy
  go_enter Tryz.func95, Tryz.ntmps95
  go_wp2_with fail
  refine CL.mono ?_
  rintro e w2 ⟨rfl, hQ⟩
  clear CL
  go_wp2
  go_ret
  exact ⟨⟨(y + z + n + 8 - 1) / 8, by omega, ret_i64 (by omega)⟩, hQ⟩

theorem Ef.readP_eq (l : List UInt8) (bound : Int) (n : Nat) : readP l bound n = readN l bound n := by
  unfold readP
  split
  · rename_i h
    subst h
    unfold readN
    rw [Nat.zero_mul, if_neg (by omega), readH, if_neg (by simp)]
    have hp : padZ l 0 = true := decide_eq_true fun i hi => by omega
    rw [hp, if_neg (by simp)]
    rfl
  · rfl
/-- What a slice reads lies in blocks from lo on. -/
def LowS (lo : Nat) (A : Option Addr) : Prop := ∀ b o, A = some ⟨b, o, none⟩ → lo ≤ b
theorem OwnI.low {w : World} {base n c : Nat} {A : Option Addr} {L : List Int} (h : OwnI w base (.slice A n c) L) : LowS base A := by
  intro b o hA
  rcases h.2 with ⟨hv, _⟩ | ⟨g, cap, cur, hv, hb, _⟩
  · simp only [Value.slice.injEq] at hv
    rw [hv.1] at hA
    cases hA
  · simp only [Value.slice.injEq] at hv
    rw [hv.1] at hA
    injection hA with hA
    injection hA with hA
    omega
theorem IntsAt.off {w w' : World} {B n R : Nat} {A : Option Addr} {L : List Int} (h : IntsAt w B A n L) (hG : w.grownBy w' (some R)) (hl : LowS (R + 1) A) : IntsAt w' B A n L :=
  ⟨h.1, h.2.imp_right fun ⟨b, o, hA, hB, hc⟩ => ⟨b, o, hA, hB, fun i hi => (World.cell?_of_block (a := ⟨b, o + i, none⟩) (hG.block b (World.block_lt_of_cell? w _ (hc i hi)) (by have := hl b o hA; simp; omega))).trans (hc i hi)⟩⟩
theorem IntsAt.wide {w : World} {B C n : Nat} {A : Option Addr} {L : List Int} (h : IntsAt w B A n L) (hC : B ≤ C) : IntsAt w C A n L :=
  ⟨h.1, h.2.imp_right fun ⟨b, o, hA, hB, hc⟩ => ⟨b, o, hA, Nat.lt_of_lt_of_le hB hC, hc⟩⟩
/-- What readAll and readParts tell. -/
def AllPTo (W : World) (k n : Nat) (P : List Int × Nat × Int) (e : Ending) (w' : World) : Prop :=
  Ext W w' ∧ (P.2.2 = 0 → ∃ A1 c1 A2 c2, e = .returned (.tuple #[.agg #[.int .i64 (k : Int), .slice A1 n c1, .slice A2 n c2], .int .i64 (P.2.1 : Int), .int .i64 0]) ∧ PartsV w' w'.heap.size k A1 n A2 n P.1 ∧ P.1.length = n ∧ LowS W.heap.size A1 ∧ LowS W.heap.size A2) ∧
    (P.2.2 ≠ 0 → e = .returned (.tuple #[.agg #[.int .i64 0, .slice none 0 0, .slice none 0 0], .int .i64 0, .int .i64 P.2.2]))

set_option maxHeartbeats 4000000 in
set_option maxRecDepth 10000 in
theorem readAll_any (A : Option Addr) (N c : Nat) (b : List UInt8) (bd n : Nat) (w0 : World) (hc : N ≤ c) (hNb : N ≤ 100000) (hB : Bytes w0 w0.heap.size A N b) (hb : bd ≤ 20000) (hn : n ≤ 20000) :
    Calls Tryz.prog 96 #[.int .i64 (bd : Int), .int .i64 (n : Int), .slice A N c] w0 (AllPTo w0 (widE (bd : Int) n) n (readP b (bd : Int) n)) := by
  rw [readP_eq]
  have hl := hB.1
  have hk14 := widE_le (bound := (bd : Int)) (n := n) (by omega)
  have CL := fun W => efLow_any bd n W hb hn
  have HShort := hide (show 8 * b.length < n * widE (bd : Int) n → readN b (bd : Int) n = ([], 0, 1) from fun h => by unfold readN; rw [if_pos h])
  have HHigh := hide (show n * widE (bd : Int) n ≤ 8 * b.length → (readH b (widE (bd : Int) n) (bd : Int) n (n * widE (bd : Int) n) 0 []).2.2 ≠ 0 → readN b (bd : Int) n = ([], 0, (readH b (widE (bd : Int) n) (bd : Int) n (n * widE (bd : Int) n) 0 []).2.2) from fun h h2 => by
    unfold readN; rw [if_neg (by omega), if_pos h2])
  have HPad := hide (show n * widE (bd : Int) n ≤ 8 * b.length → (readH b (widE (bd : Int) n) (bd : Int) n (n * widE (bd : Int) n) 0 []).2.2 = 0 → padZ b (readH b (widE (bd : Int) n) (bd : Int) n (n * widE (bd : Int) n) 0 []).2.1 = false → readN b (bd : Int) n = ([], 0, 2) from fun h h2 h3 => by
    unfold readN; rw [if_neg (by omega), if_neg (by rw [h2]; simp), if_pos h3])
  have HGood := hide (show n * widE (bd : Int) n ≤ 8 * b.length → (readH b (widE (bd : Int) n) (bd : Int) n (n * widE (bd : Int) n) 0 []).2.2 = 0 → padZ b (readH b (widE (bd : Int) n) (bd : Int) n (n * widE (bd : Int) n) 0 []).2.1 = true → readN b (bd : Int) n = ((readH b (widE (bd : Int) n) (bd : Int) n (n * widE (bd : Int) n) 0 []).1, ((readH b (widE (bd : Int) n) (bd : Int) n (n * widE (bd : Int) n) 0 []).2.1 + 7) / 8, 0) from fun h h2 h3 => by
    unfold readN; rw [if_neg (by omega), if_neg (by rw [h2]; simp), if_neg (by rw [h3]; simp)])
  generalize widE (bd : Int) n = k at *
  generalize readN b (bd : Int) n = res at *
  have hE1 := extNew w0 (.cells #[.int .i64 0, .slice none 0 0, .slice none 0 0] 119)
  have hR1 := Whole.new w0 119 #[.int .i64 0, .slice none 0 0, .slice none 0 0]
  obtain ⟨w1, hw1⟩ : ∃ W, W = w0.alloc (.cells #[.int .i64 0, .slice none 0 0, .slice none 0 0] 119) := ⟨_, rfl⟩
  obtain ⟨g, hg⟩ : ∃ g, g = w0.heap.size := ⟨_, rfl⟩
  rw [← hw1, ← hg] at hR1
  rw [← hw1] at hE1
  have C1 := newReader_any A N c b w1 hc (by omega) (hE1.bytes hB)
  have HW1 := hide hw1
  have HG := hide hg
  have HE1 := hide hE1
  have HR1 := hide hR1
  have HL := hide hl
  clear hB hw1 hg hE1 hR1 hl
  go_enter Tryz.func96, Tryz.ntmps96
  go_wp2_with fail
  rw [← HW1.out, ← HG.out]
  refine C1.mono ?_
  rintro e w2 ⟨gr, rfl, hR2, hE2⟩
  have HR2 := hide hR2
  clear C1 hR2
  go_wp2_with fail
  refine (CL _).mono ?_
  rintro e w3 ⟨rfl, hQ3⟩
  have hE3 := hE2.trans hQ3.ext
  have hR3 := HR2.out.ext hQ3.ext
  have hgl := hR3.lt
  clear CL hE2 hQ3 HR2
  have hWx := Whole.new w3 173 #[.pointer (some ⟨gr, 0, none⟩), .int .i64 (k : Int), .slice none 0 0, .slice none 0 0]
  have hEx := extNew w3 (.cells #[.pointer (some ⟨gr, 0, none⟩), .int .i64 (k : Int), .slice none 0 0, .slice none 0 0] 173)
  have hS0 : RSt w1 _ gr w3.heap.size k 0 b (.slice none 0 0) (.slice none 0 0) [] [] := ⟨hR3.ext hEx, hWx, TwoI.nil _ _, hgl, hE3.trans hEx⟩
  have C2 := takeLow_any hS0 n hn hk14 (by have := HL.out; omega)
  clear hR3 hE3 hWx hEx hS0 hgl
  go_wp2_with fail
  refine C2.mono ?_
  rintro e w4 h4
  clear C2
  generalize w3.heap.size = r at *
  rcases h4 with ⟨h1, rfl, hE4⟩ | ⟨h1, rfl, A1, c1, hS4⟩
  · have HF := hide (HShort.out h1)
    have hR4 := HR1.out.ext hE4
    have HEx := hide (HE1.out.trans hE4)
    have hgw : w0.heap.size ≤ g := by rw [HG.out]; exact Nat.le_refl _
    clear h1 HShort HHigh HPad HGood hE4
    go_wp2_with (refine wpList_storeW rfl 119 (.tmp 6) (.tmp 26) rfl rfl rfl hR4 rfl parts_info (parts_one ..) ?_; intro w9 hW9 hG9 hS9; clear hS9)
    refine bodyPost_ret (results_row3 rfl _ rfl rfl rfl (run_loadVar_row _ _ _ _ _ _ _ hW9 Tryz.underlying119 rfl parts_info)) rfl ?_
    rw [HF.out]
    exact ⟨Below.grown HEx.out hG9 HEx.out.le (fun k hk => by cases hk; exact hgw), fun h => absurd h (by simp), fun _ => rfl⟩
  have C3 := takeHigh_any hS4 (bd : Int) hn hk14 (by have := HL.out; omega) h1
  have HNk := hide h1
  clear h1 hS4 HShort
  go_wp2_with fail
  refine C3.mono ?_
  rintro e w5 h5
  clear C3
  generalize readH b k (bd : Int) n (n * k) 0 [] = R at *
  obtain ⟨out, p, E⟩ := R
  dsimp only at h5 HHigh HPad HGood
  rcases h5 with ⟨h1, rfl, hE5⟩ | ⟨h1, rfl, A2, c2, H, hS5, hP5, hH5, hp5⟩
  · dsimp only at h1
    have HF := hide (HHigh.out HNk.out h1)
    have hEb : (E != 0) = true := by rw [bne_iff_ne]; exact h1
    have HH1 := hide h1
    have hR4 := HR1.out.ext hE5
    have HEx := hide (HE1.out.trans hE5)
    have hgw : w0.heap.size ≤ g := by rw [HG.out]; exact Nat.le_refl _
    clear h1 HHigh HPad HGood hE5
    go_wp2_with (refine wpList_storeW rfl 119 (.tmp 6) (.tmp 34) rfl rfl rfl hR4 rfl parts_info (parts_one ..) ?_; intro w9 hW9 hG9 hS9; clear hS9)
    refine bodyPost_ret (results_row3 rfl _ rfl rfl rfl (run_loadVar_row _ _ _ _ _ _ _ hW9 Tryz.underlying119 rfl parts_info)) rfl ?_
    rw [HF.out]
    exact ⟨Below.grown HEx.out hG9 HEx.out.le (fun k hk => by cases hk; exact hgw), fun h => absurd h HH1.out, fun _ => rfl⟩
  dsimp only at h1 hS5 hP5 hp5
  subst h1
  have C4 := fill_any hS5 hp5
  have HP5 := hide hP5
  have HH5 := hide hH5
  have Hp5 := hide hp5
  clear hS5 hP5 hH5 hp5 HHigh
  go_wp2_with fail
  refine C4.mono ?_
  rintro e w6 h6
  clear C4
  rcases h6 with ⟨h1, rfl, hS6⟩ | ⟨h1, rfl, hE6⟩
  case inr =>
    have HF := hide (HPad.out HNk.out trivial h1)
    have hR4 := HR1.out.ext hE6
    have HEx := hide (HE1.out.trans hE6)
    have hgw : w0.heap.size ≤ g := by rw [HG.out]; exact Nat.le_refl _
    clear h1 HPad HGood hE6
    go_wp2_with (refine wpList_storeW rfl 119 (.tmp 6) (.tmp 40) rfl rfl rfl hR4 rfl parts_info (parts_one ..) ?_; intro w9 hW9 hG9 hS9; clear hS9)
    refine bodyPost_ret (results_row3 rfl _ rfl rfl rfl (run_loadVar_row _ _ _ _ _ _ _ hW9 Tryz.underlying119 rfl parts_info)) rfl ?_
    rw [HF.out]
    exact ⟨Below.grown HEx.out hG9 HEx.out.le (fun k hk => by cases hk; exact hgw), fun h => absurd h (by simp), fun _ => rfl⟩
  have HF := hide (HGood.out HNk.out trivial h1)
  obtain ⟨long, hlong⟩ : ∃ z, z = (p + 7) / 8 := ⟨_, rfl⟩
  rw [← hlong] at hS6 HF
  have hpl := Hp5.out
  have HLg := hide (show long ≤ b.length by omega)
  have hrl := HL.out
  obtain ⟨m, hm⟩ : ∃ m, m = b.length - long := ⟨_, rfl⟩
  obtain ⟨D, hD⟩ : ∃ D, D = 8 * b.length - 8 * long := ⟨_, rfl⟩
  have hq1 : (D : Int).tdiv 8 = (m : Int) := by rw [Int.tdiv_eq_ediv_of_nonneg (by omega)]; omega
  have hq2 : (D : Int) / 8 = (m : Int) := by omega
  have hDm : D ≤ 8000000 := by omega
  have hmN : m ≤ N := by omega
  have hsub : IntKind.i64.wrap ((N : Int) - (m : Int)) = (long : Int) := by rw [IntKind.wrap_i64]; omega
  have hwm : IntKind.i64.wrap (m : Int) = (m : Int) := by rw [IntKind.wrap_i64]; omega
  have hblk := hS6.blk
  have CL := left_any (hS6.later (Ext.refl _).drew).rd
  rw [← hD] at CL
  have HS4 := hide hS6
  have hR5 := (HR1.out.ext hS6.ext).ext (Ext.refl _).drew
  clear h1 HPad HGood hlong hpl hrl hm hD hS6
  go_wp2_with fail
  refine wp_region_T (fun W => Whole W r 173 #[.pointer (some ⟨gr, 0, none⟩), .int .i64 (k : Int), .slice A1 n c1, .slice A2 n c2]) 13 16 #[false, false, false, false, false, false, false, false, false, false, false, false, false, false, false, false] (by kernel_rfl) rfl rfl hblk ?_
  intro hS0
  refine wpAnyT_take 0 (some 42) (.pointer (some ⟨r, 0, none⟩)) #[true, false, false, false, false, false, false, false, false, false, false, false, false, false, false, false] rfl rfl rfl (by kernel_rfl) (fun _ _ _ h => h) hS0 (by rfl) (fun W hX => by have s0 := hX.at 0 (u := .pointer (some ⟨gr, 0, none⟩)) rfl; have s1 := hX.at 1 (u := .int .i64 (k : Int)) rfl; go_simp) ?_
  simp only [Act.put, List.setIfInBounds_toArray, List.set_cons_zero, List.set_cons_succ]
  refine wpAnyT_take 1 (some 43) (.pointer (some ⟨r, 0, none⟩)) #[true, true, false, false, false, false, false, false, false, false, false, false, false, false, false, false] rfl rfl rfl (by kernel_rfl) (fun _ _ _ h => h) hS0 (by rfl) (fun W hX => by have s0 := hX.at 0 (u := .pointer (some ⟨gr, 0, none⟩)) rfl; have s1 := hX.at 1 (u := .int .i64 (k : Int)) rfl; go_simp) ?_
  simp only [Act.put, List.setIfInBounds_toArray, List.set_cons_zero, List.set_cons_succ]
  refine wpAnyT_take 2 (some 44) (.pointer (some ⟨r, 1, none⟩)) #[true, true, true, false, false, false, false, false, false, false, false, false, false, false, false, false] rfl rfl rfl (by kernel_rfl) (fun _ _ _ h => h) hS0 (by rfl) (fun W hX => by have s0 := hX.at 0 (u := .pointer (some ⟨gr, 0, none⟩)) rfl; have s1 := hX.at 1 (u := .int .i64 (k : Int)) rfl; go_simp) ?_
  simp only [Act.put, List.setIfInBounds_toArray, List.set_cons_zero, List.set_cons_succ]
  refine wpAnyT_take 3 (some 45) (.agg #[.int .i64 (k : Int), .slice A1 n c1, .slice A2 n c2]) #[true, true, true, true, false, false, false, false, false, false, false, false, false, false, false, false] rfl rfl rfl (by kernel_rfl) (fun _ _ _ h => h) hS0 (by rfl) (fun W hX => by exact exec_load_mid 119 (.tmp 44) rfl r 1 rfl [.int .i64 (k : Int), .slice A1 n c1, .slice A2 n c2] (whole_range hX) Tryz.underlying119 rfl (parts_infoL ..)) ?_
  simp only [Act.put, List.setIfInBounds_toArray, List.set_cons_zero, List.set_cons_succ]
  refine wpAnyT_pure 4 (some 46) (.slice A N c) #[true, true, true, true, true, false, false, false, false, false, false, false, false, false, false, false] rfl rfl rfl (by kernel_rfl) (fun _ _ _ h => h) (fun _ => hS0) (by rfl) (fun W => by go_simp) ?_
  simp only [Act.put, List.setIfInBounds_toArray, List.set_cons_zero, List.set_cons_succ]
  refine wpAnyT_pure 5 (some 47) (.int .i64 (N : Int)) #[true, true, true, true, true, true, false, false, false, false, false, false, false, false, false, false] rfl rfl rfl (by kernel_rfl) (fun _ _ _ h => h) (fun _ => hS0) (by rfl) (fun W => by go_simp) ?_
  simp only [Act.put, List.setIfInBounds_toArray, List.set_cons_zero, List.set_cons_succ]
  refine wpAnyT_take 6 (some 48) (.pointer (some ⟨r, 0, none⟩)) #[true, true, true, true, true, true, true, false, false, false, false, false, false, false, false, false] rfl rfl rfl (by kernel_rfl) (fun _ _ _ h => h) hS0 (by rfl) (fun W hX => by have s0 := hX.at 0 (u := .pointer (some ⟨gr, 0, none⟩)) rfl; have s1 := hX.at 1 (u := .int .i64 (k : Int)) rfl; go_simp) ?_
  simp only [Act.put, List.setIfInBounds_toArray, List.set_cons_zero, List.set_cons_succ]
  refine wpAnyT_take 7 (some 49) (.pointer (some ⟨r, 0, none⟩)) #[true, true, true, true, true, true, true, true, false, false, false, false, false, false, false, false] rfl rfl rfl (by kernel_rfl) (fun _ _ _ h => h) hS0 (by rfl) (fun W hX => by have s0 := hX.at 0 (u := .pointer (some ⟨gr, 0, none⟩)) rfl; have s1 := hX.at 1 (u := .int .i64 (k : Int)) rfl; go_simp) ?_
  simp only [Act.put, List.setIfInBounds_toArray, List.set_cons_zero, List.set_cons_succ]
  refine wpAnyT_take 8 (some 50) (.pointer (some ⟨r, 0, none⟩)) #[true, true, true, true, true, true, true, true, true, false, false, false, false, false, false, false] rfl rfl rfl (by kernel_rfl) (fun _ _ _ h => h) hS0 (by rfl) (fun W hX => by have s0 := hX.at 0 (u := .pointer (some ⟨gr, 0, none⟩)) rfl; have s1 := hX.at 1 (u := .int .i64 (k : Int)) rfl; go_simp) ?_
  simp only [Act.put, List.setIfInBounds_toArray, List.set_cons_zero, List.set_cons_succ]
  refine wpAnyT_take 9 (some 51) (.pointer (some ⟨gr, 0, none⟩)) #[true, true, true, true, true, true, true, true, true, true, false, false, false, false, false, false] rfl rfl rfl (by kernel_rfl) (fun _ _ _ h => h) hS0 (by rfl) (fun W hX => by have s0 := hX.at 0 (u := .pointer (some ⟨gr, 0, none⟩)) rfl; have s1 := hX.at 1 (u := .int .i64 (k : Int)) rfl; go_simp) ?_
  simp only [Act.put, List.setIfInBounds_toArray, List.set_cons_zero, List.set_cons_succ]
  refine wpAnyT_only 10 #[true, true, true, true, true, true, true, true, true, true, true, false, false, false, false, false] (by kernel_rfl) rfl rfl (by rfl) (fun K0 hK0 => ?_)
  go_simp
  go_at_call 118
  refine CL.mono ?_
  rintro e wl ⟨rfl, hQl⟩
  have hSl := hS0.ext hQl.ext
  have HSl := hide ((HS4.out.later (Ext.refl _).drew).later hQl.ext)
  have hRl := hR5.ext hQl.ext
  clear CL
  refine hK0 _ _ (fun _ => hSl) ?_
  clear hK0 K0
  refine wpAnyT_pure 11 (some 53) (.int .i64 (m : Int)) #[true, true, true, true, true, true, true, true, true, true, true, true, false, false, false, false] rfl rfl rfl (by kernel_rfl) (fun _ _ _ h => h) (fun _ => hSl) (by rfl) (fun W => by go_simp) ?_
  simp only [Act.put, List.setIfInBounds_toArray, List.set_cons_zero, List.set_cons_succ]
  refine wpAnyT_pure 12 (some 54) (.int .i64 (long : Int)) #[true, true, true, true, true, true, true, true, true, true, true, true, true, false, false, false] rfl rfl rfl (by kernel_rfl) (fun _ _ _ h => h) (fun _ => hSl) (by rfl) (fun W => by go_simp) ?_
  simp only [Act.put, List.setIfInBounds_toArray, List.set_cons_zero, List.set_cons_succ]
  refine wpAnyT_only 13 #[true, true, true, true, true, true, true, true, true, true, true, true, true, true, false, false] (by kernel_rfl) rfl rfl (by rfl) (fun K1 hK1 => ?_)
  refine wpOper_putW 119 (.tmp 6) (.tmp 45) rfl rfl rfl hRl rfl parts_info (parts_one ..) ?_
  intro w9 hW9 hG9
  simp only [Act.put]
  refine hK1 _ _ (fun h => absurd h (by decide)) ?_
  clear hK1 K1
  refine wpAnyT_only 14 #[true, true, true, true, true, true, true, true, true, true, true, true, true, true, true, false] (by kernel_rfl) rfl rfl (by rfl) (fun K2 hK2 => ?_)
  go_simp
  refine hK2 _ _ (fun h => absurd h (by decide)) ?_
  clear hK2 K2
  refine wpAnyT_only 15 #[true, true, true, true, true, true, true, true, true, true, true, true, true, true, true, true] (by kernel_rfl) rfl rfl (by rfl) (fun K3 hK3 => ?_)
  go_simp
  refine hK3 _ _ (fun h => absurd h (by decide)) (wpAnyT_done (by kernel_rfl) ?_ _)
  clear hK3 K3
  have hgw : w0.heap.size ≤ g := by rw [HG.out]; exact Nat.le_refl _
  have hEl := HE1.out.trans HSl.out.ext
  have hgr : g < r + 1 := by
    have h1 := HR1.out.lt
    have h2 := HSl.out.rd.le
    have h3 := HSl.out.lt
    omega
  have hT9 := HSl.out.two.below hG9 hgr
  have HE9 := hide (show Ext w0 w9 from Below.grown hEl hG9 hEl.le (fun k hk => by cases hk; exact hgw))
  have i1 := hT9.one.at
  have i2 := hT9.two.at
  have HL1 := hide hT9.one.low
  have HL2 := hide hT9.two.low
  have HRr := hide (show w0.heap.size ≤ r + 1 by omega)
  rw [lowsOf_len] at i1
  rw [HH5.out] at i2
  have HPV := hide (show PartsV w9 w9.heap.size k A1 n A2 n out from ⟨⟨_, _, i1, i2, HP5.out⟩⟩)
  have HLo := hide (show out.length = n by rw [HP5.out.2.1, HH5.out])
  clear hS0 hSl hRl hQl hblk hR5 hEl hgr hT9 i1 i2 hG9
  go_wp2
  refine bodyPost_ret (results_row3 rfl _ rfl rfl rfl (run_loadVar_row _ _ _ _ _ _ _ hW9 Tryz.underlying119 rfl parts_info)) rfl ?_
  rw [HF.out]
  exact ⟨HE9.out, fun _ => ⟨A1, c1, A2, c2, rfl, HPV.out, HLo.out, fun b o h => Nat.le_trans HRr.out (HL1.out b o h), fun b o h => Nat.le_trans HRr.out (HL2.out b o h)⟩, fun h => absurd rfl h⟩
end Go.Proofs.YtcphapdjimeoaaaGreat

namespace Go.Proofs.YtcphapdjimeoaaaGreat
open Go.RowKit Num Ef

/-- What was told stays so, where what is told is carried over into an older block of the call's own. -/
theorem AllPTo.form {W w' : World} {k n : Nat} {P : List Int × Nat × Int} {e : Ending} (h : AllPTo W k n P e w') :
    ∃ (kk : Int) (B1 : Option Addr) (m1 d1 : Nat) (B2 : Option Addr) (m2 d2 : Nat) (l : Int), e = .returned (.tuple #[.agg #[.int .i64 kk, .slice B1 m1 d1, .slice B2 m2 d2], .int .i64 l, .int .i64 P.2.2]) ∧ Ext W w' ∧
      ∀ (W0 wm w9 : World) (R : Nat), Ext W0 w9 → W0.heap.size ≤ W.heap.size → R < W.heap.size → Ext w' wm → wm.grownBy w9 (some R) →
        AllPTo W0 k n P (.returned (.tuple #[.agg #[.int .i64 kk, .slice B1 m1 d1, .slice B2 m2 d2], .int .i64 l, .int .i64 P.2.2])) w9 := by
  obtain ⟨hE, hyes, hno⟩ := h
  by_cases h0 : P.2.2 = 0
  · obtain ⟨A1, c1, A2, c2, rfl, hV, hl, l1, l2⟩ := hyes h0
    refine ⟨(k : Int), A1, n, c1, A2, n, c2, (P.2.1 : Int), by rw [h0], hE, fun W0 wm w9 R h9 hs hR hm hG => ⟨h9, fun _ => ⟨A1, c1, A2, c2, by rw [h0], ?_, hl, fun b o e => Nat.le_trans hs (l1 b o e), fun b o e => Nat.le_trans hs (l2 b o e)⟩, fun h => absurd h0 h⟩⟩
    obtain ⟨L, H, i1, i2, hP⟩ := (hV.ext hm).ex
    exact ⟨L, H, (i1.off hG (fun b o e => by have := l1 b o e; omega)).wide hG.size, (i2.off hG (fun b o e => by have := l2 b o e; omega)).wide hG.size, hP⟩
  · have := hno h0
    subst this
    exact ⟨0, none, 0, 0, none, 0, 0, 0, rfl, hE, fun W0 wm w9 R h9 _ _ _ _ => ⟨h9, fun h => absurd h h0, fun _ => rfl⟩⟩
theorem AllPTo.same {W w' : World} {k n : Nat} {P P' : List Int × Nat × Int} {e : Ending} (h : AllPTo W k n P e w') (e' : P = P') : AllPTo W k n P' e w' := e' ▸ h

set_option maxHeartbeats 4000000 in
set_option maxRecDepth 10000 in
theorem readParts_any (A : Option Addr) (N c : Nat) (b : List UInt8) (bd n : Nat) (w0 : World) (hc : N ≤ c) (hNb : N ≤ 100000) (hB : Bytes w0 w0.heap.size A N b) (hb : bd ≤ 20000) (hn : n ≤ 20000) :
    Calls Tryz.prog 64 #[.int .i64 (bd : Int), .int .i64 (n : Int), .slice A N c] w0 (AllPTo w0 (widE (bd : Int) n) n (readP b (bd : Int) n)) := by
  have CM := fun W => efMost_any bd n W hb hn
  have hE1 := extNew w0 (.cells #[.int .i64 0, .slice none 0 0, .slice none 0 0] 119)
  have hR1 := Whole.new w0 119 #[.int .i64 0, .slice none 0 0, .slice none 0 0]
  obtain ⟨w1, hw1⟩ : ∃ W, W = w0.alloc (.cells #[.int .i64 0, .slice none 0 0, .slice none 0 0] 119) := ⟨_, rfl⟩
  obtain ⟨g, hg⟩ : ∃ g, g = w0.heap.size := ⟨_, rfl⟩
  rw [← hw1, ← hg] at hR1
  rw [← hw1] at hE1
  have HW1 := hide hw1
  have HG := hide hg
  have HE1 := hide hE1
  have HR1 := hide hR1
  have HB := hide hB
  clear hw1 hg hE1 hR1 hB
  go_enter Tryz.func64, Tryz.ntmps64
  go_wp2_with fail
  rw [← HW1.out, ← HG.out]
  refine (CM _).mono ?_
  rintro e w2 ⟨⟨m, hm, rfl⟩, hQ2⟩
  have hE2 := HE1.out.trans hQ2.ext
  have hR2 := HR1.out.ext hQ2.ext
  have HgR := hide hR2.lt
  have HE2 := hide hE2
  have HR2 := hide hR2
  have hgw : w0.heap.size ≤ g := by rw [HG.out]; exact Nat.le_refl _
  clear CM hQ2 hE2 hR2 HE1 HR1
  have CA := fun W (hE : Ext w2 W) => readAll_any A N c b bd n W hc hNb (HB.out.below (C := w0.heap.size) (HE2.out.trans hE) (Nat.le_refl _) |>.mono (HE2.out.trans hE).le) hb hn
  by_cases hlt : m < N
  · have hltI : (m : Int) < (N : Int) := by omega
    have kc := fun W => run_headB W A N c .i64 (m : Int) (by omega) (by omega)
    have C1 := readAll_any (cutAt A c 0) m c (b.take m) bd n w2 (by omega) (by omega) (bytes_head ((HB.out.below (C := w0.heap.size) HE2.out (Nat.le_refl _)).mono HE2.out.le) (by omega) hc) hb hn
    have HT := hide (fun h => readP_take (l := b) (m := m) (n := n) (bound := (bd : Int)) (by omega) h)
    generalize readP (b.take m) (bd : Int) n = P1 at *
    simp only [Int.toNat_natCast] at kc
    go_wp2_with fail
    refine C1.mono ?_
    rintro e w3 h3
    obtain ⟨kk, B1, m1, d1, B2, m2, d2, l, rfl, hE3, hF3⟩ := h3.form
    have HF3 := hide hF3
    have hR3 := HR2.out.ext hE3
    clear C1 hF3 h3 kc
    obtain ⟨E1, hE1⟩ : ∃ E, E = P1.2.2 := ⟨_, rfl⟩
    rw [← hE1] at HF3 ⊢
    have HEE := hide hE1
    clear hE1
    have hW3 := Whole.new w3 119 #[.int .i64 0, .slice none 0 0, .slice none 0 0]
    have hX3 := extNew w3 (.cells #[.int .i64 0, .slice none 0 0, .slice none 0 0] 119)
    have hRx := hR3.ext hX3
    have hg3 := hR3.lt
    obtain ⟨g3, hgg⟩ : ∃ x, x = w3.heap.size := ⟨_, rfl⟩
    rw [← hgg] at hW3 hg3
    have HGG := hide hgg
    have HX3 := hide hX3
    have HE3 := hide hE3
    clear hgg hR3 hX3 hE3
    by_cases h1 : E1 = 1
    case neg =>
      have hb1 : (E1 != 1) = true := by rw [bne_iff_ne]; exact h1
      have HP := hide (HT.out (by rw [← HEE.out]; exact h1))
      clear h1 HT CA
      go_wp2_with (first
        | (refine wpList_storeW rfl 119 (.tmp 10) (.tmp 27) rfl (by rw [HGG.out]; rfl) rfl hW3 rfl parts_info (parts_one ..) ?_; intro w5 hW5 hG5 hS5; clear hS5; have hR5 := hRx.grown hG5 (by omega); have hX5 := hide (show Ext w3 w5 from Below.grown HX3.out hG5 HX3.out.le (fun k hk => by cases hk; rw [HGG.out]; exact Nat.le_refl _)); clear hW3 hG5 hRx)
        | (refine wpList_load_row rfl 119 (.tmp 10) rfl g3 (by rw [HGG.out]; rfl) _ _ _ _ hW5 Tryz.underlying119 rfl parts_info ?_)
        | (refine wpList_storeW rfl 119 (.tmp 6) (.tmp 32) rfl rfl rfl hR5 rfl parts_info (parts_one ..) ?_; intro w9 hW9 hG9 hS9; clear hS9))
      refine bodyPost_ret (results_row3 rfl _ rfl rfl rfl (run_loadVar_row _ _ _ _ _ _ _ hW9 Tryz.underlying119 rfl parts_info)) rfl ?_
      have hEs := (HE2.out.trans HE3.out).trans hX5.out
      rw [HP.out]
      exact HF3.out w0 w5 w9 g (Below.grown hEs hG9 hEs.le (fun k hk => by cases hk; exact hgw)) HE2.out.le HgR.out hX5.out hG9
    subst h1
    clear HT HF3 HEE
    go_wp2_with (refine wpList_storeW rfl 119 (.tmp 10) (.tmp 27) rfl (by rw [HGG.out]; rfl) rfl hW3 rfl parts_info (parts_one ..) ?_; intro w5 hW5 hG5 hS5; clear hS5; have hR5 := hRx.grown hG5 (by omega); have hX5 := hide (show Ext w3 w5 from Below.grown HX3.out hG5 HX3.out.le (fun k hk => by cases hk; rw [HGG.out]; exact Nat.le_refl _)); clear hW3 hG5 hRx)
    refine (CA _ (HE3.out.trans hX5.out)).mono ?_
    rintro e w6 h6
    clear CA
    obtain ⟨kk2, B3, m3, d3, B4, m4, d4, l2, rfl, hE6, hF6⟩ := h6.form
    have HF6 := hide hF6
    have hR6 := hR5.ext hE6
    have HE6 := hide hE6
    clear hF6 h6 hR5 hE6
    go_wp2_with (refine wpList_storeW rfl 119 (.tmp 6) (.tmp 39) rfl rfl rfl hR6 rfl parts_info (parts_one ..) ?_; intro w9 hW9 hG9 hS9; clear hS9)
    refine bodyPost_ret (results_row3 rfl _ rfl rfl rfl (run_loadVar_row _ _ _ _ _ _ _ hW9 Tryz.underlying119 rfl parts_info)) rfl ?_
    have hEs := ((HE2.out.trans HE3.out).trans hX5.out).trans HE6.out
    exact HF6.out w0 w6 w9 g (Below.grown hEs hG9 hEs.le (fun k hk => by cases hk; exact hgw)) ((HE2.out.trans HE3.out).trans hX5.out).le (Nat.lt_of_lt_of_le HgR.out (HE3.out.trans hX5.out).le) (Ext.refl _) hG9
  · have hltI : ¬ (m : Int) < (N : Int) := by omega
    have C6 := CA w2 (Ext.refl _)
    clear CA
    go_wp2_with fail
    refine C6.mono ?_
    rintro e w6 h6
    clear C6
    obtain ⟨kk2, B3, m3, d3, B4, m4, d4, l2, rfl, hE6, hF6⟩ := h6.form
    have HF6 := hide hF6
    have hR6 := HR2.out.ext hE6
    have HE6 := hide hE6
    clear hF6 h6 hE6
    go_wp2_with (refine wpList_storeW rfl 119 (.tmp 6) (.tmp 39) rfl rfl rfl hR6 rfl parts_info (parts_one ..) ?_; intro w9 hW9 hG9 hS9; clear hS9)
    refine bodyPost_ret (results_row3 rfl _ rfl rfl rfl (run_loadVar_row _ _ _ _ _ _ _ hW9 Tryz.underlying119 rfl parts_info)) rfl ?_
    have hEs := HE2.out.trans HE6.out
    exact HF6.out w0 w6 w9 g (Below.grown hEs hG9 hEs.le (fun k hk => by cases hk; exact hgw)) HE2.out.le HgR.out (Ext.refl _) hG9
end Go.Proofs.YtcphapdjimeoaaaGreat

namespace Go.Proofs.YtcphapdjimeoaaaGreat
open Go.RowKit Num Ef

/-- What the parts of a row are. -/
theorem Ef.parts_are {k : Nat} {ids L H : List Int} {bound : Int} (hP : Ef.Parts k ids L H) (hr : row bound ids = true) (hb : bound ≤ 20000) {i : Nat} (hi' : i < ids.length) :
    ∃ h x : Nat, H.getD i 0 = (h : Int) ∧ L.getD i 0 = (x : Int) ∧ x < 2 ^ k ∧ (ids.getD i 0).toNat % 2 ^ k = x ∧ hi k ids i = h ∧ was k ids i ≤ h ∧ h ≤ 20000 ∧ (ids.getD i 0).toNat / 2 ^ k = h := by
  obtain ⟨h, x, e1, e2, hx, _, e3⟩ := hP.2.2.2 i hi'
  have hw := was_le (w := k) hr hi'
  have hlt := (row_at hr hi').2.1
  have e4 : (ids.getD i 0).toNat = h * 2 ^ k + x := by rw [e3]; exact Int.toNat_natCast _
  have d1 : (h * 2 ^ k + x) / 2 ^ k = h := by rw [Nat.mul_comm, Nat.mul_add_div (Nat.pow_pos (by omega)), Nat.div_eq_of_lt hx, Nat.add_zero]
  have d2 : (h * 2 ^ k + x) % 2 ^ k = x := by rw [Nat.mul_comm, Nat.mul_add_mod, Nat.mod_eq_of_lt hx]
  have e5 : hi k ids i = h := by unfold hi; rw [e4, d1]
  rw [e5] at hw
  have hle : h ≤ h * 2 ^ k := Nat.le_mul_of_pos_right _ (Nat.pow_pos (by omega))
  exact ⟨h, x, e1, e2, hx, by rw [e4, d2], e5, hw, by omega, by rw [e4, d1]⟩
theorem Ef.was_le_20000 {k : Nat} {ids : List Int} {bound : Int} (hr : row bound ids = true) (hb : bound ≤ 20000) {i : Nat} (hi' : i ≤ ids.length) : was k ids i ≤ 20000 := by
  unfold was hi
  split
  · omega
  · have := (row_at hr (i := i - 1) (by omega)).2.1
    exact Nat.le_trans (Nat.div_le_self _ _) (by omega)

set_option maxHeartbeats 2000000 in
set_option maxRecDepth 10000 in
theorem efBytes_any {k : Nat} {A1 : Option Addr} {c1 : Nat} {A2 : Option Addr} {c2 : Nat} {ids : List Int} {bound : Int} (w : World) (h : PartsV w w.heap.size k A1 ids.length A2 ids.length ids) (hn : ids.length ≤ 20000) (hr : row bound ids = true) (hb : bound ≤ 20000) :
    Calls Tryz.prog 77 #[partsV k A1 ids.length c1 A2 ids.length c2] w (MadeB w (Bit.pack (bitsE k ids))) := by
  obtain ⟨L, H, h1, h2, hP⟩ := h.ex
  have hk14 := hP.1
  have HAt := hide (fun (i : Nat) (hi' : i < ids.length) => parts_are hP hr hb hi')
  have HWas := hide (fun (i : Nat) (hi' : i ≤ ids.length) => was_le_20000 (k := k) hr hb hi')
  have HLow := hide (show ∀ i, i ≤ ids.length → (lowTo k ids i).length ≤ 300000 from fun i hi' => by
    rw [lowTo_len]
    exact Nat.le_trans (Nat.mul_le_mul (show i ≤ 20000 by omega) hk14) (by omega))
  have HHigh := hide (show ∀ i, i ≤ ids.length → (highTo k ids i).length ≤ 40000 from fun i hi' => by
    rw [highTo_len hr i hi']
    have := HWas.out i hi'
    omega)
  have HB := hide (show lowTo k ids ids.length ++ highTo k ids ids.length = bitsE k ids from rfl)
  have H1 := hide h1
  have H2 := hide h2
  unfold partsV
  generalize bitsE k ids = BE at *
  generalize ids.length = n at *
  clear h h1 h2 hP hr hb
  obtain ⟨gb, hgb⟩ : ∃ g, g = w.heap.size := ⟨_, rfl⟩
  have hWb := Whole.new w 119 #[.int .i64 (k : Int), .slice A1 n c1, .slice A2 n c2]
  have hEb := extNew w (.cells #[.int .i64 (k : Int), .slice A1 n c1, .slice A2 n c2] 119)
  obtain ⟨w1, hw1⟩ : ∃ W, W = w.alloc (.cells #[.int .i64 (k : Int), .slice A1 n c1, .slice A2 n c2] 119) := ⟨_, rfl⟩
  obtain ⟨g, hg⟩ : ∃ g, g = w1.heap.size := ⟨_, rfl⟩
  have hWr := Wrt.new w1
  have hE2 := extNew w1 (.cells #[.slice none 0 0, .int .i64 0] 156)
  obtain ⟨w2, hw2⟩ : ∃ W, W = w1.alloc (.cells #[.slice none 0 0, .int .i64 0] 156) := ⟨_, rfl⟩
  rw [← hw1] at hWb hEb
  rw [← hw2] at hE2 hWr
  rw [← hgb] at hWb
  have hgl := hWb.lt
  have hW2 := hWb.ext hE2
  have hE := hEb.trans hE2
  rw [← hg] at hWr hgl
  have hs2 := hE2.le
  rw [← hg] at hs2
  have p1 := hW2.at 1 (u := .slice A1 n c1) rfl
  have HE := hide hE
  have HW := hide hW2
  have HWr := hide hWr
  have HG1 := hide hgb
  have hgw : w.heap.size < g := by omega
  have HW1 := hide hw1
  have HW2 := hide hw2
  have HG := hide hg
  clear hEb hE2 hWb hE hW2 hWr hgb hw1 hw2 hg
  go_enter Tryz.func77, Tryz.ntmps77
  go_wp2_with fail
  rw [← HW1.out, ← HW2.out, ← HG1.out, show gb + 1 = g by rw [HG.out, HW1.out, HG1.out]; simp]
  have HExt := hide (show ∀ W, Below g w2 W → Ext w W from fun W hB => Below.trans HE.out (Below.mono hB (Nat.le_of_lt hgw)))
  clear HW1 HW2 HG p1
  go_loopw [12] (fun x wr => ∃ (i : Nat) (ob : Option Nat), i ≤ n ∧ x = .int .i64 (i : Int) ∧ Wrt wr g g ob (lowTo k ids i) ∧ Below g w2 wr) (fun x _ => n - (intOf x).toNat)
  case atStart => exact ⟨0, none, by omega, rfl, HWr.out, Below.refl _ _⟩
  case round =>
    clear HWr
    obtain ⟨i, ob, hi, rfl, hR, hM⟩ := hrel
    have hWw := HW.out.below hM hgl
    by_cases hlt : i < n
    · have hiI : (i : Int) < (n : Int) := by omega
      rcases (H1.out.later (HExt.out wr hM)).2 with h9 | ⟨b1, o1, rfl, _, hc1⟩
      · omega
      have e1 := hc1 i hlt
      obtain ⟨h, x, _, hx, hxk, hmod, -⟩ := HAt.out i hlt
      rw [hx] at e1
      have p0 := hWw.at 0 (u := .int .i64 (k : Int)) rfl
      have C4 := put_any hR x (k : Int) (by have := HLow.out i hi; omega)
      have hx14 : x < 16384 := Nat.lt_of_lt_of_le hxk (Nat.le_trans (Nat.pow_le_pow_right (by omega) hk14) (by decide))
      rw [Ef.put_num (by omega) hxk, show lowTo k ids i ++ Bit.num x k = lowTo k ids (i + 1) by rw [lowTo_succ, hmod]] at C4
      have hxu : IntKind.u64.wrap (x : Int) = (x : Int) := by rw [IntKind.wrap_u64]; omega
      generalize Bit.putErr x (k : Int) = E2 at C4
      have HR := hide hR
      have HM := hide hM
      clear hc1 hx hxk hmod hR hM hWw
      go_wp2_with fail
      refine C4.mono ?_
      rintro e wc ⟨rfl, obc, hRc, -, hMc⟩
      have hBc : Below g w2 wc := Below.trans HM.out (hMc.below (B := g) (Nat.le_of_lt HR.out.lt) (Nat.le_refl _) (fun k hk => (HR.out.ob k hk).1))
      clear C4 p0 e1
      go_wp2
      go_roundw
      case rel => exact ⟨i + 1, obc, by omega, by go_num, hRc, hBc⟩
      case measure => simp [intOf]; omega
    · obtain rfl : n = i := by omega
      have p2 := hWw.at 2 (u := .slice A2 n c2) rfl
      have HRn := hide hR
      have HMn := hide hM
      clear hR hM hWw
      go_wp2
      go_loopw [6, 25] (fun x y wr => ∃ (i : Nat) (ob : Option Nat), i ≤ n ∧ x = .int .i64 (was k ids i : Int) ∧ y = .int .i64 (i : Int) ∧ Wrt wr g g ob (lowTo k ids n ++ highTo k ids i) ∧ Below g w2 wr) (fun _ y _ => n - (intOf y).toNat)
      case atStart => exact ⟨0, ob, by omega, rfl, rfl, by simpa [highTo] using HRn.out, HMn.out⟩
      case round =>
        clear HRn HMn p2
        obtain ⟨i, ob, hi, rfl, rfl, hR, hM⟩ := hrel
        by_cases hlt : i < n
        · have hiI : (i : Int) < (n : Int) := by omega
          rcases (H2.out.later (HExt.out _ hM)).2 with h9 | ⟨b1, o1, rfl, _, hc1⟩
          · omega
          have e1 := hc1 i hlt
          obtain ⟨h, x, hh, _, _, _, hhi, hwas, hh2, hdiv⟩ := HAt.out i hlt
          rw [hh] at e1
          have HS := hide (highTo_succ k ids i)
          have HWs := hide (show was k ids (i + 1) = h by rw [was_succ, hdiv])
          rw [hhi] at HS
          obtain ⟨a, ha⟩ : ∃ a, a = was k ids i := ⟨_, rfl⟩
          rw [← ha] at hwas HS ⊢
          have hdI : (h : Int) - (a : Int) = ((h - a : Nat) : Int) := by omega
          have C4 := unary_any hR ((h - a : Nat) : Int) (by rw [List.length_append]; have := HLow.out n (Nat.le_refl _); have := HHigh.out i hi; omega)
          rw [Ef.un_num (by omega), List.append_assoc, ← HS.out] at C4
          generalize Bit.unaryErr ((h - a : Nat) : Int) = E2 at C4
          have hd2 : h - a ≤ h := by omega
          generalize h - a = d at *
          have HR := hide hR
          have HM := hide hM
          have HCell := hide (show ∀ W, Below g w2 W → W.cell? ⟨b1, o1 + i, none⟩ = some (.int .i64 (h : Int)) from fun W hW => by
            rcases (H2.out.later (HExt.out W hW)).2 with h9 | ⟨b', o', e', _, hc'⟩
            · omega
            · simp only [Option.some.injEq, Addr.mk.injEq, and_true] at e'
              obtain ⟨rfl, rfl⟩ := e'
              rw [← hh]
              exact hc' i hlt)
          clear hc1 hh hhi ha hdiv hR hM HS
          go_wp2_with fail
          refine C4.mono ?_
          rintro e wc ⟨rfl, obc, hRc, -, hMc⟩
          have hBc : Below g w2 wc := Below.trans HM.out (hMc.below (B := g) (Nat.le_of_lt HR.out.lt) (Nat.le_refl _) (fun k hk => (HR.out.ob k hk).1))
          have f1 := HCell.out wc hBc
          clear C4 e1
          go_wp2
          go_roundw
          case rel => exact ⟨i + 1, obc, by omega, by rw [HWs.out], by go_num, hRc, hBc⟩
          case measure => simp [intOf]; omega
        · obtain rfl : n = i := by omega
          rw [HB.out] at hR
          have C5 := wbytes_any hR (by rw [← HB.out, List.length_append]; have := HLow.out n (Nat.le_refl _); have := HHigh.out n (Nat.le_refl _); omega)
          have HEr := hide (HExt.out _ hM)
          clear hR hM
          go_wp2_with fail
          refine C5.mono ?_
          rintro e wb ⟨l, hPk, vb, rfl, hOb, hEb⟩
          have HPk := hide hPk
          have HOb := hide hOb
          have HEb := hide hEb
          clear C5 hPk hOb hEb
          go_wp2
          go_ret
          exact ⟨vb, rfl, by rw [← HPk.out.is]; exact HOb.out.mono HEr.out.le, HEr.out.trans HEb.out⟩
end Go.Proofs.YtcphapdjimeoaaaGreat

namespace Go.Proofs.YtcphapdjimeoaaaGreat
open Go.RowKit Num Ef

/-- Two rows of bytes that lie side by side in a new block. -/
theorem parts_two (w : World) {n1 n2 c1 c2 : Nat} {A1 A2 : Option Addr} {l1 l2 : List UInt8} (t : TypeId) (m1 : n1 ≤ maxLen) (m2 : n2 ≤ maxLen) (b1 : Bytes w w.heap.size A1 n1 l1) (b2 : Bytes w w.heap.size A2 n2 l2) :
    _root_.Go.Proofs.YtcphapdjimeoaaaGreat.Parts (w.alloc (.cells #[.slice A1 n1 c1, .slice A2 n2 c2] t)) (w.alloc (.cells #[.slice A1 n1 c1, .slice A2 n2 c2] t)).heap.size (some ⟨w.heap.size, 0, none⟩) 2 [l1, l2] := by
  have hE := extNew w (.cells #[.slice A1 n1 c1, .slice A2 n2 c2] t)
  have hW := Whole.new w t #[.slice A1 n1 c1, .slice A2 n2 c2]
  refine ⟨rfl, .inr ⟨w.heap.size, 0, rfl, by simp, fun i hi => ?_⟩⟩
  rcases (by omega : i = 0 ∨ i = 1) with rfl | rfl
  · exact ⟨A1, n1, c1, hW.at 0 rfl, m1, hE.bytes b1⟩
  · exact ⟨A2, n2, c2, hW.at 1 rfl, m2, hE.bytes b2⟩

theorem Ef.bitsE_len {k : Nat} {ids : List Int} {bound : Int} (hk : k ≤ 14) (hn : ids.length ≤ 20000) (hr : row bound ids = true) (hb : bound ≤ 20000) : (Bit.pack (bitsE k ids)).length ≤ 100000 := by
  have h1 : (lowTo k ids ids.length).length ≤ 280000 := by
    rw [lowTo_len]
    exact Nat.le_trans (Nat.mul_le_mul hn hk) (by omega)
  have h2 := highTo_len (w := k) hr ids.length (Nat.le_refl _)
  have h3 := was_le_20000 (k := k) hr hb (Nat.le_refl ids.length)
  have h4 := Bit.pack_len (bitsE k ids)
  unfold bitsE at h4 ⊢
  rw [List.length_append] at h4
  omega

set_option maxHeartbeats 2000000 in
set_option maxRecDepth 10000 in
theorem efWriteC_any (w : World) : EfWriteC w := by
  intro bound ids A n c w1 _ h64 hnc hcm hn h
  have hl := h.1
  subst hl
  have CM := fun W => efMay_any bound W
  by_cases hbd : 0 ≤ bound ∧ bound ≤ 20000
  case neg =>
    have HN := hide (show writeE bound ids = ([], 13) by unfold writeE; rw [if_neg (fun h => hbd h.1)])
    rw [decide_eq_false hbd] at CM
    rw [HN.out]
    clear h hbd h64 HN
    go_enter Tryz.func50, Tryz.ntmps50
    go_wp2_with fail
    refine (CM _).mono ?_
    rintro e w2 ⟨rfl, rfl⟩
    clear CM
    go_wp2
    go_ret2
    exact ⟨_, rfl, OwnB.nil _ _, Ext.refl _⟩
  rw [decide_eq_true hbd] at CM
  have CR := efIsRow_any A ids.length c ids bound w1 h (by omega)
  cases hr : row bound ids with
  | false =>
    have HN := hide (show writeE bound ids = ([], 13) by unfold writeE; rw [hr, if_neg (by simp)])
    rw [HN.out]
    rw [hr] at CR
    clear h hbd h64 HN hr
    go_enter Tryz.func50, Tryz.ntmps50
    go_wp2_with fail
    refine (CM _).mono ?_
    rintro e w2 ⟨rfl, rfl⟩
    clear CM
    go_wp2_with fail
    refine CR.mono ?_
    rintro e w2 ⟨rfl, rfl⟩
    clear CR
    go_wp2
    go_ret2
    exact ⟨_, rfl, OwnB.nil _ _, Ext.refl _⟩
  | true =>
    have HN := hide (show writeE bound ids = (rowB bound ids, 0) by unfold writeE; rw [if_pos ⟨hbd, hr⟩])
    rw [HN.out]
    rw [hr] at CR
    have HR := hide hr
    have HBd := hide hbd
    have HA := hide h
    obtain ⟨bd, rfl⟩ := Int.eq_ofNat_of_zero_le hbd.1
    have hb2 : bd ≤ 20000 := by have := hbd.2; omega
    have hk14 := widE_le (bound := (bd : Int)) (n := ids.length) (by omega)
    have HRow := hide (show rowB (bd : Int) ids = [Num.enc ids.length, Bit.pack (bitsE (widE (bd : Int) ids.length) ids)].flatten by
      unfold rowB
      by_cases hz : ids.length = 0
      · rw [if_pos hz]
        have : ids = [] := List.length_eq_zero_iff.1 hz
        subst this
        have h0 : Bit.pack [] = [] := List.length_eq_zero_iff.1 (by rw [Bit.pack_len]; rfl)
        simp [bitsE, lowTo, highTo, h0]
      · rw [if_neg hz]; simp)
    have HLen := hide (bitsE_len (k := widE (bd : Int) ids.length) hk14 hn hr (by omega))
    have hew := enc_len ids.length
    have C1 := ownNum_any ids.length w1 (by omega)
    have C2 := fun W (hE : Ext w1 W) => efParts_any A c ids bd W (HA.out.later hE) hb2 hn HR.out
    have hwl : IntKind.u64.wrap (ids.length : Int) = (ids.length : Int) := by rw [IntKind.wrap_u64]; omega
    rw [HRow.out]
    clear hbd h HN h64 HRow hr
    generalize widE (bd : Int) ids.length = k at *
    generalize hnn : ids.length = n at *
    have HNn := hide hnn
    clear hnn
    go_enter Tryz.func50, Tryz.ntmps50
    go_wp2_with fail
    refine (CM _).mono ?_
    rintro e w2 ⟨rfl, rfl⟩
    clear CM
    go_wp2_with fail
    refine CR.mono ?_
    rintro e w2 ⟨rfl, rfl⟩
    clear CR
    go_wp2_with fail
    refine C1.mono ?_
    rintro e w3 ⟨v3, rfl, hV3, hE3⟩
    clear C1
    go_wp2_with fail
    refine (C2 _ hE3).mono ?_
    rintro e w4 ⟨B1, d1, B2, d2, rfl, hPV, hE4⟩
    rw [HNn.out] at hPV ⊢
    have C3 := efBytes_any (c1 := d1) (c2 := d2) w4 (ids := ids) (k := k) (A1 := B1) (A2 := B2) (by rw [HNn.out]; exact hPV) (by rw [HNn.out]; exact hn) HR.out (by omega)
    rw [HNn.out] at C3
    have hV4 := hV3.ext hE4
    have hF4 := hE3.trans hE4
    clear C2 hPV hV3 hE3 hE4
    go_wp2_with fail
    refine C3.mono ?_
    rintro e w5 ⟨v5, rfl, hV5, hE5⟩
    obtain ⟨A3, c3, rfl, -, hm3, hb3⟩ := (hV4.ext hE5).form
    obtain ⟨A5, c5, rfl, -, hm5, hb5⟩ := hV5.form
    have hP6 := parts_two w5 (c1 := c3) (c2 := c5) 22 (by unfold maxLen; omega) (by unfold maxLen; have := HLen.out; omega) hb3 hb5
    have hE6 := extNew w5 (.cells #[.slice A3 (enc n).length c3, .slice A5 (Bit.pack (bitsE k ids)).length c5] 22)
    have C6 := all_any _ 2 [enc n, Bit.pack (bitsE k ids)] _ hP6 (by simp) (by simp; have := HLen.out; omega)
    have hF6 := hide ((hF4.trans hE5).trans hE6)
    generalize (Bit.pack (bitsE k ids)) = PK at *
    clear C3 hb3 hb5 hV4 hV5 hF4 hE5 hE6 hP6
    go_wp2_with fail
    refine C6.mono ?_
    rintro e w7 ⟨v7, rfl, hV7, hE7⟩
    clear C6
    go_wp2
    go_ret2
    exact ⟨_, rfl, hV7.mono hF6.out.le, hF6.out.trans hE7⟩
end Go.Proofs.YtcphapdjimeoaaaGreat

