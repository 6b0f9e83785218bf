/- The program's cursor: what its block and its row hold. -/
import Derived.Test.YtgnmdpklkmlpfaaNumAlive
namespace Go.Proofs.Ytgnmdpklkmlpfaa
open Go.RowKit

/-- n bytes that lie in block r, which is not block g. -/
def RowIn (w : World) (g r : Nat) (A : Option Addr) (n : Nat) (l : List UInt8) : Prop :=
  l.length = n ∧ (n = 0 ∨ r ≠ g ∧ ∃ off, A = some ⟨r, off, none⟩ ∧ ∀ i, i < n → w.cell? ⟨r, off + i, none⟩ = some (.int .u8 ((l.getD i 0).toNat : Int)))
section
variable {w w' : World} {g r n c q p : Nat} {A : Option Addr} {l b : List UInt8} {e : Int} {ob : Option Nat}
theorem RowIn.bytes (h : RowIn w g r A n l) : Bytes w w.heap.size A n l := by
  refine ⟨h.1, ?_⟩
  rcases h.2 with h0 | ⟨_, off, rfl, hc⟩
  · exact .inl h0
  · rcases Nat.eq_zero_or_pos n with h0 | h0
    · exact .inl h0
    · exact .inr ⟨r, off, rfl, World.block_lt_of_cell? w ⟨r, off + 0, none⟩ (hc 0 h0), hc⟩
theorem RowIn.at (h : RowIn w g r A n l) (hb : w'.heap[r]? = w.heap[r]?) : RowIn w' g r A n l := by
  refine ⟨h.1, ?_⟩
  rcases h.2 with h0 | ⟨hg, off, rfl, hc⟩
  · exact .inl h0
  · exact .inr ⟨hg, off, rfl, fun i hi => by rw [World.cell?_of_block (a := ⟨r, off + i, none⟩) hb]; exact hc i hi⟩
theorem RowIn.mod (h : RowIn w g r A n l) (hM : Mod w w' g ob) (hr : r < w.heap.size) (ho : ob ≠ some r) : RowIn w' g r A n l := by
  by_cases hg : r = g
  · refine ⟨h.1, ?_⟩
    rcases h.2 with h0 | ⟨hn, _⟩
    · exact .inl h0
    · exact absurd hg hn
  · exact h.at (hM.block r hr hg (fun e => ho e.symm))
theorem RowIn.take (h : RowIn w g r A n l) {k : Nat} (hk : k ≤ n) : RowIn w g r A k (l.take k) := by
  refine ⟨by rw [List.length_take, h.1]; omega, ?_⟩
  rcases h.2 with h0 | ⟨hg, off, hA, hc⟩
  · exact .inl (by omega)
  · refine .inr ⟨hg, off, hA, fun i hi => ?_⟩
    rw [hc i (by omega)]
    simp [List.getD_eq_getElem?_getD, hi]
theorem RowIn.drop (h : RowIn w g r A n l) {k : Nat} (hk : k ≤ n) (hc : n ≤ c) : RowIn w g r (cutAt A c k) (n - k) (l.drop k) := by
  refine ⟨by rw [List.length_drop, h.1], ?_⟩
  by_cases hkn : k = n
  · exact .inl (by omega)
  rcases h.2 with h0 | ⟨hg, off, rfl, hcell⟩
  · exact .inl (by omega)
  · refine .inr ⟨hg, off + k, ?_, fun i hi => ?_⟩
    · simp [cutAt, show ¬ c = k by omega, Addr.add]
    · rw [Nat.add_assoc, hcell (k + i) (by omega)]
      simp [List.getD_eq_getElem?_getD]

/-- Block g is the program's cursor over the bytes b (its row lies in block r), at the place q, with the error e. -/
def PC (w : World) (g r : Nat) (b : List UInt8) (q : Nat) (e : Int) : Prop :=
  ∃ A c, Whole w g 60 #[.slice A (b.length - q) c, .int .i64 (q : Int), .int .i64 e] ∧ b.length - q ≤ c ∧ RowIn w g r A (b.length - q) (b.drop q) ∧ r < w.heap.size ∧ q ≤ b.length ∧ b.length ≤ 1000000
theorem PC.lt (h : PC w g r b q e) : g < w.heap.size := by obtain ⟨_, _, h, _⟩ := h; exact h.lt
theorem PC.rlt (h : PC w g r b q e) : r < w.heap.size := by obtain ⟨_, _, _, _, _, h, _⟩ := h; exact h
theorem PC.bounds (h : PC w g r b q e) : q ≤ b.length ∧ b.length ≤ 1000000 := by obtain ⟨_, _, _, _, _, _, h⟩ := h; exact h
theorem PC.ext (h : PC w g r b q e) (hE : Ext w w') : PC w' g r b q e := by
  obtain ⟨A, c, hW, hc, hR, hr, h⟩ := h
  exact ⟨A, c, hW.ext hE, hc, hR.at (hE.block r hr), Nat.lt_of_lt_of_le hr hE.le, h⟩
theorem PC.cells (h : PC w g r b q e) : ∃ A c, w.cell? ⟨g, 0, none⟩ = some (.slice A (b.length - q) c) ∧ w.cell? ⟨g, 1, none⟩ = some (.int .i64 (q : Int)) ∧ w.cell? ⟨g, 2, none⟩ = some (.int .i64 e) ∧
    w.frozen? ⟨g, 0, none⟩ = false ∧ w.frozen? ⟨g, 1, none⟩ = false ∧ w.frozen? ⟨g, 2, none⟩ = false ∧ b.length - q ≤ c ∧ RowIn w g r A (b.length - q) (b.drop q) := by
  obtain ⟨A, c, hW, hc, hR, _⟩ := h
  exact ⟨A, c, hW.cell 0, hW.cell 1, hW.cell 2, hW.frozen 0, hW.frozen 1, hW.frozen 2, hc, hR⟩
/-- The error is stored. -/
theorem PC.setErr {e' : Int} (h : PC w g r b q e) : PC (w.setCell ⟨g, 2, none⟩ (.int .i64 e')) g r b q e' := by
  obtain ⟨A, c, hW, hc, hR, hr, h⟩ := h
  exact ⟨A, c, hW.set 2 _, hc, hR.mod (ob := none) (Mod.ofRow (grown_setCell w g 2 _)) hr (by simp), by simpa using hr, h⟩
end

/-- A function that has a body is entered, whatever value holds it. -/
def Entered (K : Nat) : Prop := ∀ (args : Array Value) (W : World), (callFunc K args).run Try.prog W = .ok (.enter K args) W
theorem entered_of {K : Nat} {fn : Func} {c : Code} (hf : Try.prog.funcs[K]? = some fn) (hname : (fn.name == "runtime.NumGoroutine") = false) (hb : fn.body = some c) : Entered K := by
  intro args W
  have h1 : fn.name ≠ "runtime.NumGoroutine" := by simpa using hname
  simp [callFunc, hf, h1, hb]

/-- The cursor's calls go on, if there is no error so far. -/
theorem read_any {w : World} {g r q K : Nat} {b : List UInt8} {cap : Array Value} (hK : Entered K) (h : PC w g r b q 0) {R : Int → World → Prop}
    (hC : Calls Try.prog K cap w fun e' w' => ∃ er q', e' = .returned (.int .i64 er) ∧ PC w' g r b q' 0 ∧ R er w') :
    Calls Try.prog 37 #[.pointer (some ⟨g, 0, none⟩), .func (.func K) #[] cap] w fun e' w' => e' = .returned (.tuple #[]) ∧ ∃ er q' w2, PC w2 g r b q' 0 ∧ R er w2 ∧ w' = w2.setCell ⟨g, 2, none⟩ (.int .i64 er) := by
  obtain ⟨A, c, c0, c1, c2, f0, f1, f2, hc, hR⟩ := h.cells
  have hE := fun W => hK cap W
  clear h c0 c1 f0 f1 f2 hc hR
  go_enter Try.func37, Try.ntmps37
  go_wp2_with fail
  refine hC.mono ?_
  rintro e' w2 ⟨er, q', rfl, hP, hr⟩
  obtain ⟨_, _, _, _, d2, _, _, k2, _, _⟩ := hP.cells
  go_wp2
  go_end0
  exact ⟨rfl, er, q', w2, hP, hr, rfl⟩

/-- There is an error: nothing goes on. -/
theorem read_stuck {w : World} {g r q K : Nat} {b : List UInt8} {cap : Array Value} {e : Int} (h : PC w g r b q e) (he : e ≠ 0) :
    Calls Try.prog 37 #[.pointer (some ⟨g, 0, none⟩), .func (.func K) #[] cap] w fun e' w' => e' = .returned (.tuple #[]) ∧ w = w' := by
  obtain ⟨A, c, c0, c1, c2, f0, f1, f2, hc, hR⟩ := h.cells
  have he' : (e != 0) = true := by simpa using he
  clear h c0 c1 f0 f1 f2 hc hR he
  go_enter Try.func37, Try.ntmps37
  go_wp2
  refine bodyPost_ret (results_none rfl _ _ _) rfl ?_
  exact ⟨rfl, rfl⟩

/-- There is no cursor: nothing goes on. -/
theorem read_nil {w : World} {K : Nat} {cap : Array Value} :
    Calls Try.prog 37 #[.pointer none, .func (.func K) #[] cap] w fun e' w' => e' = .returned (.tuple #[]) ∧ w = w' := by
  go_enter Try.func37, Try.ntmps37
  go_wp2
  refine bodyPost_ret (results_none rfl _ _ _) rfl ?_
  exact ⟨rfl, rfl⟩
end Go.Proofs.Ytgnmdpklkmlpfaa
