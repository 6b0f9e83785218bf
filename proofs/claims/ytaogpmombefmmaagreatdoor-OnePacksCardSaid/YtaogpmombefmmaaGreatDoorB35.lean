/- A map from three bytes, of a call's own. -/
import Derived.Test.YtaogpmombefmmaaGreatDoorB05
import Derived.Test.YtaogpmombefmmaaGreatDoorB07
import Derived.Test.YtaogpmombefmmaaGreatDoorB09
import Derived.WideKeyArr2
import Derived.WideKeyPair
import Derived.DeepKeys4
import Derived.Maps.OwnSet
import Derived.Maps.Views
namespace Go.Proofs.YtaogpmombefmmaaGreatDoor
section
open Go.RowKit Lz
open Go.WideMaps (ArrKey)
def keyV (k:UInt8×UInt8×UInt8):Value:=.agg #[.int .u8 (k.1.toNat:Int),.int .u8 (k.2.1.toNat:Int),.int .u8 (k.2.2.toNat:Int)]
def keyL (k:UInt8×UInt8×UInt8):Lit:=.string (keyBytes [.int .u8 (k.1.toNat:Int),.int .u8 (k.2.1.toNat:Int),.int .u8 (k.2.2.toNat:Int)])
theorem three_arr:ArrKey Tryz.prog 139 5 3:=⟨Tryz.underlying139,by kernel_rfl,by kernel_rfl,by kernel_rfl⟩
theorem three_law:Maps.Keyed Tryz.prog 139:=Maps.Keyed.of_law (deep_law_laid laidOut (m:=2) (by omega) (of_decide_eq_true (by kernel_rfl)) (by kernel_rfl) (by rw [Tryz.underlying139]))
theorem keyOf_three {P:Program}{k e:TypeId}{q:IntKind}(A:ArrKey P k e 3)(he:P.underlying e=some (.int q))(hsz:∃ m,P.types.size=m+1){a b c:Int}(wa:(Lit.int q a).wf=true)(wb:(Lit.int q b).wf=true)(wc:(Lit.int q c).wf=true) :
  keyOf P k (.agg #[.int q a,.int q b,.int q c])=some (.string (keyBytes [.int q a,.int q b,.int q c])):=by
 have hkt:=A.keyType hsz
 obtain ⟨m,hm⟩:=hsz
 unfold keyOf
 simp only [A.hu]
 rw [if_pos (by simp [hkt,Value.formed,A.hu,A.size]),hm]
 unfold Program.keyLits
 simp only [A.hu,Value.cells]
 rw [if_pos (by rw [A.size];rfl),show List.range 3=[0,1,2] from rfl,List.mapM_cons,List.mapM_cons,List.mapM_cons,List.mapM_nil]
 simp [A.one,Program.keyLits,he,wa,wb,wc]
theorem u8_wf (x:UInt8):(Lit.int .u8 (x.toNat:Int)).wf=true:=by
 have:=UInt8.toNat_lt x
 have e1:IntKind.u8.min=0:=rfl
 have e2:IntKind.u8.max=255:=rfl
 simp [Lit.wf,e1,e2]
 omega
theorem key_of (k:UInt8×UInt8×UInt8):keyOf Tryz.prog 139 (keyV k)=some (keyL k) :=
 keyOf_three three_arr Tryz.underlying5 ⟨Tryz.prog.types.size-1,by kernel_rfl⟩ (u8_wf _) (u8_wf _) (u8_wf _)
theorem keyL_inj {a b:UInt8×UInt8×UInt8}(h:keyL a=keyL b):a=b:=by
 have h1:=key_of a
 rw [h] at h1
 have:=three_law.inj h1 (key_of b)
 unfold keyV at this
 simp only [Value.agg.injEq,Array.mk.injEq,List.cons.injEq,Value.int.injEq,true_and,and_true] at this
 obtain ⟨x1,x2,x3⟩:=a
 obtain ⟨y1,y2,y3⟩:=b
 dsimp only at this
 obtain ⟨e1,e2,e3⟩:=this
 rw [UInt8.toNat_inj.1 (Int.ofNat.inj e1),UInt8.toNat_inj.1 (Int.ofNat.inj e2),UInt8.toNat_inj.1 (Int.ofNat.inj e3)]
def MapF (w:World)(m n:Nat)(f:UInt8×UInt8×UInt8→Option Nat):Prop :=
 ∃ D:DataW Unit,w.ownsMap Tryz.prog 139 (plainElem Tryz.prog 3) m n D∧∀ k,Maps.has D (keyL k)=(f k).isSome∧∀ p,f k=some p→∀ z,D.atKey (keyL k) z=.lit (.int .i64 (p:Int))
theorem MapF.made (w:World):MapF (w.alloc (.map #[] 0)) w.heap.size 0 (fun _=>none) :=
 ⟨_,World.ownsMap_made w _ _ _,fun _=>⟨rfl,fun _ h=>by cases h⟩⟩
theorem MapF.kept {w w':World}{m n:Nat}{f:UInt8×UInt8×UInt8→Option Nat}{row:Option Nat}(h:MapF w m n f)(hg:w.grownBy w' row)(hr:some m≠row):MapF w' m n f:=by
 obtain ⟨D,h1,h2⟩:=h
 exact ⟨D,h1.kept hg hr,h2⟩
theorem MapF.ext {w w':World}{m n:Nat}{f:UInt8×UInt8×UInt8→Option Nat}(h:MapF w m n f)(hE:Ext w w'):MapF w' m n f:=h.kept (hE.grown none) (by simp)
theorem MapF.lt {w:World}{m n:Nat}{f:UInt8×UInt8×UInt8→Option Nat}(h:MapF w m n f):m < w.heap.size:=by
 obtain ⟨D,h1,_⟩:=h
 exact h1.lt
section
variable {w:World}{ops:Array Oper}{rest:List Oper}{o:Oper}{a:Act}{Q:Exit→Act→World→Prop}{b n:Nat}{f:UInt8×UInt8×UInt8→Option Nat}
theorem wpList_lookF (hg:o.guard=none)(m x:Operand)(hop:o.op=Op.lookup 137 m x true)(hm:a.eval m=.map (some b))(hown:MapF w b n f)(k:UInt8×UInt8×UInt8)(hx:a.eval x=keyV k)
  (hK:∀ c:Nat,(f k=none→c=0)→(∀ p,f k=some p→c=p)→wpList Tryz.prog ops Q rest (a.put o.dst (.tuple #[.int .i64 (c:Int),.bool (f k).isSome])) w):wpList Tryz.prog ops Q (o :: rest) a w:=by
 obtain ⟨D,h1,h2⟩:=hown
 refine wpList_lookup_own_ok_int w hg m x 137 hop 139 3 .i64 three_law Tryz.underlying137 Tryz.underlying3 (by kernel_rfl) b n D hm h1 (keyV k) (keyL k) hx (key_of k) ?_
 intro c hc _
 obtain ⟨e1,e2⟩:=h2 k
 rw [e1]
 cases hf:f k with
 | none =>
  rw [hf] at e1
  have hz:=Maps.atKey_of_not_has (D:=D) (k:=keyL k) e1 (.lit (.int .i64 0))
  rw [hz] at hc
  simp only [DataW.lit.injEq,Lit.int.injEq,true_and] at hc
  subst hc
  have:=hK 0 (fun _=>rfl) (fun p hp=>by rw [hf] at hp;cases hp)
  rw [hf] at this
  exact this
 | some p =>
  have hz:=e2 p hf (.lit (.int .i64 0))
  rw [hz] at hc
  simp only [DataW.lit.injEq,Lit.int.injEq,true_and] at hc
  subst hc
  have:=hK p (fun h=>by rw [hf] at h;cases h) (fun p' hp=>by rw [hf] at hp;injection hp)
  rw [hf] at this
  exact this
theorem wpList_putF (hg:o.guard=none)(m x v:Operand)(hop:o.op=Op.mapUpdate 137 m x v)(hm:a.eval m=.map (some b))(hown:MapF w b n f)(hn:n≤1000000)(k:UInt8×UInt8×UInt8)(hx:a.eval x=keyV k)(p:Nat)(hp:p≤1000000)(hv:a.eval v=.int .i64 (p:Int))
  (hK:∀ w',MapF w' b (n+1) (fun k'=>if k=k' then some p else f k')→w.grownBy w' (some b)→wpList Tryz.prog ops Q rest (a.put o.dst undef) w'):wpList Tryz.prog ops Q (o :: rest) a w:=by
 obtain ⟨D,h1,h2⟩:=hown
 have hwf:(Lit.int .i64 (p:Int)).wf=true:=by
  have e1:IntKind.i64.min=-9223372036854775808:=rfl
  have e2:IntKind.i64.max=9223372036854775807:=rfl
  simp [Lit.wf,e1,e2]
  omega
 refine wpList_mapUpdate_own w hg m x v 137 hop 139 3 three_law Tryz.underlying137 _ b n D hm h1 (by unfold maxLen;omega) (keyV k) _ (keyL k) hx hv (key_of k) _ [] (plainElem_int Tryz.underlying3 hwf) ?_
 intro w' h3 hg3
 refine hK w' ⟨_,h3,fun k'=>?_⟩ hg3
 have hm1:=h1.isMap
 dsimp only
 by_cases e:k=k'
 ·subst e
  rw [if_pos rfl]
  exact ⟨Maps.has_put_same hm1 (three_law.key (key_of k)) _,fun p' hp' z=>by injection hp' with hp';rw [← hp'];exact Maps.atKey_put_same hm1 (three_law.key (key_of k)) _ z⟩
 ·rw [if_neg e]
  have hne:keyL k'≠keyL k:=fun h=>e (keyL_inj h).symm
  obtain ⟨e1,e2⟩:=h2 k'
  exact ⟨by rw [Maps.has_put_other hne];exact e1,fun p' hp' z=>by rw [Maps.atKey_put_other hne];exact e2 p' hp' z⟩
theorem wpList_arrAt (hg:o.guard=none)(arr:TypeId)(x:Operand)(ho:o.op=.sliceToArrayPointer arr x){N:Nat}{e:TypeId}(hu:Tryz.prog.underlying arr=some (.array N e)){A:Option Addr}{m c:Nat}(hx:a.eval x=.slice A m c)(hn:N≤m)
  (h:wpList Tryz.prog ops Q rest (a.put o.dst (.pointer A)) w):wpList Tryz.prog ops Q (o :: rest) a w:=by
 refine wpList_plain hg fun _ hK=>?_
 unfold Oper.wp execOp
 simp only [ho,hx,Instr.arrayAt,run_underlying hu,Sem.run_bind,Sem.run_pure,Result.andThen_ok,if_neg (show ¬ m < N by omega)]
 exact hK _ _ h
end
end
end Go.Proofs.YtaogpmombefmmaaGreatDoor
