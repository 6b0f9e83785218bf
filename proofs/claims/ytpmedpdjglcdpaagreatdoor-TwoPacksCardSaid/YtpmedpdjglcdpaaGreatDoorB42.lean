/- A map of the call's own from texts to lists of numbers. An index built record by record, term by term. -/
import Derived.Test.YtpmedpdjglcdpaaGreatDoorB02
import Derived.Test.YtpmedpdjglcdpaaGreatDoorB06
import Derived.Test.YtpmedpdjglcdpaaGreatDoorB15
import Derived.Test.YtpmedpdjglcdpaaGreatDoorB41
import Derived.Maps.GroupsBeside
import Derived.Maps.Views
import Derived.Sort.KeysCollected
import Derived.StringKeys
namespace Go.Proofs.YtpmedpdjglcdpaaGreatDoor
section
open Go.RowKit Go.ChangeMaps Go.MapKept Go.ChangeShapes
theorem strG_law:Maps.Keyed Tryz.prog 9:=Maps.string_keyed Tryz.underlying9
theorem XJ {k:List UInt8}(hk:k.length≤1000):keyOf Tryz.prog 9 (.string ⟨k.toArray⟩)=some (.string k):=by
 have:=WideMaps.keyOf_string_mk (P:=Tryz.prog) Tryz.underlying9 (s:=⟨k.toArray⟩) (by show (ByteArray.mk k.toArray).size≤maxLen;unfold maxLen;simp[ByteArray.size];omega)
 simpa using this
theorem ael (w:World):(zeroValue 48).run Tryz.prog w=.ok (.slice none 0 0) w:=by kernel_rfl
def Vg (L:List Int):DataW Unit:=if L=[] then .nil else .slice (lits .i64 L) []
theorem adi {L M:List Int}(h:Vg L=Vg M):L=M:=by
 unfold Vg at h
 split at h<;>split at h
 ·simp[*]
 ·cases h
 ·cases h
 ·injection h with h1 h2
  unfold lits at h1
  exact (List.map_inj_right (fun a b hab=>by injection hab with hab;injection hab)).1 h1
theorem Vh {w:World}{base:Nat}{v:Value}{L:List Int}(h:w.ownsInts base 3 .i64 v L)(D:DataW Unit)(e:D=rowDatum .i64 v L):D=Vg L∨D=.slice [] []∧L=[]:=by
 unfold Vg
 split<;>rename_i hL
 ·subst hL
  rcases h.datum (H:=Unit) with ⟨h1,_⟩|h1
  ·exact .inl (by rw[e,h1])
  ·exact .inr ⟨by rw[e,h1];rfl,rfl⟩
 ·exact .inl (by rw[e,h.datum_pos hL])
def MapG (w:World)(base m n:Nat)(F:List UInt8→List Int):Prop :=
 ∃ D:DataW Unit,w.ownsGroups Tryz.prog 9 base 3 .i64 m n D∧∀ x:List UInt8,D.atKey (.string x) .nil=Vg (F x)∧Maps.has D (.string x)=decide (F x≠[])
theorem MapG.made (w:World):MapG (w.alloc (.map #[] 0)) (w.heap.size+1) w.heap.size 0 (fun _=>[]):=⟨_,World.ownsGroups_made w _ _ _ _,fun _=>⟨rfl,rfl⟩⟩
theorem MapG.ext {w w':World}{base m n:Nat}{F:List UInt8→List Int}(h:MapG w base m n F)(hE:Ext w w'):MapG w' base m n F:=by
 obtain⟨D,h1,h2⟩:=h
 exact⟨D,h1.kept (hE.grown none) (by simp) fun _ _ _ y _=>by cases y.val.ownBlock<;>simp,h2⟩
theorem MapG.other {w w':World}{base m n:Nat}{F:List UInt8→List Int}{e1:TypeId}{s1 n1 b1:Nat}{v1:Value}{x1:List Value}(h:MapG w base m n F)(hr:w.ownsRow b1 e1 s1 v1 n1 x1)(ht:e1≠3)(hG:w.grownBy w' v1.ownBlock):MapG w' base m n F:=by
 obtain⟨D,h1,h2⟩:=h
 refine⟨D,h1.kept hG ?_ ?_,h2⟩
 ·obtain⟨es,clock,hb,_⟩:=h1
  rcases hr.2 with ⟨rfl,_⟩ | ⟨g1,_,_,rfl,_,hg1,_⟩
  ·simp[Value.ownBlock]
  ·intro e
   simp only[Value.ownBlock,Option.some.injEq]at e
   subst e
   rw[hb]at hg1
   cases hg1
 ·obtain⟨es',clock',hb',F',_⟩:=h1
  intro es clock hb x hx
  obtain⟨rfl,rfl⟩:es'=es∧clock'=clock:=by rw[hb']at hb;simpa using hb
  obtain⟨y,hy⟩:=F'.reads x hx
  obtain⟨z,hz,_⟩:=WideElems.rd_val hy
  obtain⟨zs,ho,_⟩:=rowElem_inv hz
  exact xe ho.1 hr (fun e=>ht e.symm)
def adj (w:World)(base m n:Nat)(F:List UInt8→List Int)(k:List UInt8)(v:Value):Prop :=
 ∀ (w1:World) (v':Value) (L:List Int),w.grownBy w1 v.ownBlock→w1.ownsInts base 3 .i64 v' L→L≠[]→L.length≤n+1→NewOb w v.ownBlock v'.ownBlock →
  ∃ w2,(Instr.mapUpdate 104 (.map (some m)) (.string ⟨k.toArray⟩) v').run Tryz.prog w1=.ok () w2∧MapG w2 base m (n+1) (fun x=>if x=k then L else F x)∧w1.grownBy w2 (some m)
theorem MapG.at {w:World}{base m n:Nat}{F:List UInt8→List Int}(h:MapG w base m n F){k:List UInt8}(hk:k.length≤1000)(hn:n≤100000000) :
  ∃ v,(Instr.lookup 104 (.map (some m)) (.string ⟨k.toArray⟩) false).run Tryz.prog w=.ok v w∧w.ownsInts base 3 .i64 v (F k)∧(F k).length≤n∧adj w base m n F k v:=by
 obtain⟨D,h1,h2⟩:=h
 have hm:Maps.IsMap D:=by
  obtain⟨es,clock,_,_,_,rfl,_⟩:=h1
  exact⟨_,rfl⟩
 obtain⟨v,zs,q1,q2,q3,q4,q5⟩:=h1.at strG_law Tryz.underlying104 (ael w) (by unfold maxLen;omega) (XJ hk)
 have hz:zs=F k:=by
  rcases Vh q3 _ q2 with e | ⟨e,_⟩
  ·exact (adi ((h2 k).1.symm.trans e)).symm
  ·have:=(h2 k).1
   rw[e]at this
   unfold Vg at this
   split at this
   ·cases this
   ·rename_i hne
    have h3:=(DataW.slice.inj this).1
    cases hF:F k with
    | nil=>exact absurd hF hne
    | cons a t =>
     rw[hF]at h3
     cases h3
 subst hz
 refine⟨v,q1,q3,q4,fun w1 v' L g1 g2 g3 g4 g5=>?_⟩
 obtain⟨w2,r1,r2,r3⟩:=q5 w1 v' L g1 g2 g4 g5
 refine⟨w2,r1,⟨_,r2,fun x=>?_⟩,r3⟩
 by_cases e:x=k
 ·subst e
  show _=Vg (if x=x then L else F x)∧_=decide ((if x=x then L else F x)≠[])
  rw[Maps.atKey_put_same hm (strG_law.key (XJ hk)),Maps.has_put_same hm (strG_law.key (XJ hk)),if_pos rfl,g2.datum_pos g3]
  unfold Vg
  rw[if_neg g3]
  exact⟨rfl,(decide_eq_true g3).symm⟩
 ·show _=Vg (if x=k then L else F x)∧_=decide ((if x=k then L else F x)≠[])
  rw[Maps.atKey_put_other (by simpa using e),Maps.has_put_other (by simpa using e),if_neg e]
  exact h2 x
section
variable {ops:Array Oper}{rest:List Oper}{o:Oper}{a:Act}{Q:Exit→Act→World→Prop}{w w0:World}{base b n:Nat}{F:List UInt8→List Int}{k:List UInt8}
theorem q9 (hg:o.guard=none)(m x:Operand)(hop:o.op=Op.lookup 104 m x false)(hm:a.eval m=.map (some b))(hown:MapG w base b n F)(hn:n≤100000000)(hk:k.length≤1000)(hx:a.eval x=.string ⟨k.toArray⟩)
  (hK:∀ v,w.ownsInts base 3 .i64 v (F k)→(F k).length≤n→adj w base b n F k v→wpList Tryz.prog ops Q rest (a.put o.dst v) w):wpList Tryz.prog ops Q (o::rest) a w:=by
 refine wpList_plain hg fun K' hK'=>?_
 obtain⟨v,hrun,h1,h2,h3⟩:=hown.at hk hn
 unfold Oper.wp
 simp[execOp,hop,hm,hx,hrun,Result.andThen]
 exact hK' _ _ (hK v h1 h2 h3)
theorem Qe (hg:o.guard=none)(m x y:Operand)(hop:o.op=Op.mapUpdate 104 m x y){u v':Value}{L:List Int}(hback:adj w0 base b n F k u)(hm:a.eval m=.map (some b))(hx:a.eval x=.string ⟨k.toArray⟩)(hv:a.eval y=v')
  (hgr:w0.grownBy w u.ownBlock) (hown':w.ownsInts base 3 .i64 v' L) (hL:L≠[]) (hl:L.length≤n+1) (hloc:NewOb w0 u.ownBlock v'.ownBlock)
  (hK:∀ w2,MapG w2 base b (n+1) (fun x=>if x=k then L else F x)→w.grownBy w2 (some b)→wpList Tryz.prog ops Q rest (a.put o.dst undef) w2):wpList Tryz.prog ops Q (o::rest) a w:=by
 refine wpList_plain hg fun K' hK'=>?_
 obtain⟨w2,hrun,r1,r2⟩:=hback w v' L hgr hown' hL hl hloc
 unfold Oper.wp
 simp[execOp,hop,hm,hx,hv,hrun,Result.andThen]
 exact hK' _ _ (hK w2 r1 r2)
end
end
section
namespace Pst
open Wrd
def xE (l:List Rc)(i k:Nat)(x:List UInt8):List Int:=y9 (l.take i) x++if x∈(zl (l.getD i default)).take k then [(i:Int)] else []
theorem Qf (l:List Rc):xE l 0 0=fun _=>[]:=by
 funext x
 simp[xE,y9,vv]
theorem jm {α:Type}[Inhabited α]{l:List α}{i:Nat}(h:i<l.length):l.take (i+1)=l.take i++[l.getD i default]:=by
 rw[List.take_add_one,List.getElem?_eq_getElem h,List.getD_eq_getElem?_getD,List.getElem?_eq_getElem h]
 rfl
theorem aam (l:List Rc){i k:Nat}(hk:k<(zl (l.getD i default)).length) :
  xE l i (k+1)=fun x=>if x=(zl (l.getD i default)).getD k [] then xE l i k ((zl (l.getD i default)).getD k [])++[(i:Int)] else xE l i k x:=by
 have hR:Rising (zl (l.getD i default)):=qk _ _
 have hN:=hR.nodup
 generalize hT:zl (l.getD i default)=T at *
 have e:T.take (k+1)=T.take k++[T.getD k []]:=by
  rw[List.take_add_one,List.getElem?_eq_getElem hk,List.getD_eq_getElem?_getD,List.getElem?_eq_getElem hk]
  rfl
 have hnot:¬ T.getD k []∈T.take k:=by
  have h1:(T.take (k+1)).Nodup:=hN.sublist (List.take_sublist _ _)
  rw[e,List.nodup_append]at h1
  exact fun h=>h1.2.2 _ h _ (List.mem_singleton.2 rfl) rfl
 funext x
 generalize hs:T.getD k []=s at *
 unfold xE
 rw[hT,e]
 by_cases hx:x=s
 ·subst hx
  simp[hnot]
 ·simp[hx]
theorem U0 {l:List Rc}{i:Nat}(hi:i<l.length):xE l (i+1) 0=xE l i (zl (l.getD i default)).length:=by
 funext x
 have hl:(l.take i).length=i:=by rw[List.length_take];omega
 unfold xE
 rw[jm hi,y9,Zy,hl,Nat.zero_add]
 simp[y9]
theorem VX (l:List Rc):xE l l.length 0=y9 l:=by
 funext x
 simp[xE]
theorem VY (l:List Rc)(i k:Nat)(x:List UInt8):(xE l i k x).length≤i+1:=by
 have h1:∀ (s:List UInt8) (l:List Rc) (k:Nat),(vv s k l).length≤l.length:=fun s l=>by
  induction l with
  | nil=>intro k;simp[vv]
  | cons r t ih =>
   intro k
   have:=ih (k+1)
   rw[vv]
   split<;>simp<;>omega
 have h2:=h1 x (l.take i) 0
 unfold xE y9
 rw[List.length_append]
 rw[List.length_take]at h2
 split<;>simp<;>omega
theorem adk {r:Rc}{z:List UInt8}(h:z∈zl r):z.length≤25:=by
 have:z∈gather [r]:=uw.2 ⟨r,List.mem_singleton.2 rfl,h⟩
 exact (term_size this).2
end Pst
end
end Go.Proofs.YtpmedpdjglcdpaaGreatDoor
