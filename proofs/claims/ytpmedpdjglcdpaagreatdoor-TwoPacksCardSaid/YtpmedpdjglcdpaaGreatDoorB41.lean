/- What the program of chapter 15 reckons, as plain mathematics: how many letters a text begins with, the words one row of letters after the other, terms as a sorted row of keys. A set of texts of a call's own: a map from texts to nothing. -/
import Derived.Test.YtpmedpdjglcdpaaGreatDoorB02
import Derived.Test.YtpmedpdjglcdpaaGreatDoorB06
import Derived.Sort.KeysCollected
import Derived.Maps.OwnSet
import Derived.Maps.Views
import Derived.StringKeys
namespace Go.Proofs.YtpmedpdjglcdpaaGreatDoor
section
namespace Wrd
def xB:List UInt8→Nat
 | []=>0
 | c::t=>if isL c=true then xB t+1 else 0
theorem aaQ:∀ l:List UInt8,xB l≤l.length
 | []=>by simp[xB]
 | c::t=>by have:=aaQ t;rw[xB];split<;>simp<;>omega
theorem aaR:∀ (l:List UInt8) (i:Nat),i≤l.length→(∀ j,j<i→isL (l.getD j 0)=true)→(i<l.length→isL (l.getD i 0)=false)→xB l=i
 | [],i,h,_,_=>by simp at h;rw[h];simp[xB]
 | c::t,0,_,_,h2=>by
  have:=h2 (by simp)
  rw[xB,if_neg (by simpa using this)]
 | c::t,i+1,h,h1,h2=>by
  have h0:=h1 0 (by omega)
  rw[xB,if_pos (by simpa using h0),aaR t i (by simpa using h) (fun j hj=>by simpa using h1 (j+1) (by omega)) (fun hi=>by simpa using h2 (by simpa using hi))]
theorem XH:∀ (m:Nat) (l:List UInt8),zZ m l=(l.take (min (xB l) m)).map small
 | 0,l=>by simp[zZ]
 | _+1,[]=>by simp[zZ]
 | m+1,c::t=>by
  rw[zZ,xB,XH m t]
  split
  ·rw[show min (xB t+1) (m+1)=min (xB t) m+1 by omega]
   simp
  ·simp
theorem XI:∀ (l:List UInt8),zE true l=zv (l.drop (min (xB l+1) l.length))
 | []=>by simp[zE,zv]
 | c::t=>by
  rw[zE,if_neg (by simp),List.nil_append,xB]
  by_cases h:isL c=true
  ·rw[if_pos h,h,XI t,show min (xB t+1+1) (c::t).length=min (xB t+1) t.length+1 by first | (simp;done) | (simp;omega),List.drop_succ_cons]
  ·have h':isL c=false:=by simpa using h
   rw[if_neg h,h',show min (0+1) (c::t).length=1 by simp]
   rfl
theorem abV (l:List UInt8)(hl:0<l.length):zv l=(if 0<xB l then [(l.take (min (xB l) 24)).map small] else [])++zv (l.drop (min (xB l+1) l.length)):=by
 cases l with
 | nil=>simp at hl
 | cons c t =>
  unfold zv
  by_cases h:isL c=true
  ·have hp:0<xB (c::t):=by rw[xB,if_pos h];omega
   rw[if_pos hp,zE,if_pos ⟨h,rfl⟩,XH,h,XI t]
   congr 1
   rw[xB,if_pos h,show min (xB t+1+1) (c::t).length=min (xB t+1) t.length+1 by first | (simp;done) | (simp;omega),List.drop_succ_cons]
   rfl
  ·have h':isL c=false:=by simpa using h
   have hp:xB (c::t)=0:=by rw[xB,if_neg h]
   rw[hp,zE,h',show min (0+1) (c::t).length=1 by simp]
   simp
theorem aaS:∀ (a b:List UInt8),Op.bytesLess a b=true→a<b
 | a,[],h=>by cases a<;>simp[Op.bytesLess]at h
 | [],_::_,_=>List.Lex.nil
 | x::a,y::b,h=>by
  simp only[Op.bytesLess,Bool.or_eq_true,Bool.and_eq_true,decide_eq_true_eq,beq_iff_eq]at h
  rcases h with h | ⟨rfl,h⟩
  ·exact List.Lex.rel h
  ·exact List.Lex.cons (aaS a b h)
theorem Rising.nodup {l:List (List UInt8)}(h:Rising l):l.Nodup:=h.imp fun {a b} hab e=>by subst e;rw[va]at hab;cases hab
theorem aaT {ss l:List (List UInt8)}(hn:ss.Nodup)(hr:Rising l)(hm:∀ x,x∈ss↔x∈l):ss.mergeSort (fun x y=>decide (x≤y))=l:=by
 have tr:∀ a b c:List UInt8,decide (a≤b)=true→decide (b≤c)=true→decide (a≤c)=true:=fun a b c h1 h2=>by simp only[decide_eq_true_eq]at *;exact List.le_trans h1 h2
 have to:∀ a b:List UInt8,(decide (a≤b) || decide (b≤a))=true:=fun a b=>by simp only[Bool.or_eq_true,decide_eq_true_eq];exact List.le_total a b
 have hp:ss.Perm l:=(List.perm_ext_iff_of_nodup hn hr.nodup).2 hm
 refine List.Perm.eq_of_pairwise (le:=fun a b=>decide (a≤b)=true) (fun a b _ _ h1 h2=>?_) (List.pairwise_mergeSort tr to ss) (hr.imp fun {a b} h=>?_) ((List.mergeSort_perm ss _).trans hp)
 ·simp only[decide_eq_true_eq]at h1 h2
  exact List.le_antisymm h1 h2
 ·simp only[decide_eq_true_eq]
  exact List.le_of_lt (aaS a b h)
end Wrd
end
section
open Go.RowKit
theorem str_law:Maps.Keyed Tryz.prog 9:=Maps.string_keyed Tryz.underlying9
theorem aaU {k:List UInt8}(hk:k.length≤1000):keyOf Tryz.prog 9 (.string ⟨k.toArray⟩)=some (.string k):=by
 have:=WideMaps.keyOf_string_mk (P:=Tryz.prog) Tryz.underlying9 (s:=⟨k.toArray⟩) (by show (ByteArray.mk k.toArray).size≤maxLen;unfold maxLen;simp[ByteArray.size];omega)
 simpa using this
def MapS (w:World)(m:Nat)(L:List (List UInt8)):Prop :=
 ∃ D:DataW Unit,w.ownsMap Tryz.prog 9 unitElem m L.length D∧∀ x:List UInt8,Maps.has D (.string x)=decide (x∈L)
theorem MapS.made (w:World):MapS (w.alloc (.map #[] 0)) w.heap.size []:=⟨_,World.ownsMap_made w _ _ _,fun x=>by simp[Maps.has]⟩
theorem MapS.kept {w w':World}{m:Nat}{L:List (List UInt8)}{row:Option Nat}(h:MapS w m L)(hg:w.grownBy w' row)(hr:some m≠row):MapS w' m L:=by
 obtain⟨D,h1,h2⟩:=h
 exact⟨D,h1.kept hg hr,h2⟩
theorem MapS.ext {w w':World}{m:Nat}{L:List (List UInt8)}(h:MapS w m L)(hE:Ext w w'):MapS w' m L:=h.kept (hE.grown none) (by simp)
theorem Z8 {w:World}{ops:Array Oper}{rest:List Oper}{o:Oper}{a:Act}{Q:Exit→Act→World→Prop}{b:Nat}{L:List (List UInt8)}(hg:o.guard=none)(m x v:Operand)(hop:o.op=Op.mapUpdate 131 m x v)(hm:a.eval m=.map (some b))(hown:MapS w b L)(hn:L.length≤1000000)
  {k:List UInt8} (hk:k.length≤1000) (hx:a.eval x=.string ⟨k.toArray⟩) (hv:a.eval v=.agg #[])
  (hK:∀ w',MapS w' b (L++[k])→w.grownBy w' (some b)→wpList Tryz.prog ops Q rest (a.put o.dst undef) w'):wpList Tryz.prog ops Q (o::rest) a w:=by
 obtain⟨D,h1,h2⟩:=hown
 refine wpList_mapUpdate_own w hg m x v 131 hop 9 133 str_law Tryz.underlying131 _ b L.length D hm h1 (by unfold maxLen;omega) _ _ _ hx hv (aaU hk) _ [] unitElem_mk ?_
 intro w' h3 hg3
 refine hK w' ⟨_,by rw[List.length_append];exact h3,fun x=>?_⟩ hg3
 by_cases e:x=k
 ·subst e
  rw[Maps.has_put_same h1.isMap (str_law.key (aaU hk))]
  exact (decide_eq_true (by simp)).symm
 ·rw[Maps.has_put_other (by simpa using e),h2 x]
  have:x∈L++[k]↔x∈L:=by simp[e]
  rw[decide_eq_decide]
  exact this.symm
end
end Go.Proofs.YtpmedpdjglcdpaaGreatDoor
