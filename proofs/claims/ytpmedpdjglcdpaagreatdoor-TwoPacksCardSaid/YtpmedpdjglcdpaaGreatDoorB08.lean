/- What arguments that came in read as: slices of bytes, and slices of those. Tokens: slices of them that came in, and of the call's own. Tokens of bytes, and bytes of tokens, as values: the longest, the nearest; there and back. Plain mathemat -/
import Derived.Test.YtpmedpdjglcdpaaGreatDoorB02
import Derived.Test.YtpmedpdjglcdpaaGreatDoorB06
import Derived.Test.YtpmedpdjglcdpaaGreatDoorB07
import Derived.ProofKit
import Derived.OpenShut
import Derived.Deep.Slices
import Derived.Deep.Strs
import Derived.Laws.OwnMore
import Derived.Maps.AppendAt
namespace Go.Proofs.YtpmedpdjglcdpaaGreatDoor
open Go.ChangeShapes Go.WideShapes Go.ChangeAt Go.WideMaps Go.WideElems Go.RowKit
theorem own:ownKnob Tryz.prog.godebug=none:=by kernel_rfl
theorem Um:laidOutB Tryz.prog=true:=by kernel_rfl
end Go.Proofs.YtpmedpdjglcdpaaGreatDoor
namespace Go.Proofs.YtpmedpdjglcdpaaGreatDoor
open Go.ChangeShapes Go.WideShapes Go.ChangeAt Go.WideMaps Go.WideElems Go.RowKit
theorem abb (b off i:Nat):(⟨b,off,none⟩:Addr).add i=⟨b,off+i,none⟩:=by unfold Addr.add;split<;>simp_all
structure TokV where
 lit:UInt8
 len:Int
 dist:Int
deriving DecidableEq
instance :Inhabited TokV:=⟨⟨0,0,0⟩⟩
def TokAt (w:World)(b o:Nat)(v:TokV):Prop :=
 w.cell? ⟨b,o,none⟩=some (.int .u8 (v.lit.toNat:Int))∧w.cell? ⟨b,o+1,none⟩=some (.int .i64 v.len)∧w.cell? ⟨b,o+2,none⟩=some (.int .i64 v.dist)
def TokV.ok (v:TokV):Prop:=-9223372036854775808≤v.len∧v.len≤9223372036854775807∧-9223372036854775808≤v.dist∧v.dist≤9223372036854775807
def ToksAt (w:World)(B:Nat)(A:Option Addr)(n:Nat)(L:List TokV):Prop :=
 L.length=n∧(n=0∨∃ b off,A=some ⟨b,off,none⟩∧b<B∧∀ i,i<n→TokAt w b (off+i*3) (L.getD i default)∧(L.getD i default).ok)
theorem TokAt.below {w w':World}{b o B:Nat}{v:TokV}(h:TokAt w b o v)(hb:Below B w w')(hB:b<B):TokAt w' b o v :=
 ⟨(hb.cell (p:=⟨b,o,none⟩) hB).trans h.1,(hb.cell (p:=⟨b,o+1,none⟩) hB).trans h.2.1,(hb.cell (p:=⟨b,o+2,none⟩) hB).trans h.2.2⟩
theorem ToksAt.below {w w':World}{B C n:Nat}{A:Option Addr}{L:List TokV}(h:ToksAt w B A n L)(hb:Below C w w')(hC:B≤C):ToksAt w' B A n L:=by
 refine⟨h.1,?_⟩
 rcases h.2 with h0 | ⟨b,off,hA,hB,hc⟩
 ·exact .inl h0
 ·exact .inr ⟨b,off,hA,hB,fun i hi=>⟨(hc i hi).1.below hb (by omega),(hc i hi).2⟩⟩
def z6 (v:TokV):List Value:=[.int .u8 (v.lit.toNat:Int),.int .i64 v.len,.int .i64 v.dist]
def OwnTk (w:World)(base:Nat)(v:Value)(L:List TokV):Prop:=w.ownsRow base 157 3 v L.length (L.flatMap z6)
theorem acw:(Tryz.prog.info? 157).map (fun i=>(i.zero,i.size,i.bytes))=some (some (.agg #[.int .u8 0,.int .i64 0,.int .i64 0]),3,24):=by kernel_rfl
theorem OwnTk.nil (w:World)(base:Nat):OwnTk w base (.slice none 0 0) []:=World.ownsRow_nil w base _ _
theorem OwnTk.ext {w w':World}{base:Nat}{v:Value}{L:List TokV}(h:OwnTk w base v L)(hE:Ext w w'):OwnTk w' base v L :=
 World.ownsRow.kept h (hE.grown none) (by cases hv:v.ownBlock<;>simp)
theorem OwnTk.lt {w:World}{base:Nat}{v:Value}{L:List TokV}(h:OwnTk w base v L):∀ k,v.ownBlock=some k→base≤k∧k<w.heap.size:=World.ownsRow.lt h
theorem qz:∀ (L:List TokV) (i j:Nat),i<L.length→j<3→(L.flatMap z6)[i*3+j]?=(z6 (L.getD i default))[j]?
 | o::L,0,j,_,hj=>by
  rw[List.flatMap_cons,Nat.zero_mul,Nat.zero_add,List.getElem?_append_left (by simp[z6];omega)]
  rfl
 | o::L,i+1,j,h,hj=>by
  rw[List.flatMap_cons,List.getElem?_append_right (by simp[z6];omega)]
  have:=qz L i j (by simpa using h) hj
  rw[show (i+1)*3+j-(z6 o).length=i*3+j by simp[z6];omega,this]
  simp
theorem OwnTk.form {w:World}{base:Nat}{v:Value}{L:List TokV}(h:OwnTk w base v L):∃ A c,v=.slice A L.length c∧(L.length=0∨∃ g,A=some ⟨g,0,none⟩∧∀ i,i<L.length→TokAt w g (0+i*3) (L.getD i default)):=by
 rcases h.2 with ⟨rfl,h0⟩ | ⟨g,cap,cur,rfl,hb,hgg,hn,hc,hs,ht⟩
 ·exact⟨none,0,by rw[h0],.inl h0⟩
 ·refine⟨_,cap,rfl,.inr ⟨g,rfl,fun i hi=>?_⟩⟩
  have hcell:∀ j,j<3→w.cell? ⟨g,i*3+j,none⟩=(z6 (L.getD i default))[j]?:=fun j hj=>by
   rw[cell_of_row w g (i*3+j) cur _ _ hgg,← qz L i j hi hj,← ht,List.getElem?_take,if_pos (by omega)]
   simp
  rw[Nat.zero_add]
  exact⟨by have:=hcell 0 (by omega);simpa[z6] using this,by have:=hcell 1 (by omega);simpa[z6] using this,by have:=hcell 2 (by omega);simpa[z6] using this⟩
section
variable {o:Oper}{a:Act}{K:Act→World→Prop}{Q:Exit→Act→World→Prop}{w:World}{base:Nat}{v:Value}{L:List TokV}
theorem xb {ops:Array Oper}{rest:List Oper}(hgd:o.guard=none)(s x:Operand)(ho:o.op=.call { callee:=.builtin .append,args:=#[s,x],argTypes:=#[113,113] })(hs:a.eval s=v)(p:TokV)(hown:OwnTk (w.alloc (.cells #[.int .u8 (p.lit.toNat:Int),.int .i64 p.len,.int .i64 p.dist] 157)) base v L)
  {c:Nat} (hx:a.eval x=.slice (some ⟨w.heap.size,0,none⟩) 1 c) (hlen:L.length≤1000000) (hbase:base≤w.heap.size)
  (h:∀ v' w',OwnTk w' base v' (L++[p])→(w.alloc (.cells #[.int .u8 (p.lit.toNat:Int),.int .i64 p.len,.int .i64 p.dist] 157)).grownBy w' v.ownBlock→NewOb (w.alloc (.cells #[.int .u8 (p.lit.toNat:Int),.int .i64 p.len,.int .i64 p.dist] 157)) v.ownBlock v'.ownBlock→wpList Tryz.prog ops Q rest (a.put o.dst v') w') :
  wpList Tryz.prog ops Q (o::rest) a (w.alloc (.cells #[.int .u8 (p.lit.toNat:Int),.int .i64 p.len,.int .i64 p.dist] 157)):=by
 obtain⟨i,hi,hz,hsz,hby⟩:=info_parts acw
 refine wpList_append_own_at _ hgd s x 113 ho base 157 i _ 3 24 Tryz.underlying113 hi hz hsz hby rfl (by omega) v L.length (L.flatMap z6) hs hown ⟨w.heap.size,0,none⟩ 1 c (z6 p) hx rfl (by
  intro j u hu
  rw[abb,Nat.zero_add,zA]
  match j,hu with
  | 0,hu=>simpa[z6] using hu
  | 1,hu=>simpa[z6] using hu
  | 2,hu=>simpa[z6] using hu
  | j+3,hu=>simp[z6]at hu) (by
  intro u hu
  simp[z6]at hu
  rcases hu with rfl|rfl|rfl<;>rfl) (by unfold maxLen;omega) (by omega) (by simp;omega) ?_
 intro v' w' h2 h3 _ h5
 refine h v' w' ?_ h3 (h5.imp id fun h=>⟨_,h,Nat.le_refl _⟩)
 unfold OwnTk
 rw[List.length_append,List.flatMap_append]
 simpa using h2
end
end Go.Proofs.YtpmedpdjglcdpaaGreatDoor
namespace Go.Proofs.YtpmedpdjglcdpaaGreatDoor.Lz
def yz (b:List UInt8)(p d:Nat):Nat→Nat→Nat
 | 0,k=>k
 | f+1,k=>if p+k<b.length∧b.getD (p+k-d) 0=b.getD (p+k) 0 then yz b p d f (k+1) else k
def run (b:List UInt8)(p d:Nat):Nat:=yz b p d 257 0
theorem aaC (b:List UInt8)(p d:Nat):∀ f k,k≤yz b p d f k∧yz b p d f k≤k+f
 | 0,k=>by rw[yz];omega
 | f+1,k=>by
  have:=aaC b p d f (k+1)
  rw[yz]
  split<;>omega
theorem Vx (b:List UInt8)(p d:Nat):∀ f k j,k≤j→j<yz b p d f k→p+j<b.length∧b.getD (p+j-d) 0=b.getD (p+j) 0
 | 0,k,j,h1,h2=>by rw[yz]at h2;omega
 | f+1,k,j,h1,h2=>by
  rw[yz]at h2
  split at h2
  ·rename_i h
   by_cases e:j=k
   ·rw[e];exact h
   ·exact Vx b p d f (k+1) j (by omega) h2
  ·omega
theorem Vy (b:List UInt8)(p d:Nat):∀ f k,yz b p d f k<k+f→¬ (p+yz b p d f k<b.length∧b.getD (p+yz b p d f k-d) 0=b.getD (p+yz b p d f k) 0)
 | 0,k,h=>by rw[yz]at h;omega
 | f+1,k,h=>by
  rw[yz]at h ⊢
  split at h
  ·rename_i hc
   rw[if_pos hc]
   exact Vy b p d f (k+1) (by omega)
  ·rename_i hc
   rw[if_neg hc]
   exact hc
section
variable {b:List UInt8}{p d:Nat}
theorem jO:run b p d≤257:=by have:=aaC b p d 257 0;unfold run;omega
theorem vr {j:Nat}(h:j<run b p d):p+j<b.length∧b.getD (p+j-d) 0=b.getD (p+j) 0:=Vx b p d 257 0 j (by omega) h
theorem Un (h:0<run b p d):p+run b p d≤b.length:=by
 have:=(vr (b:=b) (p:=p) (d:=d) (j:=run b p d-1) (by omega)).1
 omega
theorem adB {n:Nat}(hn:n≤257)(h:∀ j,j<n→p+j<b.length∧b.getD (p+j-d) 0=b.getD (p+j) 0):n≤run b p d:=by
 refine Classical.byContradiction fun hc=>?_
 have hlt:run b p d<n:=by omega
 have:=Vy b p d 257 0 (by unfold run at hlt;omega)
 exact this (h (yz b p d 257 0) hlt)
end
def best (b:List UInt8)(p:Nat):Nat→Nat×Nat
 | 0=>(0,0)
 | m+1=>if (best b p m).1<run b p (m+1) then (run b p (m+1),m+1) else best b p m
theorem qA (b:List UInt8)(p:Nat):∀ m,0<(best b p m).1→1≤(best b p m).2∧(best b p m).2≤m∧(best b p m).1=run b p (best b p m).2
 | 0,h=>by rw[best]at h;simp at h
 | m+1,h=>by
  rw[best]at h ⊢
  split
  ·exact⟨by dsimp only;omega,by dsimp only;omega,rfl⟩
  ·rename_i hc
   rw[if_neg hc]at h
   obtain⟨h1,h2,h3⟩:=qA b p m h
   exact⟨h1,by omega,h3⟩
theorem Uo (b:List UInt8)(p m:Nat):(best b p m).1≤257∧(best b p m).2≤m:=by
 by_cases h:0<(best b p m).1
 ·obtain⟨_,h2,h3⟩:=qA b p m h
  exact⟨by rw[h3];exact jO,h2⟩
 ·refine⟨by omega,?_⟩
  clear h
  induction m with
  | zero=>rw[best];simp
  | succ m ih =>
   rw[best]
   split
   ·simp
   ·omega
def yE (b:List UInt8)(p:Nat):Nat×Nat:=best b p (min 4095 p)
def xc (b:List UInt8)(p:Nat):TokV:=if 3≤(yE b p).1 then ⟨0,(yE b p).1,(yE b p).2⟩ else ⟨b.getD p 0,0,0⟩
def yM (b:List UInt8)(p:Nat):Nat:=if 3≤(yE b p).1 then (yE b p).1 else 1
theorem vt (b:List UInt8)(p:Nat):1≤yM b p:=by unfold yM;split<;>omega
def toks (b:List UInt8)(p:Nat):List TokV:=if p<b.length then xc b p::toks b (p+yM b p) else []
termination_by b.length-p
decreasing_by have:=vt b p;omega
theorem uT {b:List UInt8}{p:Nat}(h:¬ p<b.length):toks b p=[]:=by rw[toks,if_neg h]
theorem vS {b:List UInt8}{p:Nat}(h:p<b.length):toks b p=xc b p::toks b (p+yM b p):=by rw[toks,if_pos h]
theorem Up {b:List UInt8}{p:Nat}(h:p<b.length):p+yM b p≤b.length:=by
 unfold yM
 split
 ·rename_i h3
  obtain⟨_,_,e⟩:=qA b p (min 4095 p) (by unfold yE at h3;omega)
  unfold yE at h3 ⊢
  rw[e]at h3 ⊢
  exact Un (by omega)
 ·omega
def may (t:TokV):Bool:=if t.len=0 then decide (t.dist=0) else decide (t.lit=0∧3≤t.len∧t.len≤257∧1≤t.dist∧t.dist≤4095)
theorem aaD (b:List UInt8)(p:Nat):may (xc b p)=true:=by
 unfold xc
 split
 ·rename_i h3
  have h:=qA b p (min 4095 p) (by unfold yE at h3;omega)
  have h2:=Uo b p (min 4095 p)
  unfold yE at h3 ⊢
  unfold may
  rw[if_neg (by dsimp only;omega)]
  exact decide_eq_true ⟨rfl,by dsimp only;omega,by dsimp only;omega,by dsimp only;omega,by dsimp only;omega⟩
 ·unfold may
  rw[if_pos rfl]
  exact decide_eq_true rfl
theorem Jr (b:List UInt8)(p:Nat):∀ t,t∈toks b p→may t=true:=by
 intro t ht
 by_cases h:p<b.length
 ·rw[vS h]at ht
  rcases List.mem_cons.1 ht with rfl|ht
  ·exact aaD b p
  ·exact Jr b (p+yM b p) t ht
 ·rw[uT h]at ht
  cases ht
termination_by b.length-p
decreasing_by have:=vt b p;omega
theorem uU (b:List UInt8)(p:Nat):(toks b p).length≤b.length-p:=by
 by_cases h:p<b.length
 ·have h1:=uU b (p+yM b p)
  have h2:=vt b p
  rw[vS h,List.length_cons]
  have:=Up h
  omega
 ·rw[uT h]
  exact Nat.zero_le _
termination_by b.length-p
decreasing_by have:=vt b p;omega
def copy (d:Nat):Nat→List UInt8→List UInt8
 | 0,out=>out
 | k+1,out=>copy d k (out++[out.getD (out.length-d) 0])
def ZS (t:TokV):Nat:=if t.len=0 then 1 else t.len.toNat
def acx (out:List UInt8)(t:TokV):List UInt8:=if t.len=0 then out++[t.lit] else copy t.dist.toNat t.len.toNat out
theorem jm {b:List UInt8}{p:Nat}(h:p<b.length):b.take p++[b.getD p 0]=b.take (p+1):=by
 rw[List.take_add_one,List.getD_eq_getElem?_getD,List.getElem?_eq_getElem h]
 rfl
theorem Vz {b:List UInt8}{d:Nat}(hd:1≤d):∀ (k p:Nat),d≤p→p+k≤b.length→(∀ j,j<k→b.getD (p+j-d) 0=b.getD (p+j) 0)→copy d k (b.take p)=b.take (p+k)
 | 0,p,_,_,_=>rfl
 | k+1,p,h1,h2,h3=>by
  have hl:(b.take p).length=p:=by rw[List.length_take];omega
  have e:(b.take p).getD ((b.take p).length-d) 0=b.getD p 0:=by
   have:=h3 0 (by omega)
   rw[Nat.add_zero]at this
   rw[hl,← this]
   simp only[List.getD_eq_getElem?_getD]
   rw[List.getElem?_take,if_pos (by omega)]
  rw[copy,e,jm (by omega),Vz hd k (p+1) (by omega) (by omega) (fun j hj=>by
   have:=h3 (j+1) (by omega)
   rwa [show p+(j+1)=p+1+j by omega]at this),show p+1+k=p+(k+1) by omega]
theorem acy {b:List UInt8}{p:Nat}(h:p<b.length):acx (b.take p) (xc b p)=b.take (p+yM b p)∧ZS (xc b p)=yM b p∧¬ ((p:Int)<(xc b p).dist):=by
 unfold xc yM
 by_cases h3:3≤(yE b p).1
 ·rw[if_pos h3,if_pos h3]
  obtain⟨e1,e2,e3⟩:=qA b p (min 4095 p) (by unfold yE at h3;omega)
  unfold yE at h3 ⊢
  unfold acx ZS
  refine⟨?_,by dsimp only;rw[if_neg (by omega)];omega,by dsimp only;omega⟩
  dsimp only
  rw[if_neg (by omega),Int.toNat_natCast,Int.toNat_natCast]
  rw[e3]at h3 ⊢
  exact Vz e1 _ _ (by omega) (Un (by omega)) (fun j hj=>(vr hj).2)
 ·rw[if_neg h3,if_neg h3]
  unfold acx ZS
  refine⟨by rw[if_pos rfl];exact jm h,by rw[if_pos rfl],by dsimp only;omega⟩
end Go.Proofs.YtpmedpdjglcdpaaGreatDoor.Lz
namespace Go.Proofs.YtpmedpdjglcdpaaGreatDoor
structure PcV where
 sym:Int
 len:Int
 dist:Int
 far:Int
deriving DecidableEq
instance :Inhabited PcV:=⟨⟨0,0,0,0⟩⟩
end Go.Proofs.YtpmedpdjglcdpaaGreatDoor
namespace Go.Proofs.YtpmedpdjglcdpaaGreatDoor.Tok
open Lz
theorem acz {v b:Nat}(h1:2 ^ b≤v)(h2:v<2 ^ (b+1)):Nat.log2 v=b:=by
 have h0:v≠0:=by have:=Nat.pow_pos (n:=b) (show 0<2 by omega);omega
 exact (Nat.log2_eq_iff h0).2 ⟨h1,h2⟩
theorem YV {v:Nat}(h:v≠0):2 ^ Nat.log2 v≤v∧v<2 ^ (Nat.log2 v+1):=(Nat.log2_eq_iff h).1 rfl
theorem jU {v k:Nat}(h:v≠0)(hk:v<2 ^ k):Nat.log2 v<k:=by
 have:=(YV h).1
 exact (Nat.pow_lt_pow_iff_right (show 1<2 by omega)).1 (by omega)
def zC (t:TokV):PcV×Int :=
 if may t=false then (⟨0,0,0,0⟩,7)
 else if t.len=0 then (⟨t.lit.toNat,0,0,0⟩,0)
 else (⟨257+(Nat.log2 (t.len-2).toNat:Nat),((t.len-2).toNat-2 ^ Nat.log2 (t.len-2).toNat:Nat),(Nat.log2 t.dist.toNat:Nat),(t.dist.toNat-2 ^ Nat.log2 t.dist.toNat:Nat)⟩,0)
theorem jn {t:TokV}(h:may t=false):zC t=(⟨0,0,0,0⟩,7):=if_pos h
theorem xq {t:TokV}(h:may t=true)(h0:t.len=0):zC t=(⟨t.lit.toNat,0,0,0⟩,0):=by unfold zC;rw[if_neg (by rw[h];simp),if_pos h0]
theorem may_facts {t:TokV}(h:may t=true)(h0:t.len≠0):t.lit=0∧3≤t.len∧t.len≤257∧1≤t.dist∧t.dist≤4095:=by
 unfold may at h
 rw[if_neg h0]at h
 exact of_decide_eq_true h
theorem xQ {t:TokV}(h:may t=true)(h0:t.len≠0):∃ k x c y:Nat,k≤7∧x<2 ^ k∧c≤11∧y<2 ^ c∧t.len=(2 ^ k:Nat)+x+2∧t.dist=(2 ^ c:Nat)+y∧zC t=(⟨257+(k:Int),x,c,y⟩,0):=by
 obtain⟨_,h1,h2,h3,h4⟩:=may_facts h h0
 have e1:=YV (v:=(t.len-2).toNat) (by omega)
 have e2:=YV (v:=t.dist.toNat) (by omega)
 have l1:=jU (v:=(t.len-2).toNat) (k:=8) (by omega) (by omega)
 have l2:=jU (v:=t.dist.toNat) (k:=12) (by omega) (by omega)
 rw[Nat.pow_succ]at e1 e2
 refine⟨Nat.log2 (t.len-2).toNat,(t.len-2).toNat-2 ^ Nat.log2 (t.len-2).toNat,Nat.log2 t.dist.toNat,t.dist.toNat-2 ^ Nat.log2 t.dist.toNat,by omega,by omega,by omega,by omega,by omega,by omega,?_⟩
 unfold zC
 rw[if_neg (by rw[h];simp),if_neg h0]
theorem jo {k m:Nat}(h:k≤m):2 ^ k≤2 ^ m:=Nat.pow_le_pow_right (by omega) h
end Go.Proofs.YtpmedpdjglcdpaaGreatDoor.Tok
namespace Go.Proofs.YtpmedpdjglcdpaaGreatDoor
open Go.ChangeShapes Go.WideShapes Go.ChangeAt Go.WideMaps Go.WideElems Go.RowKit
theorem QH (b off i:Nat):(⟨b,off,none⟩:Addr).add i=⟨b,off+i,none⟩:=by unfold Addr.add;split<;>simp_all
def rcV (r:Rc):Value:=.agg #[.int .u64 (r.time:Int),.int .u8 (r.lv.toNat:Int),.string ⟨r.src.toArray⟩,.string ⟨r.text.toArray⟩]
def x6 (r:Rc):List Value:=[.int .u64 (r.time:Int),.int .u8 (r.lv.toNat:Int),.string ⟨r.src.toArray⟩,.string ⟨r.text.toArray⟩]
def RcAt (w:World)(b o:Nat)(r:Rc):Prop :=
 w.cell? ⟨b,o,none⟩=some (.int .u64 (r.time:Int))∧w.cell? ⟨b,o+1,none⟩=some (.int .u8 (r.lv.toNat:Int))∧w.cell? ⟨b,o+2,none⟩=some (.string ⟨r.src.toArray⟩)∧w.cell? ⟨b,o+3,none⟩=some (.string ⟨r.text.toArray⟩)
def Rc.ok (r:Rc):Prop:=r.time<2 ^ 64∧r.src.length≤maxLen∧r.text.length≤maxLen
def RcsAt (w:World)(B:Nat)(A:Option Addr)(n:Nat)(L:List Rc):Prop :=
 L.length=n∧(n=0∨∃ b off,A=some ⟨b,off,none⟩∧b<B∧∀ i,i<n→RcAt w b (off+i*4) (L.getD i default))∧∀ r∈L,r.ok
theorem RcAt.below {w w':World}{b o B:Nat}{r:Rc}(h:RcAt w b o r)(hb:Below B w w')(hB:b<B):RcAt w' b o r :=
 ⟨(hb.cell (p:=⟨b,o,none⟩) hB).trans h.1,(hb.cell (p:=⟨b,o+1,none⟩) hB).trans h.2.1,(hb.cell (p:=⟨b,o+2,none⟩) hB).trans h.2.2.1,(hb.cell (p:=⟨b,o+3,none⟩) hB).trans h.2.2.2⟩
theorem RcsAt.below {w w':World}{B C n:Nat}{A:Option Addr}{L:List Rc}(h:RcsAt w B A n L)(hb:Below C w w')(hC:B≤C):RcsAt w' B A n L:=by
 refine⟨h.1,?_,h.2.2⟩
 rcases h.2.1 with h0 | ⟨b,off,hA,hB,hc⟩
 ·exact .inl h0
 ·exact .inr ⟨b,off,hA,hB,fun i hi=>(hc i hi).below hb (by omega)⟩
theorem RcsAt.later {w w':World}{A:Option Addr}{n:Nat}{L:List Rc}(h:RcsAt w w.heap.size A n L)(hE:Ext w w'):RcsAt w' w'.heap.size A n L:=by
 have h2:=h.below hE (Nat.le_refl _)
 refine⟨h2.1,?_,h2.2.2⟩
 rcases h2.2.1 with h0 | ⟨b,off,hA,hB,hc⟩
 ·exact .inl h0
 ·exact .inr ⟨b,off,hA,Nat.lt_of_lt_of_le hB hE.le,hc⟩
theorem RcsAt.okAt {w:World}{B:Nat}{A:Option Addr}{n:Nat}{L:List Rc}(h:RcsAt w B A n L){i:Nat}(hi:i<n):(L.getD i default).ok:=by
 refine h.2.2 _ ?_
 rw[List.getD_eq_getElem?_getD,List.getElem?_eq_getElem (by rw[h.1];exact hi)]
 exact List.getElem_mem _
theorem RcsAt.cut {w:World}{B n:Nat}{A:Option Addr}{r:List Rc}(h:RcsAt w B A n r){k c:Nat}(hk:k≤n)(hc:n≤c):RcsAt w B (if c=k then A else A.map (·.add (k*4))) (n-k) (r.drop k):=by
 refine⟨by rw[List.length_drop,h.1],?_,fun x hx=>h.2.2 x (List.mem_of_mem_drop hx)⟩
 by_cases hkn:k=n
 ·exact .inl (by omega)
 rcases h.2.1 with h0 | ⟨b,off,rfl,hB,hcell⟩
 ·exact .inl (by omega)
 ·refine .inr ⟨b,off+k*4,?_,hB,fun i hi=>?_⟩
  ·simp[show ¬ c=k by omega,Addr.add]
  ·have:=hcell (k+i) (by omega)
   rw[Nat.add_mul,← Nat.add_assoc]at this
   simpa[List.getD_eq_getElem?_getD] using this
theorem RcsAt.top {w:World}{B n:Nat}{A:Option Addr}{r:List Rc}(h:RcsAt w B A n r){k:Nat}(hk:k≤n):RcsAt w B A k (r.take k):=by
 refine⟨by rw[List.length_take,h.1];omega,?_,fun x hx=>h.2.2 x (List.mem_of_mem_take hx)⟩
 rcases h.2.1 with h0 | ⟨b,off,hA,hB,hc⟩
 ·exact .inl (by omega)
 ·refine .inr ⟨b,off,hA,hB,fun i hi=>?_⟩
  have:=hc i (by omega)
  have e:(r.take k).getD i default=r.getD i default:=by simp[List.getD_eq_getElem?_getD,hi]
  rw[e]
  exact this
set_option maxRecDepth 1000000 in
theorem acA {H:Type}{enc:TypeId×Value→H}{W:World}{a:Option Addr}{n c:Nat}{d:DataW H}{p:List MemPlace}(h:DataW.Trod enc Tryz.prog W 0 (fun _=>true) true 24 (.slice a n c) d p) :
  ∃ L:List Rc,n≤c∧c≤maxLen∧RcsAt W W.heap.size a n L:=by
 obtain⟨fuel,hf⟩:=h
 rcases Deep.open_slice Tryz.underlying24 hf with ⟨hcs,_⟩ | ⟨x,n',c',m,k,D,Pl,hcs,_,hl,hm,hmm,_,hx⟩
 ·simp[Value.cells]at hcs
  obtain⟨rfl,rfl,rfl⟩:=hcs
  exact⟨[],by omega,by unfold maxLen;omega,rfl,.inl rfl,by simp⟩
 ·simp[Value.cells]at hcs
  obtain⟨rfl,rfl,rfl⟩:=hcs
  have hmc:m=c:=by simpa using hmm
  subst hmc
  have ce:Tryz.prog.cellsOf 39=4:=by kernel_rfl
  have c1:Tryz.prog.cellsOf 37=1:=by kernel_rfl
  have c2:Tryz.prog.cellsOf 5=1:=by kernel_rfl
  have c3:Tryz.prog.cellsOf 9=1:=by kernel_rfl
  have each:∀ i,i<m→∃ r:Rc,r.ok∧W.cell? (x.add (i*4))=some (.int .u64 (r.time:Int))∧W.cell? (x.add (i*4+1))=some (.int .u8 (r.lv.toNat:Int))∧W.cell? (x.add (i*4+2))=some (.string ⟨r.src.toArray⟩)∧W.cell? (x.add (i*4+3))=some (.string ⟨r.text.toArray⟩):=fun i hi=>by
   obtain⟨cs',h1,h2⟩:=hx i hi
   rw[ce]at h1
   obtain⟨_,hlen,hcell⟩:=World.cells?_some h1
   obtain⟨xs,q,_,_,_,hlx,hxs⟩:=DataW.trod_struct Tryz.underlying39 h2
   match cs',hlen,xs,hlx with
   | [v0,v1,v2,v3],_,[y0,y1,y2,y3],_ =>
    have g0:=hxs 0 _ rfl
    have g1:=hxs 1 _ rfl
    have g2:=hxs 2 _ rfl
    have g3:=hxs 3 _ rfl
    simp[c1,c2,c3]at g0 g1 g2 g3
    obtain⟨z0,e0,_,w0⟩:=DataW.trod_int Tryz.underlying37 g0
    obtain⟨z1,e1,_,w1⟩:=DataW.trod_int Tryz.underlying5 g1
    obtain⟨z2,e2,_,w2⟩:=DataW.trod_string Tryz.underlying9 g2
    obtain⟨z3,e3,_,w3⟩:=DataW.trod_string Tryz.underlying9 g3
    simp only[List.cons.injEq,and_true]at e0 e1 e2 e3
    subst e0 e1 e2 e3
    obtain⟨s2,rfl⟩:=acs z2
    obtain⟨s3,rfl⟩:=acs z3
    obtain⟨a0,a1⟩:=bounds_u64 w0
    obtain⟨b0,b1⟩:=bounds_u8 w1
    rw[ye]at w2 w3
    obtain⟨t0,rfl⟩:=Int.eq_ofNat_of_zero_le a0
    obtain⟨t1,rfl⟩:=Int.eq_ofNat_of_zero_le b0
    have f0:=hcell 0 (by omega)
    have f1:=hcell 1 (by omega)
    have f2:=hcell 2 (by omega)
    have f3:=hcell 3 (by omega)
    rw[Deep.add_add]at f0 f1 f2 f3
    have e8:((UInt8.ofNat t1).toNat:Int)=(t1:Int):=by rw[UInt8.toNat_ofNat'];omega
    exact⟨⟨t0,UInt8.ofNat t1,s2,s3⟩,⟨by show t0<2 ^ 64;omega,w2,w3⟩,by simpa using f0,by rw[e8];simpa using f1,by simpa using f2,by simpa using f3⟩
  obtain⟨V,hV⟩:=Deep.choose_lt each
  refine⟨(List.range n).map V,hl,hm,by simp,?_,fun r hr=>?_⟩
  ·rcases Nat.eq_zero_or_pos n with h0 | h0
   ·exact .inl h0
   obtain⟨b,off,spot⟩:=x
   have hc0:=(hV 0 (by omega)).2.1
   have hspot:spot=none:=by simpa[Addr.add] using World.cell?_spot hc0
   subst hspot
   refine .inr ⟨b,off,rfl,by simpa[Addr.add] using World.block_lt_of_cell? W _ hc0,fun i hi=>?_⟩
   have e:((List.range n).map V).getD i default=V i:=by simp[List.getD_eq_getElem?_getD,hi]
   rw[e]
   obtain⟨_,h2,h3,h4,h5⟩:=hV i (by omega)
   rw[QH]at h2 h3 h4 h5
   exact⟨h2,by rw[Nat.add_assoc];exact h3,by rw[Nat.add_assoc];exact h4,by rw[Nat.add_assoc];exact h5⟩
  ·obtain⟨i,hi,rfl⟩:=List.mem_map.1 hr
   exact (hV i (by have:=List.mem_range.1 hi;omega)).1
theorem ZT:∀ (L:List Rc) (i j:Nat),i<L.length→j<4→(L.flatMap x6)[i*4+j]?=(x6 (L.getD i default))[j]?
 | o::L,0,j,_,hj=>by
  rw[List.flatMap_cons,Nat.zero_mul,Nat.zero_add,List.getElem?_append_left (by simp[x6];omega)]
  rfl
 | o::L,i+1,j,h,hj=>by
  rw[List.flatMap_cons,List.getElem?_append_right (by simp[x6];omega)]
  have:=ZT L i j (by simpa using h) hj
  rw[show (i+1)*4+j-(x6 o).length=i*4+j by simp[x6];omega,this]
  simp
theorem ad3 (w:World)(L:List Rc)(cs:Array Value)(t:TypeId)(fr:Nat×Nat)(h:cs=(L.flatMap x6).toArray)(n:Nat)(hn:L.length=n)(hok:∀ r∈L,r.ok) :
  RcsAt (w.alloc (.cells cs t fr)) (w.alloc (.cells cs t fr)).heap.size (some ⟨w.heap.size,0,none⟩) n L:=by
 subst h
 subst hn
 refine⟨rfl,.inr ⟨w.heap.size,0,rfl,by simp,fun i hi=>?_⟩,hok⟩
 have hc:∀ j,j<4→(w.alloc (.cells (L.flatMap x6).toArray t fr)).cell? ⟨w.heap.size,i*4+j,none⟩=(x6 (L.getD i default))[j]?:=fun j hj=>by
  rw[World.cell?_alloc_mark,← ZT L i j hi hj]
  simp
 rw[Nat.zero_add]
 exact⟨hc 0 (by omega),hc 1 (by omega),hc 2 (by omega),hc 3 (by omega)⟩
end Go.Proofs.YtpmedpdjglcdpaaGreatDoor
namespace Go.Proofs.YtpmedpdjglcdpaaGreatDoor
open Go.RowKit Rcs Num
theorem qB (s:List UInt8)(w:World)(hs:s.length≤1000000):Calls Tryz.prog 90 #[.string ⟨s.toArray⟩] w (zt w (xa s)):=by
 have:=ZP ⟨s.toArray⟩ w (by rw[ye];exact hs)
 rw[ye]at this
 simpa[xa] using this
theorem jp (whole:Bool)(r:Rc):(oneB whole r).length≤31+r.src.length+r.text.length:=by
 have h1:=enc_len r.time
 have h2:=enc_len r.src.length
 have h3:=enc_len r.text.length
 unfold oneB xa
 cases whole<;>simp only[List.length_append,List.length_nil,List.length_cons,if_true,if_false,Bool.false_eq_true]<;>omega
set_option maxHeartbeats 2000000 in
set_option maxRecDepth 10000 in
theorem qC (whole:Bool)(r:Rc)(w:World)(ht:r.time<2 ^ 64)(h1:r.src.length≤1000000)(h2:r.text.length≤1000000):Calls Tryz.prog 85 #[.bool whole,rcV r] w (zt w (oneB whole r)):=by
 obtain⟨time,lv,src,text⟩:=r
 dsimp only at ht h1 h2
 obtain⟨w1,hw1⟩:∃ w1,w1=w.alloc (.cells #[.int .u64 (time:Int),.int .u8 (lv.toNat:Int),.string ⟨src.toArray⟩,.string ⟨text.toArray⟩] 39):=⟨_,rfl⟩
 have hE1:Ext w w1:=by rw[hw1];exact zb w _
 have hW1:Whole w1 w.heap.size 39 #[.int .u64 (time:Int),.int .u8 (lv.toNat:Int),.string ⟨src.toArray⟩,.string ⟨text.toArray⟩]:=by rw[hw1];exact Whole.new w _ _
 have HW:=hide hW1
 have HE1:=hide hE1
 have CN:=hide (fun W=>zx time W (by omega))
 have CS:=hide (fun W=>qB src W h1)
 have CT:=hide (fun W=>qB text W h2)
 have hls:=enc_len src.length
 have hlt:=enc_len text.length
 have hln:=enc_len time
 have HSl:=hide (show (xa src).length≤1000010 by unfold xa;rw[List.length_append];omega)
 have HTl:=hide (show (xa text).length≤1000010 by unfold xa;rw[List.length_append];omega)
 have HNl:=hide hln
 have HFin:=hide (fun (e:Ending) (w':World) (v:Value) (l:List UInt8) (he:e=.returned v) (hO:OwnB w' w1.heap.size v l) (hE:Ext w1 w') (hl:l=oneB whole ⟨time,lv,src,text⟩)=>(show zt w (oneB whole ⟨time,lv,src,text⟩) e w' from ⟨v,he,by rw[← hl];exact hO.mono hE1.le,hE1.trans hE⟩))
 unfold rcV
 cases whole with
 | false =>
  have HOne:=hide (show []++xa src++xa text=oneB false ⟨time,lv,src,text⟩ by simp[oneB])
  generalize xa src=S at *
  generalize xa text=T at *
  generalize oneB false ⟨time,lv,src,text⟩=res at *
  clear hE1 hW1 hls hlt hln CN HNl
  have c2:=HW.out.at 2 (u:=.string ⟨src.toArray⟩) rfl
  go_enter Tryz.func85,Tryz.ntmps85
  go_wp2_with fail
  rw[← hw1]
  clear hw1
  refine (CS.out w1).mono ?_
  rintro e w2 ⟨v2,rfl,hO2,hE2⟩
  obtain⟨A2,c2',hv2,-,-,q2⟩:=hO2.form
  obtain⟨m2,hm2⟩:∃ m,m=S.length:=⟨_,rfl⟩
  rw[← hm2]at hv2 q2
  have HM2:=hide hm2
  have HQ2:=hide q2
  have HE2:=hide hE2
  subst hv2
  clear hO2 q2 hm2 hE2 c2
  go_wp2_with (at_builtin;refine ze (base:=w1.heap.size) (v:=.slice none 0 0) rfl (.tmp 17) (.tmp 20) rfl rfl (OwnB.nil _ _) rfl HQ2.out (by have:=HM2.out;have:=HSl.out;simp;omega) HE2.out.le ?_;intro v3 w3 hO3 hG3 _;have HO3:=hide hO3;have HE3:=hide (show Ext w1 w3 from Below.grown HE2.out hG3 HE2.out.le (fun k hk=>by simp[Value.ownBlock]at hk));have c3:=(HW.out.ext HE3.out).at 3 (u:=.string ⟨text.toArray⟩) rfl;clear hO3 hG3)
  refine (CT.out w3).mono ?_
  rintro e w4 ⟨v4,rfl,hO4,hE4⟩
  obtain⟨A4,c4',hv4,-,-,q4⟩:=hO4.form
  obtain⟨m4,hm4⟩:∃ m,m=T.length:=⟨_,rfl⟩
  rw[← hm4]at hv4 q4
  have HM4:=hide hm4
  have HQ4:=hide q4
  have HE4:=hide (HE3.out.trans hE4)
  have HO4:=hide (HO3.out.ext hE4)
  subst hv4
  clear hO4 q4 hm4 hE4 c3
  go_wp2_with (at_builtin;refine ze rfl (.tmp 22) (.tmp 25) rfl rfl HO4.out rfl HQ4.out (by have:=HM4.out;have:=HSl.out;have:=HTl.out;simp;omega) HE4.out.le ?_;intro v5 w5 hO5 hG5 _;have HO5:=hide hO5;have HE5:=hide (show Ext w1 w5 from Below.grown HE4.out hG5 HE4.out.le (fun k hk=>(HO4.out.lt k hk).1));clear hO5 hG5)
  go_ret
  exact HFin.out _ _ _ _ rfl HO5.out HE5.out HOne.out
 | true =>
  have HOne:=hide (show []++enc time++[lv]++xa src++xa text=oneB true ⟨time,lv,src,text⟩ by simp[oneB])
  generalize xa src=S at *
  generalize xa text=T at *
  generalize enc time=N at *
  generalize oneB true ⟨time,lv,src,text⟩=res at *
  clear hE1 hW1 hls hlt hln
  have c2:=HW.out.at 0 (u:=.int .u64 (time:Int)) rfl
  go_enter Tryz.func85,Tryz.ntmps85
  go_wp2_with fail
  rw[← hw1]
  clear hw1
  refine (CN.out w1).mono ?_
  rintro e w2 ⟨v2,rfl,hO2,hE2⟩
  obtain⟨A2,c2',hv2,-,-,q2⟩:=hO2.form
  obtain⟨m2,hm2⟩:∃ m,m=N.length:=⟨_,rfl⟩
  rw[← hm2]at hv2 q2
  have HM2:=hide hm2
  have HQ2:=hide q2
  have HE2:=hide hE2
  subst hv2
  clear hO2 q2 hm2 hE2 c2
  go_wp2_with (first
   | (at_builtin;refine ze (base:=w1.heap.size) (v:=.slice none 0 0) rfl (.tmp 7) (.tmp 10) rfl rfl (OwnB.nil _ _) rfl HQ2.out (by have:=HM2.out;have:=HNl.out;simp;omega) HE2.out.le ?_;intro v3 w3 hO3 hG3 _;have HO3:=hide hO3;have HE3:=hide (show Ext w1 w3 from Below.grown HE2.out hG3 HE2.out.le (fun k hk=>by simp[Value.ownBlock]at hk));have c3:=(HW.out.ext HE3.out).at 1 (u:=.int .u8 (lv.toNat:Int)) rfl;clear hO3 hG3)
   | (at_builtin;refine ze rfl (.tmp 12) (.tmp 15) rfl rfl (HO3.out.ext (zb w3 _)) rfl (zr w3 [lv] #[.int .u8 (lv.toNat:Int)] 5 (0,0) rfl 1 rfl) (by have:=HNl.out;simp;omega) (HE3.out.trans (zb w3 _)).le ?_;intro v4 w4 hO4 hG4 _;have HO4:=hide hO4;have HE4:=hide (show Ext w1 w4 from Below.grown (HE3.out.trans (zb w3 _)) hG4 (HE3.out.trans (zb w3 _)).le (fun k hk=>(HO3.out.lt k hk).1));have c4:=(HW.out.ext HE4.out).at 2 (u:=.string ⟨src.toArray⟩) rfl;clear hO4 hG4))
  refine (CS.out w4).mono ?_
  rintro e w5 ⟨v5,rfl,hO5,hE5⟩
  obtain⟨A5,c5',hv5,-,-,q5⟩:=hO5.form
  obtain⟨m5,hm5⟩:∃ m,m=S.length:=⟨_,rfl⟩
  rw[← hm5]at hv5 q5
  have HM5:=hide hm5
  have HQ5:=hide q5
  have HE5:=hide (HE4.out.trans hE5)
  have HO5:=hide (HO4.out.ext hE5)
  subst hv5
  clear hO5 q5 hm5 hE5 c3 c4
  go_wp2_with (at_builtin;refine ze rfl (.tmp 17) (.tmp 20) rfl rfl HO5.out rfl HQ5.out (by have:=HM5.out;have:=HSl.out;have:=HNl.out;simp;omega) HE5.out.le ?_;intro v6 w6 hO6 hG6 _;have HO6:=hide hO6;have HE6:=hide (show Ext w1 w6 from Below.grown HE5.out hG6 HE5.out.le (fun k hk=>(HO5.out.lt k hk).1));have c6:=(HW.out.ext HE6.out).at 3 (u:=.string ⟨text.toArray⟩) rfl;clear hO6 hG6)
  refine (CT.out w6).mono ?_
  rintro e w7 ⟨v7,rfl,hO7,hE7⟩
  obtain⟨A7,c7',hv7,-,-,q7⟩:=hO7.form
  obtain⟨m7,hm7⟩:∃ m,m=T.length:=⟨_,rfl⟩
  rw[← hm7]at hv7 q7
  have HM7:=hide hm7
  have HQ7:=hide q7
  have HE7:=hide (HE6.out.trans hE7)
  have HO7:=hide (HO6.out.ext hE7)
  subst hv7
  clear hO7 q7 hm7 hE7 c6
  go_wp2_with (at_builtin;refine ze rfl (.tmp 22) (.tmp 25) rfl rfl HO7.out rfl HQ7.out (by have:=HM7.out;have:=HSl.out;have:=HTl.out;have:=HNl.out;simp;omega) HE7.out.le ?_;intro v8 w8 hO8 hG8 _;have HO8:=hide hO8;have HE8:=hide (show Ext w1 w8 from Below.grown HE7.out hG8 HE7.out.le (fun k hk=>(HO7.out.lt k hk).1));clear hO8 hG8)
  go_ret
  exact HFin.out _ _ _ _ rfl HO8.out HE8.out HOne.out
theorem Rcs.bytes_snoc (whole:Bool){l:List Rc}{i:Nat}(h:i<l.length):bytesB whole (l.take (i+1))=bytesB whole (l.take i)++oneB whole (l.getD i default):=by
 rw[aau h]
 unfold bytesB
 rw[List.flatMap_append]
 simp
theorem Rcs.bytes_small (whole:Bool):∀ l:List Rc,(bytesB whole l).length≤2*weightE l
 | []=>by simp[bytesB]
 | r::t=>by
  have h1:=bytes_small whole t
  have h2:=jp whole r
  unfold bytesB at h1 ⊢
  unfold weightE at h1 ⊢
  rw[List.flatMap_cons,List.length_append,List.map_cons,List.sum_cons]
  omega
set_option maxHeartbeats 2000000 in
set_option maxRecDepth 10000 in
theorem YW (whole:Bool)(A:Option Addr)(n c:Nat)(l:List Rc)(w:World)(h:RcsAt w w.heap.size A n l)(hw:weightE l≤1000000):Calls Tryz.prog 61 #[.bool whole,.slice A n c] w (zt w (bytesB whole l)):=by
 have hl:=h.1
 have hn:n≤1000000:=by have:=weight_len l;omega
 have HSt:=hide (fun (i:Nat) (hi:i<n)=>bytes_snoc whole (l:=l) (i:=i) (by omega))
 have HSm:=hide (show ∀ i,(bytesB whole (l.take i)).length≤2000000 from fun i=>by have h1:=bytes_small whole (l.take i);have h2:=weight_take l i;omega)
 have HOne:=hide (fun (i:Nat) (hi:i<n)=>show (l.getD i default).time<2 ^ 64∧(l.getD i default).src.length≤1000000∧(l.getD i default).text.length≤1000000 from by
  have h1:=weight_mem (l:=l) (r:=l.getD i default) (by rw[List.getD_eq_getElem?_getD,List.getElem?_eq_getElem (by omega)];exact List.getElem_mem _)
  exact⟨(h.okAt hi).1,by omega,by omega⟩)
 have HAll:=hide (show bytesB whole (l.take n)=bytesB whole l by rw[List.take_of_length_le (by omega)])
 have H0:=hide (show bytesB whole (l.take 0)=[] by simp[bytesB])
 have HA:=hide h
 unfold zt
 generalize bytesB whole l=res at *
 clear h hl hw
 go_enter Tryz.func61,Tryz.ntmps61
 go_wp2
 go_loopw [6,5] (fun x v wr=>∃ i:Nat,i≤n∧x=.int .i64 (i:Int)∧OwnB wr w.heap.size v (bytesB whole (l.take i))∧Ext w wr) (fun x _ _=>n-(intOf x).toNat)
 case atStart=>exact⟨0,by omega,rfl,by rw[H0.out];exact OwnB.nil _ _,Ext.refl _⟩
 case round =>
  clear H0
  obtain⟨i,hi,rfl,hO,hE⟩:=hrel
  have HO:=hide hO
  have HE:=hide hE
  clear hO hE
  by_cases hlt:i<n
  ·have hiI:(i:Int)<(n:Int):=by omega
   rcases (HA.out.later HE.out).2.1 with hn0 | ⟨b1,o1,rfl,_,hc1⟩
   ·omega
   obtain⟨e0,e1,e2,e3⟩:=hc1 i hlt
   obtain⟨k0,k1,k2⟩:=HOne.out i hlt
   have HSi:=hide (HSt.out i hlt)
   have HSl:=hide (HSm.out i)
   have hle:=jp whole (l.getD i default)
   obtain⟨r,hr⟩:∃ r,r=l.getD i default:=⟨_,rfl⟩
   rw[← hr]at e0 e1 e2 e3 k0 k1 k2 HSi hle
   have CO:=qC whole r wr k0 k1 k2
   unfold rcV at CO
   have HLe:=hide (show (oneB whole r).length≤3000000 by omega)
   obtain⟨Z,hZ⟩:∃ Z,Z=oneB whole r:=⟨_,rfl⟩
   rw[← hZ]at CO HSi HLe
   clear hc1 hr k0 k1 k2 hle hZ
   go_wp2_with fail
   refine CO.mono ?_
   rintro e w4 ⟨v4,rfl,hO4,hE4⟩
   obtain⟨A4,c4,hv4,-,-,q4⟩:=hO4.form
   obtain⟨m4,hm4⟩:∃ m,m=Z.length:=⟨_,rfl⟩
   rw[← hm4]at hv4 q4
   have HM4:=hide hm4
   have HQ4:=hide q4
   have HE4:=hide (HE.out.trans hE4)
   have HO4:=hide (HO.out.ext hE4)
   have HB4:=hide (show (bytesB whole (l.take i)).length≤2000000 by have:=HSl.out;omega)
   subst hv4
   clear hO4 q4 hm4 hE4 CO e0 e1 e2 e3
   go_wp2_with (at_builtin;refine ze rfl (.tmp 13) (.tmp 19) rfl rfl HO4.out rfl HQ4.out (by have:=HM4.out;have:=HLe.out;have:=HB4.out;omega) HE4.out.le ?_;intro v5 w5 hO5 hG5 _;have HO5:=hide hO5;have HE5:=hide (show Ext w w5 from Below.grown HE4.out hG5 HE4.out.le (fun k hk=>(HO4.out.lt k hk).1));clear hO5 hG5)
   go_roundw
   case rel=>exact⟨i+1,by omega,by go_num,by rw[HSi.out];exact HO5.out,HE5.out⟩
   case measure=>simp[intOf];omega
  ·have hiI:¬ (i:Int)<(n:Int):=by omega
   obtain rfl:i=n:=by omega
   clear hlt
   go_wp2
   go_ret
   exact⟨_,rfl,by rw[← HAll.out];exact HO.out,HE.out⟩
end Go.Proofs.YtpmedpdjglcdpaaGreatDoor
namespace Go.Proofs.YtpmedpdjglcdpaaGreatDoor
open Go.RowKit Rcs Num
def Rcs.groupsI (size:Int)(whole:Bool)(l:List Rc):List Int:=(groupsE size whole l).map fun (n:Nat)=>(n:Int)
def Rcs.restI (size:Int)(whole:Bool)(l:List Rc)(i:Nat):List Int:=(groupsAt size whole l i).map fun (n:Nat)=>(n:Int)
theorem Rcs.more_step {whole:Bool}{size:Int}{l:List Rc}{sum k:Nat}(h:k<l.length):moreG whole size sum (l.drop k)=if ((sum+(oneB whole (l.getD k default)).length:Nat):Int)≤size then moreG whole size (sum+(oneB whole (l.getD k default)).length) (l.drop (k+1))+1 else 0:=by rw[jh h,moreG]
theorem Rcs.more_end {whole:Bool}{size:Int}{l:List Rc}{sum k:Nat}(h:l.length≤k):moreG whole size sum (l.drop k)=0:=by rw[List.drop_eq_nil_of_le h];rfl
set_option maxHeartbeats 4000000 in
set_option maxRecDepth 10000 in
theorem YX (size:Int)(whole:Bool)(A:Option Addr)(n c:Nat)(l:List Rc)(w:World)(size0:Int)(hz:(size0<1∧size=1)∨(1≤size0∧size=size0))(hi64:size≤9223372036854775807)(h:RcsAt w w.heap.size A n l)(hw:weightE l≤1000000) :
  Calls Tryz.prog 59 #[.int .i64 size0,.bool whole,.slice A n c] w (YA w (restI size whole l 0)):=by
 have hl:=h.1
 have hn:n≤62500:=by have:=weight_len l;omega
 have HOne:=hide (fun (i:Nat) (hi:i<n)=>show (l.getD i default).time<2 ^ 64∧(l.getD i default).src.length≤1000000∧(l.getD i default).text.length≤1000000 from by
  have h1:=weight_mem (l:=l) (r:=l.getD i default) (by rw[List.getD_eq_getElem?_getD,List.getElem?_eq_getElem (by omega)];exact List.getElem_mem _)
  exact⟨(h.okAt hi).1,by omega,by omega⟩)
 have HWt:=hide (show ∀ i,weightE (l.take i)≤1000000 from fun i=>Nat.le_trans (weight_take l i) hw)
 have HWs:=hide (fun (i:Nat) (hi:i<n)=>vA (l:=l) (i:=i) (by omega))
 have HLn:=hide (fun (i:Nat)=>jp whole (l.getD i default))
 have HSt:=hide (fun (i:Nat) (hi:i<n)=>(groups_step (size:=size) (whole:=whole) (l:=l) (i:=i) (by omega)))
 have HGn:=hide (show ∀ i,groupN size whole l i=moreG whole size (oneB whole (l.getD i default)).length (l.drop (i+1))+1 from fun _=>rfl)
 have HMs:=hide (fun (k sum:Nat) (hk:k<n)=>more_step (whole:=whole) (size:=size) (l:=l) (sum:=sum) (k:=k) (by omega))
 have HMe:=hide (fun (k sum:Nat) (hk:n≤k)=>more_end (whole:=whole) (size:=size) (l:=l) (sum:=sum) (k:=k) (by omega))
 have HEnd:=hide (show restI size whole l n=[] by unfold restI;rw[groups_end (by omega)];rfl)
 have H0:=hide (show restI size whole l 0=[]++restI size whole l 0 from rfl)
 have HRs:=hide (show ∀ i,i<n→restI size whole l i=(groupN size whole l i:Int)::restI size whole l (i+groupN size whole l i) from fun i hi=>by unfold restI;rw[(groups_step (by omega)).1,List.map_cons])
 have HFit:=hide (show ∀ i,i<n→i+groupN size whole l i≤n from fun i hi=>by have:=(groups_step (size:=size) (whole:=whole) (l:=l) (i:=i) (by omega)).2;omega)
 have HCO:=hide (fun (i:Nat) (hi:i<n) (W:World)=>qC whole (l.getD i default) W (HOne.out i hi).1 (HOne.out i hi).2.1 (HOne.out i hi).2.2)
 have HA:=hide h
 have hs1:1≤size:=by omega
 unfold YA
 generalize hres:restI size whole l 0=res at *
 clear h hl hw HSt
 rcases hz with ⟨z1,rfl⟩ | ⟨z1,rfl⟩
 ·have hzI:size0<1:=z1
  go_enter Tryz.func59,Tryz.ntmps59
  go_wp2
  go_loopw [8,7] (fun x v wr=>∃ (i:Nat) (done:List Int),i≤n∧done.length≤i∧x=.int .i64 (i:Int)∧OwnI wr w.heap.size v done∧res=done++restI 1 whole l i∧Ext w wr) (fun x _ _=>n-(intOf x).toNat)
  case atStart=>exact⟨0,[],by omega,by simp,rfl,OwnI.nil _ _,by rw[← hres];rfl,Ext.refl _⟩
  case round =>
   clear H0 hres
   obtain⟨i,done,hi,hdl,rfl,hO,hrs,hE⟩:=hrel
   have HO:=hide hO
   have HE:=hide hE
   have HRes:=hide hrs
   have HDl:=hide hdl
   clear hO hE hrs hdl
   by_cases hlt:i<n
   ·have hiI:(i:Int)<(n:Int):=by omega
    rcases (HA.out.later HE.out).2.1 with hn0 | ⟨b1,o1,rfl,_,hc1⟩
    ·omega
    have HCell:=hide (show ∀ W,Ext w W→∀ j,j<n→RcAt W b1 (o1+j*4) (l.getD j default) from fun W hW j hj=>by
     rcases (HA.out.later hW).2.1 with h0 | ⟨b2,o2,h2,_,hc2⟩
     ·omega
     ·simp only[Option.some.injEq,Addr.mk.injEq,and_true]at h2
      obtain⟨rfl,rfl⟩:=h2
      exact hc2 j hj)
    obtain⟨e0,e1,e2,e3⟩:=hc1 i hlt
    have CO:=HCO.out i hlt wr
    unfold rcV at CO
    have HG0:=hide (HGn.out i)
    have HRi:=hide (HRs.out i hlt)
    have HFi:=hide (HFit.out i hlt)
    have HL0:=hide (show (oneB whole (l.getD i default)).length≤2*weightE (l.take (i+1)) by have h1:=HWs.out i hlt;have h2:=HLn.out i;omega)
    obtain⟨r,hr⟩:∃ r,r=l.getD i default:=⟨_,rfl⟩
    rw[← hr]at e0 e1 e2 e3 CO HG0 HL0
    obtain⟨Z,hZ⟩:∃ Z,Z=oneB whole r:=⟨_,rfl⟩
    rw[← hZ]at CO HG0 HL0
    clear hc1 hr hZ
    go_wp2_with fail
    refine CO.mono ?_
    rintro e w4 ⟨v4,rfl,hO4,hE4⟩
    obtain⟨A4,c4,hv4,-,-,-⟩:=hO4.form
    obtain⟨m4,hm4⟩:∃ m,m=Z.length:=⟨_,rfl⟩
    rw[← hm4]at hv4 HG0 HL0
    have HE4:=hide (HE.out.trans hE4)
    have HO4:=hide (HO.out.ext hE4)
    subst hv4
    clear hO4 hm4 hE4 CO e0 e1 e2 e3 HO
    have HO:=HO4
    clear HO4
    obtain⟨wo,rfl⟩:∃ W,W=w4:=⟨_,rfl⟩
    go_wp2
    go_loopw [9,10] (fun y z wk=>∃ k sum:Nat,1≤k∧i+k≤n∧y=.int .i64 (k:Int)∧z=.int .i64 (sum:Int)∧groupN 1 whole l i=k+moreG whole 1 sum (l.drop (i+k))∧sum≤2*weightE (l.take (i+k))∧Ext w wk∧Ext wo wk) (fun y _ _=>n-(intOf y).toNat)
    case atStart=>exact⟨1,m4,by omega,by omega,rfl,rfl,by rw[HG0.out,Nat.add_comm],HL0.out,HE4.out,Ext.refl _⟩
    case round =>
     clear HG0 HL0
     obtain⟨k,sum,hk1,hkn,rfl,rfl,hGk,hsl,hEk,hEo⟩:=hrel
     have hs2:sum≤2000000:=by have:=HWt.out (i+k);omega
     have HSl:=hide hsl
     have HEk:=hide hEk
     have HEo:=hide hEo
     clear hsl hEk hEo
     by_cases hk:i+k<n
     ·have hkI:(i:Int)+(k:Int)<(n:Int):=by omega
      obtain⟨j,hj⟩:∃ j,j=i+k:=⟨_,rfl⟩
      have hjI:(i:Int)+(k:Int)=(j:Int):=by omega
      have hjn:j<n:=by omega
      have hjnI:(j:Int)<(n:Int):=by omega
      rw[HMs.out (i+k) sum hk,← hj]at hGk
      obtain⟨e0,e1,e2,e3⟩:=HCell.out wr HEk.out j hjn
      have HCj:=hide (fun W (hW:Ext w W)=>HCell.out W hW j hjn)
      have CO:=hide (fun W=>HCO.out j hjn W)
      have HLj:=hide (HLn.out j)
      have HWj:=hide (HWs.out j hjn)
      have HWm:=hide (HWt.out (j+1))
      obtain⟨r,hr⟩:∃ r,r=l.getD j default:=⟨_,rfl⟩
      rw[← hr]at e0 e1 e2 e3 CO HCj HLj HWj hGk
      obtain⟨Z,hZ⟩:∃ Z,Z=oneB whole r:=⟨_,rfl⟩
      rw[← hZ]at CO HLj hGk
      obtain⟨m,hm⟩:∃ m,m=Z.length:=⟨_,rfl⟩
      rw[← hm]at hGk
      have HM:=hide hm
      have hm2:m≤2000000:=by have h1:=HLj.out;have h2:=HWj.out;have h3:=HWm.out;omega
      have HSn:=hide (show sum+m≤2*weightE (l.take (j+1)) by have h1:=HLj.out;have h2:=HWj.out;have h3:=HSl.out;rw[← hj]at h3;omega)
      have HJ:=hide hj
      have C1:=CO.out wr
      unfold rcV at C1
      clear hr hZ hm hk hj
      by_cases hs:((sum+m:Nat):Int)≤1
      ·rw[if_pos hs]at hGk
       have hsI:(sum:Int)+(m:Int)≤1:=by omega
       have HGk:=hide hGk
       clear hs hGk
       go_wp2_with fail
       refine C1.mono ?_
       rintro e w5 ⟨v5,rfl,hO5,hE5⟩
       obtain⟨A5,c5,hv5,-,-,-⟩:=hO5.form
       rw[← HM.out]at hv5
       have HE5:=hide (HEk.out.trans hE5)
       have HEo5:=hide (HEo.out.trans hE5)
       obtain⟨f0,f1,f2,f3⟩:=HCj.out w5 HE5.out
       have C2:=CO.out w5
       unfold rcV at C2
       subst hv5
       clear hO5 hE5 C1 e0 e1 e2 e3
       go_wp2_with fail
       refine C2.mono ?_
       rintro e w6 ⟨v6,rfl,hO6,hE6⟩
       obtain⟨A6,c6,hv6,-,-,-⟩:=hO6.form
       rw[← HM.out]at hv6
       have HE6:=hide (HE5.out.trans hE6)
       have HEo6:=hide (HEo5.out.trans hE6)
       subst hv6
       clear hO6 hE6 C2 f0 f1 f2 f3
       go_wp2
       go_roundw
       case rel=>exact⟨k+1,sum+m,by omega,by have:=HJ.out;omega,by go_num,by go_num,by rw[HGk.out,show i+(k+1)=j+1 by have:=HJ.out;omega];omega,by rw[show i+(k+1)=j+1 by have:=HJ.out;omega];exact HSn.out,HE6.out,HEo6.out⟩
       case measure=>have:=HJ.out;simp[intOf];omega
      ·have hsI:¬ (sum:Int)+(m:Int)≤1:=by omega
       rw[if_neg hs]at hGk
       clear hs
       go_wp2_with fail
       refine C1.mono ?_
       rintro e w5 ⟨v5,rfl,hO5,hE5⟩
       obtain⟨A5,c5,hv5,-,-,-⟩:=hO5.form
       rw[← HM.out]at hv5
       subst hv5
       clear C1 e0 e1 e2 e3
       have hG:groupN 1 whole l i=k:=by rw[hGk,Nat.add_zero]
       have hR1:=HRi.out
       rw[hG]at hR1
       have hR2:=HRes.out
       rw[hR1]at hR2
       have HR3:=hide (show res=(done++[(k:Int)])++restI 1 whole l (i+k) by rw[hR2,List.append_assoc];rfl)
       have HOx:=hide (HO.out.ext (HEo.out.trans hE5))
       have HEx:=hide (HEk.out.trans hE5)
       have hdn:done.length≤1000000:=by have:=HDl.out;omega
       have HDn:=hide (show (done++[(k:Int)]).length≤i+k by rw[List.length_append,List.length_singleton];have:=HDl.out;omega)
       clear hG hR1 hR2 hGk
       go_wp2_with (at_builtin;refine xF rfl (.tmp 58) (.tmp 60) rfl HEx.out HOx.out rfl (k:Int) rfl hdn ?_;intro v6 w6 hO6 hE6;have HO6:=hide hO6;have HE6:=hide hE6;clear hO6 hE6)
       go_roundw
       case rel=>exact⟨i+k,done++[(k:Int)],by omega,HDn.out,by go_num,HO6.out,HR3.out,HE6.out⟩
       case measure=>simp[intOf];omega
     ·have hkI:¬ (i:Int)+(k:Int)<(n:Int):=by omega
      rw[HMe.out (i+k) sum (by omega)]at hGk
      clear hk
      have hG:groupN 1 whole l i=k:=by rw[hGk,Nat.add_zero]
      have hR1:=HRi.out
      rw[hG]at hR1
      have hR2:=HRes.out
      rw[hR1]at hR2
      have HR3:=hide (show res=(done++[(k:Int)])++restI 1 whole l (i+k) by rw[hR2,List.append_assoc];rfl)
      have HOx:=hide (HO.out.ext HEo.out)
      have HEx:=hide HEk.out
      have hdn:done.length≤1000000:=by have:=HDl.out;omega
      have HDn:=hide (show (done++[(k:Int)]).length≤i+k by rw[List.length_append,List.length_singleton];have:=HDl.out;omega)
      clear hG hR1 hR2 hGk
      go_wp2_with (at_builtin;refine xF rfl (.tmp 58) (.tmp 60) rfl HEx.out HOx.out rfl (k:Int) rfl hdn ?_;intro v6 w6 hO6 hE6;have HO6:=hide hO6;have HE6:=hide hE6;clear hO6 hE6)
      go_roundw
      case rel=>exact⟨i+k,done++[(k:Int)],by omega,HDn.out,by go_num,HO6.out,HR3.out,HE6.out⟩
      case measure=>simp[intOf];omega
   ·have hiI:¬ (i:Int)<(n:Int):=by omega
    have hr:res=done:=by rw[HRes.out,show i=n by omega,HEnd.out,List.append_nil]
    subst hr
    obtain⟨A7,c7,hv7,hn7,hm7,hI7⟩:=HO.out.form2
    have HI7:=hide hI7
    subst hv7
    clear hlt hI7
    go_wp2
    go_ret
    exact⟨A7,c7,rfl,hn7,hm7,HI7.out,HE.out⟩
 ·have hzI:¬ size<1:=by omega
  go_enter Tryz.func59,Tryz.ntmps59
  go_wp2
  go_loopw [8,7] (fun x v wr=>∃ (i:Nat) (done:List Int),i≤n∧done.length≤i∧x=.int .i64 (i:Int)∧OwnI wr w.heap.size v done∧res=done++restI size whole l i∧Ext w wr) (fun x _ _=>n-(intOf x).toNat)
  case atStart=>exact⟨0,[],by omega,by simp,rfl,OwnI.nil _ _,by rw[← hres];rfl,Ext.refl _⟩
  case round =>
   clear H0 hres
   obtain⟨i,done,hi,hdl,rfl,hO,hrs,hE⟩:=hrel
   have HO:=hide hO
   have HE:=hide hE
   have HRes:=hide hrs
   have HDl:=hide hdl
   clear hO hE hrs hdl
   by_cases hlt:i<n
   ·have hiI:(i:Int)<(n:Int):=by omega
    rcases (HA.out.later HE.out).2.1 with hn0 | ⟨b1,o1,rfl,_,hc1⟩
    ·omega
    have HCell:=hide (show ∀ W,Ext w W→∀ j,j<n→RcAt W b1 (o1+j*4) (l.getD j default) from fun W hW j hj=>by
     rcases (HA.out.later hW).2.1 with h0 | ⟨b2,o2,h2,_,hc2⟩
     ·omega
     ·simp only[Option.some.injEq,Addr.mk.injEq,and_true]at h2
      obtain⟨rfl,rfl⟩:=h2
      exact hc2 j hj)
    obtain⟨e0,e1,e2,e3⟩:=hc1 i hlt
    have CO:=HCO.out i hlt wr
    unfold rcV at CO
    have HG0:=hide (HGn.out i)
    have HRi:=hide (HRs.out i hlt)
    have HFi:=hide (HFit.out i hlt)
    have HL0:=hide (show (oneB whole (l.getD i default)).length≤2*weightE (l.take (i+1)) by have h1:=HWs.out i hlt;have h2:=HLn.out i;omega)
    obtain⟨r,hr⟩:∃ r,r=l.getD i default:=⟨_,rfl⟩
    rw[← hr]at e0 e1 e2 e3 CO HG0 HL0
    obtain⟨Z,hZ⟩:∃ Z,Z=oneB whole r:=⟨_,rfl⟩
    rw[← hZ]at CO HG0 HL0
    clear hc1 hr hZ
    go_wp2_with fail
    refine CO.mono ?_
    rintro e w4 ⟨v4,rfl,hO4,hE4⟩
    obtain⟨A4,c4,hv4,-,-,-⟩:=hO4.form
    obtain⟨m4,hm4⟩:∃ m,m=Z.length:=⟨_,rfl⟩
    rw[← hm4]at hv4 HG0 HL0
    have HE4:=hide (HE.out.trans hE4)
    have HO4:=hide (HO.out.ext hE4)
    subst hv4
    clear hO4 hm4 hE4 CO e0 e1 e2 e3 HO
    have HO:=HO4
    clear HO4
    obtain⟨wo,rfl⟩:∃ W,W=w4:=⟨_,rfl⟩
    go_wp2
    go_loopw [9,10] (fun y z wk=>∃ k sum:Nat,1≤k∧i+k≤n∧y=.int .i64 (k:Int)∧z=.int .i64 (sum:Int)∧groupN size whole l i=k+moreG whole size sum (l.drop (i+k))∧sum≤2*weightE (l.take (i+k))∧Ext w wk∧Ext wo wk) (fun y _ _=>n-(intOf y).toNat)
    case atStart=>exact⟨1,m4,by omega,by omega,rfl,rfl,by rw[HG0.out,Nat.add_comm],HL0.out,HE4.out,Ext.refl _⟩
    case round =>
     clear HG0 HL0
     obtain⟨k,sum,hk1,hkn,rfl,rfl,hGk,hsl,hEk,hEo⟩:=hrel
     have hs2:sum≤2000000:=by have:=HWt.out (i+k);omega
     have HSl:=hide hsl
     have HEk:=hide hEk
     have HEo:=hide hEo
     clear hsl hEk hEo
     by_cases hk:i+k<n
     ·have hkI:(i:Int)+(k:Int)<(n:Int):=by omega
      obtain⟨j,hj⟩:∃ j,j=i+k:=⟨_,rfl⟩
      have hjI:(i:Int)+(k:Int)=(j:Int):=by omega
      have hjn:j<n:=by omega
      have hjnI:(j:Int)<(n:Int):=by omega
      rw[HMs.out (i+k) sum hk,← hj]at hGk
      obtain⟨e0,e1,e2,e3⟩:=HCell.out wr HEk.out j hjn
      have HCj:=hide (fun W (hW:Ext w W)=>HCell.out W hW j hjn)
      have CO:=hide (fun W=>HCO.out j hjn W)
      have HLj:=hide (HLn.out j)
      have HWj:=hide (HWs.out j hjn)
      have HWm:=hide (HWt.out (j+1))
      obtain⟨r,hr⟩:∃ r,r=l.getD j default:=⟨_,rfl⟩
      rw[← hr]at e0 e1 e2 e3 CO HCj HLj HWj hGk
      obtain⟨Z,hZ⟩:∃ Z,Z=oneB whole r:=⟨_,rfl⟩
      rw[← hZ]at CO HLj hGk
      obtain⟨m,hm⟩:∃ m,m=Z.length:=⟨_,rfl⟩
      rw[← hm]at hGk
      have HM:=hide hm
      have hm2:m≤2000000:=by have h1:=HLj.out;have h2:=HWj.out;have h3:=HWm.out;omega
      have HSn:=hide (show sum+m≤2*weightE (l.take (j+1)) by have h1:=HLj.out;have h2:=HWj.out;have h3:=HSl.out;rw[← hj]at h3;omega)
      have HJ:=hide hj
      have C1:=CO.out wr
      unfold rcV at C1
      clear hr hZ hm hk hj
      by_cases hs:((sum+m:Nat):Int)≤size
      ·rw[if_pos hs]at hGk
       have hsI:(sum:Int)+(m:Int)≤size:=by omega
       have HGk:=hide hGk
       clear hs hGk
       go_wp2_with fail
       refine C1.mono ?_
       rintro e w5 ⟨v5,rfl,hO5,hE5⟩
       obtain⟨A5,c5,hv5,-,-,-⟩:=hO5.form
       rw[← HM.out]at hv5
       have HE5:=hide (HEk.out.trans hE5)
       have HEo5:=hide (HEo.out.trans hE5)
       obtain⟨f0,f1,f2,f3⟩:=HCj.out w5 HE5.out
       have C2:=CO.out w5
       unfold rcV at C2
       subst hv5
       clear hO5 hE5 C1 e0 e1 e2 e3
       go_wp2_with fail
       refine C2.mono ?_
       rintro e w6 ⟨v6,rfl,hO6,hE6⟩
       obtain⟨A6,c6,hv6,-,-,-⟩:=hO6.form
       rw[← HM.out]at hv6
       have HE6:=hide (HE5.out.trans hE6)
       have HEo6:=hide (HEo5.out.trans hE6)
       subst hv6
       clear hO6 hE6 C2 f0 f1 f2 f3
       go_wp2
       go_roundw
       case rel=>exact⟨k+1,sum+m,by omega,by have:=HJ.out;omega,by go_num,by go_num,by rw[HGk.out,show i+(k+1)=j+1 by have:=HJ.out;omega];omega,by rw[show i+(k+1)=j+1 by have:=HJ.out;omega];exact HSn.out,HE6.out,HEo6.out⟩
       case measure=>have:=HJ.out;simp[intOf];omega
      ·have hsI:¬ (sum:Int)+(m:Int)≤size:=by omega
       rw[if_neg hs]at hGk
       clear hs
       go_wp2_with fail
       refine C1.mono ?_
       rintro e w5 ⟨v5,rfl,hO5,hE5⟩
       obtain⟨A5,c5,hv5,-,-,-⟩:=hO5.form
       rw[← HM.out]at hv5
       subst hv5
       clear C1 e0 e1 e2 e3
       have hG:groupN size whole l i=k:=by rw[hGk,Nat.add_zero]
       have hR1:=HRi.out
       rw[hG]at hR1
       have hR2:=HRes.out
       rw[hR1]at hR2
       have HR3:=hide (show res=(done++[(k:Int)])++restI size whole l (i+k) by rw[hR2,List.append_assoc];rfl)
       have HOx:=hide (HO.out.ext (HEo.out.trans hE5))
       have HEx:=hide (HEk.out.trans hE5)
       have hdn:done.length≤1000000:=by have:=HDl.out;omega
       have HDn:=hide (show (done++[(k:Int)]).length≤i+k by rw[List.length_append,List.length_singleton];have:=HDl.out;omega)
       clear hG hR1 hR2 hGk
       go_wp2_with (at_builtin;refine xF rfl (.tmp 58) (.tmp 60) rfl HEx.out HOx.out rfl (k:Int) rfl hdn ?_;intro v6 w6 hO6 hE6;have HO6:=hide hO6;have HE6:=hide hE6;clear hO6 hE6)
       go_roundw
       case rel=>exact⟨i+k,done++[(k:Int)],by omega,HDn.out,by go_num,HO6.out,HR3.out,HE6.out⟩
       case measure=>simp[intOf];omega
     ·have hkI:¬ (i:Int)+(k:Int)<(n:Int):=by omega
      rw[HMe.out (i+k) sum (by omega)]at hGk
      clear hk
      have hG:groupN size whole l i=k:=by rw[hGk,Nat.add_zero]
      have hR1:=HRi.out
      rw[hG]at hR1
      have hR2:=HRes.out
      rw[hR1]at hR2
      have HR3:=hide (show res=(done++[(k:Int)])++restI size whole l (i+k) by rw[hR2,List.append_assoc];rfl)
      have HOx:=hide (HO.out.ext HEo.out)
      have HEx:=hide HEk.out
      have hdn:done.length≤1000000:=by have:=HDl.out;omega
      have HDn:=hide (show (done++[(k:Int)]).length≤i+k by rw[List.length_append,List.length_singleton];have:=HDl.out;omega)
      clear hG hR1 hR2 hGk
      go_wp2_with (at_builtin;refine xF rfl (.tmp 58) (.tmp 60) rfl HEx.out HOx.out rfl (k:Int) rfl hdn ?_;intro v6 w6 hO6 hE6;have HO6:=hide hO6;have HE6:=hide hE6;clear hO6 hE6)
      go_roundw
      case rel=>exact⟨i+k,done++[(k:Int)],by omega,HDn.out,by go_num,HO6.out,HR3.out,HE6.out⟩
      case measure=>simp[intOf];omega
   ·have hiI:¬ (i:Int)<(n:Int):=by omega
    have hr:res=done:=by rw[HRes.out,show i=n by omega,HEnd.out,List.append_nil]
    subst hr
    obtain⟨A7,c7,hv7,hn7,hm7,hI7⟩:=HO.out.form2
    have HI7:=hide hI7
    subst hv7
    clear hlt hI7
    go_wp2
    go_ret
    exact⟨A7,c7,rfl,hn7,hm7,HI7.out,HE.out⟩
end Go.Proofs.YtpmedpdjglcdpaaGreatDoor
namespace Go.Proofs.YtpmedpdjglcdpaaGreatDoor.Lz
def three (b:List UInt8)(p:Nat):UInt8×UInt8×UInt8:=(b.getD p 0,b.getD (p+1) 0,b.getD (p+2) 0)
def yW (b:List UInt8)(k:UInt8×UInt8×UInt8):Nat→Option Nat
 | 0=>none
 | q+1=>if three b q=k then some q else yW b k q
theorem vJ {b:List UInt8}{k:UInt8×UInt8×UInt8}:∀ {n q:Nat},yW b k n=some q→q<n∧three b q=k∧∀ r,q<r→r<n→three b r≠k
 | 0,q,h=>by cases h
 | n+1,q,h=>by
  rw[yW]at h
  split at h
  ·rename_i hk
   injection h with h
   subst h
   exact⟨by omega,hk,fun r h1 h2=>by omega⟩
  ·rename_i hk
   obtain⟨h1,h2,h3⟩:=vJ h
   refine⟨by omega,h2,fun r hr1 hr2=>?_⟩
   by_cases e:r=n
   ·rw[e];exact hk
   ·exact h3 r hr1 (by omega)
theorem ZU {b:List UInt8}{k:UInt8×UInt8×UInt8}:∀ {n:Nat},yW b k n=none→∀ r,r<n→three b r≠k
 | 0,_,r,hr=>by omega
 | n+1,h,r,hr=>by
  rw[yW]at h
  split at h
  ·cases h
  ·rename_i hk
   by_cases e:r=n
   ·rw[e];exact hk
   ·exact ZU h r (by omega)
def zp (b:List UInt8)(p:Nat):Nat:=if p+3≤b.length then (match yW b (three b p) p with | some q=>if p-q≤4095 then p-q else 0 | none=>0) else 0
theorem Js {b:List UInt8}{p:Nat}(h:¬ p+3≤b.length):zp b p=0:=if_neg h
theorem Zp {b:List UInt8}{p q:Nat}(h:p+3≤b.length)(hq:yW b (three b p) p=some q):zp b p=if p-q≤4095 then p-q else 0:=by unfold zp;rw[if_pos h,hq]
theorem VB {b:List UInt8}{p:Nat}(h:p+3≤b.length)(hq:yW b (three b p) p=none):zp b p=0:=by unfold zp;rw[if_pos h,hq]
theorem qD {b:List UInt8}{p:Nat}(h:0<zp b p):p+3≤b.length∧zp b p≤4095∧zp b p≤p∧three b (p-zp b p)=three b p∧∀ r,p-zp b p<r→r<p→three b r≠three b p:=by
 by_cases hp:p+3≤b.length
 ·cases hq:yW b (three b p) p with
  | none=>rw[VB hp hq]at h;omega
  | some q =>
   have e:=Zp hp hq
   obtain⟨h1,h2,h3⟩:=vJ hq
   by_cases h4:p-q≤4095
   ·rw[if_pos h4]at e
    rw[e,show p-(p-q)=q by omega]
    exact⟨hp,h4,by omega,h2,h3⟩
   ·rw[if_neg h4]at e
    omega
 ·rw[Js hp]at h;omega
theorem abc {b:List UInt8}{p:Nat}(h:zp b p=0)(hp:p+3≤b.length):∀ r,r<p→p-r≤4095→three b r≠three b p:=by
 intro r hr h4
 cases hq:yW b (three b p) p with
 | none=>exact ZU hq r hr
 | some q =>
  have e:=Zp hp hq
  obtain⟨h1,h2,h3⟩:=vJ hq
  by_cases h5:p-q≤4095
  ·rw[if_pos h5]at e;omega
  ·exact h3 r (by omega) hr
theorem adC (b:List UInt8)(p:Nat):zp b p≤4095:=by
 rcases Nat.eq_zero_or_pos (zp b p) with h|h
 ·omega
 ·exact (qD h).2.1
def yQ (b:List UInt8)(i:Nat):List Nat:=(List.range b.length).map fun p=>if p<i then zp b p else 0
theorem VD (b:List UInt8)(i:Nat):(yQ b i).length=b.length:=by simp[yQ]
theorem QI (b:List UInt8):yQ b 0=List.replicate b.length 0:=by
 apply List.ext_getElem
 ·simp[yQ]
 ·intro i h1 h2
  simp[yQ]
theorem abd (b:List UInt8)(i:Nat):(yQ b i).set i (zp b i)=yQ b (i+1):=by
 apply List.ext_getElem
 ·simp[yQ]
 ·intro j h1 h2
  rw[List.getElem_set]
  simp only[yQ,List.getElem_map,List.getElem_range]
  by_cases e:i=j
  ·rw[if_pos e,if_pos (by omega),e]
  ·rw[if_neg e]
   by_cases hj:j<i
   ·rw[if_pos hj,if_pos (by omega)]
   ·rw[if_neg hj,if_neg (by omega)]
theorem QJ {b:List UInt8}{i:Nat}(h:zp b i=0):yQ b i=yQ b (i+1):=by
 apply List.ext_getElem
 ·simp[yQ]
 ·intro j h1 h2
  simp only[yQ,List.getElem_map,List.getElem_range]
  by_cases hj:j<i
  ·rw[if_pos hj,if_pos (by omega)]
  ·rw[if_neg hj]
   by_cases e:j=i
   ·rw[if_pos (by omega),e,h]
   ·rw[if_neg (by omega)]
theorem abe {b:List UInt8}{i:Nat}(h:b.length≤i+2):yQ b i=(List.range b.length).map (zp b):=by
 apply List.ext_getElem
 ·simp[yQ]
 ·intro j h1 h2
  simp only[yQ,List.getElem_map,List.getElem_range]
  by_cases hj:j<i
  ·rw[if_pos hj]
  ·rw[if_neg hj,Js (by omega)]
def xd (r:Nat×Nat):Nat:=if 3≤r.1 then r.1 else 2
def jz (b:List UInt8)(q:Nat)(r:Nat×Nat):TokV:=if 3≤r.1 then ⟨0,r.1,r.2⟩ else ⟨b.getD q 0,0,0⟩
theorem YY (b:List UInt8)(q:Nat):xc b q=jz b q (best b q (min 4095 q)):=rfl
theorem abf (b:List UInt8)(q:Nat):∀ {m n:Nat},m≤n→(best b q m).1≤(best b q n).1:=by
 intro m n h
 induction h with
 | refl=>exact Nat.le_refl _
 | @step k _ ih =>
  rw[best]
  split
  ·dsimp only;omega
  ·exact ih
theorem vT {b:List UInt8}{q m n:Nat}(hmn:m≤n)(h:∀ d,m<d→d≤n→run b q d<3∨run b q d≤(best b q m).1):xd (best b q n)=xd (best b q m)∧jz b q (best b q n)=jz b q (best b q m):=by
 induction hmn with
 | refl=>exact⟨rfl,rfl⟩
 | @step k hk ih =>
  obtain⟨i1,i2⟩:=ih fun d h1 h2=>h d h1 (by omega)
  rw[best]
  split
  ·rename_i hlt
   rcases h (k+1) (Nat.lt_succ_of_le hk) (Nat.le_refl _) with h3|h3
   ·have e1:xd (run b q (k+1),k+1)=xd (best b q k):=by
     unfold xd;rw[if_neg (by dsimp only;omega),if_neg (show ¬ 3≤(best b q k).1 by omega)]
    have e2:jz b q (run b q (k+1),k+1)=jz b q (best b q k):=by
     unfold jz;rw[if_neg (by dsimp only;omega),if_neg (show ¬ 3≤(best b q k).1 by omega)]
    exact⟨e1.trans i1,e2.trans i2⟩
   ·have:=abf b q hk
    omega
  ·exact⟨i1,i2⟩
theorem Uq (r:Nat×Nat):2≤xd r∧r.1≤xd r:=by unfold xd;split<;>omega
theorem aaE {r:Nat×Nat}{x:Nat}(h:x≤xd r):x<3∨x≤r.1:=by unfold xd at h;split at h<;>omega
theorem abg {b:List UInt8}{q m:Nat}(h:xd (best b q m)<run b q (m+1)):best b q (m+1)=(run b q (m+1),m+1):=by
 rw[best,if_pos]
 have:=Uq (best b q m)
 omega
theorem VE {b:List UInt8}{q d:Nat}(hd:d≤q)(h:3≤run b q d):q+3≤b.length∧three b (q-d)=three b q:=by
 have h0:=vr (b:=b) (p:=q) (d:=d) (j:=0) (by omega)
 have h1:=vr (b:=b) (p:=q) (d:=d) (j:=1) (by omega)
 have h2:=vr (b:=b) (p:=q) (d:=d) (j:=2) (by omega)
 refine⟨by omega,?_⟩
 unfold three
 rw[show q-d+1=q+1-d by omega,show q-d+2=q+2-d by omega,h1.2,h2.2]
 have:=h0.2
 rw[Nat.add_zero]at this
 rw[this]
section
variable {b:List UInt8}{q m:Nat}
theorem abh {d:Nat}(hd:d≤q)(h:three b (q-d)≠three b q):run b q d<3:=by
 refine Classical.byContradiction fun hc=>h (VE hd (by omega)).2
theorem between (h3:three b (q-m)=three b q)(hm:m≤q)(hp:0<zp b (q-m)){d:Nat}(h1:m<d)(h2:d<m+zp b (q-m)):run b q d<3:=by
 obtain⟨_,_,hle,_,hno⟩:=qD hp
 refine abh (by omega) ?_
 rw[← h3]
 exact hno (q-d) (by omega) (by omega)
theorem acB (h3:three b (q-m)=three b q)(hm:m≤min 4095 q)(hp:zp b (q-m)=0):jz b q (best b q m)=xc b q:=by
 rw[YY]
 refine ((vT hm fun d h1 h2=>.inl ?_).2).symm
 refine Classical.byContradiction fun hc=>?_
 obtain⟨hl,he⟩:=VE (b:=b) (q:=q) (d:=d) (by omega) (by omega)
 exact abc hp (by omega) (q-d) (by omega) (by omega) (by rw[he,h3])
theorem adD (h3:three b (q-m)=three b q)(hm:m≤min 4095 q)(hp:0<zp b (q-m))(hf:4095<m+zp b (q-m)):jz b q (best b q m)=xc b q:=by
 rw[YY]
 exact ((vT hm fun d h1 h2=>.inl (between h3 (by omega) hp h1 (by omega))).2).symm
theorem Jt (d:Nat)(hq:q<b.length):run b q d≤min 257 (b.length-q):=by
 have h1:=jO (b:=b) (p:=q) (d:=d)
 rcases Nat.eq_zero_or_pos (run b q d) with h|h
 ·omega
 ·have:=Un h
  omega
theorem acC (hq:q<b.length)(hm:m≤min 4095 q)(h:min 257 (b.length-q)≤xd (best b q m)):jz b q (best b q m)=xc b q:=by
 rw[YY]
 exact ((vT hm fun d _ _=>aaE (Nat.le_trans (Jt d hq) h)).2).symm
theorem abi (h3:three b (q-m)=three b q)(hm:m≤q)(hp:0<zp b (q-m))(hr:run b q (m+zp b (q-m))≤xd (best b q m)) :
  xd (best b q (m+zp b (q-m)))=xd (best b q m)∧jz b q (best b q (m+zp b (q-m)))=jz b q (best b q m):=by
 refine vT (by omega) fun d h1 h2=>?_
 by_cases e:d=m+zp b (q-m)
 ·rw[e];exact aaE hr
 ·exact .inl (between h3 hm hp h1 (by omega))
theorem abj (h3:three b (q-m)=three b q)(hm:m≤q)(hp:0<zp b (q-m))(hr:xd (best b q m)<run b q (m+zp b (q-m))) :
  best b q (m+zp b (q-m))=(run b q (m+zp b (q-m)),m+zp b (q-m)):=by
 obtain⟨g,hg⟩:∃ g,zp b (q-m)=g+1:=⟨zp b (q-m)-1,by omega⟩
 have e:=(vT (b:=b) (q:=q) (m:=m) (n:=m+g) (by omega) fun d h1 h2=>.inl (between h3 hm hp h1 (by omega))).1
 rw[hg,← Nat.add_assoc]at hr ⊢
 exact abg (by rw[e];exact hr)
theorem QK (h3:three b (q-m)=three b q)(hp:0<zp b (q-m)):three b (q-(m+zp b (q-m)))=three b q:=by
 obtain⟨_,_,hle,he,_⟩:=qD hp
 rw[show q-(m+zp b (q-m))=q-m-zp b (q-m) by omega,he,h3]
theorem Ju {d:Nat}:∀ {k:Nat},k≤257→(∀ j,j<k→q+j<b.length∧b.getD (q+j-d) 0=b.getD (q+j) 0)→yz b q d (257-k) k=run b q d
 | 0,_,_=>rfl
 | k+1,h1,h2=>by
  rw[← Ju (k:=k) (by omega) fun j hj=>h2 j (by omega),show 257-k=257-(k+1)+1 by omega,yz,if_pos (h2 k (by omega))]
theorem Ym {d n:Nat}(hn:n=min 257 (b.length-q)):∀ (f k:Nat),k+f=n→yz b q d f k=yz b q d (257-k) k
 | 0,k,h=>by
  rw[yz]
  by_cases e:k=257
  ·rw[e];rfl
  ·rw[show 257-k=256-k+1 by omega,yz,if_neg (by omega)]
 | f+1,k,h=>by
  rw[show 257-k=256-k+1 by omega,yz,yz]
  split
  ·rw[Ym hn f (k+1) (by omega),show 257-(k+1)=256-k by omega]
  ·rfl
theorem QL {d k:Nat}(hd:d≤q)(hk:k<min 257 (b.length-q)):(decide (b.getD (q-d+k) 0=b.getD (q+k) 0) && decide ((b.drop (q-d)).take k=(b.drop q).take k))=decide (k<run b q d):=by
 rw[Bool.eq_iff_iff]
 simp only[Bool.and_eq_true,decide_eq_true_eq]
 constructor
 ·rintro⟨h1,h2⟩
  refine adB (n:=k+1) (by omega) fun j hj=>⟨by omega,?_⟩
  rw[show q+j-d=q-d+j by omega]
  by_cases e:j=k
  ·rw[e];exact h1
  ·have:=congrArg (fun l=>l.getD j 0) h2
   simp only[List.getD_eq_getElem?_getD,List.getElem?_take,List.getElem?_drop,if_pos (show j<k by omega)]at this
   rw[List.getD_eq_getElem?_getD,List.getD_eq_getElem?_getD]
   exact this
 ·intro h
  have hs:=fun j (hj:j<run b q d)=>(vr (b:=b) (p:=q) (d:=d) hj).2
  refine⟨?_,?_⟩
  ·have:=hs k h
   rwa [show q+k-d=q-d+k by omega]at this
  ·apply List.ext_getElem
   ·simp only[List.length_take,List.length_drop];omega
   ·intro j h1 h2
    simp only[List.length_take,List.length_drop]at h1 h2
    have:=hs j (by omega)
    rw[show q+j-d=q-d+j by omega,List.getD_eq_getElem?_getD,List.getD_eq_getElem?_getD,List.getElem?_eq_getElem (by omega),List.getElem?_eq_getElem (by omega)]at this
    simp only[List.getElem_take,List.getElem_drop]
    simpa using this
end
end Go.Proofs.YtpmedpdjglcdpaaGreatDoor.Lz
namespace Go.Proofs.YtpmedpdjglcdpaaGreatDoor
open Go.RowKit Rcs Num
theorem YZ (s:List UInt8)(w:World)(hs:s.length≤1000000):Calls Tryz.prog 71 #[.string ⟨s.toArray⟩] w (zt w (xa s)):=by
 have:=ZR ⟨s.toArray⟩ w (by rw[ye];exact hs)
 rw[ye]at this
 simpa[xa] using this
def Beside (W:World)(g:Nat)(t:TypeId)(cs:Array Value)(v:Value):Prop:=Whole W g t cs∧v.ownBlock≠some g
theorem Beside.ext {W W':World}{g:Nat}{t:TypeId}{cs:Array Value}{v:Value}(h:Beside W g t cs v)(hE:Ext W W'):Beside W' g t cs v:=⟨h.1.ext hE,h.2⟩
theorem Beside.grown {W W':World}{g:Nat}{t:TypeId}{cs:Array Value}{v v':Value}(h:Beside W g t cs v)(hG:W.grownBy W' v.ownBlock)(hN:NewOb W v.ownBlock v'.ownBlock):Beside W' g t cs v':=by
 refine⟨(hG.block g h.1.lt (fun e=>h.2 e.symm)).trans h.1,?_⟩
 rcases hN with hN | ⟨k,hk,hl⟩
 ·rw[hN];exact h.2
 ·rw[hk]
  intro e
  have:=h.1.lt
  injection e with e
  omega
set_option maxHeartbeats 4000000 in
set_option maxRecDepth 100000 in
theorem qE (whole:Bool)(A:Option Addr)(n c:Nat)(l:List Rc)(w:World)(h:RcsAt w w.heap.size A n l)(hw:weightE l≤1000000):Calls Tryz.prog 47 #[.bool whole,.slice A n c] w (zt w (bytesB whole l)):=by
 have hl:=h.1
 have hn:n≤1000000:=by have:=weight_len l;omega
 have HSt:=hide (fun (i:Nat) (hi:i<n)=>bytes_snoc whole (l:=l) (i:=i) (by omega))
 have HSm:=hide (show ∀ i,(bytesB whole (l.take i)).length≤2000000 from fun i=>by have h1:=bytes_small whole (l.take i);have h2:=weight_take l i;omega)
 have HOne:=hide (fun (i:Nat) (hi:i<n)=>show (l.getD i default).time<2 ^ 64∧(l.getD i default).src.length≤1000000∧(l.getD i default).text.length≤1000000 from by
  have h1:=weight_mem (l:=l) (r:=l.getD i default) (by rw[List.getD_eq_getElem?_getD,List.getElem?_eq_getElem (by omega)];exact List.getElem_mem _)
  exact⟨(h.okAt hi).1,by omega,by omega⟩)
 have HAll:=hide (show bytesB whole (l.take n)=bytesB whole l by rw[List.take_of_length_le (by omega)])
 have H0:=hide (show bytesB whole (l.take 0)=[] by simp[bytesB])
 have HA:=hide h
 unfold zt
 generalize bytesB whole l=res at *
 clear h hl hw
 go_enter Tryz.func47,Tryz.ntmps47
 go_wp2
 go_loopw [10,5] (fun x v wr=>∃ i:Nat,i≤n∧x=.int .i64 (i:Int)∧OwnB wr w.heap.size v (bytesB whole (l.take i))∧Ext w wr) (fun x _ _=>n-(intOf x).toNat)
 case atStart=>exact⟨0,by omega,rfl,by rw[H0.out];exact OwnB.nil _ _,Ext.refl _⟩
 case round =>
  clear H0
  obtain⟨i,hi,rfl,hO,hE⟩:=hrel
  have HE:=hide hE
  by_cases hlt:i<n
  ·have hiI:(i:Int)<(n:Int):=by omega
   rcases (HA.out.later HE.out).2.1 with hn0 | ⟨b1,o1,rfl,_,hc1⟩
   ·omega
   obtain⟨e0,e1,e2,e3⟩:=hc1 i hlt
   obtain⟨k0,k1,k2⟩:=HOne.out i hlt
   have HSi:=hide (HSt.out i hlt)
   have HSl:=hide (HSm.out i)
   obtain⟨r,hr⟩:∃ r,r=l.getD i default:=⟨_,rfl⟩
   rw[← hr]at e0 e1 e2 e3 k0 k1 k2 HSi
   obtain⟨pre,hpre⟩:∃ p,p=bytesB whole (l.take i):=⟨_,rfl⟩
   rw[← hpre]at HSi HSl hO
   obtain⟨w1,hw1⟩:∃ w1,w1=wr.alloc (.cells #[.int .u64 (r.time:Int),.int .u8 (r.lv.toNat:Int),.string ⟨r.src.toArray⟩,.string ⟨r.text.toArray⟩] 39):=⟨_,rfl⟩
   have hE1:Ext wr w1:=by rw[hw1];exact zb wr _
   have hW1:Whole w1 wr.heap.size 39 #[.int .u64 (r.time:Int),.int .u8 (r.lv.toNat:Int),.string ⟨r.src.toArray⟩,.string ⟨r.text.toArray⟩]:=by rw[hw1];exact Whole.new wr _ _
   have HB1:=hide (show Beside w1 wr.heap.size 39 #[.int .u64 (r.time:Int),.int .u8 (r.lv.toNat:Int),.string ⟨r.src.toArray⟩,.string ⟨r.text.toArray⟩] u5 from ⟨hW1,fun e=>by have:=(hO.lt _ e).2;omega⟩)
   have HE1:=hide (HE.out.trans hE1)
   have HO1:=hide (hO.ext hE1)
   have CN:=hide (fun W=>zS r.time W (by omega))
   have CS:=hide (fun W=>YZ r.src W k1)
   have CT:=hide (fun W=>YZ r.text W k2)
   have hls:=enc_len r.src.length
   have hlt2:=enc_len r.text.length
   have HSl2:=hide (show (xa r.src).length≤1000010 by unfold xa;rw[List.length_append];omega)
   have HTl2:=hide (show (xa r.text).length≤1000010 by unfold xa;rw[List.length_append];omega)
   have HNl2:=hide (enc_len r.time)
   cases whole with
   | false =>
    have HOneB:=hide (show pre++xa r.src++xa r.text=pre++oneB false r by simp[oneB])
    generalize oneB false r=OB at *
    generalize xa r.src=S at *
    generalize xa r.text=T at *
    clear hpre hr hE1 hW1 hls hlt2 CN HNl2 hO hE hc1 k0 k1 k2
    have d10:=HB1.out.1.at 2 (u:=.string ⟨r.src.toArray⟩) rfl
    go_wp2_with fail
    rw[← hw1]
    clear hw1
    refine (CS.out w1).mono ?_
    rintro e w2 ⟨v2,rfl,hO2,hE2⟩
    obtain⟨A2,c2',hv2,-,-,q2⟩:=hO2.form
    obtain⟨m2,hm2⟩:∃ m,m=S.length:=⟨_,rfl⟩
    rw[← hm2]at hv2 q2
    have HM2:=hide hm2
    have HQ2:=hide q2
    have HE2:=hide (HE1.out.trans hE2)
    have HO2:=hide (HO1.out.ext hE2)
    have HB2:=hide (HB1.out.ext hE2)
    subst hv2
    clear hO2 q2 hm2 hE2 e0 e1 e2 e3 d10
    go_wp2_with (at_builtin;refine ze rfl (.tmp 25) (.tmp 28) rfl rfl HO2.out rfl HQ2.out (by have:=HM2.out;have:=HSl2.out;have:=HSl.out;omega) HE2.out.le ?_;intro v3 w3 hO3 hG3 hN3;have HO3:=hide hO3;have HE3:=hide (show Ext w w3 from Below.grown HE2.out hG3 HE2.out.le (fun k hk=>(HO2.out.lt k hk).1));have HB3:=hide (HB2.out.grown hG3 hN3);have d30:=HB3.out.1.at 3 (u:=.string ⟨r.text.toArray⟩) rfl;clear hO3 hG3 hN3)
    refine (CT.out w3).mono ?_
    rintro e w4 ⟨v4,rfl,hO4,hE4⟩
    obtain⟨A4,c4',hv4,-,-,q4⟩:=hO4.form
    obtain⟨m4,hm4⟩:∃ m,m=T.length:=⟨_,rfl⟩
    rw[← hm4]at hv4 q4
    have HM4:=hide hm4
    have HQ4:=hide q4
    have HE4:=hide (HE3.out.trans hE4)
    have HO4:=hide (HO3.out.ext hE4)
    have HB4:=hide (HB3.out.ext hE4)
    subst hv4
    clear hO4 q4 hm4 hE4 d30
    go_wp2_with (at_builtin;refine ze rfl (.tmp 30) (.tmp 33) rfl rfl HO4.out rfl HQ4.out (by have:=HM4.out;have:=HSl2.out;have:=HTl2.out;have:=HSl.out;rw[List.length_append];omega) HE4.out.le ?_;intro v5 w5 hO5 hG5 hN5;have HO5:=hide hO5;have HE5:=hide (show Ext w w5 from Below.grown HE4.out hG5 HE4.out.le (fun k hk=>(HO4.out.lt k hk).1));have HB5:=hide (HB4.out.grown hG5 hN5);clear hO5 hG5 hN5)
    go_roundw
    case rel=>exact⟨i+1,by omega,by go_num,by rw[HSi.out,← HOneB.out];exact HO5.out,HE5.out⟩
    case measure=>simp[intOf];omega
   | true =>
    have HOneB:=hide (show pre++enc r.time++[r.lv]++xa r.src++xa r.text=pre++oneB true r by simp[oneB])
    generalize oneB true r=OB at *
    generalize xa r.src=S at *
    generalize xa r.text=T at *
    generalize enc r.time=N at *
    clear hpre hr hE1 hW1 hls hlt2 hO hE hc1 k0 k1 k2
    have d10:=HB1.out.1.at 0 (u:=.int .u64 (r.time:Int)) rfl
    go_wp2_with fail
    rw[← hw1]
    clear hw1
    refine (CN.out w1).mono ?_
    rintro e w2 ⟨v2,rfl,hO2,hE2⟩
    obtain⟨A2,c2',hv2,-,-,q2⟩:=hO2.form
    obtain⟨m2,hm2⟩:∃ m,m=N.length:=⟨_,rfl⟩
    rw[← hm2]at hv2 q2
    have HM2:=hide hm2
    have HQ2:=hide q2
    have HE2:=hide (HE1.out.trans hE2)
    have HO2:=hide (HO1.out.ext hE2)
    have HB2:=hide (HB1.out.ext hE2)
    subst hv2
    clear hO2 q2 hm2 hE2 e0 e1 e2 e3 d10
    go_wp2_with (first
     | (at_builtin;refine ze rfl (.tmp 15) (.tmp 18) rfl rfl HO2.out rfl HQ2.out (by have:=HM2.out;have:=HNl2.out;have:=HSl.out;omega) HE2.out.le ?_;intro v3 w3 hO3 hG3 hN3;have HO3:=hide hO3;have HE3:=hide (show Ext w w3 from Below.grown HE2.out hG3 HE2.out.le (fun k hk=>(HO2.out.lt k hk).1));have HB3:=hide (HB2.out.grown hG3 hN3);have d30:=HB3.out.1.at 1 (u:=.int .u8 (r.lv.toNat:Int)) rfl;clear hO3 hG3 hN3)
     | (at_builtin;refine ze rfl (.tmp 20) (.tmp 23) rfl rfl (HO3.out.ext (zb w3 _)) rfl (zr w3 [r.lv] #[.int .u8 (r.lv.toNat:Int)] 5 (0,0) rfl 1 rfl) (by have:=HNl2.out;have:=HSl.out;rw[List.length_append];omega) (HE3.out.trans (zb w3 _)).le ?_;intro v4 w4 hO4 hG4 hN4;have HO4:=hide hO4;have HE4:=hide (show Ext w w4 from Below.grown (HE3.out.trans (zb w3 _)) hG4 (HE3.out.trans (zb w3 _)).le (fun k hk=>(HO3.out.lt k hk).1));have HB4:=hide ((HB3.out.ext (zb w3 _)).grown hG4 hN4);have d40:=HB4.out.1.at 2 (u:=.string ⟨r.src.toArray⟩) rfl;clear hO4 hG4 hN4))
    refine (CS.out w4).mono ?_
    rintro e w5 ⟨v5,rfl,hO5,hE5⟩
    obtain⟨A5,c5',hv5,-,-,q5⟩:=hO5.form
    obtain⟨m5,hm5⟩:∃ m,m=S.length:=⟨_,rfl⟩
    rw[← hm5]at hv5 q5
    have HM5:=hide hm5
    have HQ5:=hide q5
    have HE5:=hide (HE4.out.trans hE5)
    have HO5:=hide (HO4.out.ext hE5)
    have HB5:=hide (HB4.out.ext hE5)
    subst hv5
    clear hO5 q5 hm5 hE5 d30 d40
    go_wp2_with (at_builtin;refine ze rfl (.tmp 25) (.tmp 28) rfl rfl HO5.out rfl HQ5.out (by have:=HM5.out;have:=HSl2.out;have:=HNl2.out;have:=HSl.out;simp only[List.length_append,List.length_singleton];omega) HE5.out.le ?_;intro v6 w6 hO6 hG6 hN6;have HO6:=hide hO6;have HE6:=hide (show Ext w w6 from Below.grown HE5.out hG6 HE5.out.le (fun k hk=>(HO5.out.lt k hk).1));have HB6:=hide (HB5.out.grown hG6 hN6);have d60:=HB6.out.1.at 3 (u:=.string ⟨r.text.toArray⟩) rfl;clear hO6 hG6 hN6)
    refine (CT.out w6).mono ?_
    rintro e w7 ⟨v7,rfl,hO7,hE7⟩
    obtain⟨A7,c7',hv7,-,-,q7⟩:=hO7.form
    obtain⟨m7,hm7⟩:∃ m,m=T.length:=⟨_,rfl⟩
    rw[← hm7]at hv7 q7
    have HM7:=hide hm7
    have HQ7:=hide q7
    have HE7:=hide (HE6.out.trans hE7)
    have HO7:=hide (HO6.out.ext hE7)
    have HB7:=hide (HB6.out.ext hE7)
    subst hv7
    clear hO7 q7 hm7 hE7 d60
    go_wp2_with (at_builtin;refine ze rfl (.tmp 30) (.tmp 33) rfl rfl HO7.out rfl HQ7.out (by have:=HM7.out;have:=HSl2.out;have:=HTl2.out;have:=HNl2.out;have:=HSl.out;simp only[List.length_append,List.length_singleton];omega) HE7.out.le ?_;intro v8 w8 hO8 hG8 hN8;have HO8:=hide hO8;have HE8:=hide (show Ext w w8 from Below.grown HE7.out hG8 HE7.out.le (fun k hk=>(HO7.out.lt k hk).1));have HB8:=hide (HB7.out.grown hG8 hN8);clear hO8 hG8 hN8)
    go_roundw
    case rel=>exact⟨i+1,by omega,by go_num,by rw[HSi.out,← HOneB.out];exact HO8.out,HE8.out⟩
    case measure=>simp[intOf];omega
  ·have hiI:¬ (i:Int)<(n:Int):=by omega
   obtain rfl:i=n:=by omega
   clear hlt
   go_wp2
   go_ret
   exact⟨_,rfl,by rw[← HAll.out];exact hO,hE⟩
end Go.Proofs.YtpmedpdjglcdpaaGreatDoor
namespace Go.Proofs.YtpmedpdjglcdpaaGreatDoor
open Go.RowKit Rcs Num
namespace Rcs
def GSt (S:Int)(whole:Bool)(l:List Rc)(i:Nat)(L:List Int)(room:Int):Prop :=
 L.length≤i∧((i=0∧L=[]∧room=0)∨∃ (done:List Int) (k sum:Nat),L=done++[(k:Int)]∧k≤i∧room=S-(sum:Int)∧sum≤2*weightE (l.take i) ∧
  restI S whole l 0=done++((k+moreG whole S sum (l.drop i):Nat):Int)::restI S whole l (i+moreG whole S sum (l.drop i)))
variable {S:Int}{whole:Bool}{l:List Rc}{i:Nat}{L:List Int}{room:Int}
theorem Jv (h:i<l.length):restI S whole l i=((moreG whole S (oneB whole (l.getD i default)).length (l.drop (i+1))+1:Nat):Int)::restI S whole l (i+(moreG whole S (oneB whole (l.getD i default)).length (l.drop (i+1))+1)):=by
 unfold restI
 rw[(groups_step h).1,List.map_cons]
 rfl
theorem Y0 (h:i<l.length):(oneB whole (l.getD i default)).length+2*weightE (l.take i)≤2*weightE (l.take (i+1)):=by
 have h1:=vA h
 have h2:=jp whole (l.getD i default)
 omega
theorem adE (h:GSt S whole l i L room)(hi:i<l.length)(hr:room<((oneB whole (l.getD i default)).length:Int)):GSt S whole l (i+1) (L++[1]) (S-((oneB whole (l.getD i default)).length:Int)):=by
 have hw:=Y0 (whole:=whole) hi
 refine⟨by rw[List.length_append,List.length_singleton];have:=h.1;omega,.inr ⟨L,1,(oneB whole (l.getD i default)).length,rfl,by omega,rfl,by omega,?_⟩⟩
 rcases h.2 with ⟨rfl,rfl,rfl⟩ | ⟨done,k,sum,rfl,hk,hroom,hs,hres⟩
 ·rw[Jv hi,List.nil_append]
  rw[Nat.zero_add,Nat.zero_add,Nat.add_comm 1]
 ·rw[more_step hi,if_neg (by omega),Nat.add_zero,Nat.add_zero,Jv hi]at hres
  rw[hres,List.append_assoc,List.singleton_append]
  rw[show i+(moreG whole S (oneB whole (l.getD i default)).length (l.drop (i+1))+1)=i+1+moreG whole S (oneB whole (l.getD i default)).length (l.drop (i+1)) by omega,Nat.add_comm 1 (moreG _ _ _ _)]
theorem acD (h:GSt S whole l i L room)(hi:i<l.length)(hr:¬ room<((oneB whole (l.getD i default)).length:Int)) :
  ∃ (done:List Int) (k:Nat),L=done++[(k:Int)]∧k≤i∧GSt S whole l (i+1) (done++[((k+1:Nat):Int)]) (room-((oneB whole (l.getD i default)).length:Int)):=by
 have hw:=Y0 (whole:=whole) hi
 have hp:=adx whole (l.getD i default)
 have hl:=h.1
 rcases h.2 with ⟨rfl,rfl,rfl⟩ | ⟨done,k,sum,rfl,hk,hroom,hs,hres⟩
 ·omega
 ·refine⟨done,k,rfl,hk,by simp at hl ⊢;omega,.inr ⟨done,k+1,sum+(oneB whole (l.getD i default)).length,rfl,by omega,by omega,by omega,?_⟩⟩
  rw[more_step hi,if_pos (by omega)]at hres
  rw[hres]
  rw[show k+(moreG whole S (sum+(oneB whole (l.getD i default)).length) (l.drop (i+1))+1)=k+1+moreG whole S (sum+(oneB whole (l.getD i default)).length) (l.drop (i+1)) by omega,show i+(moreG whole S (sum+(oneB whole (l.getD i default)).length) (l.drop (i+1))+1)=i+1+moreG whole S (sum+(oneB whole (l.getD i default)).length) (l.drop (i+1)) by omega]
theorem adF (h:GSt S whole l l.length L room):restI S whole l 0=L:=by
 rcases h.2 with ⟨h0,rfl,rfl⟩ | ⟨done,k,sum,rfl,hk,hroom,hs,hres⟩
 ·unfold restI
  rw[groups_end (by omega)]
  rfl
 ·rw[more_end (Nat.le_refl _)]at hres
  rw[hres]
  unfold restI
  rw[groups_end (by omega)]
  rfl
theorem acE (h:GSt S whole l i L room)(hS:1≤S):-(2*(weightE l:Int))≤room∧room≤S:=by
 have hw:=weight_take l i
 rcases h.2 with ⟨h0,rfl,rfl⟩ | ⟨done,k,sum,rfl,hk,hroom,hs,hres⟩
 ·omega
 ·omega
end Rcs
theorem Rcs.groups_rest (size:Int)(whole:Bool)(l:List Rc):groupsI size whole l=restI (if size<1 then 1 else size) whole l 0:=by simp[groupsI,restI,groupsE,groupsAt]
theorem Jw (L:List Int)(x y:Int):(L++[x]).set L.length y=L++[y]:=by simp
set_option maxHeartbeats 4000000 in
set_option maxRecDepth 100000 in
theorem XX (size:Int)(whole:Bool)(A:Option Addr)(n c:Nat)(l:List Rc)(w:World)(hs:vI size)(h:RcsAt w w.heap.size A n l)(hw:weightE l≤1000000) :
  Calls Tryz.prog 27 #[.int .i64 size,.bool whole,.slice A n c] w (YA w (groupsI size whole l)):=by
 have hl:=h.1
 unfold vI at hs
 have hn:n≤62500:=by have:=weight_len l;omega
 obtain⟨S,hS⟩:∃ S,S=max size 1:=⟨_,rfl⟩
 have hS1:1≤S:=by omega
 have hS2:S≤9223372036854775807:=by omega
 have hres:groupsI size whole l=restI S whole l 0:=by
  rw[groups_rest,hS]
  congr 1
  split<;>omega
 rw[hres]
 unfold YA
 have HOne:=hide (fun (i:Nat) (hi:i<n)=>show (l.getD i default).ok∧weightE [l.getD i default]≤1000000∧(oneB whole (l.getD i default)).length≤2000000 from by
  have h1:=weight_mem (l:=l) (r:=l.getD i default) (by rw[List.getD_eq_getElem?_getD,List.getElem?_eq_getElem (by omega)];exact List.getElem_mem _)
  have h2:=jp whole (l.getD i default)
  exact⟨h.okAt hi,by unfold weightE;rw[List.map_cons,List.sum_cons,List.map_nil,List.sum_nil];omega,by omega⟩)
 have HNew:=hide (fun (i:Nat) (L:List Int) (room:Int) (hi:i<n) (hg:GSt S whole l i L room)=>adE hg (by omega))
 have HMore:=hide (fun (i:Nat) (L:List Int) (room:Int) (hi:i<n) (hg:GSt S whole l i L room)=>acD hg (by omega))
 have HEnd:=hide (fun (L:List Int) (room:Int) (hg:GSt S whole l n L room)=>show restI S whole l 0=L from by rw[← hl]at hg;exact adF hg)
 have HRoom:=hide (fun (i:Nat) (L:List Int) (room:Int) (hg:GSt S whole l i L room)=>show -2000000≤room∧room≤S from by have:=acE hg hS1;omega)
 have H0:=hide (show GSt S whole l 0 [] 0 from ⟨by simp,.inl ⟨rfl,rfl,rfl⟩⟩)
 have HMax:=hide hS
 have HA:=hide h
 generalize restI S whole l 0=res at *
 clear h hl hw hres hS
 go_enter Tryz.func27,Tryz.ntmps27
 go_wp2
 go_loopw [14,7,8] (fun x v y wr=>∃ (i:Nat) (L:List Int) (room:Int),i≤n∧x=.int .i64 (i:Int)∧y=.int .i64 room∧OwnI wr w.heap.size v L∧GSt S whole l i L room∧Ext w wr) (fun x _ _ _=>n-(intOf x).toNat)
 case atStart=>exact⟨0,[],0,by omega,rfl,rfl,OwnI.nil _ _,H0.out,Ext.refl _⟩
 case round =>
  clear H0
  obtain⟨i,L,room,hi,rfl,rfl,hO,hg,hE⟩:=hrel
  have HO:=hide hO
  have HE:=hide hE
  have HG:=hide hg
  obtain⟨r1,r2⟩:=HRoom.out i L room hg
  by_cases hlt:i<n
  ·have hiI:(i:Int)<(n:Int):=by omega
   rcases (HA.out.later HE.out).2.1 with hn0 | ⟨b1,o1,rfl,_,hc1⟩
   ·omega
   obtain⟨e0,e1,e2,e3⟩:=hc1 i hlt
   obtain⟨k0,k1,k2⟩:=HOne.out i hlt
   have HNi:=hide (HNew.out i L room hlt hg)
   have HMi:=hide (HMore.out i L room hlt hg)
   have hLi:=hg.1
   obtain⟨r,hr⟩:∃ r,r=l.getD i default:=⟨_,rfl⟩
   rw[← hr]at e0 e1 e2 e3 k0 k1 k2 HNi HMi
   have hE1:=zb wr (.cells #[.int .u64 (r.time:Int),.int .u8 (r.lv.toNat:Int),.string ⟨r.src.toArray⟩,.string ⟨r.text.toArray⟩] 39)
   obtain⟨w1,hw1⟩:∃ w1,w1=wr.alloc (.cells #[.int .u64 (r.time:Int),.int .u8 (r.lv.toNat:Int),.string ⟨r.src.toArray⟩,.string ⟨r.text.toArray⟩] 39):=⟨_,rfl⟩
   rw[← hw1]at hE1
   have hR:=ad3 w1 [r] #[.int .u64 (r.time:Int),.int .u8 (r.lv.toNat:Int),.string ⟨r.src.toArray⟩,.string ⟨r.text.toArray⟩] 39 (0,0) rfl 1 rfl (by simpa using k0)
   have hE2:=zb w1 (.cells #[.int .u64 (r.time:Int),.int .u8 (r.lv.toNat:Int),.string ⟨r.src.toArray⟩,.string ⟨r.text.toArray⟩] 39)
   have CB:=qE whole _ 1 1 [r] _ hR k1
   have hone:bytesB whole [r]=oneB whole r:=by simp[bytesB]
   rw[hone]at CB
   rw[hw1]at CB
   have hsz:w1.heap.size=wr.heap.size+1:=by rw[hw1,World.size_alloc]
   have HEw:=hide (hE1.trans hE2)
   rw[hw1]at HEw
   obtain⟨Z,hZ⟩:∃ Z,Z=oneB whole r:=⟨_,rfl⟩
   rw[← hZ]at CB HNi HMi k2
   clear hc1 hr hE1 hR hE2 hone hZ hO hE hg k0 k1
   rw[World.size_alloc]at CB
   clear hw1 hsz
   go_wp2_with fail
   refine CB.mono ?_
   rintro e w3 ⟨v3,rfl,hO3,hE3⟩
   obtain⟨A3,c3,rfl,-,-,-⟩:=hO3.form
   have HE3:=hide (HE.out.trans (HEw.out.trans hE3))
   have HO3:=hide (HO.out.ext (HEw.out.trans hE3))
   obtain⟨m,hm⟩:∃ m,m=Z.length:=⟨_,rfl⟩
   rw[← hm]at HNi HMi k2 ⊢
   have HM:=hide hm
   clear hO3 hE3 CB e0 e1 e2 e3 hm
   obtain⟨j,hj⟩:∃ j,L.length=j:=⟨_,rfl⟩
   have hj2:j≤62500:=by omega
   have HJ:=hide hj
   have HRelEnd:=hide (show ∀ (v:Value) (W:World) (L':List Int) (room':Int),OwnI W w.heap.size v L'→GSt S whole l (i+1) L' room'→Ext w W→∃ (i':Nat) (L:List Int) (room:Int),i'≤n∧Value.int .i64 ((i:Int)+1)=.int .i64 (i':Int)∧Value.int .i64 room'=.int .i64 room∧OwnI W w.heap.size v L∧GSt S whole l i' L room∧Ext w W from fun v W L' room' a b c=>⟨i+1,L',room',by omega,by go_num,rfl,a,b,c⟩)
   by_cases hroom:room<(m:Int)
   ·have HG2:=hide (HNi.out hroom)
    clear HNi HMi hj
    have wS:IntKind.i64.wrap (S-(m:Int))=S-(m:Int):=by rw[IntKind.wrap_i64];omega
    have APP:=hide (show ∀ (v:Value) (W:World),OwnI W w.heap.size v (L++[0])→∃ g c4,v=.slice (some ⟨g,0,none⟩) (j+1) c4∧w.heap.size≤g∧j+1≤c4∧W.cell? ⟨g,j,none⟩=some (.int .i64 0)∧W.frozen? ⟨g,j,none⟩=false∧OwnI (W.setCell ⟨g,j,none⟩ (.int .i64 1)) w.heap.size (.slice (some ⟨g,0,none⟩) (j+1) c4) (L++[1]) from fun v W hv=>by
     obtain⟨g,c4,hv4,hg4,hc4⟩:=hv.formG (by simp)
     subst hv4
     obtain⟨f1,f2⟩:=hv.cell (i:=L.length) (by simp)
     have f3:=hv.put L.length 1
     rw[Jw]at f3
     rw[List.length_append,List.length_singleton,HJ.out]at f3 hc4
     rw[HJ.out]at f1 f2
     refine⟨g,c4,by rw[List.length_append,List.length_singleton,HJ.out],hg4,hc4,?_,f2,f3⟩
     rw[f1,← HJ.out]
     simp)
    by_cases hz:size<1
    ·have hS1':S=1:=by have:=HMax.out;omega
     rw[hS1']at wS
     go_wp2_with (at_builtin;refine xF rfl (.tmp 26) (.tmp 27) rfl HE3.out HO3.out rfl 0 rfl (by have:=HJ.out;omega) ?_;intro v4 w4 hO4 hE4;obtain⟨g,c4,hv4,hg4,hc4,f1,f2,f3⟩:=APP.out v4 w4 hO4;subst hv4;have HO4:=hide f3;have HE4:=hide (hE4.setCell hg4 (i:=j) (.int .i64 1));clear hO4 hE4 f3)
     go_roundw
     case rel=>exact HRelEnd.out _ _ _ _ HO4.out (by have:=HG2.out;rw[show S-(m:Int)=1-(m:Int) by omega]at this;exact this) HE4.out
     case measure=>simp[intOf];omega
    ·have hS1':S=size:=by have:=HMax.out;omega
     rw[hS1']at wS
     go_wp2_with (at_builtin;refine xF rfl (.tmp 26) (.tmp 27) rfl HE3.out HO3.out rfl 0 rfl (by have:=HJ.out;omega) ?_;intro v4 w4 hO4 hE4;obtain⟨g,c4,hv4,hg4,hc4,f1,f2,f3⟩:=APP.out v4 w4 hO4;subst hv4;have HO4:=hide f3;have HE4:=hide (hE4.setCell hg4 (i:=j) (.int .i64 1));clear hO4 hE4 f3)
     go_roundw
     case rel=>exact HRelEnd.out _ _ _ _ HO4.out (by have:=HG2.out;rw[show S-(m:Int)=size-(m:Int) by omega]at this;exact this) HE4.out
     case measure=>simp[intOf];omega
   ·obtain⟨done,k,rfl,hki,hGn⟩:=HMi.out (by omega)
    have HG2:=hide hGn
    obtain⟨g,c4,hv4,hg4,hc4⟩:=HO3.out.formG (by simp)
    subst hv4
    obtain⟨f1,f2⟩:=HO3.out.cell (i:=done.length) (by simp)
    have f3:=HO3.out.put done.length ((k:Int)+1)
    rw[Jw]at f3
    rw[show (done++[(k:Int)]).getD done.length 0=(k:Int) by simp]at f1
    obtain⟨d,hd⟩:∃ d,done.length=d:=⟨_,rfl⟩
    rw[List.length_append,List.length_singleton,hd]at f3 hc4 hj
    rw[hd]at f1 f2
    have hsl:(done++[(k:Int)]).length=d+1:=by rw[List.length_append,List.length_singleton,hd]
    have hd2:d≤62500:=by omega
    rw[hsl]at HO3 ⊢
    have HO4:=hide f3
    have HE4:=hide (HE3.out.setCell hg4 (i:=d) (.int .i64 ((k:Int)+1)))
    have wR:IntKind.i64.wrap (room-(m:Int))=room-(m:Int):=by rw[IntKind.wrap_i64];omega
    clear HNi HMi hj HJ hGn f3 hsl HG HO hd
    go_wp2
    go_roundw
    case rel=>exact HRelEnd.out _ _ _ _ HO4.out HG2.out HE4.out
    case measure=>simp[intOf];omega
  ·have hiI:¬ (i:Int)<(n:Int):=by omega
   obtain rfl:i=n:=by omega
   have HR:=hide (HEnd.out L room hg)
   obtain⟨A2,c2,rfl,q1,q2,q3⟩:=hO.form2
   clear hlt
   go_wp2
   go_ret
   rw[HR.out]
   exact⟨A2,c2,rfl,q1,q2,q3,hE⟩
end Go.Proofs.YtpmedpdjglcdpaaGreatDoor
