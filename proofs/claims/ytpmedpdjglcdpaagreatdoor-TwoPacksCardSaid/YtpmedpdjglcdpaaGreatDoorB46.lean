/- The program's small functions of chapter 16: maySize, mayFollow, isRow, same. The program's bytes of a bucket. -/
import Derived.Test.YtpmedpdjglcdpaaGreatDoorB02
import Derived.Test.YtpmedpdjglcdpaaGreatDoorB06
import Derived.Test.YtpmedpdjglcdpaaGreatDoorB09
import Derived.Test.YtpmedpdjglcdpaaGreatDoorB18
namespace Go.Proofs.YtpmedpdjglcdpaaGreatDoor
section
open Go.RowKit Wrd Dic
def Dic.sizeD (size:Int):Bool:=decide (1≤size∧size≤64)
theorem ZE (size:Int)(w:World):Calls Tryz.prog 100 #[.int .i64 size] w fun e w'=>e=.returned (.bool (sizeD size))∧w=w':=by
 by_cases h0:1≤size
 ·by_cases h1:size≤64
  ·have HD:=hide (show sizeD size=true from decide_eq_true ⟨h0,h1⟩)
   generalize sizeD size=res at *
   go_enter Tryz.func100,Tryz.ntmps100
   go_wp2
   go_ret
   exact⟨zf HD.out.symm,rfl⟩
  ·have HD:=hide (show sizeD size=false from decide_eq_false fun h=>h1 h.2)
   generalize sizeD size=res at *
   go_enter Tryz.func100,Tryz.ntmps100
   go_wp2
   go_ret
   exact⟨zf HD.out.symm,rfl⟩
 ·have HD:=hide (show sizeD size=false from decide_eq_false fun h=>h0 h.1)
  generalize sizeD size=res at *
  go_enter Tryz.func100,Tryz.ntmps100
  go_wp2
  go_ret
  exact⟨zf HD.out.symm,rfl⟩
theorem Dic.gtr_less (a t:List UInt8):(!Op.bytesLess t a && !t==a)=Op.bytesLess a t:=by
 cases h:Op.bytesLess a t with
 | true =>
  have h1:Op.bytesLess t a=false:=by
   cases h2:Op.bytesLess t a with
   | false=>rfl
   | true=>have:=vi _ _ _ h h2;rw[va]at this;cases this
  have h2:(t==a)=false:=by
   rw[beq_eq_false_iff_ne]
   rintro rfl
   rw[va]at h
   cases h
  rw[h1,h2]
  rfl
 | false =>
  by_cases he:t=a
  ·subst he;simp
  ·rw[uc _ _ h (fun e=>he e.symm)]
   rfl
def Dic.followD (a t:List UInt8):Bool:=decide (t.length≤25) && Op.bytesLess a t
attribute [local go_sem ↓] yn z7 z8 xH
set_option maxHeartbeats 1000000 in
set_option maxRecDepth 10000 in
theorem Qk (a t:List UInt8)(w:World)(ht:t.length≤1000000):Calls Tryz.prog 132 #[.string ⟨a.toArray⟩,.string ⟨t.toArray⟩] w fun e w'=>e=.returned (.bool (followD a t))∧w=w':=by
 by_cases h1:t.length≤25
 ·have h1I:(t.length:Int)≤25:=by omega
  have HD:=hide (show followD a t=(!Op.bytesLess t a && !t==a) by unfold followD;rw[decide_eq_true h1,Bool.true_and,gtr_less])
  generalize followD a t=res at *
  go_enter Tryz.func132,Tryz.ntmps132
  go_wp2
  go_ret
  exact⟨zf HD.out.symm,rfl⟩
 ·have h1I:¬ (t.length:Int)≤25:=by omega
  have HD:=hide (show followD a t=false by unfold followD;rw[decide_eq_false h1,Bool.false_and])
  generalize followD a t=res at *
  clear h1
  go_enter Tryz.func132,Tryz.ntmps132
  go_wp2
  go_ret
  exact⟨zf HD.out.symm,rfl⟩
def Dic.wasOf (l:List (List UInt8))(i:Nat):List UInt8:=if i=0 then [] else l.getD (i-1) []
theorem Dic.wasOf_succ (l:List (List UInt8))(i:Nat):wasOf l (i+1)=l.getD i []:=by unfold wasOf;rw[if_neg (by omega),Nat.add_sub_cancel]
theorem Dic.less_pos {a t:List UInt8}(h:Op.bytesLess a t=true):1≤t.length:=by
 cases t with
 | nil=>cases a<;>simp[Op.bytesLess]at h
 | cons _ _=>simp
theorem Dic.row_yes {l:List (List UInt8)}(h:∀ i,i<l.length→followD (wasOf l i) (l.getD i [])=true):mayD l=decide (l.length≤1048576):=by
 by_cases h0:l.length≤1048576
 ·rw[decide_eq_true h0]
  refine may_yes h0 fun i hi=>?_
  have h1:=h i hi
  unfold followD at h1
  rw[Bool.and_eq_true,decide_eq_true_eq]at h1
  refine⟨⟨less_pos h1.2,h1.1⟩,fun hp=>?_⟩
  have h2:=h1.2
  unfold wasOf at h2
  rwa [if_neg (by omega)]at h2
 ·rw[decide_eq_false h0]
  cases hm:mayD l with
  | false=>rfl
  | true=>exact absurd (may_facts hm).1 h0
theorem Dic.row_no {l:List (List UInt8)}{i:Nat}(hi:i<l.length)(h:followD (wasOf l i) (l.getD i [])=false):mayD l=false:=by
 cases hm:mayD l with
 | false=>rfl
 | true =>
  exfalso
  obtain⟨_,h2,h3⟩:=may_facts hm
  have hmem:=h2 (l.getD i []) (by rw[List.getD_eq_getElem?_getD,List.getElem?_eq_getElem hi];exact List.getElem_mem _)
  unfold followD at h
  rw[decide_eq_true hmem.2,Bool.true_and]at h
  unfold wasOf at h
  split at h
  ·cases hx:l.getD i [] with
   | nil=>rw[hx]at hmem;simp at hmem
   | cons _ _=>rw[hx]at h;simp[Op.bytesLess]at h
  ·rw[aaw h3 (show i-1<i by omega) hi]at h
   cases h
set_option maxHeartbeats 1000000 in
set_option maxRecDepth 10000 in
theorem XP (A:Option Addr)(n c:Nat)(L:List (List UInt8))(w:World)(h:TextsAt w w.heap.size A n L)(hn:n≤1000000)(hs:∀ s,s∈L→s.length≤1000000) :
  Calls Tryz.prog 101 #[.slice A n c] w fun e w'=>e=.returned (.bool (mayD L))∧w=w':=by
 have hl:=h.1
 have HA:=hide h
 have hnI:(n:Int)≤1048576:=by omega
 have HYes:=hide (show (∀ i,i<n→followD (wasOf L i) (L.getD i [])=true)→mayD L=true from fun h=>by rw[row_yes (by rw[hl];exact h),decide_eq_true (by omega)])
 have HNo:=hide (fun (i:Nat) (hi:i<n)=>row_no (l:=L) (i:=i) (by omega))
 have HLe:=hide (show ∀ i,i<n→(L.getD i []).length≤1000000 from fun i hi=>hs _ (by
  rw[List.getD_eq_getElem?_getD,List.getElem?_eq_getElem (by omega)]
  exact List.getElem_mem _))
 generalize mayD L=res at *
 clear h hl hs
 go_enter Tryz.func101,Tryz.ntmps101
 go_wp2
 go_loopw [3,8] (fun y x wr=>∃ i:Nat,i≤n∧x=.int .i64 (i:Int)∧y=.string ⟨(wasOf L i).toArray⟩∧(∀ j,j<i→followD (wasOf L j) (L.getD j [])=true)∧w=wr) (fun _ x _=>n-(intOf x).toNat)
 case atStart=>exact⟨0,by omega,rfl,rfl,fun j hj=>absurd hj (by omega),rfl⟩
 case round =>
  obtain⟨i,hi,rfl,rfl,hall,rfl⟩:=hrel
  have HAll:=hide hall
  clear hall
  by_cases hlt:i<n
  ·have hiI:(i:Int)<(n:Int):=by omega
   rcases HA.out.2 with hn0 | ⟨b1,o1,rfl,-,hc1⟩
   ·omega
   have e1:=hc1 i hlt
   have HNi:=hide (HNo.out i hlt)
   have HNext:=hide (show followD (wasOf L i) (L.getD i [])=true→∀ j,j<i+1→followD (wasOf L j) (L.getD j [])=true from fun h1 j hj=>by
    by_cases e:j=i
    ·rw[e];exact h1
    ·exact HAll.out j (by omega))
   have hy:=HLe.out i hlt
   have HW:=hide (wasOf_succ L i)
   generalize wasOf L i=was at *
   obtain⟨t,ht⟩:∃ t,t=L.getD i []:=⟨_,rfl⟩
   rw[← ht]at e1 HNi HNext hy HW
   have C:=Qk was t w hy
   clear hc1 ht
   cases hf:followD was t with
   | true =>
    rw[hf]at C
    have HNx:=hide (HNext.out hf)
    clear HNi HNext hf
    go_wp2_with fail
    refine C.mono ?_
    rintro e w2 ⟨rfl,rfl⟩
    clear C
    go_wp2
    go_roundw
    case rel=>exact⟨i+1,by omega,by go_num,by rw[HW.out],HNx.out,by first | rfl | trivial⟩
    case measure=>simp[intOf];omega
   | false =>
    rw[hf]at C
    have HR:=hide (HNi.out hf)
    clear HNi HNext hf
    go_wp2_with fail
    refine C.mono ?_
    rintro e w2 ⟨rfl,rfl⟩
    clear C
    go_wp2
    go_ret
    exact⟨zf HR.out.symm,rfl⟩
  ·have hiI:¬ (i:Int)<(n:Int):=by omega
   have HR:=hide (HYes.out (fun j hj=>HAll.out j (by omega)))
   clear hlt
   go_wp2
   go_ret
   exact⟨zf HR.out.symm,rfl⟩
set_option maxHeartbeats 1000000 in
set_option maxRecDepth 10000 in
theorem adR (a b:List UInt8)(w:World)(ha:a.length≤1000000)(hb:b.length≤1000000)(hba:b.length<a.length):Calls Tryz.prog 134 #[.string ⟨a.toArray⟩,.string ⟨b.toArray⟩] w fun e w'=>e=.returned (.int .i64 (alike a b:Int))∧Qt w w':=by
 have H0:=hide (show alike a b=0+alike (a.drop 0) (b.drop 0) by simp)
 have HSt:=hide (fun (i:Nat) (h1:i<a.length) (h2:i<b.length)=>alike_step h1 h2)
 have HEnd:=hide (show ∀ i,b.length≤i→alike (a.drop i) (b.drop i)=0 from fun i h=>by
  rcases Nat.lt_or_ge i a.length with h1|h1
  ·rw[List.drop_of_length_le (by omega:b.length≤i)];cases a.drop i<;>simp[alike]
  ·rw[List.drop_of_length_le h1];simp[alike])
 generalize alike a b=res at *
 go_enter Tryz.func134,Tryz.ntmps134
 go_wp2
 go_loopw [5] (fun y wr=>∃ i:Nat,i≤b.length∧y=.int .i64 (i:Int)∧res=i+alike (a.drop i) (b.drop i)∧Qt w wr) (fun y _=>b.length-(intOf y).toNat)
 case atStart=>exact⟨0,by omega,rfl,H0.out,Qt.refl _⟩
 case round =>
  clear H0
  obtain⟨i,hi,rfl,hres,hQ⟩:=hrel
  have HR:=hide hres
  clear hres
  by_cases hlt:i<b.length
  ·have hiI:(i:Int)<(b.length:Int):=by omega
   have hla:i<a.length:=by omega
   have hlb:i<b.length:=by omega
   have hlaI:(i:Int)<(a.length:Int):=by omega
   have hlbI:(i:Int)<(b.length:Int):=by omega
   have hd0:decide ((i:Int)<(b.length:Int))=true:=decide_eq_true hiI
   have hd1:decide (i<b.length)=true:=decide_eq_true hlt
   have hst:=HSt.out i hla hlb
   obtain⟨x,hx⟩:∃ x,a[i]'hla=x:=⟨_,rfl⟩
   obtain⟨y,hy⟩:∃ y,b[i]'hlb=y:=⟨_,rfl⟩
   rw[hx,hy]at hst
   by_cases hxy:x=y
   ·rw[if_pos hxy]at hst
    have HS:=hide (show res=(i+1)+alike (a.drop (i+1)) (b.drop (i+1)) by rw[HR.out,hst];omega)
    have hne:((x.toNat:Int)==(y.toNat:Int))=true:=by rw[hxy];simp
    clear hst hxy
    go_wp2_with fail
    go_quiet (fail)
    go_wp2
    go_roundw
    case rel=>exact⟨i+1,by omega,by go_num,HS.out,hQ.drewN _⟩
    case measure=>simp[intOf];omega
   ·rw[if_neg hxy]at hst
    have HS:=hide (show res=i by rw[HR.out,hst];rfl)
    have hne:((x.toNat:Int)==(y.toNat:Int))=false:=by
     rw[beq_eq_false_iff_ne]
     intro h
     exact hxy (UInt8.toNat_inj.1 (by omega))
    clear hst hxy
    go_wp2_with fail
    go_quiet (fail)
    go_wp2
    go_ret
    rw[HS.out]
    exact⟨rfl,hQ.drewN _⟩
  ·have hiI:¬ (i:Int)<(b.length:Int):=by omega
   have hd0:decide ((i:Int)<(b.length:Int))=false:=decide_eq_false hiI
   have hd1:decide (i<b.length)=false:=decide_eq_false hlt
   have HS:=hide (show res=i by rw[HR.out,HEnd.out i (by omega)];rfl)
   go_wp2_with fail
   go_quiet (fail)
   go_wp2
   go_ret
   rw[HS.out]
   exact⟨rfl,hQ.drewN _⟩
set_option maxHeartbeats 1000000 in
set_option maxRecDepth 10000 in
theorem adS (a b:List UInt8)(w:World)(ha:a.length≤1000000)(hb:b.length≤1000000)(hba:¬ b.length<a.length):Calls Tryz.prog 134 #[.string ⟨a.toArray⟩,.string ⟨b.toArray⟩] w fun e w'=>e=.returned (.int .i64 (alike a b:Int))∧Qt w w':=by
 have H0:=hide (show alike a b=0+alike (a.drop 0) (b.drop 0) by simp)
 have HSt:=hide (fun (i:Nat) (h1:i<a.length) (h2:i<b.length)=>alike_step h1 h2)
 have HEnd:=hide (show ∀ i,a.length≤i→alike (a.drop i) (b.drop i)=0 from fun i h=>by
  rcases Nat.lt_or_ge i a.length with h1|h1
  ·rw[List.drop_of_length_le (by omega:b.length≤i)];cases a.drop i<;>simp[alike]
  ·rw[List.drop_of_length_le h1];simp[alike])
 generalize alike a b=res at *
 go_enter Tryz.func134,Tryz.ntmps134
 go_wp2
 go_loopw [5] (fun y wr=>∃ i:Nat,i≤a.length∧y=.int .i64 (i:Int)∧res=i+alike (a.drop i) (b.drop i)∧Qt w wr) (fun y _=>a.length-(intOf y).toNat)
 case atStart=>exact⟨0,by omega,rfl,H0.out,Qt.refl _⟩
 case round =>
  clear H0
  obtain⟨i,hi,rfl,hres,hQ⟩:=hrel
  have HR:=hide hres
  clear hres
  by_cases hlt:i<a.length
  ·have hiI:(i:Int)<(a.length:Int):=by omega
   have hla:i<a.length:=by omega
   have hlb:i<b.length:=by omega
   have hlaI:(i:Int)<(a.length:Int):=by omega
   have hlbI:(i:Int)<(b.length:Int):=by omega
   have hd0:decide ((i:Int)<(a.length:Int))=true:=decide_eq_true hiI
   have hd1:decide (i<a.length)=true:=decide_eq_true hlt
   have hst:=HSt.out i hla hlb
   obtain⟨x,hx⟩:∃ x,a[i]'hla=x:=⟨_,rfl⟩
   obtain⟨y,hy⟩:∃ y,b[i]'hlb=y:=⟨_,rfl⟩
   rw[hx,hy]at hst
   by_cases hxy:x=y
   ·rw[if_pos hxy]at hst
    have HS:=hide (show res=(i+1)+alike (a.drop (i+1)) (b.drop (i+1)) by rw[HR.out,hst];omega)
    have hne:((x.toNat:Int)==(y.toNat:Int))=true:=by rw[hxy];simp
    clear hst hxy
    go_wp2_with fail
    go_quiet (fail)
    go_wp2
    go_roundw
    case rel=>exact⟨i+1,by omega,by go_num,HS.out,hQ.drewN _⟩
    case measure=>simp[intOf];omega
   ·rw[if_neg hxy]at hst
    have HS:=hide (show res=i by rw[HR.out,hst];rfl)
    have hne:((x.toNat:Int)==(y.toNat:Int))=false:=by
     rw[beq_eq_false_iff_ne]
     intro h
     exact hxy (UInt8.toNat_inj.1 (by omega))
    clear hst hxy
    go_wp2_with fail
    go_quiet (fail)
    go_wp2
    go_ret
    rw[HS.out]
    exact⟨rfl,hQ.drewN _⟩
  ·have hiI:¬ (i:Int)<(a.length:Int):=by omega
   have hd0:decide ((i:Int)<(a.length:Int))=false:=decide_eq_false hiI
   have hd1:decide (i<a.length)=false:=decide_eq_false hlt
   have HS:=hide (show res=i by rw[HR.out,HEnd.out i (by omega)];rfl)
   go_wp2_with fail
   go_quiet (fail)
   go_wp2
   go_ret
   rw[HS.out]
   exact⟨rfl,hQ.drewN _⟩
theorem abW (a b:List UInt8)(w:World)(ha:a.length≤1000000)(hb:b.length≤1000000):Calls Tryz.prog 134 #[.string ⟨a.toArray⟩,.string ⟨b.toArray⟩] w fun e w'=>e=.returned (.int .i64 (alike a b:Int))∧Qt w w':=by
 by_cases h:b.length<a.length
 ·exact adR a b w ha hb h
 ·exact adS a b w ha hb h
end
section
open Go.RowKit Num Wrd Dic
theorem V3 (s:List UInt8)(w:World)(hs:s.length≤1000000):Calls Tryz.prog 71 #[.string ⟨s.toArray⟩] w (zt w (xC s)):=by
 have:=ZR ⟨s.toArray⟩ w (by rw[ye];exact hs)
 rw[ye]at this
 simpa[xC] using this
theorem wrap_u64 {n:Nat}(h:n≤1000000000):IntKind.u64.wrap (n:Int)=(n:Int):=by rw[IntKind.wrap_u64];omega
theorem Dic.drop_next {l:List (List UInt8)}{i:Nat}(h:i+1<l.length)(was:List UInt8):xD was (l.drop (i+1))=itemB was (l.getD (i+1) [])++xD (l.getD (i+1) []) (l.drop (i+2)):=by rw[Yn h,xD]
attribute [local go_sem ↓] yn z7 z8 xH jl
set_option maxHeartbeats 4000000 in
set_option maxRecDepth 10000 in
theorem Ql (A:Option Addr)(m c:Nat)(L:List (List UInt8))(w:World)(h:TextsAt w w.heap.size A (m+1) L)(hm:m≤64)(hc:m+1≤c)(hs:∀ s,s∈L→s.length≤25) :
  Calls Tryz.prog 103 #[.slice A ((m+1:Nat)) c] w (zt w (yp L)):=by
 have hl:=h.1
 have hA:=h
 have HIn:=hide (ud hs)
 rw[hl]at HIn
 have HLe:=hide (show ∀ i,i<m+1→(L.getD i []).length≤25 from fun i hi=>hs _ (by
  rw[List.getD_eq_getElem?_getD,List.getElem?_eq_getElem (by omega)]
  exact List.getElem_mem _))
 have HS:=hide (show yp L=xC (L.getD 0 [])++xD (L.getD 0 []) (L.drop 1) by
  have:L=L.getD 0 []::L.drop 1:=by have:=Yn (l:=L) (i:=0) (by omega);rwa [List.drop_zero]at this
  conv=>lhs;rw[this,yp])
 have HSt:=hide (fun (i:Nat) (hi:i<m) (was:List UInt8)=>drop_next (l:=L) (i:=i) (by omega) was)
 have HEnd:=hide (show ∀ was,xD was (L.drop (m+1))=[] from fun was=>by rw[List.drop_of_length_le (by omega)];rfl)
 obtain⟨P,hP⟩:∃ P,P=yp L:=⟨_,rfl⟩
 rw[← hP]at HIn HS ⊢
 have hcell:∃ b o,A=some ⟨b,o,none⟩∧∀ W,Ext w W→∀ j,j<m+1→W.cell? ⟨b,o+j,none⟩=some (.string ⟨(L.getD j []).toArray⟩):=by
  rcases hA.2 with h0 | ⟨b,o,rfl,hb,hc⟩
  ·omega
  ·exact⟨b,o,rfl,fun W hW j hj=>(hW.cell hb).trans (hc j hj)⟩
 obtain⟨b,o,rfl,hcell⟩:=hcell
 have HC:=hide hcell
 have c0:=hcell w (Ext.refl w) 0 (by omega)
 rw[Nat.add_zero]at c0
 have hm1:((m+1:Nat):Int)=(m:Int)+1:=by omega
 obtain⟨d,rfl⟩:∃ d,c=d+1:=⟨c-1,by omega⟩
 have hCut:∀ W,(Instr.slice 66 (.slice (some ⟨b,o,none⟩) ((m+1:Nat)) (d+1)) (some (.int .i64 1)) none none).run Tryz.prog W=.ok (.slice (zQ (some ⟨b,o,none⟩) (d+1) 1) m d) W:=fun W=>by
  have:=jl W (some ⟨b,o,none⟩) (m+1) (d+1) .i64 1 (by omega) (by omega)
  simpa using this
 have hA1:m=0∨zQ (some ⟨b,o,none⟩) (d+1) 1=some ⟨b,o+1,none⟩:=by
  rcases Nat.eq_zero_or_pos m with h0|h0
  ·exact .inl h0
  ·exact .inr (by simp[zQ,show ¬ d=0 by omega,Addr.add])
 generalize zQ (some ⟨b,o,none⟩) (d+1) 1=A1 at *
 have CT:=fun W=>V3 (L.getD 0 []) W (by have:=HLe.out 0 (by omega);omega)
 have HA1:=hide hA1
 have HCell0:=hide c0
 have HCu:=hide hCut
 have hmI:(m:Int)≤64:=by omega
 have hcu:=hCut
 clear h hl hA hcell hs hP hA1 hCut hc
 obtain⟨s0,hs0⟩:∃ s,s=L.getD 0 []:=⟨_,rfl⟩
 rw[← hs0]at c0 CT
 have HS0:=hide hs0
 clear hs0
 go_enter Tryz.func103,Tryz.ntmps103
 go_wp2_with fail
 refine (CT w).mono ?_
 rintro e w2 ⟨v2,rfl,hO2,hE2⟩
 have HO2:=hide hO2
 have HE2:=hide hE2
 have c2:=HC.out w2 hE2 0 (by omega)
 rw[Nat.add_zero,← HS0.out]at c2
 clear hO2 hE2 CT
 go_wp2
 go_loopw [14,3] (fun x v wr=>∃ (j:Nat) (X:List UInt8),j≤m∧x=.int .i64 (j:Int)∧OwnB wr w.heap.size v X∧P=X++xD (L.getD j []) (L.drop (j+1))∧Ext w wr) (fun x _ _=>m-(intOf x).toNat)
 case atStart=>exact⟨0,xC s0,by omega,rfl,HO2.out,by rw[HS.out,← HS0.out],HE2.out⟩
 case round =>
  clear c0 c2 hcu HO2 HE2
  obtain⟨j,X,hj,rfl,hO,hX,hE⟩:=hrel
  have HXl:=hide (show X.length≤2000 by have:=HIn.out;rw[hX,List.length_append]at this;omega)
  by_cases hlt:j<m
  ·have hjI:(j:Int)<(m:Int):=by omega
   rw[HSt.out j hlt]at hX
   rcases HA1.out with h0|h0
   ·omega
   subst h0
   have hc1:=HC.out wr hE (j+1) (by omega)
   rw[show o+(j+1)=o+1+j by omega]at hc1
   have hc0:=HC.out wr hE j (by omega)
   have HL0:=hide (HLe.out j (by omega))
   have HL1:=hide (HLe.out (j+1) (by omega))
   have HXe:=hide hX
   obtain⟨t,ht⟩:∃ t,t=L.getD (j+1) []:=⟨_,rfl⟩
   obtain⟨y,hy⟩:∃ y,y=L.getD j []:=⟨_,rfl⟩
   rw[← ht]at hc1 HL1 HXe
   rw[← hy]at hc0 HL0 HXe
   have HT:=hide ht
   have CA:=fun W=>abW y t W (by have:=HL0.out;omega) (by have:=HL1.out;omega)
   have hal:=(ql y t).2
   have HIt:=hide (show itemB y t=enc (alike y t)++xC (t.drop (alike y t)) from rfl)
   generalize alike y t=a at *
   have haI:(a:Int)≤(t.length:Int):=by omega
   have ha25:a≤25:=by have:=HL1.out;omega
   have hwa:=wrap_u64 (n:=a) (by omega)
   have CN:=fun W=>zS a W (by omega)
   have CX:=fun W=>V3 (t.drop a) W (by have:=HL1.out;rw[List.length_drop];omega)
   have HO:=hide hO
   have HE:=hide hE
   clear hO hE hX ht hy hal
   go_wp2_with fail
   refine (CA _).mono ?_
   rintro e w3 ⟨rfl,hQ3⟩
   have HO3:=hide (HO.out.ext hQ3.ext)
   have HE3:=hide (HE.out.trans hQ3.ext)
   clear hQ3 CA
   go_wp2_with fail
   refine (CN _).mono ?_
   rintro e w5 ⟨v5,rfl,hO5,hE5⟩
   have HO5:=hide (HO3.out.ext hE5)
   have HE5:=hide (HE3.out.trans hE5)
   obtain⟨A5,c5,hv5,-,-,q5⟩:=hO5.form
   obtain⟨m5,hm5⟩:∃ m,m=(enc a).length:=⟨_,rfl⟩
   rw[← hm5]at hv5 q5
   have HM5:=hide hm5
   have HQ5:=hide q5
   subst hv5
   clear hO5 hE5 q5 hm5 hc0 hc1 CN
   go_wp2_with (at_builtin;refine ze rfl (.tmp 25) (.tmp 28) rfl rfl HO5.out rfl HQ5.out (by have:=HXl.out;have:=HM5.out;have:=enc_len a;omega) HE5.out.le ?_;intro v6 w6 hO6 hG6 hN6;have HO6:=hide hO6;have HE6:=hide (show Ext w w6 from Below.grown HE5.out hG6 HE5.out.le (fun k hk=>(HO5.out.lt k hk).1));clear hO6 hG6 hN6)
   refine (CX w6).mono ?_
   rintro e w7 ⟨v7,rfl,hO7,hE7⟩
   have HO7:=hide (HO6.out.ext hE7)
   have HE7:=hide (HE6.out.trans hE7)
   obtain⟨Z,hZ⟩:∃ Z,Z=xC (t.drop a):=⟨_,rfl⟩
   rw[← hZ]at hO7
   obtain⟨A7,c7,hv7,-,-,q7⟩:=hO7.form
   obtain⟨m7,hm7⟩:∃ m,m=Z.length:=⟨_,rfl⟩
   rw[← hm7]at hv7 q7
   have HM7:=hide hm7
   have HQ7:=hide q7
   have HZ:=hide hZ
   have HZl:=hide (show Z.length≤40 by
    rw[hZ]
    unfold xC
    have:=HL1.out
    have:=enc_len (t.drop a).length
    rw[List.length_append,List.length_drop]at *
    omega)
   subst hv7
   clear hO7 hE7 q7 hm7 hZ CX
   go_wp2_with (at_builtin;refine ze rfl (.tmp 30) (.tmp 34) rfl rfl HO7.out rfl HQ7.out (by have:=HXl.out;have:=enc_len a;have:=HZl.out;have:=HM7.out;rw[List.length_append];omega) HE7.out.le ?_;intro v8 w8 hO8 hG8 hN8;have HO8:=hide hO8;have HE8:=hide (show Ext w w8 from Below.grown HE7.out hG8 HE7.out.le (fun k hk=>(HO7.out.lt k hk).1));clear hO8 hG8 hN8)
   go_roundw
   case rel=>exact⟨j+1,X++enc a++Z,by omega,by go_num,HO8.out,by rw[HXe.out,HIt.out,← HZ.out,← HT.out];simp only[List.append_assoc],HE8.out⟩
   case measure=>simp[intOf];omega
  ·have hjI:¬ (j:Int)<(m:Int):=by omega
   obtain rfl:j=m:=by omega
   rw[HEnd.out,List.append_nil]at hX
   subst hX
   have HO:=hide hO
   have HE:=hide hE
   clear hO hE
   go_wp2
   go_ret
   exact⟨_,rfl,HO.out,HE.out⟩
end
end Go.Proofs.YtpmedpdjglcdpaaGreatDoor
