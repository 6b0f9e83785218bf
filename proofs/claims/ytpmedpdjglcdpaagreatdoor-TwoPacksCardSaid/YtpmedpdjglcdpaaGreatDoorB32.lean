/- Contract of the program's leavesOf: the leaves in order, given what the library's sort does. -/
import Derived.Test.YtpmedpdjglcdpaaGreatDoorB12
import Derived.Test.YtpmedpdjglcdpaaGreatDoorB18
import Derived.Test.YtpmedpdjglcdpaaGreatDoorB31
namespace Go.Proofs.YtpmedpdjglcdpaaGreatDoor
section
open Go.RowKit Len
def ltP (x y:PI):Bool:=decide (uG x y<0)
def VV (L:List PI):List PI:=L.mergeSort fun x y=>!ltP y x
theorem xO {x y:PI}:ltP x y=true↔uI x y:=by
 unfold ltP uG orN uI
 have h1:xt (x.1:Int) (y.1:Int)=if x.1<y.1 then -1 else if y.1<x.1 then 1 else 0:=by unfold xt;simp only[Int.ofNat_lt]
 have h2:xt (x.2:Int) (y.2:Int)=if x.2<y.2 then -1 else if y.2<x.2 then 1 else 0:=by unfold xt;simp only[Int.ofNat_lt]
 rw[h1,h2,decide_eq_true_iff]
 constructor
 ·intro h
  split at h<;>split at h<;>(repeat' split at h)<;>simp_all<;>omega
 ·intro h
  split<;>split<;>(repeat' split)<;>simp_all<;>omega
theorem Yw {x y:PI}:(!ltP y x)=true↔uI x y∨x=y:=by
 rw[Bool.not_eq_true',← Bool.not_eq_true,xO]
 unfold uI
 constructor
 ·intro h
  by_cases he:x.1=y.1∧x.2=y.2
  ·exact .inr (Prod.ext he.1 he.2)
  ·exact .inl (by omega)
 ·rintro (h | rfl)
  ·omega
  ·omega
theorem abL (often:List Nat)(j:Nat):VV (vF often j)=(zd often j).map pOf :=
 QB (List.mergeSort_perm _ _) (by
  have:=List.pairwise_mergeSort (le:=fun x y:PI=>!ltP y x) (fun a b c h1 h2=>by
   rw[Yw]at h1 h2 ⊢
   unfold uI at *
   rcases h1 with h1|rfl
   ·rcases h2 with h2 | rfl
    ·exact .inl (by omega)
    ·exact .inl h1
   ·exact h2) (fun a b=>by
   rw[Bool.or_eq_true,Yw,Yw]
   unfold uI
   by_cases he:a.1=b.1∧a.2=b.2
   ·exact .inl (.inr (Prod.ext he.1 he.2))
   ·by_cases h:a.1<b.1∨a.1=b.1∧a.2<b.2
    ·exact .inl (.inl h)
    ·exact .inr (.inl (by omega))) (vF often j)
  exact this.imp fun h=>Yw.1 h)
def adW:Prop:=∀ (w:World) (base:Nat) (v:Value) (L:List PI),OwnPI w base v L→L.length≤300 →
 Calls Tryz.prog 206 #[v,.func (.func 187) #[] #[]] w fun e w'=>e=.returned (.tuple #[])∧OwnPI w' base v (VV L)∧w.grownBy w' v.ownBlock
theorem ac7 (often:List Nat)(j:Nat):vF often (j+1)=if often.getD j 0=0 then vF often j else vF often j++[(often.getD j 0,j)]:=rfl
theorem aea (often:List Nat)(j:Nat):(vF often j).length≤j:=by rw[adz];exact vB j
set_option maxHeartbeats 2000000 in
set_option maxRecDepth 100000 in
theorem US (hS:adW){often:List Nat}{A:Option Addr}{n c:Nat}{w:World}(hn:n≤300)(h:U32At w w.heap.size A n often) :
  Calls Tryz.prog 191 #[.slice A n c,.func (.func 187) #[] #[]] w fun e w'=>∃ v,e=.returned v∧OwnPI w' w.heap.size v ((zd often n).map pOf)∧Ext w w':=by
 rw[← abL]
 obtain⟨_,hlt,hc⟩:=h
 have HM:=hide (ac7 often)
 have HL:=hide (aea often)
 have H0:vF often 0=[]:=rfl
 have HS:=hide hS
 clear hS
 generalize vF often=mt at *
 have H00:=hide H0
 clear H0
 go_enter Tryz.func191,Tryz.ntmps191
 go_wp2
 go_loopw [5,10] (fun a i wr=>∃ j:Nat,j≤n∧i=.int .i64 j∧OwnPI wr w.heap.size a (mt j)∧Ext w wr) (fun _ i _=>n-(intOf i).toNat)
 case atStart=>exact⟨0,Nat.zero_le _,rfl,by rw[H00.out];exact OwnPI.nil _ _,Ext.refl _⟩
 case round =>
  obtain⟨j,hj,rfl,hO,hE⟩:=hrel
  have hle:=HL.out j
  by_cases hjn:j<n
  ·rcases hc with h0 | ⟨b,o,rfl,hb,hc⟩
   ·omega
   have hcell:=(hE.cell (i:=o+j) hb).trans (hc j hjn)
   have hx:=hlt j
   have HM2:=HM.out j
   clear hc hlt
   generalize often.getD j 0=x at *
   by_cases hx0:x=0
   ·subst hx0
    rw[if_pos rfl]at HM2
    have HM3:=hide HM2
    clear HM2
    go_wp2
    go_roundw
    case rel=>exact⟨j+1,by omega,by go_num,by rw[HM3.out];exact hO,hE⟩
    case measure=>simp[intOf];omega
   ·rw[if_neg hx0]at HM2
    have HM3:=hide HM2
    clear HM2
    have hxI:(0:Int)<(x:Int):=by omega
    obtain⟨Av,cv,rfl,_,_,_⟩:=hO.form
    have hEa:=zb wr (.cells #[.int .u64 (x:Int),.int .i64 (j:Int)] 230)
    have hOa:=hO.ext hEa
    have hone:=PIAt.one wr (x,j)
    have hsb:=hE.le
    have hl0:(mt j).length≤100000:=by omega
    go_wp2_with (at_builtin;refine xA rfl (.tmp 17) (.tmp 22) rfl rfl hOa rfl hone hl0 (by omega) (Nat.le_trans hsb hEa.le) ?_;intro v5 w5 hO5 hG5 _)
    have hE5:Ext w w5:=Below.grown (hE.trans hEa) hG5 (hE.trans hEa).le (fun k hk=>(hO.lt k hk).1)
    rw[← HM3.out]at hO5
    go_roundw
    case rel=>exact⟨j+1,by omega,by go_num,hO5,hE5⟩
    case measure=>simp[intOf];omega
  ·obtain rfl:n=j:=by omega
   have C:=HS.out wr w.heap.size u5 (mt n) hO (by omega)
   obtain⟨Av,cv,rfl,_,_,_⟩:=hO.form
   go_wp2_with fail
   refine C.mono ?_
   rintro e w5 ⟨rfl,hO5,hG5⟩
   have hE5:Ext w w5:=Below.grown hE hG5 hE.le (fun k hk=>(hO.lt k hk).1)
   go_wp2
   go_ret
   exact⟨_,rfl,hO5,hE5⟩
end
end Go.Proofs.YtpmedpdjglcdpaaGreatDoor
