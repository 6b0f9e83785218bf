/- The program's Bytes and May of chapter 18. -/
import Derived.Test.YtacgkefnlbnckaaGreatDoorB06
import Derived.Test.YtacgkefnlbnckaaGreatDoorB15
import Derived.Test.YtacgkefnlbnckaaGreatDoorB19
import Derived.Test.YtacgkefnlbnckaaGreatDoorB47
namespace Go.Proofs.YtacgkefnlbnckaaGreatDoor
section
open Go.RowKit Pst
theorem Pst.rowB_len {bound:Int}{l:List Int}(hb:0≤bound∧bound≤20000)(hr:Ef.row bound l=true)(hn:l.length≤20000):(Ef.rowB bound l).length≤100010:=by
 have h1:=Num.enc_len l.length
 unfold Ef.rowB
 rw [List.length_append]
 split
 ·simp;omega
 ·have h2:=Ef.bitsE_len (k:=Ef.widE bound l.length) (Ef.widE_le hb.2) hn hr hb.2
  omega
theorem Pst.rowsB_len {bound:Int}{U:List (List Int)}(h:∀ l,l∈U→(Ef.rowB bound l).length≤100010):(U.flatMap (Ef.rowB bound)).length≤100010*U.length:=by
 induction U with
 | nil=>simp
 | cons a t ih =>
  have h1:=h a (by simp)
  have h2:=ih fun l hl=>h l (by simp [hl])
  rw [List.flatMap_cons,List.length_append,List.length_cons]
  omega
def Pst.listsB (bound:Int)(U:List (List Int)):List UInt8×Int:=if U.all (listOk bound)=true then (U.flatMap (Ef.rowB bound),0) else ([],13)
set_option maxHeartbeats 2000000 in
set_option maxRecDepth 10000 in
theorem pLists_any (bound:Int)(A:Option Addr)(n c:Nat)(U:List (List Int))(w:World)(h:ILists w w.heap.size A n U)(hb:0≤bound∧bound≤20000)(hn:n≤5000)(hU:∀ l,l∈U→l.length≤20000) :
  Calls Tryz.prog 62 #[.int .i64 bound,.slice A n c] w (MadeE w (listsB bound U).1 (listsB bound U).2):=by
 unfold MadeE
 have hl:=h.1
 have HL:=hide h
 have HBo:=hide hb
 have HAt:=hide (fun (i:Nat) (hi:i < n)=>show (U.getD i []).length≤20000 from by
  have hmem:U.getD i []∈U:=by rw [List.getD_eq_getElem?_getD,List.getElem?_eq_getElem (by omega)];exact List.getElem_mem _
  exact hU _ hmem)
 have HBad:=hide (fun (i:Nat) (hi:i < n) (hne:listOk bound (U.getD i [])=false)=>show listsB bound U=([],13) from by
  have hmem:U.getD i []∈U:=by rw [List.getD_eq_getElem?_getD,List.getElem?_eq_getElem (by omega)];exact List.getElem_mem _
  unfold listsB
  rw [if_neg]
  intro hall
  have:=List.all_eq_true.1 hall _ hmem
  rw [hne] at this
  cases this)
 have HTk:=hide (show ∀ i,i < n→(U.take (i+1)).flatMap (Ef.rowB bound)=(U.take i).flatMap (Ef.rowB bound)++Ef.rowB bound (U.getD i []) from fun i hi=>rows_take (by omega))
 have HAl:=hide (show ∀ i,i < n→(∀ l,l∈U.take i→listOk bound l=true)→listOk bound (U.getD i [])=true→∀ l,l∈U.take (i+1)→listOk bound l=true from fun i hi h1 h2 l hl=>by
  rw [List.take_add_one,List.getElem?_eq_getElem (by omega),List.mem_append] at hl
  rcases hl with hl | hl
  ·exact h1 l hl
  ·rw [List.getD_eq_getElem?_getD,List.getElem?_eq_getElem (by omega)] at h2
   simp at hl
   subst hl
   exact h2)
 have HLn:=hide (show ∀ i,(∀ l,l∈U.take i→listOk bound l=true)→((U.take i).flatMap (Ef.rowB bound)).length≤600000000 from fun i h1=>by
  have h2:=rowsB_len (bound:=bound) (U:=U.take i) fun l hl=>rowB_len hb (by have:=h1 l hl;unfold listOk at this;rw [Bool.and_eq_true] at this;exact this.2) (hU _ (List.mem_of_mem_take hl))
  rw [List.length_take] at h2
  have:min i U.length≤5000:=by omega
  omega)
 have HAll:=hide (show (∀ l,l∈U.take n→listOk bound l=true)→listsB bound U=((U.take n).flatMap (Ef.rowB bound),0) from fun h1=>by
  rw [List.take_of_length_le (by omega)] at h1 ⊢
  unfold listsB
  rw [if_pos (List.all_eq_true.2 h1)])
 have H0:=hide (show (U.take 0).flatMap (Ef.rowB bound)=[] by simp)
 have HN:=hide hn
 have HB64:=hide (show IsI64 bound by unfold IsI64;omega)
 have CE:=hide (fun (ids:List Int) (A:Option Addr) (c:Nat) (W:World) (h1:ids.length≤c) (h2:c≤maxLen) (h3:ids.length≤20000) (h4:IntsAt W W.heap.size A ids.length ids)=>efWriteC_any W bound ids A ids.length c W (Ext.refl W) HB64.out h1 h2 h3 h4)
 generalize listsB bound U=res at *
 clear h hb hn hU hl
 go_enter Tryz.func62,Tryz.ntmps62
 go_wp2
 go_loopw [13,6] (fun y v wr=>∃ i:Nat,i≤n∧y=.int .i64 (i:Int)∧OwnB wr w.heap.size v ((U.take i).flatMap (Ef.rowB bound))∧(∀ l,l∈U.take i→listOk bound l=true)∧Ext w wr) (fun y _ _=>n-(intOf y).toNat)
 case atStart=>exact ⟨0,by omega,rfl,by rw [H0.out];exact OwnB.nil _ _,fun l hl=>by simp at hl,Ext.refl w⟩
 case round =>
  obtain ⟨i,hi,rfl,hO,hA,hE⟩:=hrel
  have HO:=hide hO
  have HA:=hide hA
  have HE:=hide hE
  clear hO hE hA
  by_cases hlt:i < n
  ·have hiI:(i:Int) < (n:Int):=by omega
   have hn9:=HN.out
   obtain ⟨b1,o1,a3,c3,hA,e1,q2,q3,q1⟩:=(HL.out.ext HE.out).at hlt
   subst hA
   have C:=CE.out (U.getD i []) a3 c3 wr q2 q3 (HAt.out i hlt) q1
   unfold MadeE at C
   cases hr:Ef.row bound (U.getD i []) with
   | false =>
    have e0:Ef.writeE bound (U.getD i [])=([],13):=by unfold Ef.writeE;rw [if_neg (by rw [hr];simp)]
    rw [e0] at C
    have HBd:=hide (HBad.out i hlt (by unfold listOk;rw [hr,Bool.and_false]))
    generalize (U.getD i []).length=k at *
    clear q1 q2 q3 e0 hr
    go_wp2_with fail
    refine C.mono ?_
    rintro e w4 ⟨v4,rfl,hO4,hE4⟩
    go_wp2
    refine bodyPost_ret (results_tmp2 rfl _ _ _) rfl ?_
    rw [HBd.out]
    exact ⟨_,rfl,OwnB.nil _ _,HE.out.trans hE4⟩
   | true =>
    have e0:Ef.writeE bound (U.getD i [])=(Ef.rowB bound (U.getD i []),0):=by unfold Ef.writeE;rw [if_pos ⟨HBo.out,hr⟩]
    rw [e0] at C
    dsimp only at C
    by_cases hne:U.getD i []=[]
    ·have hbad:=hide (HBad.out i hlt (by unfold listOk;rw [hne];rfl))
     rw [hne] at C e1
     clear q1 q2 q3 e0 hr hne
     generalize Ef.rowB bound []=R at *
     go_wp2_with fail
     refine C.mono ?_
     rintro e w4 ⟨v4,rfl,hO4,hE4⟩
     clear C
     go_wp2
     refine bodyPost_ret (results_tmp2 rfl _ _ _) rfl ?_
     rw [hbad.out]
     exact ⟨_,rfl,OwnB.nil _ _,HE.out.trans hE4⟩
    ·have hok:listOk bound (U.getD i [])=true:=by unfold listOk;rw [hr,decide_eq_true hne];rfl
     have hk0:¬ ((U.getD i []).length:Int)=0:=by have:=List.length_pos_iff.2 hne;omega
     have hRl:=rowB_len HBo.out hr (HAt.out i hlt)
     have HTi:=hide (HTk.out i hlt)
     have HLi:=hide (HLn.out i HA.out)
     have HAi:=hide (HAl.out i hlt HA.out hok)
     obtain ⟨R,hR⟩:∃ R,R=Ef.rowB bound (U.getD i []):=⟨_,rfl⟩
     rw [← hR] at C hRl HTi
     generalize (U.getD i []).length=k at *
     generalize (U.take i).flatMap (Ef.rowB bound)=P at *
     clear q1 q2 q3 e0 hr hR hok hne
     go_wp2_with fail
     refine C.mono ?_
     rintro e w4 ⟨v4,rfl,hO4,hE4⟩
     obtain ⟨A4,c4,hv4,-,-,h4⟩:=hO4.form
     have H4:=hide h4
     have HE4:=hide (HE.out.trans hE4)
     have HO4:=hide (HO.out.ext hE4)
     obtain ⟨kr,hkr⟩:∃ kr,kr=R.length:=⟨_,rfl⟩
     rw [← hkr] at hv4 H4 hRl
     subst hv4
     clear C hO4 hE4 h4 HO e1 hkr
     go_wp2_with (at_builtin;refine wpList_appAt rfl (.tmp 31) (.tmp 32) rfl rfl HO4.out rfl H4.out (by have:=HLi.out;omega) HE4.out.le ?_;intro v5 w5 hO5 hG5 _;rw [← HTi.out] at hO5;have HO5:=hide hO5;have HE5:=hide (show Ext w w5 from Below.grown HE4.out hG5 HE4.out.le (fun k hk=>(HO4.out.lt k hk).1));clear hO5 hG5)
     go_roundw
     case rel=>exact ⟨i+1,by omega,by go_num,HO5.out,HAi.out,HE5.out⟩
     case measure=>simp [intOf];omega
  ·have hiI:¬ (i:Int) < (n:Int):=by omega
   obtain rfl:n=i:=by omega
   have HAl2:=hide (HAll.out HA.out)
   go_wp2
   refine bodyPost_ret (results_tmp2 rfl _ _ _) rfl ?_
   rw [HAl2.out]
   exact ⟨_,rfl,HO.out,HE.out⟩
end
end Go.Proofs.YtacgkefnlbnckaaGreatDoor
