/- The program's Bytes and May of chapter 18. The program's Bytes and May of chapter 18. -/
import Derived.Test.YtpmedpdjglcdpaaGreatDoorB06
import Derived.Test.YtpmedpdjglcdpaaGreatDoorB15
import Derived.Test.YtpmedpdjglcdpaaGreatDoorB20
import Derived.Test.YtpmedpdjglcdpaaGreatDoorB47
import Derived.Test.YtpmedpdjglcdpaaGreatDoorB48
namespace Go.Proofs.YtpmedpdjglcdpaaGreatDoor
section
open Go.RowKit Pst
theorem Pst.rowB_len {bound:Int}{l:List Int}(hb:0≤bound∧bound≤20000)(hr:Ef.row bound l=true)(hn:l.length≤20000):(Ef.rowB bound l).length≤100010:=by
 have h1:=Num.enc_len l.length
 unfold Ef.rowB
 rw[List.length_append]
 split
 ·simp;omega
 ·have h2:=Ef.bitsE_len (k:=Ef.widE bound l.length) (Ef.widE_le hb.2) hn hr hb.2
  omega
theorem Pst.rowsB_len {bound:Int}{U:List (List Int)}(h:∀ l,l∈U→(Ef.rowB bound l).length≤100010):(U.flatMap (Ef.rowB bound)).length≤100010*U.length:=by
 induction U with
 | nil=>simp
 | cons a t ih =>
  have h1:=h a (by simp)
  have h2:=ih fun l hl=>h l (by simp[hl])
  rw[List.flatMap_cons,List.length_append,List.length_cons]
  omega
def Pst.listsB (bound:Int)(U:List (List Int)):List UInt8×Int:=if U.all (zT bound)=true then (U.flatMap (Ef.rowB bound),0) else ([],13)
set_option maxHeartbeats 2000000 in
set_option maxRecDepth 10000 in
theorem aas (bound:Int)(A:Option Addr)(n c:Nat)(U:List (List Int))(w:World)(h:ILists w w.heap.size A n U)(hb:0≤bound∧bound≤20000)(hn:n≤5000)(hU:∀ l,l∈U→l.length≤20000) :
  Calls Tryz.prog 76 #[.int .i64 bound,.slice A n c] w (zB w (listsB bound U).1 (listsB bound U).2):=by
 unfold zB
 have hl:=h.1
 have HL:=hide h
 have HBo:=hide hb
 have HAt:=hide (fun (i:Nat) (hi:i<n)=>show (U.getD i []).length≤20000 from by
  have hmem:U.getD i []∈U:=by rw[List.getD_eq_getElem?_getD,List.getElem?_eq_getElem (by omega)];exact List.getElem_mem _
  exact hU _ hmem)
 have HBad:=hide (fun (i:Nat) (hi:i<n) (hne:zT bound (U.getD i [])=false)=>show listsB bound U=([],13) from by
  have hmem:U.getD i []∈U:=by rw[List.getD_eq_getElem?_getD,List.getElem?_eq_getElem (by omega)];exact List.getElem_mem _
  unfold listsB
  rw[if_neg]
  intro hall
  have:=List.all_eq_true.1 hall _ hmem
  rw[hne]at this
  cases this)
 have HTk:=hide (show ∀ i,i<n→(U.take (i+1)).flatMap (Ef.rowB bound)=(U.take i).flatMap (Ef.rowB bound)++Ef.rowB bound (U.getD i []) from fun i hi=>rows_take (by omega))
 have HAl:=hide (show ∀ i,i<n→(∀ l,l∈U.take i→zT bound l=true)→zT bound (U.getD i [])=true→∀ l,l∈U.take (i+1)→zT bound l=true from fun i hi h1 h2 l hl=>by
  rw[List.take_add_one,List.getElem?_eq_getElem (by omega),List.mem_append]at hl
  rcases hl with hl|hl
  ·exact h1 l hl
  ·rw[List.getD_eq_getElem?_getD,List.getElem?_eq_getElem (by omega)]at h2
   simp at hl
   subst hl
   exact h2)
 have HLn:=hide (show ∀ i,(∀ l,l∈U.take i→zT bound l=true)→((U.take i).flatMap (Ef.rowB bound)).length≤600000000 from fun i h1=>by
  have h2:=rowsB_len (bound:=bound) (U:=U.take i) fun l hl=>rowB_len hb (by have:=h1 l hl;unfold zT at this;rw[Bool.and_eq_true]at this;exact this.2) (hU _ (List.mem_of_mem_take hl))
  rw[List.length_take]at h2
  have:min i U.length≤5000:=by omega
  omega)
 have HAll:=hide (show (∀ l,l∈U.take n→zT bound l=true)→listsB bound U=((U.take n).flatMap (Ef.rowB bound),0) from fun h1=>by
  rw[List.take_of_length_le (by omega)]at h1 ⊢
  unfold listsB
  rw[if_pos (List.all_eq_true.2 h1)])
 have H0:=hide (show (U.take 0).flatMap (Ef.rowB bound)=[] by simp)
 have HN:=hide hn
 have HB64:=hide (show vI bound by unfold vI;omega)
 have CE:=hide (fun (ids:List Int) (A:Option Addr) (c:Nat) (W:World) (h1:ids.length≤c) (h2:c≤maxLen) (h3:ids.length≤20000) (h4:IntsAt W W.heap.size A ids.length ids)=>UL W bound ids A ids.length c W (Ext.refl W) HB64.out h1 h2 h3 h4)
 generalize listsB bound U=res at *
 clear h hb hn hU hl
 go_enter Tryz.func76,Tryz.ntmps76
 go_wp2
 go_loopw [13,6] (fun y v wr=>∃ i:Nat,i≤n∧y=.int .i64 (i:Int)∧OwnB wr w.heap.size v ((U.take i).flatMap (Ef.rowB bound))∧(∀ l,l∈U.take i→zT bound l=true)∧Ext w wr) (fun y _ _=>n-(intOf y).toNat)
 case atStart=>exact⟨0,by omega,rfl,by rw[H0.out];exact OwnB.nil _ _,fun l hl=>by simp at hl,Ext.refl w⟩
 case round =>
  obtain⟨i,hi,rfl,hO,hA,hE⟩:=hrel
  have HO:=hide hO
  have HA:=hide hA
  have HE:=hide hE
  clear hO hE hA
  by_cases hlt:i<n
  ·have hiI:(i:Int)<(n:Int):=by omega
   have hn9:=HN.out
   obtain⟨b1,o1,a3,c3,hA,e1,q2,q3,q1⟩:=(HL.out.ext HE.out).at hlt
   subst hA
   have C:=CE.out (U.getD i []) a3 c3 wr q2 q3 (HAt.out i hlt) q1
   unfold zB at C
   cases hr:Ef.row bound (U.getD i []) with
   | false =>
    have e0:Ef.writeE bound (U.getD i [])=([],13):=by unfold Ef.writeE;rw[if_neg (by rw[hr];simp)]
    rw[e0]at C
    have HBd:=hide (HBad.out i hlt (by unfold zT;rw[hr,Bool.and_false]))
    generalize (U.getD i []).length=k at *
    clear q1 q2 q3 e0 hr
    go_wp2_with fail
    refine C.mono ?_
    rintro e w4 ⟨v4,rfl,hO4,hE4⟩
    go_wp2
    refine bodyPost_ret (results_tmp2 rfl _ _ _) rfl ?_
    rw[HBd.out]
    exact⟨_,rfl,OwnB.nil _ _,HE.out.trans hE4⟩
   | true =>
    have e0:Ef.writeE bound (U.getD i [])=(Ef.rowB bound (U.getD i []),0):=by unfold Ef.writeE;rw[if_pos ⟨HBo.out,hr⟩]
    rw[e0]at C
    dsimp only at C
    by_cases hne:U.getD i []=[]
    ·have hbad:=hide (HBad.out i hlt (by unfold zT;rw[hne];rfl))
     rw[hne]at C e1
     clear q1 q2 q3 e0 hr hne
     generalize Ef.rowB bound []=R at *
     go_wp2_with fail
     refine C.mono ?_
     rintro e w4 ⟨v4,rfl,hO4,hE4⟩
     clear C
     go_wp2
     refine bodyPost_ret (results_tmp2 rfl _ _ _) rfl ?_
     rw[hbad.out]
     exact⟨_,rfl,OwnB.nil _ _,HE.out.trans hE4⟩
    ·have hok:zT bound (U.getD i [])=true:=by unfold zT;rw[hr,decide_eq_true hne];rfl
     have hk0:¬ ((U.getD i []).length:Int)=0:=by have:=List.length_pos_iff.2 hne;omega
     have hRl:=rowB_len HBo.out hr (HAt.out i hlt)
     have HTi:=hide (HTk.out i hlt)
     have HLi:=hide (HLn.out i HA.out)
     have HAi:=hide (HAl.out i hlt HA.out hok)
     obtain⟨R,hR⟩:∃ R,R=Ef.rowB bound (U.getD i []):=⟨_,rfl⟩
     rw[← hR]at C hRl HTi
     generalize (U.getD i []).length=k at *
     generalize (U.take i).flatMap (Ef.rowB bound)=P at *
     clear q1 q2 q3 e0 hr hR hok hne
     go_wp2_with fail
     refine C.mono ?_
     rintro e w4 ⟨v4,rfl,hO4,hE4⟩
     obtain⟨A4,c4,hv4,-,-,h4⟩:=hO4.form
     have H4:=hide h4
     have HE4:=hide (HE.out.trans hE4)
     have HO4:=hide (HO.out.ext hE4)
     obtain⟨kr,hkr⟩:∃ kr,kr=R.length:=⟨_,rfl⟩
     rw[← hkr]at hv4 H4 hRl
     subst hv4
     clear C hO4 hE4 h4 HO e1 hkr
     go_wp2_with (at_builtin;refine ze rfl (.tmp 31) (.tmp 32) rfl rfl HO4.out rfl H4.out (by have:=HLi.out;omega) HE4.out.le ?_;intro v5 w5 hO5 hG5 _;rw[← HTi.out]at hO5;have HO5:=hide hO5;have HE5:=hide (show Ext w w5 from Below.grown HE4.out hG5 HE4.out.le (fun k hk=>(HO4.out.lt k hk).1));clear hO5 hG5)
     go_roundw
     case rel=>exact⟨i+1,by omega,by go_num,HO5.out,HAi.out,HE5.out⟩
     case measure=>simp[intOf];omega
  ·have hiI:¬ (i:Int)<(n:Int):=by omega
   obtain rfl:n=i:=by omega
   have HAl2:=hide (HAll.out HA.out)
   go_wp2
   refine bodyPost_ret (results_tmp2 rfl _ _ _) rfl ?_
   rw[HAl2.out]
   exact⟨_,rfl,HO.out,HE.out⟩
end
section
open Go.RowKit Pst
theorem Vl (bound:Int)(w:World):Calls Tryz.prog 74 #[.int .i64 bound] w fun e w'=>e=.returned (.bool (decide (0≤bound∧bound≤20000)))∧w=w':=by
 by_cases h0:0≤bound
 ·by_cases h1:bound≤20000
  ·have HD:=hide (show decide (0≤bound∧bound≤20000)=true from decide_eq_true ⟨h0,h1⟩)
   generalize decide (0≤bound∧bound≤20000)=res at *
   go_enter Tryz.func74,Tryz.ntmps74
   go_wp2
   go_ret
   exact⟨zf HD.out.symm,rfl⟩
  ·have HD:=hide (show decide (0≤bound∧bound≤20000)=false from decide_eq_false fun h=>h1 h.2)
   generalize decide (0≤bound∧bound≤20000)=res at *
   go_enter Tryz.func74,Tryz.ntmps74
   go_wp2
   go_ret
   exact⟨zf HD.out.symm,rfl⟩
 ·have HD:=hide (show decide (0≤bound∧bound≤20000)=false from decide_eq_false fun h=>h0 h.1)
  generalize decide (0≤bound∧bound≤20000)=res at *
  go_enter Tryz.func74,Tryz.ntmps74
  go_wp2
  go_ret
  exact⟨zf HD.out.symm,rfl⟩
theorem aed (w w':World){A1 A2:Option Addr}{n1 c1 n2 c2:Nat}{l1 l2:List UInt8}{f:Nat×Nat}(hn1:n1≤maxLen)(hn2:n2≤maxLen)(h1:Bytes w w.heap.size A1 n1 l1)(h2:Bytes w w.heap.size A2 n2 l2)(he:w'=w.alloc (.cells #[.slice A1 n1 c1,.slice A2 n2 c2] 29 f)) :
  Parts w' w'.heap.size (some ⟨w.heap.size,0,none⟩) 2 [l1,l2]∧Ext w w':=by
 have hE:Ext w w':=by rw[he];exact zb w _
 have hs:w'.heap.size=w.heap.size+1:=by rw[he];simp
 have hc:∀ i v,#[Value.slice A1 n1 c1,Value.slice A2 n2 c2][i]?=some v→w'.cell? ⟨w.heap.size,0+i,none⟩=some v:=fun i v hv=>by rw[he,Nat.zero_add,zA];exact hv
 refine⟨⟨rfl,.inr ⟨w.heap.size,0,rfl,by omega,fun i hi=>?_⟩⟩,hE⟩
 match i,hi with
 | 0,_=>exact⟨A1,n1,c1,hc 0 _ rfl,hn1,hE.bytes h1⟩
 | 1,_=>exact⟨A2,n2,c2,hc 1 _ rfl,hn2,hE.bytes h2⟩
set_option maxHeartbeats 4000000 in
set_option maxRecDepth 100000 in
theorem U5 (size bound:Int)(m:IxV)(w:World)(hs1:m.n1≤5000)(hs2:m.n2≤5000)(hs:∀ s,s∈m.x.terms→s.length≤1000)(hls:∀ l,l∈m.x.lists→l.length≤20000)(h:m.lies w) :
  Calls Tryz.prog 49 #[.int .i64 size,.int .i64 bound,.agg #[.slice m.a1 m.n1 m.c1,.slice m.a2 m.n2 m.c2]] w (zB w (bytesE size bound m.x).1 (bytesE size bound m.x).2):=by
 unfold zB
 obtain⟨a1,n1,c1,a2,n2,c2,x⟩:=m
 obtain⟨⟨hn1,hc1,hT⟩,hn2,hc2,hL⟩:=h
 dsimp only at hT hL hn1 hn2 hc1 hc2 hs1 hs2 hs hls ⊢
 have hl1:=hT.1
 have hl2:=hL.1
 obtain⟨w1,hw1⟩:∃ w1,w1=w.alloc (.cells #[.slice a1 n1 c1,.slice a2 n2 c2] 69):=⟨_,rfl⟩
 have HE1:=hide (show Ext w w1 by rw[hw1];exact zb w _)
 have HW:=hide (show Whole w1 w.heap.size 69 #[.slice a1 n1 c1,.slice a2 n2 c2] by rw[hw1];exact Whole.new w _ _)
 have CM:=fun W=>Vl bound W
 have HW1:=hide hw1
 clear hw1
 by_cases hb:0≤bound∧bound≤20000
 case neg =>
  have HR:=hide (show bytesE size bound x=([],13) by
   unfold bytesE
   refine if_pos (.inr (.inr ?_))
   unfold mayE
   rw[decide_eq_false (fun h=>hb ⟨h.1,h.2.1⟩),Bool.false_and])
  rw[decide_eq_false hb]at CM
  generalize bytesE size bound x=res at *
  clear hb hl1 hl2 hs hls hT hL
  go_enter Tryz.func49,Tryz.ntmps49
  go_wp2_with fail
  refine (CM _).mono ?_
  rintro e w2 ⟨rfl,rfl⟩
  rw[← HW1.out]
  clear CM
  go_wp2
  refine bodyPost_ret (results_tmp2 rfl _ _ _) rfl ?_
  rw[HR.out]
  exact⟨_,rfl,OwnB.nil _ _,HE1.out⟩
 rw[decide_eq_true hb]at CM
 by_cases hlen:n2=n1
 case neg =>
  have HR:=hide (show bytesE size bound x=([],13) by
   unfold bytesE
   refine if_pos (.inr (.inr ?_))
   unfold mayE
   rw[decide_eq_false (fun h=>by omega),Bool.false_and])
  generalize bytesE size bound x=res at *
  have hnI:¬ (n2:Int)=(n1:Int):=by omega
  clear hb hl1 hl2 hs hls hT hL
  have d0:=HW.out.at 0 (u:=.slice a1 n1 c1) rfl
  have d1:=HW.out.at 1 (u:=.slice a2 n2 c2) rfl
  go_enter Tryz.func49,Tryz.ntmps49
  go_wp2_with fail
  refine (CM _).mono ?_
  rintro e w2 ⟨rfl,rfl⟩
  rw[← HW1.out]
  clear CM
  go_wp2
  refine bodyPost_ret (results_tmp2 rfl _ _ _) rfl ?_
  rw[HR.out]
  exact⟨_,rfl,OwnB.nil _ _,HE1.out⟩
 subst hlen
 have CD:=hide (aaq size x.terms a1 n2 c1 w1 hn1 hc1 (by omega) hs (hT.later HE1.out))
 have CL:=hide (fun (W:World) (hE:Ext w W)=>aas bound a2 n2 c2 x.lists W (hL.ext hE) hb hs2 hls)
 have hDl:Dic.mayD x.terms=true→(Dic.dictB size.toNat x.terms).length≤200000∨size<1∨64<size:=fun hd=>by
  by_cases g:size<1∨64<size
  ·exact .inr g
  ·have:=Dic.dict_small (size:=size.toNat) (by omega) (by omega) (fun s hs=>((Dic.may_facts hd).2.1 s hs).2)
   left
   omega
 have hRl:(listsB bound x.lists).1.length≤600000000:=by
  unfold listsB
  split
  ·rename_i hall
   have h2:=rowsB_len (bound:=bound) (U:=x.lists) fun l hl=>rowB_len hb (by have:=List.all_eq_true.1 hall l hl;unfold zT at this;rw[Bool.and_eq_true]at this;exact this.2) (hls l hl)
   dsimp only
   omega
  ·simp
 have d0:=HW.out.at 0 (u:=.slice a1 n2 c1) rfl
 have d1:=HW.out.at 1 (u:=.slice a2 n2 c2) rfl
 have hmE:mayE bound x=(Dic.mayD x.terms && x.lists.all (zT bound)):=by unfold mayE;rw[decide_eq_true ⟨hb.1,hb.2,by omega⟩,Bool.true_and]
 by_cases hgood:1≤size∧size≤64∧Dic.mayD x.terms=true
 case neg =>
  have hw:Dic.writeE size x.terms=([],13):=by
   unfold Dic.writeE
   rw[if_pos]
   by_cases g1:size<1
   ·exact .inl g1
   by_cases g2:64<size
   ·exact .inr (.inl g2)
   ·refine .inr (.inr ?_)
    cases hd:Dic.mayD x.terms with
    | false=>rfl
    | true=>exact absurd ⟨by omega,by omega,hd⟩ hgood
  have HR:=hide (show bytesE size bound x=([],13) by
   unfold bytesE
   rw[if_pos]
   by_cases g1:size<1
   ·exact .inl g1
   by_cases g2:64<size
   ·exact .inr (.inl g2)
   ·refine .inr (.inr ?_)
    rw[hmE]
    cases hd:Dic.mayD x.terms with
    | false=>rfl
    | true=>exact absurd ⟨by omega,by omega,hd⟩ hgood)
  have C:=CD.out
  unfold zB at C
  rw[hw]at C
  generalize bytesE size bound x=res at *
  clear hgood hw hmE hRl hDl CL CD hb hs hls hT hL hl1 hl2
  go_enter Tryz.func49,Tryz.ntmps49
  go_wp2_with fail
  refine (CM _).mono ?_
  rintro e w2 ⟨rfl,rfl⟩
  rw[← HW1.out]
  clear CM
  go_wp2_with fail
  refine C.mono ?_
  rintro e w3 ⟨v3,rfl,hO3,hE3⟩
  clear C
  go_wp2
  refine bodyPost_ret (results_tmp2 rfl _ _ _) rfl ?_
  rw[HR.out]
  exact⟨_,rfl,OwnB.nil _ _,HE1.out.trans hE3⟩
 obtain⟨g1,g2,hd⟩:=hgood
 have hDl2:(Dic.dictB size.toNat x.terms).length≤200000:=by rcases hDl hd with h | h | h<;>omega
 have hw:Dic.writeE size x.terms=(Dic.dictB size.toNat x.terms,0):=by
  unfold Dic.writeE
  rw[if_neg]
  rw[hd]
  simp
  omega
 have hbE:bytesE size bound x=if x.lists.all (zT bound)=true then (Dic.dictB size.toNat x.terms++x.lists.flatMap (Ef.rowB bound),0) else ([],13):=by
  unfold bytesE
  rw[hmE,hd,Bool.true_and]
  cases x.lists.all (zT bound) with
  | true=>rw[if_neg (by simp;omega),if_pos rfl]
  | false=>rw[if_pos (.inr (.inr rfl)),if_neg (by simp)]
 have C:=CD.out
 unfold zB at C
 rw[hw]at C
 dsimp only at C
 have HDl:=hide hDl2
 have HRl:=hide hRl
 have HL2:=hide CL.out
 unfold zB at HL2
 generalize hD:Dic.dictB size.toNat x.terms=D at *
 cases hall:x.lists.all (zT bound) with
 | false =>
  rw[hall,if_neg (by simp)]at hbE
  have hl:listsB bound x.lists=([],13):=by unfold listsB;rw[hall,if_neg (by simp)]
  rw[hl]at HL2
  have HR:=hide hbE
  generalize bytesE size bound x=res at *
  clear hw hmE hRl hDl CL CD hb hs hls hT hL hl1 hl2 hall hl hbE hDl2 hD hd HRl
  go_enter Tryz.func49,Tryz.ntmps49
  go_wp2_with fail
  refine (CM _).mono ?_
  rintro e w2 ⟨rfl,rfl⟩
  rw[← HW1.out]
  clear CM
  go_wp2_with fail
  refine C.mono ?_
  rintro e w3 ⟨v3,rfl,hO3,hE3⟩
  have d2:=(HW.out.ext hE3).at 1 (u:=.slice a2 n2 c2) rfl
  have HE3:=hide (HE1.out.trans hE3)
  clear C d0 d1 hO3 hE3
  go_wp2_with fail
  refine (HL2.out _ HE3.out).mono ?_
  rintro e w4 ⟨v4,rfl,hO4,hE4⟩
  clear HL2
  go_wp2
  refine bodyPost_ret (results_tmp2 rfl _ _ _) rfl ?_
  rw[HR.out]
  exact⟨_,rfl,OwnB.nil _ _,HE3.out.trans hE4⟩
 | true =>
  rw[hall,if_pos rfl]at hbE
  have hl:listsB bound x.lists=(x.lists.flatMap (Ef.rowB bound),0):=by unfold listsB;rw[hall,if_pos rfl]
  rw[hl]at HL2 HRl
  dsimp only at HL2 HRl
  have HR:=hide hbE
  generalize bytesE size bound x=res at *
  generalize x.lists.flatMap (Ef.rowB bound)=R at *
  clear hw hmE hRl hDl CL CD hb hs hls hT hL hl1 hl2 hall hl hbE hDl2 hD hd
  go_enter Tryz.func49,Tryz.ntmps49
  go_wp2_with fail
  refine (CM _).mono ?_
  rintro e w2 ⟨rfl,rfl⟩
  rw[← HW1.out]
  clear CM
  go_wp2_with fail
  refine C.mono ?_
  rintro e w3 ⟨v3,rfl,hO3,hE3⟩
  have d2:=(HW.out.ext hE3).at 1 (u:=.slice a2 n2 c2) rfl
  have HE3:=hide (HE1.out.trans hE3)
  have HO3:=hide hO3
  clear C d0 d1 hO3 hE3
  go_wp2_with fail
  refine (HL2.out _ HE3.out).mono ?_
  rintro e w4 ⟨v4,rfl,hO4,hE4⟩
  obtain⟨A3,c3,rfl,p1,p2,p3⟩:=(HO3.out.ext hE4).form
  obtain⟨A4,c4,rfl,q1,q2,q3⟩:=hO4.form
  have hdl:=HDl.out
  have hrl:=HRl.out
  have CA:=hide (fun w5 h5=>aed w4 w5 (c1:=c3) (c2:=c4) (f:=(0,0)) (by omega) (by omega) p3 q3 h5)
  have HE4:=hide (HE3.out.trans hE4)
  clear HL2 d2 hO4 hE4 p3 q3
  generalize hdn:D.length=dn at *
  generalize hrn:R.length=rn at *
  have HDn:=hide hdn
  have HRn:=hide hrn
  clear hdn hrn
  go_wp2_with fail
  obtain⟨hP,hE5⟩:=CA.out _ rfl
  generalize w4.alloc (.cells #[.slice A3 dn c3,.slice A4 rn c4] 29)=w5 at *
  have CC:=yS (some ⟨w4.heap.size,0,none⟩) 2 [D,R] w5 hP (by simp) (by rw[List.flatten_cons,List.flatten_cons,List.flatten_nil,List.append_nil,List.length_append,HDn.out,HRn.out];omega)
  unfold zt at CC
  have HE5:=hide (HE4.out.trans hE5)
  clear CA hP hE5
  refine CC.mono ?_
  rintro e w6 ⟨v6,rfl,hO6,hE6⟩
  rw[List.flatten_cons,List.flatten_cons,List.flatten_nil,List.append_nil]at hO6
  have HO6:=hide hO6
  have HE6:=hide (HE5.out.trans hE6)
  have hle5:=hide HE5.out.le
  clear CC hO6 hE6
  go_wp2
  refine bodyPost_ret (results_tmp2 rfl _ _ _) rfl ?_
  rw[HR.out]
  exact⟨_,rfl,HO6.out.mono hle5.out,HE6.out⟩
end
end Go.Proofs.YtpmedpdjglcdpaaGreatDoor
