/- The program's index of a map of lists: its terms sorted, their lists. The program's Build: a map from terms to the numbers of the records that have them. -/
import Derived.Test.YtpmedpdjglcdpaaGreatDoorB06
import Derived.Test.YtpmedpdjglcdpaaGreatDoorB20
import Derived.Test.YtpmedpdjglcdpaaGreatDoorB41
import Derived.Test.YtpmedpdjglcdpaaGreatDoorB42
import Derived.Test.YtpmedpdjglcdpaaGreatDoorB44
namespace Go.Proofs.YtpmedpdjglcdpaaGreatDoor
section
open Go.RowKit Wrd
theorem MapG.keys {w:World}{base m n:Nat}{F:List UInt8→List Int}(h:MapG w base m n F):∃ (D:DataW Unit) (R:Value→Option (DataW Unit×List MemPlace)),w.ownsMap Tryz.prog 9 R m n D∧∀ x:List UInt8,Maps.has D (.string x)=decide (F x≠[]):=by
 obtain⟨D,⟨es,clock,h1,h2,h3,h4,_⟩,h5⟩:=h
 exact⟨D,_,⟨es,clock,h1,h2,h3,h4⟩,fun x=>(h5 x).2⟩
theorem U3 {w:World}{m n:Nat}{T:List (List UInt8)}{D:DataW Unit}{R:Value→Option (DataW Unit×List MemPlace)}{F:List UInt8→List Int}(h1:w.ownsMap Tryz.prog 9 R m n D)(h2:∀ x:List UInt8,Maps.has D (.string x)=decide (F x≠[]))(hT:Rising T)(hm:∀ x,x∈T↔F x≠[]){ss:List (List UInt8)}(hp:ss.Perm (strKeys D)) :
  ss.mergeSort (fun x y=>decide (x≤y))=T:=by
 obtain⟨es,hD,hko⟩:=h1.keysOf
 obtain⟨es',hD',hpw⟩:=h1.tidy strG_law
 subst hD
 injection hD' with hD'
 subst hD'
 have hk:∀ p∈es,∃ x,p.1=.string x:=fun p hp'=>by
  obtain⟨v,hv⟩:=hko p hp'
  obtain⟨x,_,hx,_⟩:=Maps.keyOf_str Tryz.underlying9 hv
  exact⟨x,hx⟩
 have hT2:=perm_strKeys hpw hk hT.nodup (fun x=>by rw[h2 x,decide_eq_true_iff];exact hm x)
 have hp2:=hp.trans hT2.symm
 exact aaT (hp2.nodup_iff.2 hT.nodup) hT (fun x=>hp2.mem_iff)
theorem MapG.whole {w w':World}{base m n g:Nat}{F:List UInt8→List Int}{t:TypeId}{cs:Array Value}(h:MapG w base m n F)(hW:Whole w g t cs)(ht:t≠3)(hG:w.grownBy w' (some g)):MapG w' base m n F:=by
 unfold Whole at hW
 obtain⟨D,h1,h2⟩:=h
 refine⟨D,h1.kept hG ?_ ?_,h2⟩
 ·obtain⟨es,clock,hb,_⟩:=h1
  intro e
  simp only[Option.some.injEq]at e
  subst e
  rw[hb]at hW
  cases hW
 ·obtain⟨es',clock',hb',F',_⟩:=h1
  intro es clock hb x hx
  obtain⟨rfl,rfl⟩:es'=es∧clock'=clock:=by rw[hb']at hb;simpa using hb
  obtain⟨y,hy⟩:=F'.reads x hx
  obtain⟨z,hz,_⟩:=WideElems.rd_val hy
  obtain⟨zs,ho,_⟩:=rowElem_inv hz
  rcases ho.1.2 with ⟨e,_⟩ | ⟨g1,_,_,e,_,hg1,_⟩
  ·rw[e];exact .inl rfl
  ·rw[e]
   refine .inr fun e2=>?_
   simp only[Value.ownBlock,Option.some.injEq]at e2
   subst e2
   rw[hW]at hg1
   simp only[Option.some.injEq,Obj.cells.injEq]at hg1
   exact ht hg1.2.1
theorem MapG.lists {w w':World}{base base' m n:Nat}{F:List UInt8→List Int}{v:Value}{ls:List (List Int)}(h:MapG w base m n F)(hL:OwnLs w base' v ls)(hG:w.grownBy w' v.ownBlock):MapG w' base m n F:=by
 obtain⟨vs,_,q2,_⟩:=hL
 exact h.other q2 VM hG
theorem OwnTx.lists {w w':World}{base base':Nat}{v u:Value}{T:List (List UInt8)}{ls:List (List Int)}(h:OwnTx w base v T)(hL:OwnLs w base' u ls)(hG:w.grownBy w' u.ownBlock):OwnTx w' base v T:=by
 obtain⟨vs,_,q2,_⟩:=hL
 exact World.ownsRow.kept h hG (xe h q2 (by decide))
theorem OwnTx.whole {w w':World}{base g:Nat}{v:Value}{T:List (List UInt8)}{t:TypeId}{cs:Array Value}(h:OwnTx w base v T)(hW:Whole w g t cs)(ht:t≠9)(hG:w.grownBy w' (some g)):OwnTx w' base v T :=
 World.ownsRow.kept h hG (.inr (h.notKind hW ht))
def aem (w:World)(base:Nat)(T:List (List UInt8))(ls:List (List Int))(e:Ending)(w':World):Prop :=
 ∃ A n c v,e=.returned (.agg #[.slice A n c,v])∧OwnTx w' base (.slice A n c) T∧OwnLs w' base v ls∧Ext w w'
set_option maxHeartbeats 4000000 in
set_option maxRecDepth 100000 in
theorem U4 {w:World}{base m n:Nat}{F:List UInt8→List Int}(T:List (List UInt8))(h:MapG w base m n F)(hb:base≤w.heap.size)(hn:n≤10000000)(hT:Rising T)(hm:∀ x,x∈T↔F x≠[])(hs:∀ x,x∈T→x.length≤1000)(hTl:T.length≤1000000)(hFl:∀ x,(F x).length≤1000000) :
  Calls Tryz.prog 78 #[.map (some m)] w (aem w base T (T.map F)):=by
 obtain⟨w1,hw1⟩:∃ w1,w1=w.alloc (.cells #[.slice none 0 0,.slice none 0 0] 69):=⟨_,rfl⟩
 have hE1:Ext w w1:=by rw[hw1];exact zb w _
 have hsz:w1.heap.size=w.heap.size+1:=by rw[hw1];simp
 have hWr:Whole w1 w.heap.size 69 #[.slice none 0 0,.slice none 0 0]:=by rw[hw1];exact Whole.new w _ _
 have h1:=h.ext hE1
 obtain⟨D,R,hD,hk⟩:=h1.keys
 have hsl:=hD.size_le
 have CK:=callsIn_wide.1 (Vj (some m) w1)
 have CS:=callsIn_wide.1 (Yk m n D R w1 hD (by unfold maxLen;omega) (by omega))
 have HSo:=hide (fun ss=>U3 hD hk hT hm (ss:=ss))
 have H1:=hide h1
 have HE1:=hide hE1
 have HWr:=hide hWr
 have HB:=hide hb
 have HTl:=hide hTl
 have HN:=hide hn
 have HFl:=hide hFl
 have HSz:=hide hsz
 have HS:=hide (show ∀ j,j<T.length→(T.getD j []).length≤1000 from fun j hj=>hs _ (by rw[List.getD_eq_getElem?_getD,List.getElem?_eq_getElem hj];exact List.getElem_mem _))
 have HMp:=hide (fun (j:Nat) (hj:j<T.length)=>show (T.take (j+1)).map F=(T.take j).map F++[F (T.getD j [])] by
  rw[take_tx hj,List.map_append]
  rfl)
 have HMa:=hide (show T.take T.length=T from List.take_of_length_le (Nat.le_refl _))
 clear h hE1 hWr h1 hD hk hsl hT hm hs hsz hb hTl hn hFl
 go_enter Tryz.func78,Tryz.ntmps78
 go_wp2_with fail
 rw[← hw1]
 clear hw1
 refine CK.mono ?_
 rintro e w2 ⟨rfl,rfl⟩
 clear CK
 go_wp2_with fail
 refine CS.mono ?_
 rintro e w3 ⟨v,ss,rfl,hP,hR,hN,hBl⟩
 have hTs:=HSo.out ss hP
 have hl:ss.length=T.length:=by rw[← hTs,List.length_mergeSort]
 rw[hTs,hl]at hR
 have hle5:=(HE1.out.trans (zb w1 (.cells #[.map (some m)] 104))).le
 have hO3:OwnTx w3 base v T:=⟨hR.1,hR.2.imp_right fun ⟨g,cap,cur,e,hg,r⟩=>⟨g,cap,cur,e,Nat.le_trans (Nat.le_trans HB.out hle5) hg,r⟩⟩
 obtain⟨At,ct,rfl,-,-,-⟩:=OwnTx.form (L:=T) hR
 have hE3:Ext w1 w3:=(zb w1 _).trans hBl
 obtain⟨k,hkT⟩:∃ k,k=T.length:=⟨_,rfl⟩
 rw[← hkT]at hO3 HMp HMa HS HTl ⊢
 have HkT:=hide hkT
 have HQ3:=hide hO3
 have HE3:=hide hE3
 clear CS hR hTs hl hN hP hBl hO3 hle5 hE3 HSo hkT
 go_wp2_with fail
 obtain⟨w4,hw4⟩:∃ w4,w4=w3.alloc (.cells #[.slice At k ct,.slice none 0 0] 69):=⟨_,rfl⟩
 have HX:=hide (show Whole w4 w3.heap.size 69 #[.slice At k ct,.slice none 0 0] by rw[hw4];exact Whole.new w3 _ _)
 have HE4:=hide (show Ext w3 w4 by rw[hw4];exact zb w3 _)
 have hsz4:w4.heap.size=w3.heap.size+1:=by rw[hw4];simp
 have hle3:=HE3.out.le
 have hle1:=HE1.out.le
 have HG:=hide ((H1.out.ext HE3.out).ext HE4.out)
 have HR:=hide ((HWr.out.ext HE3.out).ext HE4.out)
 have HT:=hide ((HQ3.out.ext HE4.out))
 have HE:=hide ((HE1.out.trans HE3.out).trans HE4.out)
 obtain⟨gx,hgx⟩:∃ gx,gx=w3.heap.size:=⟨_,rfl⟩
 have hgx1:w.heap.size<gx:=by have:=HSz.out;omega
 have hgx2:w4.heap.size=gx+1:=by omega
 rw[← hw4]
 rw[← hgx]at HX ⊢
 have HG1:=hide hgx1
 have HG2:=hide hgx2
 clear hw4 hgx hgx1 hgx2 hsz4 hle3 hle1 H1 HE1 HWr HSz HQ3 HE3 HE4
 obtain⟨wt,rfl⟩:∃ W,W=w4:=⟨_,rfl⟩
 go_loopw [13] (fun y wr=>∃ (j:Nat) (lv:Value),j≤k∧y=.int .i64 (j:Int)∧OwnLs wr base lv ((T.take j).map F)∧(∀ g,lv.ownBlock=some g→wt.heap.size≤g)∧MapG wr base m n F∧OwnTx wr base (.slice At k ct) T∧wt.heap.size≤wr.heap.size∧Whole wr gx 69 #[.slice At k ct,lv]∧Whole wr w.heap.size 69 #[.slice none 0 0,.slice none 0 0]∧Ext w wr) (fun y _=>k-(intOf y).toNat)
 case atStart=>exact⟨0,.slice none 0 0,by omega,rfl,OwnLs.nil _ _,fun g hg=>by simp[Value.ownBlock]at hg,HG.out,HT.out,Nat.le_refl _,HX.out,HR.out,HE.out⟩
 case round =>
  clear HT HX HR HE HG
  obtain⟨j,lv,hj,rfl,hLs,hBk,hG,hOT,hsz,hX,hR,hE⟩:=hrel
  have HT:=hide hOT
  obtain⟨A',c',e',-,-,hT⟩:=hOT.form
  injection e' with f1 f2 f3
  subst f1 f3
  rw[← f2]at hT
  obtain⟨Al,cl,hlv,hcl1,hcl2,-⟩:=hLs.form
  rw[List.length_map,List.length_take,Nat.min_eq_left (by have:=hT.1;omega)]at hlv hcl1
  clear hOT f2
  subst hlv
  have HLs:=hide hLs
  have HBk:=hide hBk
  have HG:=hide hG
  have HX:=hide hX
  have HR:=hide hR
  have HE:=hide hE
  have HSz:=hide hsz
  by_cases hlt:j<k
  ·have hjI:(j:Int)<(k:Int):=by omega
   have hk9:=HTl.out
   obtain⟨wo,rfl⟩:∃ W,W=wr:=⟨_,rfl⟩
   rcases hT.2 with h0 | ⟨bt,ot,rfl,hbt,hct⟩
   ·omega
   have c0:=hct j hlt
   have HMj:=hide (HMp.out j hlt)
   have hsj:=HS.out j hlt
   obtain⟨s,hs⟩:∃ s,s=T.getD j []:=⟨_,rfl⟩
   rw[← hs]at c0 HMj hsj
   have d0:=HX.out.at 0 (u:=.slice (some ⟨bt,ot,none⟩) k ct) rfl
   have d1:=HX.out.at 1 (u:=.slice Al j cl) rfl
   have hne:(Value.slice Al j cl).ownBlock≠some gx:=fun e=>by have:=(HBk.out _ e);have:=HG2.out;omega
   have hlm:((T.take j).map F).length≤1000000:=by rw[List.length_map,List.length_take];have:=HTl.out;omega
   have hsj:=hide hsj
   clear hT hX hR hE hLs hct hs hBk hG
   go_wp2_with (first
    | (at_lookup;refine q9 rfl (.tmp 19) (.tmp 20) rfl rfl HG.out (by have:=HN.out;omega) hsj.out rfl ?_;intro v8 hv8 _ _;obtain⟨A8,c8,e8,-,-,-⟩:=OwnI.form2 (L:=F s) hv8.1;subst e8;have HO:=hide (show OwnI wo base (.slice A8 (F s).length c8) (F s) from hv8.1);clear hv8)
    | (at_builtin;refine qP rfl (.tmp 18) (.tmp 22) rfl rfl HLs.out HO.out rfl hlm (by have:=HB.out;have:=HE.out.le;omega) ?_;intro v6 w6 hL6 hG6 hN6;rw[← HMj.out]at hL6;obtain⟨A6,c6,hv6,-,-,-⟩:=hL6.form;rw[List.length_map,List.length_take,Nat.min_eq_left (by have:=HkT.out;omega)]at hv6;subst hv6;have HL6:=hide hL6;have HG6:=hide hG6;have HN6:=hide hN6;have HX6:=hide ((HX.out.ext (zb wo _)).ownGrown hG6 hne);clear hL6 hG6 hN6 d0 d1)
    | (refine yb rfl 67 (.tmp 24) (.tmp 23) rfl #[.slice (some ⟨bt,ot,none⟩) k ct,.slice A6 (j+1) c6] rfl rfl HX6.out (by simp) (by kernel_rfl) rfl rfl rfl ?_;intro w7 hW7 hG7;have HW7:=hide hW7;have HG7:=hide hG7;clear hW7 hG7))
   have hF6:Ext wo (wo.alloc (.cells #[.slice A8 (F s).length c8] 48)):=zb wo _
   have hB6:Below wt.heap.size wo w6:=Below.grown (Below.mono hF6 HSz.out) HG6.out (by have:=HSz.out;have:=hF6.le;omega) (fun k hk=>HBk.out k hk)
   have hT7:=((HT.out.ext hF6).lists (HLs.out.ext hF6) HG6.out).whole HX6.out (by decide) HG7.out
   have hL7:=HL6.out.kept HX6.out (by decide) (by decide) HG7.out
   have hG7:=((HG.out.ext hF6).lists (HLs.out.ext hF6) HG6.out).whole HX6.out (by decide) HG7.out
   have hlow:w.heap.size<wt.heap.size:=by have:=HG1.out;have:=HG2.out;omega
   have hR7:=((HR.out.ext hF6).ownGrown HG6.out (fun e=>by have:=HBk.out _ e;omega)).grown HG7.out (by have:=HG1.out;omega)
   have hE6:Ext w w6:=Below.grown (HE.out.trans hF6) HG6.out (HE.out.trans hF6).le (fun k hk=>by have:=HBk.out k hk;omega)
   have hE7:Ext w w7:=Below.grown hE6 HG7.out hE6.le (fun k hk=>by cases hk;have:=HG1.out;omega)
   have hs7:wt.heap.size≤w7.heap.size:=by have:=HSz.out;have:=hB6.size;have:=HG7.out.size;omega
   have hBk7:∀ g,(Value.slice A6 (j+1) c6).ownBlock=some g→wt.heap.size≤g:=fun g hg=>by
    rcases HN6.out with e | ⟨g',e,h'⟩
    ·rw[e]at hg;exact HBk.out g hg
    ·rw[e]at hg
     cases hg
     have:=HSz.out
     have:=hF6.le
     omega
   go_roundw
   case rel=>exact⟨j+1,_,by omega,by go_num,hL7,hBk7,hG7,hT7,hs7,HW7.out,hR7,hE7⟩
   case measure=>simp[intOf];omega
  ·have hjI:¬ (j:Int)<(k:Int):=by omega
   obtain rfl:k=j:=by omega
   rw[HMa.out]at HLs
   have d0:=HX.out.at 0 (u:=.slice At k ct) rfl
   have d1:=HX.out.at 1 (u:=.slice Al k cl) rfl
   clear hT hX hR hE hLs hsz hG hBk
   go_wp2_with (refine zh rfl 69 (.tmp 2) (.tmp 26) rfl rfl rfl HR.out rfl Yv (Q5 _ _ _ _ _ _) ?_;intro w6 hW6 hG6 _)
   have hT6:=HT.out.whole HR.out (by decide) hG6
   have hL6:=HLs.out.kept HR.out (by decide) (by decide) hG6
   refine bodyPost_ret (qe rfl _ rfl hW6 rfl) rfl ⟨At,k,ct,_,rfl,hT6,hL6,Below.grown HE.out hG6 HE.out.le (fun k hk=>by cases hk;omega)⟩
end
section
open Go.RowKit Wrd Pst
theorem OwnTx.ints {w w':World}{base base':Nat}{v u:Value}{T:List (List UInt8)}{L:List Int}(h:OwnTx w base v T)(hI:OwnI w base' u L)(hG:w.grownBy w' u.ownBlock):OwnTx w' base v T :=
 World.ownsRow.kept h hG (xe h hI (by decide))
theorem OwnTx.below {w w':World}{base m:Nat}{v:Value}{T:List (List UInt8)}(h:OwnTx w base v T)(hm:m<base)(hG:w.grownBy w' (some m)):OwnTx w' base v T :=
 World.ownsRow.kept h hG (.inr fun e=>by have:=(h.lt _ e).1;omega)
theorem OwnTx.lower {w:World}{base base':Nat}{v:Value}{T:List (List UInt8)}(h:OwnTx w base v T)(hb:base'≤base):OwnTx w base' v T:=⟨h.1,h.2.imp_right fun ⟨g,cap,cur,e,hg,r⟩=>⟨g,cap,cur,e,Nat.le_trans hb hg,r⟩⟩
theorem adl {i:Nat}(h:i≤1000000):(Lit.int .i64 (i:Int)).wf=true:=WalkArith.wf_i64 (by omega)
set_option maxHeartbeats 4000000 in
set_option maxRecDepth 100000 in
theorem aap (A:Option Addr)(n c:Nat)(l:List Rc)(w:World)(h:RcsAt w w.heap.size A n l)(hw:Rcs.weightE l≤10000) :
  Calls Tryz.prog 50 #[.slice A n c] w (Yu w (buildE l)):=by
 have hl:=h.1
 have hn9:n≤1000:=by have:=Rcs.weight_len l;omega
 have HA:=hide h
 have HTl:=hide (show ∀ i,i<n→(zl (l.getD i default)).length≤10000 from fun i hi=>by
   have hmem:l.getD i default∈l:=by rw[List.getD_eq_getElem?_getD,List.getElem?_eq_getElem (by omega)];exact List.getElem_mem _
   have:=Rcs.weight_mem hmem
   have:=jv (l.getD i default)
   omega)
 have HCT:=hide (fun (i:Nat) (hi:i<n) (W:World)=>Qj ((l.getD i default).time:Int) ((l.getD i default).lv.toNat:Int) (l.getD i default).src (l.getD i default).text W (by
   have hmem:l.getD i default∈l:=by rw[List.getD_eq_getElem?_getD,List.getElem?_eq_getElem (by omega)];exact List.getElem_mem _
   have:=Rcs.weight_mem hmem
   omega) (by
   have hmem:l.getD i default∈l:=by rw[List.getD_eq_getElem?_getD,List.getElem?_eq_getElem (by omega)];exact List.getElem_mem _
   have:=Rcs.weight_mem hmem
   omega))
 have HSr:=hide (fun (i:Nat) (hi:i<n)=>U0 (l:=l) (i:=i) (by omega))
 have HSt:=hide (fun (i k:Nat) (hk:k<(zl (l.getD i default)).length)=>aam l hk)
 have HSl:=hide (fun (i k:Nat) (x:List UInt8)=>VY l i k x)
 have HS0:=hide (Qf l)
 have HSn:=hide (show xE l n 0=y9 l by rw[← hl,VX])
 have HTm:=hide (fun (i q:Nat) (hi:i<n) (hq:q<(zl (l.getD i default)).length)=>show ((zl (l.getD i default)).getD q []).length≤1000 from by
  have hall:=fun z hz=>adk (r:=l.getD i default) (z:=z) hz
  generalize zl (l.getD i default)=ts at hq hall ⊢
  have hmem:ts.getD q []∈ts:=by rw[List.getD_eq_getElem?_getD,List.getElem?_eq_getElem hq];exact List.getElem_mem _
  have:=hall _ hmem
  omega)
 have HEnd:=hide (fun (base m nn:Nat) (W:World) (h1:MapG W base m nn (y9 l)) (h2:base≤W.heap.size) (h3:nn≤10000000)=>U4 (gather l) h1 h2 h3 (jG l) (fun x=>by
   have:=aaK (l:=l) (s:=x)
   rw[Ne,this,Classical.not_not]) (fun x hx=>by have:=(term_size hx).2;omega) (by have:=j7 l;omega) (fun x=>by
   rw[← VX l]
   have:=VY l l.length 0 x
   omega))
 obtain⟨w1,hw1⟩:∃ w1,w1=w.alloc (.cells #[.slice none 0 0,.slice none 0 0] 69):=⟨_,rfl⟩
 have hE1:Ext w w1:=by rw[hw1];exact zb w _
 have hsz:w1.heap.size=w.heap.size+1:=by rw[hw1];simp
 have hWr:Whole w1 w.heap.size 69 #[.slice none 0 0,.slice none 0 0]:=by rw[hw1];exact Whole.new w _ _
 obtain⟨w2,hw2⟩:∃ w2,w2=w1.alloc (.map #[] 0):=⟨_,rfl⟩
 have hE2:Ext w1 w2:=by rw[hw2];exact zb w1 _
 have HM0:=hide (show MapG w2 (w1.heap.size+1) w1.heap.size 0 (fun _=>[]) by rw[hw2];exact MapG.made w1)
 have HWr:=hide (hWr.ext hE2)
 have HE2:=hide (hE1.trans hE2)
 have hsz2:w2.heap.size=w1.heap.size+1:=by rw[hw2];simp
 have hmm:=@run_makeMap Tryz.prog
 obtain⟨gm,hgm⟩:∃ gm,gm=w.heap.size+1:=⟨_,rfl⟩
 have hgm1:w1.heap.size=gm:=by omega
 have HG1:=hide (show w.heap.size<gm by omega)
 have HG2:=hide (show w2.heap.size=gm+1 by omega)
 rw[hgm1]at HM0
 have HGm:=hide hgm
 have HW1:=hide hw1
 have HW2:=hide hw2
 clear h hl hw hE1 hsz hWr hE2 hsz2 hgm hgm1 hw1 hw2
 go_enter Tryz.func50,Tryz.ntmps50
 go_wp2_with fail
 rw[← HW1.out]
 rw[← HW2.out]
 rw[← HGm.out]
 go_loopw [11] (fun y wr=>∃ (i nn:Nat),i≤n∧y=.int .i64 (i:Int)∧nn≤10000*i∧MapG wr (gm+1) gm nn (xE l i 0)∧gm+1≤wr.heap.size∧Whole wr w.heap.size 69 #[.slice none 0 0,.slice none 0 0]∧Ext w wr) (fun y _=>n-(intOf y).toNat)
 case atStart=>exact⟨0,0,by omega,rfl,by omega,by rw[HS0.out];exact HM0.out,by have:=HG2.out;omega,HWr.out,HE2.out⟩
 case round =>
  clear HM0 HWr HE2
  obtain⟨i,nn,hi,rfl,hnn,hM,hsz,hR,hE⟩:=hrel
  have HNn:=hide hnn
  have HM:=hide hM
  have HSz:=hide hsz
  have HR:=hide hR
  have HE:=hide hE
  clear hnn hM hsz hR hE
  by_cases hlt:i<n
  ·have hiI:(i:Int)<(n:Int):=by omega
   rcases (HA.out.later HE.out).2.1 with hn0 | ⟨b1,o1,rfl,_,hc1⟩
   ·omega
   obtain⟨e0,e1,e2,e3⟩:=hc1 i hlt
   have C:=fun W=>HCT.out i hlt W
   have hTi:=HTl.out i hlt
   have HSi:=hide (HSr.out i hlt)
   have HSti:=hide (HSt.out i)
   have HTmi:=hide (fun q=>HTm.out i q hlt)
   have HSli:=hide (HSl.out i)
   have hts:xh (l.getD i default).text (l.getD i default).src=zl (l.getD i default):=rfl
   rw[hts]at C
   unfold QN at C
   generalize zl (l.getD i default)=ts at *
   generalize l.getD i default=r at *
   obtain⟨rt,rl,rs,rg⟩:=r
   dsimp only at C e0 e1 e2 e3
   clear hc1 hts
   obtain⟨wo,rfl⟩:∃ W,W=wr:=⟨_,rfl⟩
   go_wp2_with fail
   have hEo:=zb wo (.cells #[.int .u64 (rt:Int),.int .u8 (rl.toNat:Int),.string ⟨rs.toArray⟩,.string ⟨rg.toArray⟩] 39)
   refine (C _).mono ?_
   rintro e w4 ⟨v4,rfl,hO4,hE4⟩
   obtain⟨At,ct,e4,-,-,-⟩:=hO4.form
   subst e4
   have HO4:=hide (OwnTx.lower (base':=gm+1) hO4 (by have:=HSz.out;simp;omega))
   have HE4:=hide (hEo.trans hE4)
   obtain⟨m,hm⟩:∃ m,m=ts.length:=⟨_,rfl⟩
   rw[← hm]at HO4 hTi HSti HTmi HSi ⊢
   have HMl:=hide hm
   have HTi:=hide hTi
   clear C hO4 hE4 hEo e0 e1 e2 e3 hm
   have HM4:=hide (HM.out.ext HE4.out)
   have HR4:=hide (HR.out.ext HE4.out)
   have HF4:=hide (HE.out.trans HE4.out)
   have HS4:=hide (show gm+1≤w4.heap.size by have:=HSz.out;have:=HE4.out.le;omega)
   go_wp2_with fail
   go_loopw [19] (fun y wk=>∃ (q nn:Nat),q≤m∧y=.int .i64 (q:Int)∧nn≤10000*i+q∧MapG wk (gm+1) gm nn (xE l i q)∧OwnTx wk (gm+1) (.slice At m ct) ts∧gm+1≤wk.heap.size∧Whole wk w.heap.size 69 #[.slice none 0 0,.slice none 0 0]∧Ext w wk) (fun y _=>m-(intOf y).toNat)
   case atStart=>exact⟨0,nn,by omega,rfl,by have:=HNn.out;omega,HM4.out,HO4.out,HS4.out,HR4.out,HF4.out⟩
   case round =>
    clear HM4 HR4 HF4 HS4 HO4 HM HR HE HSz HNn HE4
    obtain⟨q,nn,hq,rfl,hnn,hM,hO,hsz,hR,hE⟩:=hrel
    have HNn:=hide hnn
    have HM:=hide hM
    have HO:=hide hO
    have HSz:=hide hsz
    have HR:=hide hR
    have HE:=hide hE
    clear hnn hM hsz hR hE
    have hm9:=HTi.out
    by_cases hlt2:q<m
    ·have hqI:(q:Int)<(m:Int):=by omega
     obtain⟨A',c',e',-,-,hT⟩:=hO.form
     injection e' with e1 e2 e3
     subst e1 e3
     rw[← e2]at hT
     rcases hT.2 with h0 | ⟨bt,ot,rfl,hbt,hct⟩
     ·omega
     have c0:=hct q hlt2
     have hsq:=HTmi.out q hlt2
     have HStq:=hide (HSti.out q hlt2)
     obtain⟨s,hs⟩:∃ s,s=ts.getD q []:=⟨_,rfl⟩
     rw[← hs]at c0 hsq HStq
     obtain⟨wb,rfl⟩:∃ W,W=wr:=⟨_,rfl⟩
     have hnn2:nn≤20000000:=by have:=HNn.out;omega
     have hFl:=HSli.out q s
     have hsq:=hide hsq
     clear hT hct hs hO e2
     go_wp2_with (first
      | (at_lookup;refine q9 rfl (.tmp 25) (.tmp 26) rfl rfl HM.out (by omega) hsq.out rfl ?_;intro v8 hv8 hl8 hb8;have HV8:=hide hv8;have HB8:=hide hb8;have HL8:=hide hl8;clear hv8 hb8 hl8)
      | (at_builtin;refine qy rfl (.tmp 27) (.tmp 29) rfl rfl (OwnI.ext (L:=xE l i q s) HV8.out.1 (zb wb _)) rfl (by rw[zA];rfl) (by omega) (by have:=HSz.out;simp;omega) ?_;intro v9 w9 hO9 hG9 hN9;have HO9:=hide hO9;have HG9:=hide hG9;have HN9:=hide hN9;clear hO9 hG9 hN9)
      | (at_mapUpdate;refine Qe rfl (.tmp 23) (.tmp 24) (.tmp 30) rfl HB8.out rfl rfl rfl ((World.grownBy_alloc wb _ _).trans HG9.out) ⟨HO9.out,fun z hz=>by rcases List.mem_append.1 hz with hz | hz;exact HV8.out.2 z hz;rw[List.mem_singleton]at hz;subst hz;exact adl (by omega)⟩ (by simp) (by have:=HL8.out;simp;omega) (HN9.out.imp id fun ⟨g,e,h⟩=>⟨g,e,Nat.le_trans (by simp) h⟩) ?_;intro w10 hM10 hG10;rw[← HStq.out]at hM10;have HM10:=hide hM10;have HG10:=hide hG10;clear hM10 hG10))
     have hF1:=zb wb (.cells #[.int .i64 (i:Int)] 3)
     have hV8:OwnI (wb.alloc (.cells #[.int .i64 (i:Int)] 3)) (gm+1) v8 (xE l i q s):=OwnI.ext HV8.out.1 hF1
     have hO10:=(OwnTx.ints (HO.out.ext hF1) hV8 HG9.out).below (by omega) HG10.out
     have hR10:=((HR.out.ext hF1).ownGrown HG9.out (fun e=>by have:=(hV8.lt _ e).1;have:=HG1.out;omega)).grown HG10.out (by have:=HG1.out;omega)
     have hE9:Ext w w9:=Below.grown (HE.out.trans hF1) HG9.out (HE.out.trans hF1).le (fun k hk=>by have:=(hV8.lt k hk).1;have:=HG1.out;omega)
     have hE10:Ext w w10:=Below.grown hE9 HG10.out hE9.le (fun k hk=>by cases hk;have:=HG1.out;omega)
     have hs10:gm+1≤w10.heap.size:=by have:=HSz.out;have:=hF1.le;have:=HG9.out.size;have:=HG10.out.size;omega
     go_roundw
     case rel=>exact⟨q+1,nn+1,by omega,by go_num,by have:=HNn.out;omega,HM10.out,hO10,hs10,hR10,hE10⟩
     case measure=>simp[intOf];omega
    ·have hqI:¬ (q:Int)<(m:Int):=by omega
     obtain rfl:m=q:=by omega
     have hM1:=HM.out
     rw[← HSi.out]at hM1
     have HM1:=hide hM1
     clear hM1
     go_wp2_with fail
     go_roundw
     case rel=>exact⟨i+1,nn,by omega,by go_num,by have:=HNn.out;omega,HM1.out,HSz.out,HR.out,HE.out⟩
     case measure=>simp[intOf];omega
  ·have hiI:¬ (i:Int)<(n:Int):=by omega
   obtain rfl:n=i:=by omega
   rw[HSn.out]at HM
   have C:=HEnd.out _ _ _ _ HM.out HSz.out (by have:=HNn.out;omega)
   go_wp2_with fail
   refine C.mono ?_
   rintro e w5 ⟨Ax,nx,cx,vx,rfl,hTx,hLx,hE5⟩
   obtain⟨Ay,cy,ey,y1,y2,-⟩:=hLx.form
   subst ey
   have HTx:=hide hTx
   have HLx:=hide hLx
   have HR5:=hide (HR.out.ext hE5)
   have HE5:=hide (HE.out.trans hE5)
   generalize hly:((gather l).map (y9 l)).length=ny at *
   have HLy:=hide hly
   clear C hTx hLx hE5 hly
   go_wp2_with (refine zh rfl 69 (.tmp 2) (.tmp 34) rfl rfl rfl HR5.out rfl Yv (Q5 _ _ _ _ _ _) ?_;intro w6 hW6 hG6 _)
   obtain⟨Az,cz,ez,z1,z2,z3⟩:=(OwnTx.below HTx.out (by have:=HG1.out;omega) hG6).form
   obtain⟨Av,cv,ev,v1,v2,v3⟩:=(HLx.out.kept HR5.out (by decide) (by decide) hG6).form
   injection ez with q1 q2 q3
   injection ev with r1 r2 r3
   subst q1 q3 r1 r3
   rw[← q2]at z1 z3
   rw[← r2]at v1 v3
   refine bodyPost_ret (qe rfl _ rfl hW6 rfl) rfl ⟨⟨Ax,nx,cx,Ay,ny,cy,buildE l⟩,rfl,rfl,⟨⟨z1,z2,z3⟩,v1,v2,v3⟩,Below.grown HE5.out hG6 HE5.out.le (fun k hk=>by cases hk;omega)⟩
end
end Go.Proofs.YtpmedpdjglcdpaaGreatDoor
