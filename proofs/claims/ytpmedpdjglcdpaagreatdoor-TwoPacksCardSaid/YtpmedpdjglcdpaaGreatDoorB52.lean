/- Chapter 20: the program's parts of a body ahead of the directory. Chapter 20: the program's check of options, and Make. Chapter 20: the document's Make. Chapter 22: the document's Head and Pack. Chapter 22: the program's Pack. Chapter 22: TwoPacks. -/
import Derived.Test.YtpmedpdjglcdpaaGreatDoorB02
import Derived.Test.YtpmedpdjglcdpaaGreatDoorB08
import Derived.Test.YtpmedpdjglcdpaaGreatDoorB09
import Derived.Test.YtpmedpdjglcdpaaGreatDoorB13
import Derived.Test.YtpmedpdjglcdpaaGreatDoorB15
import Derived.Test.YtpmedpdjglcdpaaGreatDoorB17
import Derived.Test.YtpmedpdjglcdpaaGreatDoorB18
import Derived.Test.YtpmedpdjglcdpaaGreatDoorB19
import Derived.Test.YtpmedpdjglcdpaaGreatDoorB20
import Derived.Test.YtpmedpdjglcdpaaGreatDoorB23
import Derived.Test.YtpmedpdjglcdpaaGreatDoorB29
import Derived.Test.YtpmedpdjglcdpaaGreatDoorB30
import Derived.Test.YtpmedpdjglcdpaaGreatDoorB40
import Derived.Test.YtpmedpdjglcdpaaGreatDoorB45
import Derived.Test.YtpmedpdjglcdpaaGreatDoorB48
import Derived.Test.YtpmedpdjglcdpaaGreatDoorB49
import Derived.Test.YtpmedpdjglcdpaaGreatDoorB51
namespace Go.Proofs.YtpmedpdjglcdpaaGreatDoor
section
open Go.RowKit Bdy Rcs
theorem ab2 (W:World)(a:Option Addr)(n c:Nat)(k:IntKind)(h:Int)(h0:0≤h)(h2:h≤c) :
  (Instr.slice 24 (.slice a n c) none (some (.int k h)) none).run Tryz.prog W=.ok (.slice a h.toNat c) W:=by
 rw[run_slice_h (P:=Tryz.prog) (w:=W) 24 a n c (by kernel_rfl) k h h0 h2]
 have hs:(sizeOf (Tryz.prog.elem 24)).run Tryz.prog W=.ok 4 W:=by kernel_rfl
 rw[hs]
 rcases a with _ | ⟨b,o,s⟩<;>simp[Result.andThen,sliced,Addr.add]
section
variable {o:Oper}{a:Act}{Q:Exit→Act→World→Prop}{w:World}{base:Nat}{v:Value}{ls:List (List UInt8)}
theorem U7 {ops:Array Oper}{rest:List Oper}(hgd:o.guard=none)(s x:Operand)(ho:o.op=.call { callee:=.builtin .append,args:=#[s,x],argTypes:=#[47,47] })(hs:a.eval s=v){A1 A2:Option Addr}{m1 k1 m2 k2:Nat}{l1 l2:List UInt8}
  (h:OwnP w base v ls) (hr1:RowOf w w.heap.size (.slice A1 m1 k1) l1) (hc1:Clear v (.slice A1 m1 k1)) (hr2:RowOf w w.heap.size (.slice A2 m2 k2) l2) (hc2:Clear v (.slice A2 m2 k2)) {c:Nat} (hx:a.eval x=.slice (some ⟨w.heap.size,0,none⟩) 2 c) (hlen:ls.length≤1000) (hbase:base≤w.heap.size)
  (hk:∀ v' w',OwnP w' base v' (ls++[l1,l2])→(w.alloc (.cells #[.slice A1 m1 k1,.slice A2 m2 k2] 29)).grownBy w' v.ownBlock→wpList Tryz.prog ops Q rest (a.put o.dst v') w') :
  wpList Tryz.prog ops Q (o::rest) a (w.alloc (.cells #[.slice A1 m1 k1,.slice A2 m2 k2] 29)):=by
 obtain⟨i,hi,hz,hsz,hby⟩:=info_parts aaF
 have hE:=zb w (.cells #[.slice A1 m1 k1,.slice A2 m2 k2] 29)
 obtain⟨R,h1,h2⟩:=(h.ext hE).own
 refine wpList_append_own_at _ hgd s x 47 ho base 29 i _ 1 24 Tryz.underlying47 hi hz hsz hby rfl (by omega) v ls.length _ hs h1 ⟨w.heap.size,0,none⟩ 2 c [.slice A1 m1 k1,.slice A2 m2 k2] hx rfl (by
  intro j u hu
  have e:∀ j,(⟨w.heap.size,0,none⟩:Addr).add j=⟨w.heap.size,j,none⟩:=fun j=>by cases j<;>simp[Addr.add]
  rw[e,zA]
  match j,hu with
  | 0,hu=>simpa using hu
  | 1,hu=>simpa using hu
  | j+2,hu=>simp at hu) (by
  intro u hu
  simp at hu
  rcases hu with rfl|rfl<;>rfl) (by unfold maxLen;omega) (by omega) (by simp;omega) ?_
 intro v' w' h3 h4 _ h5
 refine hk v' w' (OwnP.app (X:=fun j=>if j=0 then .slice A1 m1 k1 else .slice A2 m2 k2) h2 (fun i hi=>?_) (Nat.le_refl _) ?_ h4 h5) h4
 ·match i,hi with
  | 0,_=>exact⟨hr1.ext hE,hc1⟩
  | 1,_=>exact⟨hr2.ext hE,hc2⟩
 ·exact h3
end
def Bdy.partsE (p:Bool)(k:Int)(l:List Rc)(gs:List Nat):List (List UInt8):=framesTo p l gs gs.length++[Crc.put (columnsE l),Crc.put (Pst.bytesE k l.length (Pst.buildE l)).1]
def ZF (w:World)(ps:List (List UInt8))(e:Ending)(w':World):Prop:=∃ v,e=.returned (.tuple #[v,.int .i64 0])∧OwnP w' w.heap.size v ps∧Ext w w'
attribute [local go_sem ↓] Xt
set_option maxHeartbeats 8000000 in
set_option maxRecDepth 100000 in
theorem Qp (b:Int)(p:Bool)(k d y cc:Int)(Ag A:Option Addr)(ng cg n cr:Nat)(gs:List Nat)(l:List Rc)(w:World)(hI:IntsAt w w.heap.size Ag ng (gs.map fun (k:Nat)=>(k:Int)))(hng:ng≤93)
  (hgs:∀ j,j<ng→yc gs j+gs.getD j 0≤l.length) (h:RcsAt w w.heap.size A n l) (hn:n≤cr) (hcr:cr≤maxLen) (hw:weightE l≤1500) (hk:1≤k∧k≤64) (ht:Tab w) :
  Calls Tryz.prog 28 #[.agg (zJ b p k d y cc),.slice Ag ng cg,.slice A n cr] w (ZF w (partsE p k l gs)):=by
 have hgl:gs.length=ng:=by have:=hI.1;simpa using this
 have hll:=h.1
 have hn93:n≤93:=by rw[← hll];exact len_small hw
 have HT:=hide (And.intro ht ht.pos)
 have HI:=hide hI
 have HRc:=hide h
 have HUp:=hide (fun j (hj:j<ng)=>xK (gs:=gs) (j:=j) (by omega))
 have HGs:=hide (show ∀ j,j<ng→yc gs j+gs.getD j 0≤n∧(gs.map fun (k:Nat)=>(k:Int)).getD j 0=((gs.getD j 0:Nat):Int) from fun j hj=>⟨by rw[← hll];exact hgs j hj,by simp[show j<gs.length by omega]⟩)
 have HFn:=hide (ZY p l gs)
 have HFl:=hide (frames_len p l gs)
 have HF0:=hide (show framesTo p l gs 0=[] from rfl)
 have HU0:=hide (jw gs)
 have HWr:=hide (fun i j=>JZ (l:=(l.drop i).take j) (Nat.le_trans (vL l i j) hw) p)
 have HFa:=hide (show ∀ j,qQ p l gs j=(Blk.writeF (bytesB false ((l.drop (yc gs j)).take (gs.getD j 0))) p).1 from fun _=>rfl)
 have HDr:=hide (fun i j=>show (l.drop i).drop j=l.drop (i+j) from List.drop_drop)
 have HWt:=hide hw
 obtain⟨ix1,ix2⟩:=index_ok hk hw
 obtain⟨iy1,iy2,iy3,iy4⟩:=ja hw
 have hcol:=columns_small hw
 have HPE:=hide (show partsE p k l gs=framesTo p l gs ng++[Crc.put (columnsE l),Crc.put (Pst.bytesE k l.length (Pst.buildE l)).1] by unfold partsE;rw[hgl])
 have CX:=fun W (hE:Ext w W)=>aap A n cr l W (h.later hE) (by omega)
 have CC:=fun W (hE:Ext w W)=>Xu A n cr l W hn (h.later hE) (by omega)
 have CY:=fun (m:IxV) (W:World) (hx:m.x=Pst.buildE l) (hm:m.lies W)=>U5 k (n:Int) m W (by have:=hm.1.2.2.1;rw[hx]at this;omega) (by have:=hm.2.2.2.1;rw[hx]at this;omega) (fun s hs=>by rw[hx]at hs;have:=iy3 s hs;omega) (fun s hs=>by rw[hx]at hs;have:=iy4 s hs;omega) hm
 have CY:∀ (m:IxV) (W:World),m.x=Pst.buildE l→m.lies W→Calls Tryz.prog 49 #[.int .i64 k,.int .i64 (n:Int),.agg #[.slice m.a1 m.n1 m.c1,.slice m.a2 m.n2 m.c2]] W (zB W (Pst.bytesE k l.length (Pst.buildE l)).1 0):=fun m W hx hm=>by
  have:=CY m W hx hm
  rw[hx,← hll,ix1]at this
  rw[← hll]
  exact this
 rw[HPE.out]
 generalize (Pst.bytesE k l.length (Pst.buildE l)).1=I at *
 generalize columnsE l=K at *
 have CPK:=fun W (hE:Ext w W) A c (hb:Bytes W W.heap.size A K.length K)=>xj A K.length c K W (by omega) (hE.tab HT.out.1 HT.out.2) (by have:=HT.out.2;have:=hE.le;omega) hb
 have CPI:=fun W (hE:Ext w W) A c (hb:Bytes W W.heap.size A I.length I)=>xj A I.length c I W (by omega) (hE.tab HT.out.1 HT.out.2) (by have:=HT.out.2;have:=hE.le;omega) hb
 generalize Crc.put I=PI at *
 generalize Crc.put K=PK at *
 unfold Yu at CX
 unfold zB at CY
 unfold zt at CC CPK CPI
 obtain⟨w1,hw1⟩:∃ w1,w1=w.alloc (.cells (zJ b p k d y cc) 23):=⟨_,rfl⟩
 have HE1:=hide (show Ext w w1 by rw[hw1];exact zb w _)
 have HW:=hide (show Whole w1 w.heap.size 23 (zJ b p k d y cc) by rw[hw1];exact Whole.new w _ _)
 unfold zJ at *
 unfold ZF
 clear hI hgs h hw ht hll ix1 ix2 iy1 iy2 iy3 iy4 hcol HPE hgl
 go_enter Tryz.func28,Tryz.ntmps28
 go_wp2
 rw[← hw1]
 clear hw1
 go_loopw [19,8,9] (fun z v lf wr=>∃ (j:Nat) (A9:Option Addr) (c9:Nat),j≤ng∧z=.int .i64 (j:Int)∧yc gs j≤n∧lf=.slice A9 (n-yc gs j) c9∧n-yc gs j≤c9∧c9≤maxLen∧RcsAt w w.heap.size A9 (n-yc gs j) (l.drop (yc gs j))∧OwnP wr w1.heap.size v (framesTo p l gs j)∧Ext w1 wr) (fun z _ _ _=>ng-(intOf z).toNat)
 case atStart=>exact⟨0,A,cr,by omega,rfl,by rw[HU0.out];omega,by rw[HU0.out];rfl,by omega,hcr,by rw[HU0.out];exact HRc.out,by rw[HF0.out];exact OwnP.nil _ _,Ext.refl _⟩
 case round =>
  obtain⟨j,A9,c9,hj,rfl,hu,rfl,hc9,hm9,hR9,hO,hE⟩:=hrel
  have HO:=hide hO
  have HE:=hide hE
  have HEw:=hide (HE1.out.trans hE)
  have HR9:=hide hR9
  have HM9:=hide (And.intro hc9 hm9)
  clear hO hE hR9
  by_cases hlt:j<ng
  ·have hjI:(j:Int)<(ng:Int):=by omega
   obtain⟨bg,og,rfl,hcg,hlg⟩:=HI.out.cellB hlt
   obtain⟨z1,z2⟩:=HGs.out j hlt
   have hun:=HUp.out j hlt
   rw[z2]at hcg
   have hcg2:=(HEw.out.cell hlg).trans hcg
   obtain⟨q1,q2⟩:=HWr.out (yc gs j) (gs.getD j 0)
   have HFj:=hide (HFn.out j)
   rw[HFa.out]at HFj
   have HDj:=hide (HDr.out (yc gs j) (gs.getD j 0))
   have HWj:=hide (Nat.le_trans (vL l (yc gs j) (gs.getD j 0)) HWt.out)
   obtain⟨x,hx⟩:∃ x,x=gs.getD j 0:=⟨_,rfl⟩
   obtain⟨U,hU⟩:∃ U,U=yc gs j:=⟨_,rfl⟩
   rw[← hx]at hcg2 z1 hun q1 q2 HFj HDj HWj
   rw[← hU]at hun z1 q1 q2 HFj HDj HR9 hu hc9 HWj
   have hxn:x≤n-U:=by omega
   have HPt:=hide (HR9.out.top hxn)
   have HCt:=hide (HR9.out.cut hxn hc9)
   rw[HDj.out]at HCt
   have CB:=fun W (hE:Ext w1 W)=>qE false A9 x c9 ((l.drop U).take x) W (HPt.out.later (HE1.out.trans hE)) (by have:=HWj.out;omega)
   generalize bytesB false ((l.drop U).take x)=D at *
   have CW:=fun W (hE:Ext w1 W) A c (hc:D.length≤c) (hb:Bytes W W.heap.size A D.length D)=>aal A D.length c D p W hc ((HE1.out.trans hE).tab HT.out.1 HT.out.2) hb
   rw[q1]at CW
   generalize (Blk.writeF D p).1=F at *
   unfold zt at CB
   unfold zB at CW
   have HTop:=hide (fun (W:World)=>show (Instr.slice 24 (.slice A9 (n-U) c9) none (some (.int .i64 (x:Int))) none).run Tryz.prog W=.ok (.slice A9 x c9) W from by
    rw[ab2 W _ _ _ _ _ (by omega) (by omega),Int.toNat_natCast])
   have HUn:=hide hun
   rw[← hU]
   clear hcg z2 q1 hx hU hun
   go_wp2_with fail
   refine zq (fun W=>Ext wr W) 6 12 #[false,false,false,false,false,false,false,false,false,false,false,false] (by kernel_rfl) rfl rfl (Ext.refl wr).drew ?_
   intro hS0
   refine za 0 (some 24) (.slice A9 (n-U) c9) _ rfl rfl rfl (by kernel_rfl) (fun _ _ _ h=>h) hS0 (by rfl) (fun W hX=>by go_simp) ?_
   simp only[sP]
   refine za 1 (some 25) (.int .i64 (x:Int)) _ rfl rfl rfl (by kernel_rfl) (fun _ _ _ h=>h) hS0 (by rfl) (fun W hX=>by go_simp) ?_
   simp only[sP]
   refine za 2 (some 26) (.slice A9 x c9) _ rfl rfl rfl (by kernel_rfl) (fun _ _ _ h=>h) hS0 (by rfl) (fun W hX=>by have s0:=HTop.out W;go_simp) ?_
   simp only[sP]
   refine za 4 (some 28) (.pointer (some ⟨w.heap.size,1,none⟩)) _ rfl rfl rfl (by kernel_rfl) (fun _ _ _ h=>h) hS0 (by rfl) (fun W hX=>by go_simp) ?_
   simp only[sP]
   refine za 5 (some 29) (.bool p) _ rfl rfl rfl (by kernel_rfl) (fun _ _ _ h=>h) hS0 (by rfl) (fun W hX=>by have s0:=(HW.out.ext (HE.out.trans hX)).at 1 (u:=.bool p) rfl;go_simp) ?_
   simp only[sP]
   refine zc 3 _ (by kernel_rfl) rfl rfl (by rfl) (fun K0 hK0=>?_)
   go_simp
   go_at_call 47
   refine (CB _ (HE.out.trans hS0)).mono ?_
   rintro e w3 ⟨v3,rfl,hO3,hE3⟩
   obtain⟨A3,c3,rfl,hc3,hm3,hb3⟩:=hO3.form
   have hS3:=hS0.trans hE3
   have CW3:=CW _ (HE.out.trans hS3) A3 c3 hc3 hb3
   clear hO3 hE3 hb3
   refine hK0 _ _ (fun _=>hS3) ?_
   clear hK0 K0
   refine zc 6 _ (by kernel_rfl) rfl rfl (by rfl) (fun K1 hK1=>?_)
   go_simp
   go_at_call 48
   refine CW3.mono ?_
   rintro e w4 ⟨v4,rfl,hO4,hE4⟩
   have hS4:=hS3.trans hE4
   have hcl4:=Clear.own (v:=u8) hO4 (fun q hq=>Nat.lt_of_lt_of_le (HO.out.lt q hq).2 hS3.le)
   obtain⟨A4,c4,rfl,hc4,hm4,hb4⟩:=hO4.form
   have hr4:RowOf w4 w4.heap.size (.slice A4 F.length c4) F:=⟨A4,c4,rfl,hc4,hm4,hb4⟩
   clear CW3 hE4 hO4
   refine hK1 _ _ (fun h=>absurd h (by decide)) ?_
   clear hK1 K1
   refine zc 7 _ (by kernel_rfl) rfl rfl (by rfl) (fun K2 hK2=>?_)
   go_simp
   refine hK2 _ _ (fun h=>absurd h (by decide)) ?_
   clear hK2 K2
   refine yk 8 (some 31) (.slice A4 F.length c4) _ rfl rfl rfl (by kernel_rfl) (fun _ _ _ h=>h) (fun h=>absurd h (by decide)) (by rfl) (fun W=>by go_simp) ?_
   simp only[sP]
   refine yk 9 (some 32) (.int .i64 0) _ rfl rfl rfl (by kernel_rfl) (fun _ _ _ h=>h) (fun h=>absurd h (by decide)) (by rfl) (fun W=>by go_simp) ?_
   simp only[sP]
   refine zc 10 _ (by kernel_rfl) rfl rfl (by rfl) (fun K3 hK3=>?_)
   go_simp
   refine hK3 _ _ (fun h=>absurd h (by decide)) ?_
   clear hK3 K3
   refine zc 11 _ (by kernel_rfl) rfl rfl (by rfl) (fun K4 hK4=>?_)
   go_simp
   refine hK4 _ _ (fun h=>absurd h (by decide)) (zj (by kernel_rfl) ?_ _)
   clear hK4 K4
   have hx0:(0:Int)≤(x:Int):=by omega
   have hxI:(x:Int)≤((n-U:Nat):Int):=by omega
   have hO5:=HO.out.ext hS4
   have hB5:=Nat.le_trans HE.out.le hS4.le
   have hlen5:(framesTo p l gs j).length≤1000:=by rw[HFl.out];omega
   go_wp2_with (at_builtin;refine uV rfl (.tmp 36) (.tmp 38) rfl rfl hO5 hr4 hcl4 rfl hlen5 hB5 ?_;intro v9 w9 hO9 hG9;have hF9:Ext w1 w9:=Below.grown ((HE.out.trans hS4).alloc _) hG9 ((HE.out.trans hS4).alloc _).le (fun q hq=>(HO.out.lt q hq).1);clear hG9)
   go_roundw
   case rel=>exact⟨j+1,Q4 A9 c9 x,c9-x,by omega,by go_num,by rw[HUn.out];omega,by rw[HUn.out,Nat.sub_add_eq],by rw[HUn.out];have:=HM9.out;omega,by have:=HM9.out;omega,by rw[HUn.out,Nat.sub_add_eq];exact HCt.out,by rw[HFj.out];exact hO9,hF9⟩
   case measure=>simp[intOf];omega
  ·have hjI:¬ (j:Int)<(ng:Int):=by omega
   obtain rfl:ng=j:=by omega
   go_wp2_with fail
   refine zq (fun W=>Ext wr W) 6 12 #[false,false,false,false,false,false,false,false,false,false,false,false] (by kernel_rfl) rfl rfl (Ext.refl wr).drew ?_
   intro hS0
   refine za 0 (some 45) (.pointer (some ⟨w.heap.size,2,none⟩)) _ rfl rfl rfl (by kernel_rfl) (fun _ _ _ h=>h) hS0 (by rfl) (fun W hX=>by go_simp) ?_
   simp only[sP]
   refine za 1 (some 46) (.int .i64 k) _ rfl rfl rfl (by kernel_rfl) (fun _ _ _ h=>h) hS0 (by rfl) (fun W hX=>by have s0:=(HW.out.ext (HE.out.trans hX)).at 2 (u:=.int .i64 k) rfl;go_simp) ?_
   simp only[sP]
   refine za 2 (some 47) (.slice A n cr) _ rfl rfl rfl (by kernel_rfl) (fun _ _ _ h=>h) hS0 (by rfl) (fun W hX=>by go_simp) ?_
   simp only[sP]
   refine za 3 (some 48) (.int .i64 (n:Int)) _ rfl rfl rfl (by kernel_rfl) (fun _ _ _ h=>h) hS0 (by rfl) (fun W hX=>by go_simp) ?_
   simp only[sP]
   refine za 4 (some 49) (.slice A n cr) _ rfl rfl rfl (by kernel_rfl) (fun _ _ _ h=>h) hS0 (by rfl) (fun W hX=>by go_simp) ?_
   simp only[sP]
   refine zc 5 _ (by kernel_rfl) rfl rfl (by rfl) (fun K0 hK0=>?_)
   go_simp
   go_at_call 50
   refine (CX _ (HEw.out.trans hS0)).mono ?_
   rintro e w3 ⟨m,rfl,hx,hm,hE3⟩
   have hS3:=hS0.trans hE3
   have CY3:=CY m w3 hx hm
   clear hE3 hm hx
   refine hK0 _ _ (fun _=>hS3) ?_
   clear hK0 K0
   refine zc 6 _ (by kernel_rfl) rfl rfl (by rfl) (fun K1 hK1=>?_)
   go_simp
   go_at_call 49
   refine CY3.mono ?_
   rintro e w4 ⟨v4,rfl,hO4,hE4⟩
   have hS4:=hS3.trans hE4
   obtain⟨A4,c4,rfl,-,-,hb4⟩:=hO4.form
   clear CY3 hE4 hO4
   refine hK1 _ _ (fun h=>absurd h (by decide)) ?_
   clear hK1 K1
   refine zc 7 _ (by kernel_rfl) rfl rfl (by rfl) (fun K2 hK2=>?_)
   go_simp
   refine hK2 _ _ (fun h=>absurd h (by decide)) ?_
   clear hK2 K2
   refine yk 8 (some 52) (.slice A4 I.length c4) _ rfl rfl rfl (by kernel_rfl) (fun _ _ _ h=>h) (fun h=>absurd h (by decide)) (by rfl) (fun W=>by go_simp) ?_
   simp only[sP]
   refine yk 9 (some 53) (.int .i64 0) _ rfl rfl rfl (by kernel_rfl) (fun _ _ _ h=>h) (fun h=>absurd h (by decide)) (by rfl) (fun W=>by go_simp) ?_
   simp only[sP]
   refine zc 10 _ (by kernel_rfl) rfl rfl (by rfl) (fun K3 hK3=>?_)
   go_simp
   refine hK3 _ _ (fun h=>absurd h (by decide)) ?_
   clear hK3 K3
   refine zc 11 _ (by kernel_rfl) rfl rfl (by rfl) (fun K4 hK4=>?_)
   go_simp
   refine hK4 _ _ (fun h=>absurd h (by decide)) (zj (by kernel_rfl) ?_ _)
   clear hK4 K4
   have hF4:=HEw.out.trans hS4
   have CC4:=CC w4 hF4
   clear CX CY CC
   go_wp2_with fail
   refine CC4.mono ?_
   rintro e w5 ⟨v5,rfl,hO5,hE5⟩
   obtain⟨A5,c5,rfl,-,-,hb5⟩:=hO5.form
   have hF5:=hF4.trans hE5
   have CK5:=CPK w5 hF5 A5 c5 hb5
   clear CC4 CPK hO5 hb5
   go_wp2_with fail
   refine CK5.mono ?_
   rintro e w6 ⟨v6,rfl,hO6,hE6⟩
   have hF6:=hF5.trans hE6
   have CI6:=CPI w6 hF6 A4 c4 ((hE5.trans hE6).bytes hb4)
   have hS6:=(hS4.trans hE5).trans hE6
   have hcl6:=Clear.own (v:=u8) hO6 (fun q hq=>Nat.lt_of_lt_of_le (HO.out.lt q hq).2 (hS4.trans hE5).le)
   obtain⟨A6,c6,rfl,hc6,hm6,hb6⟩:=hO6.form
   clear CK5 CPI hO6 hb4 hE5 hE6 hF5
   go_wp2_with fail
   refine CI6.mono ?_
   rintro e w7 ⟨v7,rfl,hO7,hE7⟩
   have hcl7:=Clear.own (v:=u8) hO7 (fun q hq=>Nat.lt_of_lt_of_le (HO.out.lt q hq).2 hS6.le)
   obtain⟨A7,c7,rfl,hc7,hm7,hb7⟩:=hO7.form
   have hr6:RowOf w7 w7.heap.size (.slice A6 PK.length c6) PK:=⟨A6,c6,rfl,hc6,hm6,hE7.bytes hb6⟩
   have hr7:RowOf w7 w7.heap.size (.slice A7 PI.length c7) PI:=⟨A7,c7,rfl,hc7,hm7,hb7⟩
   have hS7:=hS6.trans hE7
   have hO8:=HO.out.ext hS7
   have hB8:=Nat.le_trans HE.out.le hS7.le
   have hlen8:(framesTo p l gs ng).length≤1000:=by rw[HFl.out];omega
   clear CI6 hO7 hb7 hb6 hF6 hE7
   go_wp2_with (at_builtin;refine U7 rfl (.tmp 57) (.tmp 63) rfl rfl hO8 hr6 hcl6 hr7 hcl7 rfl hlen8 hB8 ?_;intro v9 w9 hO9 hG9;have hF9:Ext w1 w9:=Below.grown ((HE.out.trans hS7).alloc _) hG9 ((HE.out.trans hS7).alloc _).le (fun q hq=>(HO.out.lt q hq).1);clear hG9)
   go_ret2
   exact⟨_,rfl,hO9.mono HE1.out.le,HE1.out.trans hF9⟩
end
section
open Go.RowKit Bdy Rcs Opt
set_option maxHeartbeats 2000000 in
set_option maxRecDepth 100000 in
theorem Vm (b:Int)(p:Bool)(k d y c:Int)(w:World):Calls Tryz.prog 25 #[.agg (zJ b p k d y c)] w fun e w'=>e=.returned (.int .i64 (chk 2 b k 0 0 0))∧Ext w w':=by
 have hE1:=zb w (.cells (zJ b p k d y c) 23)
 have hW1:=Whole.new w 23 (zJ b p k d y c)
 have C:=fun W=>Xa 2 b p k 0 0 0 (by omega) W
 generalize chk 2 b k 0 0 0=er at *
 unfold zJ at *
 have s0:=hW1.at 0 (u:=.int .i64 b) rfl
 have s1:=hW1.at 1 (u:=.bool p) rfl
 have s2:=hW1.at 2 (u:=.int .i64 k) rfl
 clear hW1
 go_enter Tryz.func25,Tryz.ntmps25
 go_wp2_with fail
 refine (C _).mono ?_
 rintro e w2 ⟨rfl,hE2⟩
 go_wp2
 go_ret
 exact⟨rfl,hE1.trans hE2⟩
theorem RowsAt.parts {w:World}{B n:Nat}{A:Option Addr}{ls:List (List UInt8)}(h:RowsAt w B A n ls):Parts w B A n ls:=by
 refine⟨h.1,h.2.imp_right fun ⟨b,off,e,hb,hc⟩=>⟨b,off,e,hb,fun i hi=>?_⟩⟩
 obtain⟨x,h1,A',k,rfl,h3,h4,h5⟩:=hc i hi
 exact⟨A',_,k,h1,by omega,by rw[← h5.1]at h5;exact h5⟩
namespace Bdy
theorem chk_not {l:List Rc}(h:checkE l≠0):checkE l=6:=by
 unfold checkE at *
 split at h
 ·simp at h
 ·rename_i hn
  rw[if_neg hn]
theorem adU (b:Int)(p:Bool)(k:Int)(l:List Rc):dirP (groupsN b l) (partsE p k l (groupsN b l)) (groupsN b l).length ((groupsN b l).length+2) =
  dirB l.length (groupsN b l) (framesTo p l (groupsN b l) (groupsN b l).length) (Crc.put (columnsE l)) (Crc.put (Pst.bytesE k l.length (Pst.buildE l)).1):=by
 unfold dirP dirB partsE
 have hf:=frames_len p l (groupsN b l) (groupsN b l).length
 rw[qa,Xj _ _ _ (by omega)]
 generalize framesTo p l (groupsN b l) (groupsN b l).length=fs at *
 generalize (groupsN b l).length=n at *
 have e0:(fs++[Crc.put (columnsE l),Crc.put (Pst.bytesE k l.length (Pst.buildE l)).1]).getD n []=Crc.put (columnsE l):=by
  rw[List.getD_eq_getElem?_getD,List.getElem?_append_right (by omega),hf,Nat.sub_self]
  rfl
 have e1:(fs++[Crc.put (columnsE l),Crc.put (Pst.bytesE k l.length (Pst.buildE l)).1]).getD (n+1) []=Crc.put (Pst.bytesE k l.length (Pst.buildE l)).1:=by
  rw[List.getD_eq_getElem?_getD,List.getElem?_append_right (by omega),hf,show n+1-n=1 by omega]
  rfl
 rw[show n+2-n=2 by omega,rest_next,rest_next,Nat.add_zero,e0,e1]
 simp[restTo]
theorem adV (b:Int)(p:Bool)(k:Int)(l:List Rc):(partsE p k l (groupsN b l)++[endB (dirP (groupsN b l) (partsE p k l (groupsN b l)) (groupsN b l).length ((groupsN b l).length+2))]).flatten =
  joinE l.length (groupsN b l) (framesTo p l (groupsN b l) (groupsN b l).length) (columnsE l) (Pst.bytesE k l.length (Pst.buildE l)).1:=by
 rw[adU]
 unfold joinE endB partsE
 simp
theorem Qq {k:Int}(hk:1≤k∧k≤64){l:List Rc}(h:weightE l≤1500)(p:Bool)(gs:List Nat):∀ s,s∈partsE p k l gs→s.length≤1000000:=fun s hs=>by
 unfold partsE at hs
 rcases List.mem_append.1 hs with h1|h1
 ·have:=frames_small h p gs gs.length s h1
  omega
 ·have h2:=columns_small h
  have h3:=(index_ok hk h).2
  have h4:=put_len (columnsE l)
  have h5:=put_len (Pst.bytesE k l.length (Pst.buildE l)).1
  simp only[List.mem_cons,List.not_mem_nil,or_false]at h1
  rcases h1 with rfl|rfl<;>omega
theorem ab3 (p:Bool)(k:Int)(l:List Rc)(gs:List Nat):(partsE p k l gs).length=gs.length+2:=by
 unfold partsE
 rw[List.length_append,frames_len]
 rfl
end Bdy
set_option maxHeartbeats 8000000 in
set_option maxRecDepth 100000 in
theorem U8 (b:Int)(p:Bool)(k d y c:Int)(A:Option Addr)(n cr:Nat)(l:List Rc)(w:World)(h:RcsAt w w.heap.size A n l)(hn:n≤cr)(hcr:cr≤maxLen)(hb:vI b)(ht:Tab w)(hw:checkE l=0→weightE l≤1500) :
  Calls Tryz.prog 14 #[.agg (zJ b p k d y c),.slice A n cr] w (zB w (makeE b k p l).1 (makeE b k p l).2):=by
 have CK:=fun W=>Vm b p k d y c W
 have CL:=fun W (hE:Ext w W)=>UK A n cr l W (by omega) (h.later hE)
 obtain⟨w1,hw1⟩:∃ w1,w1=w.alloc (.cells (zJ b p k d y c) 23):=⟨_,rfl⟩
 have HE1:=hide (show Ext w w1 by rw[hw1];exact zb w _)
 have HW:=hide (show Whole w1 w.heap.size 23 (zJ b p k d y c) by rw[hw1];exact Whole.new w _ _)
 have HDf:=hide (show makeE b k p l=if chk 2 b k 0 0 0≠0 then ([],chk 2 b k 0 0 0) else if checkE l≠0 then ([],6) else _ from rfl)
 have s0:=HW.out.at 0 (u:=.int .i64 b) rfl
 have s1:=HW.out.at 1 (u:=.bool p) rfl
 have s2:=HW.out.at 2 (u:=.int .i64 k) rfl
 have s3:=HW.out.at 3 (u:=.int .i64 d) rfl
 have s4:=HW.out.at 4 (u:=.int .i64 y) rfl
 have s5:=HW.out.at 5 (u:=.int .i64 c) rfl
 rw[hw1]at s0 s1 s2 s3 s4 s5
 by_cases hc:chk 2 b k 0 0 0=0
 ·rw[hc]at CK
  by_cases hL:checkE l=0
  ·obtain⟨-,hk1,hk2⟩:=chk_facts hc
   have hwl:=hw hL
   have HR:=hide (show makeE b k p l=(joinE l.length (groupsN b l) (framesTo p l (groupsN b l) (groupsN b l).length) (columnsE l) (Pst.bytesE k l.length (Pst.buildE l)).1,0) from by rw[HDf.out,if_neg (by omega),if_neg (by omega)])
   rw[HR.out,← adV]
   have hl93:=len_small hwl
   have hfew:=groups_few b l
   have hall:=qa b l
   have hpart:=fun j (hj:j<(groupsN b l).length)=>UF b l hj
   have hps:=Qq ⟨hk1,hk2⟩ hwl p (groupsN b l)
   have hpl:=ab3 p k l (groupsN b l)
   have CG:=fun W (hE:Ext w W)=>XX b false A n cr l W hb (h.later hE) (by omega)
   rw[Z0]at CG
   have CPt:=fun W (hE:Ext w W) Ag cg hI=>Qp b p k d y c Ag A (groupsN b l).length cg n cr (groupsN b l) l W hI (by omega) hpart (h.later hE) hn hcr hwl ⟨hk1,hk2⟩ (hE.tab ht ht.pos)
   generalize groupsN b l=gs at *
   generalize partsE p k l gs=ps at *
   have HT:=hide (And.intro ht ht.pos)
   have CD:=fun W Ag cg Ap cp hI (hP:Parts W W.heap.size Ap ps.length ps)=>abX Ag Ap gs.length cg ps.length cp gs ps W hI (by omega) (by omega) hP (by omega)
   unfold adX at CD
   rw[vw,vh]at CD
   have CE:=fun W (hE:Ext w W) A1 c1 A2 c2 h1 k1 h2 k2=>@ab1 W A1 A2 gs.length c1 ps.length c2 gs ps h1 k1 h2 k2 (hE.tab HT.out.1 HT.out.2) rfl rfl (by omega) (by omega) (by omega) hps
   rw[hpl]at CE
   have hDl:=dirP_len gs ps (n:=gs.length) (m:=gs.length+2) (by omega) (by omega)
   generalize dirP gs ps gs.length (gs.length+2)=D at *
   have hEl:(endB D).length≤100000:=by
    have h1:=Crc.put_four D
    have h2:=(fix4 (x:=(Crc.put D).length) (by omega)).2
    unfold endB
    rw[List.length_append]
    omega
   generalize endB D=EB at *
   have HTot:=hide (show (ps++[EB]).flatten.length≤1000000000∧(ps++[EB]).length≤1000000000 from by
    have:=flat_le (k:=1000000) (ps++[EB]) (fun s hs=>by
     rcases List.mem_append.1 hs with h1|h1
     ·exact hps s h1
     ·obtain rfl:=List.mem_singleton.1 h1
      omega)
    rw[List.length_append,List.length_singleton]at this ⊢
    omega)
   have hlen8:ps.length≤1000:=by omega
   have HPl:=hide hpl
   obtain⟨ng,hng⟩:∃ g,g=gs.length:=⟨_,rfl⟩
   have hgm:(gs.map fun (k:Nat)=>(k:Int)).length=ng:=by rw[List.length_map,hng]
   unfold YA at CG
   rw[hgm]at CG
   rw[← hng]at CPt CD CE HPl
   unfold ZF at CPt
   unfold zB at *
   have CL:=fun W (hE:Ext w W)=>by have:=CL W hE;rw[hL]at this;exact this
   unfold zJ at *
   clear h hn hcr ht hw hDl hEl hwl hall hpart hps hpl hl93 hfew hgm hng HR HDf hL hc hk1 hk2 hb
   go_enter Tryz.func14,Tryz.ntmps14
   go_wp2_with fail
   rw[← hw1]
   clear s0 s1 s2 s3 s4 s5 hw1
   refine (CK _).mono ?_
   rintro e w2 ⟨rfl,hE2⟩
   have hF2:=HE1.out.trans hE2
   have CL2:=CL w2 hF2
   clear CK CL
   go_wp2_with fail
   refine CL2.mono ?_
   rintro e w3 ⟨rfl,hE3⟩
   have hF3:=hF2.trans hE3
   have CG3:=CG w3 hF3
   have HW3:=hide (HW.out.ext (hE2.trans hE3))
   have s0:=HW3.out.at 0 (u:=.int .i64 b) rfl
   clear CL2 CG hF2 hE3 hE2 HW
   go_wp2_with fail
   refine CG3.mono ?_
   rintro e w4 ⟨Ag,cg,rfl,hcg,hmg,hIg,hE4⟩
   have hF4:=hF3.trans hE4
   have CP4:=CPt w4 hF4 Ag cg hIg
   have HW4:=HW3.out.ext hE4
   have HIg:=hide hIg
   clear s0 CG3 CPt hF3 hE4 hIg hcg hmg
   have s0:=HW4.at 0 (u:=.int .i64 b) rfl
   have s1:=HW4.at 1 (u:=.bool p) rfl
   have s2:=HW4.at 2 (u:=.int .i64 k) rfl
   have s3:=HW4.at 3 (u:=.int .i64 d) rfl
   have s4:=HW4.at 4 (u:=.int .i64 y) rfl
   have s5:=HW4.at 5 (u:=.int .i64 c) rfl
   clear HW4 HW3
   go_wp2_with fail
   refine CP4.mono ?_
   rintro e w5 ⟨v5,rfl,hO5,hE5⟩
   obtain⟨Ap,cp,rfl,-,-,hRp⟩:=hO5.form
   have hF5:=hF4.trans hE5
   have CD5:=CD w5 Ag cg Ap cp (HIg.out.later hE5) hRp.parts
   have HO5:=hide (hO5.mono hF4.le)
   clear s0 s1 s2 s3 s4 s5 CP4 CD hE5 hRp hO5 HIg
   go_wp2_with fail
   refine CD5.mono ?_
   rintro e w6 ⟨A1,c1,A2,c2,rfl,k1,k2,i1,i2,hE6⟩
   have hF6:=hF5.trans hE6
   rw[HPl.out]at i2 k2 ⊢
   have CE6:=CE w6 hF6 A1 c1 A2 c2 i1 k1 i2 k2
   clear CD5 CE i1 i2 k1 k2
   go_wp2_with fail
   refine CE6.mono ?_
   rintro e w7 ⟨v7,rfl,hO7,hE7⟩
   have hF7:=hF6.trans hE7
   have hO8:=HO5.out.ext (hE6.trans hE7)
   have hr7:=hO7.row
   have hcl7:Clear (.slice Ap ps.length cp) v7:=Clear.own hO7 (fun q hq=>Nat.lt_of_lt_of_le (HO5.out.lt q hq).2 hE6.le)
   obtain⟨A7,c7,rfl,-,-,-⟩:=hO7.form
   have hB8:=hF7.le
   have HO8:=hide hO8
   clear CE6 hF5 hF6 hE6 hE7 hO7 HO5
   rw[HPl.out]at hO8 hcl7
   go_wp2_with (first
    | (at_builtin;refine uV rfl (.tmp 46) (.tmp 48) rfl rfl hO8 hr7 hcl7 rfl hlen8 hB8 ?_;intro v9 w9 hO9 hG9;have hF9:Ext w w9:=Below.grown (hF7.alloc _) hG9 (hF7.alloc _).le (fun q hq=>(hO8.lt q hq).1);obtain⟨A9,c9,hv9,-,-,hR9⟩:=hO9.form;have CA:=yS A9 c9 (ps++[EB]) w9 hR9.parts HTot.out.2 HTot.out.1;unfold zt at CA;rw[List.length_append,List.length_singleton]at hv9 CA;subst hv9;clear hO9 hG9 hR9)
    | (go_at_call 16;refine CA.mono ?_;rintro e w10 ⟨v10,rfl,hO10,hE10⟩;have hF10:=hF9.trans hE10;have hO11:=hO10.mono hF9.le;clear CA hO10 hE10))
   go_ret2
   exact⟨_,rfl,hO11,hF10⟩
  ·have HR:=hide (show makeE b k p l=([],6) from by rw[HDf.out,if_neg (by omega),if_pos hL])
   rw[HR.out]
   have hL6:=chk_not hL
   have CL:=fun W (hE:Ext w W)=>by have:=CL W hE;rw[hL6]at this;exact this
   unfold zJ zB at *
   clear h hn hcr ht hw HDf hL hL6 hc
   go_enter Tryz.func14,Tryz.ntmps14
   go_wp2_with fail
   rw[← hw1]
   refine (CK _).mono ?_
   rintro e w2 ⟨rfl,hE2⟩
   have CL2:=CL w2 (HE1.out.trans hE2)
   clear CL CK
   go_wp2_with fail
   refine CL2.mono ?_
   rintro e w3 ⟨rfl,hE3⟩
   go_wp2
   go_ret2
   exact⟨_,rfl,OwnB.nil _ _,(HE1.out.trans hE2).trans hE3⟩
 ·have HR:=hide (show makeE b k p l=([],chk 2 b k 0 0 0) from by rw[HDf.out,if_pos hc])
  rw[HR.out]
  have hcb:(chk 2 b k 0 0 0==0)=false:=by rw[beq_eq_false_iff_ne];exact hc
  generalize chk 2 b k 0 0 0=er at *
  unfold zJ zB at *
  clear CL h hn hcr ht hw HDf
  go_enter Tryz.func14,Tryz.ntmps14
  go_wp2_with fail
  rw[← hw1]
  refine (CK _).mono ?_
  rintro e w2 ⟨rfl,hE2⟩
  go_wp2
  go_ret2
  exact⟨_,rfl,OwnB.nil _ _,HE1.out.trans hE2⟩
end
section
open Go.RowKit Bdy Rcs Opt
set_option maxHeartbeats 8000000 in
set_option maxRecDepth 100000 in
theorem Vn (b:Int)(p:Bool)(k d y c:Int)(A:Option Addr)(n cr:Nat)(l:List Rc)(w:World)(h:RcsAt w w.heap.size A n l)(hn:n≤cr)(hcr:cr≤maxLen)(hb:vI b)(hw:checkE l=0→weightE l≤1500) :
  Calls Tryz.prog 18 #[.agg (zJ b p k d y c),.slice A n cr] w (zB w (makeE b k p l).1 (makeE b k p l).2):=by
 have CK:=fun W=>XB b p k d y c W
 have CL:=fun W (hE:Ext w W)=>uZ A n cr l W (h.later hE)
 obtain⟨w1,hw1⟩:∃ w1,w1=w.alloc (.cells (zJ b p k d y c) 23):=⟨_,rfl⟩
 have HE1:=hide (show Ext w w1 by rw[hw1];exact zb w _)
 have HW:=hide (show Whole w1 w.heap.size 23 (zJ b p k d y c) by rw[hw1];exact Whole.new w _ _)
 have HDf:=hide (show makeE b k p l=if chk 2 b k 0 0 0≠0 then ([],chk 2 b k 0 0 0) else if checkE l≠0 then ([],6) else _ from rfl)
 have s0:=HW.out.at 0 (u:=.int .i64 b) rfl
 have s1:=HW.out.at 1 (u:=.bool p) rfl
 have s2:=HW.out.at 2 (u:=.int .i64 k) rfl
 have s3:=HW.out.at 3 (u:=.int .i64 d) rfl
 have s4:=HW.out.at 4 (u:=.int .i64 y) rfl
 have s5:=HW.out.at 5 (u:=.int .i64 c) rfl
 rw[hw1]at s0 s1 s2 s3 s4 s5
 by_cases hc:chk 2 b k 0 0 0=0
 ·rw[hc]at CK
  by_cases hL:checkE l=0
  ·obtain⟨-,hk1,hk2⟩:=chk_facts hc
   have hwl:=hw hL
   have hll:=h.1
   have HR:=hide (show makeE b k p l=(joinE l.length (groupsN b l) (framesTo p l (groupsN b l) (groupsN b l).length) (columnsE l) (Pst.bytesE k l.length (Pst.buildE l)).1,0) from by rw[HDf.out,if_neg (by omega),if_neg (by omega)])
   rw[HR.out]
   have hl93:=len_small hwl
   have hfew:=groups_few b l
   have hgz:∀ j,j<(groupsN b l).length→(groupsN b l).getD j 0≤100000:=fun j hj=>by have:=UF b l hj;omega
   have hfz:∀ s,s∈framesTo p l (groupsN b l) (groupsN b l).length→s.length≤1000000:=fun s hs=>by have:=frames_small hwl p (groupsN b l) _ s hs;omega
   have hfl:=frames_len p l (groupsN b l) (groupsN b l).length
   obtain⟨ix1,ix2⟩:=index_ok ⟨hk1,hk2⟩ hwl
   obtain⟨iy1,iy2,iy3,iy4⟩:=ja hwl
   have hcol:=columns_small hwl
   have CFr:=fun W (hE:Ext w W)=>Yi b p k d y c A n cr l W (h.later hE) hn hcr hb hwl
   have CX:=fun W (hE:Ext w W)=>Xv A n cr l W (h.later hE) (by omega)
   have CC:=fun W (hE:Ext w W)=>Zz A n cr l W (h.later hE) (by omega)
   have CY:∀ (m:IxV) (W:World),m.x=Pst.buildE l→m.lies W→Calls Tryz.prog 38 #[.int .i64 k,.int .i64 (n:Int),.agg #[.slice m.a1 m.n1 m.c1,.slice m.a2 m.n2 m.c2]] W (zB W (Pst.bytesE k l.length (Pst.buildE l)).1 0):=fun m W hx hm=>by
    have:=Xe k (n:Int) m W hm (by omega) (by have:=hm.1.2.2.1;rw[hx]at this;omega) (fun s hs=>by rw[hx]at hs;have:=iy3 s hs;omega) (fun s hs=>by rw[hx]at hs;have:=iy4 s hs;omega)
    rw[hx,← hll,ix1]at this
    rw[← hll]
    exact this
   rw[hll]at *
   generalize (Pst.bytesE k n (Pst.buildE l)).1=I at *
   generalize columnsE l=K at *
   generalize groupsN b l=gs at *
   generalize framesTo p l gs gs.length=fs at *
   obtain⟨ng,hng⟩:∃ g,g=gs.length:=⟨_,rfl⟩
   rw[← hng]at hfew hgz hfl CFr
   have CJ:=fun W Af cf Ag cg Ac cc Ai ci hP hI hcb hib=>jI n Af Ag Ac Ai cf ng cg K.length cc I.length ci gs fs K I W hP hI hcb hib (by omega) (by omega) hgz hfz (by omega) (by omega)
   generalize joinE n gs fs K I=J at *
   have CL:=fun W (hE:Ext w W)=>by have:=CL W hE;rw[hL]at this;exact this
   unfold XC at CFr
   unfold Yu at CX
   unfold zt at CC CJ
   unfold zB at CY ⊢
   unfold zJ at *
   clear h hn hcr hw hwl hll hgz hfz hl93 hfew hng HR HDf hL hc hk1 hk2 hb ix1 ix2 iy1 iy2 iy3 iy4 hcol
   have HFl:=hide hfl
   clear hfl
   go_enter Tryz.func18,Tryz.ntmps18
   go_wp2_with fail
   rw[← hw1]
   clear s0 s1 s2 s3 s4 s5 hw1
   refine (CK _).mono ?_
   rintro e w2 ⟨rfl,hE2⟩
   have hF2:=HE1.out.trans hE2
   have CL2:=CL w2 hF2
   clear CK CL
   go_wp2_with fail
   refine CL2.mono ?_
   rintro e w3 ⟨rfl,hQ3⟩
   have hE3:=hQ3.ext
   have hF3:=hF2.trans hE3
   have CF3:=CFr w3 hF3
   have HW3:=hide (HW.out.ext (hE2.trans hE3))
   have s0:=HW3.out.at 0 (u:=.int .i64 b) rfl
   have s1:=HW3.out.at 1 (u:=.bool p) rfl
   have s2:=HW3.out.at 2 (u:=.int .i64 k) rfl
   have s3:=HW3.out.at 3 (u:=.int .i64 d) rfl
   have s4:=HW3.out.at 4 (u:=.int .i64 y) rfl
   have s5:=HW3.out.at 5 (u:=.int .i64 c) rfl
   clear CL2 CFr hF2 hE3 hE2 hQ3 HW
   go_wp2_with fail
   refine CF3.mono ?_
   rintro e w4 ⟨v4,Ag,cg,rfl,hO4,-,hI4,hE4⟩
   obtain⟨Af,cf,rfl,-,-,hRf⟩:=hO4.form
   have hF4:=hF3.trans hE4
   have HW4:=hide (HW3.out.ext hE4)
   have HPf:=hide hRf.parts
   have HI4:=hide hI4
   rw[HFl.out]at HPf
   clear s0 s1 s2 s3 s4 s5 CF3 hO4 hI4 hRf hE4 hF3 HW3
   go_wp2_with fail
   refine zq (fun W=>Ext w4 W) 6 12 #[false,false,false,false,false,false,false,false,false,false,false,false] (by kernel_rfl) rfl rfl (Ext.refl w4).drew ?_
   intro hS0
   refine za 0 (some 26) (.pointer (some ⟨w.heap.size,2,none⟩)) _ rfl rfl rfl (by kernel_rfl) (fun _ _ _ h=>h) hS0 (by rfl) (fun W hX=>by go_simp) ?_
   simp only[sP]
   refine za 1 (some 27) (.int .i64 k) _ rfl rfl rfl (by kernel_rfl) (fun _ _ _ h=>h) hS0 (by rfl) (fun W hX=>by have s0:=(HW4.out.ext hX).at 2 (u:=.int .i64 k) rfl;go_simp) ?_
   simp only[sP]
   refine za 2 (some 28) (.slice A n cr) _ rfl rfl rfl (by kernel_rfl) (fun _ _ _ h=>h) hS0 (by rfl) (fun W hX=>by go_simp) ?_
   simp only[sP]
   refine za 3 (some 29) (.int .i64 (n:Int)) _ rfl rfl rfl (by kernel_rfl) (fun _ _ _ h=>h) hS0 (by rfl) (fun W hX=>by go_simp) ?_
   simp only[sP]
   refine za 4 (some 30) (.slice A n cr) _ rfl rfl rfl (by kernel_rfl) (fun _ _ _ h=>h) hS0 (by rfl) (fun W hX=>by go_simp) ?_
   simp only[sP]
   refine zc 5 _ (by kernel_rfl) rfl rfl (by rfl) (fun K0 hK0=>?_)
   go_simp
   go_at_call 39
   refine (CX _ (hF4.trans hS0)).mono ?_
   rintro e w5 ⟨m,rfl,hx,hm,hE5⟩
   have hS5:=hS0.trans hE5
   have CY5:=CY m w5 hx hm
   clear hE5 hm hx
   refine hK0 _ _ (fun _=>hS5) ?_
   clear hK0 K0
   refine zc 6 _ (by kernel_rfl) rfl rfl (by rfl) (fun K1 hK1=>?_)
   go_simp
   go_at_call 38
   refine CY5.mono ?_
   rintro e w6 ⟨v6,rfl,hO6,hE6⟩
   have hS6:=hS5.trans hE6
   obtain⟨A6,c6,rfl,-,-,hb6⟩:=hO6.form
   clear CY5 hE6 hO6
   refine hK1 _ _ (fun h=>absurd h (by decide)) ?_
   clear hK1 K1
   refine zc 7 _ (by kernel_rfl) rfl rfl (by rfl) (fun K2 hK2=>?_)
   go_simp
   refine hK2 _ _ (fun h=>absurd h (by decide)) ?_
   clear hK2 K2
   refine yk 8 (some 33) (.slice A6 I.length c6) _ rfl rfl rfl (by kernel_rfl) (fun _ _ _ h=>h) (fun h=>absurd h (by decide)) (by rfl) (fun W=>by go_simp) ?_
   simp only[sP]
   refine yk 9 (some 34) (.int .i64 0) _ rfl rfl rfl (by kernel_rfl) (fun _ _ _ h=>h) (fun h=>absurd h (by decide)) (by rfl) (fun W=>by go_simp) ?_
   simp only[sP]
   refine zc 10 _ (by kernel_rfl) rfl rfl (by rfl) (fun K3 hK3=>?_)
   go_simp
   refine hK3 _ _ (fun h=>absurd h (by decide)) ?_
   clear hK3 K3
   refine zc 11 _ (by kernel_rfl) rfl rfl (by rfl) (fun K4 hK4=>?_)
   go_simp
   refine hK4 _ _ (fun h=>absurd h (by decide)) (zj (by kernel_rfl) ?_ _)
   clear hK4 K4
   have hF6:=hF4.trans hS6
   have CC6:=CC w6 hF6
   clear CX CY CC
   go_wp2_with fail
   refine CC6.mono ?_
   rintro e w7 ⟨v7,rfl,hO7,hE7⟩
   obtain⟨A7,c7,rfl,-,-,hb7⟩:=hO7.form
   have hF7:=hF6.trans hE7
   have CJ7:=CJ w7 Af cf Ag cg A7 c7 A6 c6 (HPf.out.ext (hS6.trans hE7)) (HI4.out.later (hS6.trans hE7)) hb7 (hE7.bytes hb6)
   rw[HFl.out]
   clear CC6 CJ hO7 hb7 hb6
   go_wp2_with fail
   refine CJ7.mono ?_
   rintro e w8 ⟨v8,rfl,hO8,hE8⟩
   have hF8:=hF7.trans hE8
   have hO9:=hO8.mono hF7.le
   clear CJ7 hO8
   go_wp2
   go_ret2
   exact⟨_,rfl,hO9,hF8⟩
  ·have HR:=hide (show makeE b k p l=([],6) from by rw[HDf.out,if_neg (by omega),if_pos hL])
   rw[HR.out]
   have hL6:=chk_not hL
   have CL:=fun W (hE:Ext w W)=>by have:=CL W hE;rw[hL6]at this;exact this
   unfold zJ zB at *
   clear h hn hcr hw HDf hL hL6 hc
   go_enter Tryz.func18,Tryz.ntmps18
   go_wp2_with fail
   rw[← hw1]
   refine (CK _).mono ?_
   rintro e w2 ⟨rfl,hE2⟩
   have CL2:=CL w2 (HE1.out.trans hE2)
   clear CL CK
   go_wp2_with fail
   refine CL2.mono ?_
   rintro e w3 ⟨rfl,hQ3⟩
   go_wp2
   go_ret2
   exact⟨_,rfl,OwnB.nil _ _,(HE1.out.trans hE2).trans hQ3.ext⟩
 ·have HR:=hide (show makeE b k p l=([],chk 2 b k 0 0 0) from by rw[HDf.out,if_pos hc])
  rw[HR.out]
  have hcb:(chk 2 b k 0 0 0==0)=false:=by rw[beq_eq_false_iff_ne];exact hc
  generalize chk 2 b k 0 0 0=er at *
  unfold zJ zB at *
  clear CL h hn hcr hw HDf
  go_enter Tryz.func18,Tryz.ntmps18
  go_wp2_with fail
  rw[← hw1]
  refine (CK _).mono ?_
  rintro e w2 ⟨rfl,hE2⟩
  go_wp2
  go_ret2
  exact⟨_,rfl,OwnB.nil _ _,HE1.out.trans hE2⟩
end
section
open Go.RowKit Tp Opt Rcs
set_option maxHeartbeats 8000000 in
set_option maxRecDepth 100000 in
theorem jM (b g:Nat)(f:UInt8)(w:World)(hb:b≤1000000)(hg:g≤1000000) :
  Calls Tryz.prog 10 #[.int .i64 (b:Int),.int .u8 (f.toNat:Int),.int .i64 (g:Int)] w (zt w (vz b f g)):=by
 have CB:=fun W=>zx b W (by omega)
 have CG:=fun W=>zx g W (by omega)
 have hb9:(b:Int)≤1000000:=by omega
 have hb0:(0:Int)≤(b:Int):=by omega
 have hg9:(g:Int)≤1000000:=by omega
 have hg0:(0:Int)≤(g:Int):=by omega
 have hel1:=Num.enc_len b
 have hel2:=Num.enc_len g
 have hhl:=ZB b f g
 have HHd:=hide (show zP b f g=[70,73,82,75,2]++Num.enc b++[f]++Num.enc g from rfl)
 have HJ:=hide (show vz b f g=Crc.put (zP b f g) from rfl)
 rw[HJ.out]
 generalize zP b f g=H at *
 have CP:=fun W A c (hb:Bytes W W.heap.size A H.length H)=>yB A _ c H W (by omega) hb
 generalize Crc.put H=Z at *
 generalize Num.enc b=EB at *
 generalize Num.enc g=EG at *
 unfold zt at *
 have hX1:=zb w (.cells #[.int .u8 70,.int .u8 73,.int .u8 82,.int .u8 75,.int .u8 2] 5)
 have hO1:=OwnB.lit w #[.int .u8 70,.int .u8 73,.int .u8 82,.int .u8 75,.int .u8 2] [70,73,82,75,2] 5 rfl rfl (by omega) (base:=w.heap.size) (Nat.le_refl _)
 have hfit2:([70,73,82,75,2]:List UInt8).length+EB.length≤140737488355328:=by simp;omega
 have hfit3:([70,73,82,75,2]++EB).length+1≤140737488355328:=by simp;omega
 have hfit4:([70,73,82,75,2]++EB++[f]).length+EG.length≤140737488355328:=by simp;omega
 clear hb hg hel1 hel2 HJ hhl
 go_enter Tryz.func10,Tryz.ntmps10
 go_wp2_with fail
 refine (CB _).mono ?_
 rintro e w2 ⟨v2,rfl,hO2,hE2⟩
 obtain⟨A2,c2,rfl,-,-,hb2⟩:=hO2.form
 have hM2:=hO1.ext hE2
 have hF2:=hX1.trans hE2
 have hB2:=hF2.le
 clear hO2 hE2 CB hO1 hX1
 go_wp2_with (first
  | (at_builtin;refine zw rfl (.tmp 9) (.tmp 12) rfl rfl hM2 rfl hb2 hfit2 hB2 ?_;intro v3 w3 hM3 hG3;have hF3:Ext w w3:=OwnB.below hM2 hF2 hG3 hB2;have hX3:=zb w3 (.cells #[.int .u8 (f.toNat:Int)] 5);have hb3:=zr w3 [f] #[.int .u8 (f.toNat:Int)] 5 (0,0) rfl 1 rfl;have hM4:=hM3.ext hX3;have hF4:=hF3.trans hX3;have hB4:=hF4.le;clear hG3 hM2 hF2 hB2 hb2 hM3 hF3 hX3)
  | (at_builtin;refine zw rfl (.tmp 14) (.tmp 16) rfl rfl hM4 rfl hb3 hfit3 hB4 ?_;intro v5 w5 hM5 hG5;have hF5:Ext w w5:=OwnB.below hM4 hF4 hG5 hB4;clear hG5 hM4 hF4 hB4 hb3)
  | (go_at_call 20;refine (CG _).mono ?_;rintro e w6 ⟨v6,rfl,hO6,hE6⟩;obtain⟨A6,c6,rfl,-,-,hb6⟩:=hO6.form;have hM6:=hM5.ext hE6;have hF6:=hF5.trans hE6;have hB6:=hF6.le;clear hO6 hE6 hM5 hF5 CG)
  | (at_builtin;refine zw rfl (.tmp 18) (.tmp 21) rfl rfl hM6 rfl hb6 hfit4 hB6 ?_;intro v7 w7 hM7 hG7;have hF7:Ext w w7:=OwnB.below hM6 hF6 hG7 hB6;rw[← HHd.out]at hM7;obtain⟨A7,c7,rfl,-,-,hb7⟩:=hM7.form;have CP7:=CP _ A7 c7 hb7;clear hG7 hM6 hF6 hB6 hb6 CP hb7)
  | (go_at_call 21;refine CP7.mono ?_;rintro e w8 ⟨v8,rfl,hO8,hE8⟩;have hF8:=hF7.trans hE8;have hO9:=hO8.mono hF7.le;clear hO8 hE8 CP7))
 go_ret
 exact⟨_,rfl,hO9,hF8⟩
set_option maxHeartbeats 8000000 in
set_option maxRecDepth 100000 in
theorem jN (b:Int)(p:Bool)(k d y c:Int)(A:Option Addr)(n cr:Nat)(l:List Rc)(w:World)(h:RcsAt w w.heap.size A n l)(hn:n≤cr)(hcr:cr≤maxLen)(hb:vI b)(hw:checkE l=0→weightE l≤1500) :
  Calls Tryz.prog 8 #[.agg (zJ b p k d y c),.slice A n cr] w (zB w (xU b p k d y c l).1 (xU b p k d y c l).2):=by
 have CK:=fun W=>uW 2 b p k d y c W
 have CM:=fun W (hE:Ext w W)=>Vn b p k d y c A n cr l W (h.later hE) hn hcr hb hw
 have hml:=Xx (b:=b) (k:=k) (p:=p) hw
 obtain⟨w1,hw1⟩:∃ w1,w1=w.alloc (.cells (zJ b p k d y c) 23):=⟨_,rfl⟩
 have HE1:=hide (show Ext w w1 by rw[hw1];exact zb w _)
 have HW:=hide (show Whole w1 w.heap.size 23 (zJ b p k d y c) by rw[hw1];exact Whole.new w _ _)
 have HDf:=hide (show xU b p k d y c l=if chk 2 b k d y c≠0 then ([],chk 2 b k d y c) else if (Bdy.makeE b k p l).2≠0 then ([],(Bdy.makeE b k p l).2) else _ from rfl)
 have s0:=HW.out.at 0 (u:=.int .i64 b) rfl
 have s1:=HW.out.at 1 (u:=.bool p) rfl
 have s2:=HW.out.at 2 (u:=.int .i64 k) rfl
 have s3:=HW.out.at 3 (u:=.int .i64 d) rfl
 have s4:=HW.out.at 4 (u:=.int .i64 y) rfl
 have s5:=HW.out.at 5 (u:=.int .i64 c) rfl
 rw[hw1]at s0 s1 s2 s3 s4 s5
 by_cases hc:chk 2 b k d y c=0
 ·rw[hc]at CK
  obtain⟨hb1,hk1⟩:=Tp.chk_facts hc
  by_cases hM:(Bdy.makeE b k p l).2=0
  ·have HR:=hide (show xU b p k d y c l=(vz b.toNat (Arc.flagB p) k.toNat++(Bdy.makeE b k p l).1,0) from by rw[HDf.out,if_neg (by omega),if_neg (by omega)])
   rw[HR.out]
   have CM:=fun W (hE:Ext w W)=>by have:=CM W hE;rw[hM]at this;exact this
   have CH:=fun W=>jM b.toNat k.toNat (Arc.flagB p) W (by omega) (by omega)
   have CF:=fun W=>X5 p W
   rw[show ((b.toNat:Nat):Int)=b by omega,show ((k.toNat:Nat):Int)=k by omega]at CH
   have hhl:=Tp.head_len b.toNat (Arc.flagB p) k.toNat
   generalize vz b.toNat (Arc.flagB p) k.toNat=H at *
   generalize Arc.flagB p=f at *
   generalize (Bdy.makeE b k p l).1=M at *
   dsimp only
   have HHl:=hide (And.intro hhl hml)
   unfold zt at CH
   unfold zB at *
   unfold zJ at *
   clear h hn hcr hw HR HDf hc hb1 hk1 hb hhl hml hM
   go_enter Tryz.func8,Tryz.ntmps8
   go_wp2_with fail
   rw[← hw1]
   clear s0 s1 s2 s3 s4 s5 hw1
   refine (CK _).mono ?_
   rintro e w2 ⟨rfl,hE2⟩
   have hF2:=HE1.out.trans hE2
   have CM2:=CM w2 hF2
   have HW2:=hide (HW.out.ext hE2)
   clear CK CM hE2 HW
   have s0:=HW2.out.at 0 (u:=.int .i64 b) rfl
   have s1:=HW2.out.at 1 (u:=.bool p) rfl
   have s2:=HW2.out.at 2 (u:=.int .i64 k) rfl
   have s3:=HW2.out.at 3 (u:=.int .i64 d) rfl
   have s4:=HW2.out.at 4 (u:=.int .i64 y) rfl
   have s5:=HW2.out.at 5 (u:=.int .i64 c) rfl
   go_wp2_with fail
   refine CM2.mono ?_
   rintro e w3 ⟨v3,rfl,hO3,hE3⟩
   obtain⟨A3,c3,rfl,-,-,hb3⟩:=hO3.form
   have hF3:=hF2.trans hE3
   have HW3:=hide (HW2.out.ext hE3)
   have HB3:=hide hb3
   clear s0 s1 s2 s3 s4 s5 CM2 hF2 hE3 hO3 HW2 hb3
   go_wp2_with fail
   refine zq (fun W=>Ext w3 W) 9 12 #[false,false,false,false,false,false,false,false,false,false,false,false] (by kernel_rfl) rfl rfl (Ext.refl w3).drew ?_
   intro hS0
   refine za 0 (some 22) (.pointer (some ⟨w.heap.size,0,none⟩)) _ rfl rfl rfl (by kernel_rfl) (fun _ _ _ h=>h) hS0 (by rfl) (fun W hX=>by go_simp) ?_
   simp only[sP]
   refine za 1 (some 23) (.int .i64 b) _ rfl rfl rfl (by kernel_rfl) (fun _ _ _ h=>h) hS0 (by rfl) (fun W hX=>by have s0:=(HW3.out.ext hX).at 0 (u:=.int .i64 b) rfl;go_simp) ?_
   simp only[sP]
   refine za 2 (some 24) (.pointer (some ⟨w.heap.size,1,none⟩)) _ rfl rfl rfl (by kernel_rfl) (fun _ _ _ h=>h) hS0 (by rfl) (fun W hX=>by go_simp) ?_
   simp only[sP]
   refine za 3 (some 25) (.bool p) _ rfl rfl rfl (by kernel_rfl) (fun _ _ _ h=>h) hS0 (by rfl) (fun W hX=>by have s0:=(HW3.out.ext hX).at 1 (u:=.bool p) rfl;go_simp) ?_
   simp only[sP]
   refine za 5 (some 27) (.pointer (some ⟨w.heap.size,2,none⟩)) _ rfl rfl rfl (by kernel_rfl) (fun _ _ _ h=>h) hS0 (by rfl) (fun W hX=>by go_simp) ?_
   simp only[sP]
   refine za 6 (some 28) (.int .i64 k) _ rfl rfl rfl (by kernel_rfl) (fun _ _ _ h=>h) hS0 (by rfl) (fun W hX=>by have s0:=(HW3.out.ext hX).at 2 (u:=.int .i64 k) rfl;go_simp) ?_
   simp only[sP]
   refine za 8 (some 30) (.slice A3 M.length c3) _ rfl rfl rfl (by kernel_rfl) (fun _ _ _ h=>h) hS0 (by rfl) (fun W hX=>by go_simp) ?_
   simp only[sP]
   refine zc 4 _ (by kernel_rfl) rfl rfl (by rfl) (fun K0 hK0=>?_)
   go_simp
   go_at_call 19
   refine (CF _).mono ?_
   rintro e w4 ⟨rfl,hE4⟩
   have hS4:=hS0.trans hE4
   refine hK0 _ _ (fun _=>hS4) ?_
   clear hK0 K0
   refine zc 7 _ (by kernel_rfl) rfl rfl (by rfl) (fun K1 hK1=>?_)
   go_simp
   go_at_call 10
   refine (CH _).mono ?_
   rintro e w5 ⟨v5,rfl,hO5,hE5⟩
   have hS5:=hS4.trans hE5
   have hF5:=hF3.trans hS5
   have hO5:=hO5.mono (hF3.trans hS4).le
   have hb5:=hS5.bytes HB3.out
   have hB5:=hF5.le
   refine hK1 _ _ (fun _=>hS5) ?_
   clear hK1 K1
   refine zc 9 _ (by kernel_rfl) rfl rfl (by rfl) (fun K2 hK2=>?_)
   refine V6 (.tmp 29) (.tmp 30) rfl rfl hO5 rfl hb5 (by have:=HHl.out;omega) hB5 ?_
   intro v6 w6 hO6 hG6
   have hF6:Ext w w6:=OwnB.below hO5 hF5 hG6 hB5
   refine hK2 _ _ (fun h=>absurd h (by decide)) ?_
   clear hK2 K2
   refine zc 10 _ (by kernel_rfl) rfl rfl (by rfl) (fun K3 hK3=>?_)
   go_simp
   refine hK3 _ _ (fun h=>absurd h (by decide)) ?_
   clear hK3 K3
   refine zc 11 _ (by kernel_rfl) rfl rfl (by rfl) (fun K4 hK4=>?_)
   go_simp
   refine hK4 _ _ (fun h=>absurd h (by decide)) (zj (by kernel_rfl) ?_ _)
   clear hK4 K4
   go_wp2
   go_ret2
   exact⟨_,rfl,hO6,hF6⟩
  ·have HR:=hide (show xU b p k d y c l=([],(Bdy.makeE b k p l).2) from by rw[HDf.out,if_neg (by omega),if_pos hM])
   rw[HR.out]
   dsimp only
   have hmb:((Bdy.makeE b k p l).2==0)=false:=by rw[beq_eq_false_iff_ne];exact hM
   generalize (Bdy.makeE b k p l).2=er at *
   generalize (Bdy.makeE b k p l).1=M at *
   unfold zB at *
   unfold zJ at *
   clear h hn hcr hw HR HDf hc hb1 hk1 hb hml
   go_enter Tryz.func8,Tryz.ntmps8
   go_wp2_with fail
   rw[← hw1]
   clear s0 s1 s2 s3 s4 s5 hw1
   refine (CK _).mono ?_
   rintro e w2 ⟨rfl,hE2⟩
   have hF2:=HE1.out.trans hE2
   have CM2:=CM w2 hF2
   have HW2:=hide (HW.out.ext hE2)
   clear CK CM hE2 HW
   have s0:=HW2.out.at 0 (u:=.int .i64 b) rfl
   have s1:=HW2.out.at 1 (u:=.bool p) rfl
   have s2:=HW2.out.at 2 (u:=.int .i64 k) rfl
   have s3:=HW2.out.at 3 (u:=.int .i64 d) rfl
   have s4:=HW2.out.at 4 (u:=.int .i64 y) rfl
   have s5:=HW2.out.at 5 (u:=.int .i64 c) rfl
   go_wp2_with fail
   refine CM2.mono ?_
   rintro e w3 ⟨v3,rfl,hO3,hE3⟩
   obtain⟨A3,c3,rfl,-,-,hb3⟩:=hO3.form
   have hF3:=hF2.trans hE3
   go_wp2
   go_ret2
   exact⟨_,rfl,OwnB.nil _ _,hF3⟩
 ·have HR:=hide (show xU b p k d y c l=([],chk 2 b k d y c) from by rw[HDf.out,if_pos hc])
  rw[HR.out]
  have hcb:(chk 2 b k d y c==0)=false:=by rw[beq_eq_false_iff_ne];exact hc
  generalize chk 2 b k d y c=er at *
  unfold zJ zB at *
  clear CM hml h hn hcr hw HDf
  go_enter Tryz.func8,Tryz.ntmps8
  go_wp2_with fail
  rw[← hw1]
  refine (CK _).mono ?_
  rintro e w2 ⟨rfl,hE2⟩
  go_wp2
  go_ret2
  exact⟨_,rfl,OwnB.nil _ _,HE1.out.trans hE2⟩
end
section
open Go.RowKit Tp Opt Rcs
set_option maxHeartbeats 8000000 in
set_option maxRecDepth 100000 in
theorem jf (b:Int)(p:Bool)(k d y c:Int)(A:Option Addr)(n cr:Nat)(l:List Rc)(w:World)(h:RcsAt w w.heap.size A n l)(hn:n≤cr)(hcr:cr≤maxLen)(hb:vI b)(hy:y≤9223372036854775807)(ht:Tab w)(hw:checkE l=0→weightE l≤1500) :
  Calls Tryz.prog 7 #[.agg (zJ b p k d y c),.slice A n cr] w (zB w (xU b p k d y c l).1 (xU b p k d y c l).2):=by
 have CK:=fun W=>Xa 2 b p k d y c hy W
 have CM:=fun W (hE:Ext w W)=>U8 b p k d y c A n cr l W (h.later hE) hn hcr hb (hE.tab ht ht.pos) hw
 have hml:=Xx (b:=b) (k:=k) (p:=p) hw
 obtain⟨w1,hw1⟩:∃ w1,w1=w.alloc (.cells (zJ b p k d y c) 23):=⟨_,rfl⟩
 have HE1:=hide (show Ext w w1 by rw[hw1];exact zb w _)
 have HW:=hide (show Whole w1 w.heap.size 23 (zJ b p k d y c) by rw[hw1];exact Whole.new w _ _)
 have HDf:=hide (show xU b p k d y c l=if chk 2 b k d y c≠0 then ([],chk 2 b k d y c) else if (Bdy.makeE b k p l).2≠0 then ([],(Bdy.makeE b k p l).2) else _ from rfl)
 have s0:=HW.out.at 0 (u:=.int .i64 b) rfl
 have s1:=HW.out.at 1 (u:=.bool p) rfl
 have s2:=HW.out.at 2 (u:=.int .i64 k) rfl
 have s3:=HW.out.at 3 (u:=.int .i64 d) rfl
 have s4:=HW.out.at 4 (u:=.int .i64 y) rfl
 have s5:=HW.out.at 5 (u:=.int .i64 c) rfl
 rw[hw1]at s0 s1 s2 s3 s4 s5
 by_cases hc:chk 2 b k d y c=0
 ·rw[hc]at CK
  obtain⟨hb1,hk1⟩:=Tp.chk_facts hc
  have HT:=hide (And.intro ht ht.pos)
  by_cases hM:(Bdy.makeE b k p l).2=0
  ·have HR:=hide (show xU b p k d y c l=(vz b.toNat (Arc.flagB p) k.toNat++(Bdy.makeE b k p l).1,0) from by rw[HDf.out,if_neg (by omega),if_neg (by omega)])
   rw[HR.out]
   have CM:=fun W (hE:Ext w W)=>by have:=CM W hE;rw[hM]at this;exact this
   have CH:=fun W (hE:Ext w W)=>Qo b.toNat k.toNat p d y c W (by omega) (by omega) (hE.tab HT.out.1 HT.out.2)
   rw[show ((b.toNat:Nat):Int)=b by omega,show ((k.toNat:Nat):Int)=k by omega]at CH
   have hhl:=Tp.head_len b.toNat (Arc.flagB p) k.toNat
   generalize vz b.toNat (Arc.flagB p) k.toNat=H at *
   generalize (Bdy.makeE b k p l).1=M at *
   have HFl:=hide (show [H,M].flatten=H++M by simp)
   have hjl:(H++M).length≤2000000:=by rw[List.length_append];omega
   have HHl:=hide (And.intro hhl hml)
   dsimp only
   generalize H++M=X at *
   have HJl:=hide hjl
   unfold zB at *
   unfold zJ at *
   clear h hn hcr ht hw HR HDf hc hb1 hk1 hb hy hhl hml hjl hM
   go_enter Tryz.func7,Tryz.ntmps7
   go_wp2_with fail
   rw[← hw1]
   clear s0 s1 s2 s3 s4 s5 hw1
   refine (CK _).mono ?_
   rintro e w2 ⟨rfl,hE2⟩
   have hF2:=HE1.out.trans hE2
   have CM2:=CM w2 hF2
   have HW2:=hide (HW.out.ext hE2)
   clear CK CM hE2 HW
   have s0:=HW2.out.at 0 (u:=.int .i64 b) rfl
   have s1:=HW2.out.at 1 (u:=.bool p) rfl
   have s2:=HW2.out.at 2 (u:=.int .i64 k) rfl
   have s3:=HW2.out.at 3 (u:=.int .i64 d) rfl
   have s4:=HW2.out.at 4 (u:=.int .i64 y) rfl
   have s5:=HW2.out.at 5 (u:=.int .i64 c) rfl
   go_wp2_with fail
   refine CM2.mono ?_
   rintro e w3 ⟨v3,rfl,hO3,hE3⟩
   obtain⟨A3,c3,rfl,-,-,hb3⟩:=hO3.form
   have hF3:=hF2.trans hE3
   have CH3:=CH w3 hF3
   have HW3:=hide (HW2.out.ext hE3)
   clear s0 s1 s2 s3 s4 s5 CM2 CH hF2 hE3 hO3 HW2
   have s0:=HW3.out.at 0 (u:=.int .i64 b) rfl
   have s1:=HW3.out.at 1 (u:=.bool p) rfl
   have s2:=HW3.out.at 2 (u:=.int .i64 k) rfl
   have s3:=HW3.out.at 3 (u:=.int .i64 d) rfl
   have s4:=HW3.out.at 4 (u:=.int .i64 y) rfl
   have s5:=HW3.out.at 5 (u:=.int .i64 c) rfl
   go_wp2_with fail
   refine CH3.mono ?_
   rintro e w4 ⟨v4,rfl,hO4,hE4⟩
   obtain⟨A4,c4,rfl,-,-,hb4⟩:=hO4.form
   have hF4:=hF3.trans hE4
   have hP4:=jy w4 (c1:=c4) (c2:=c3) 29 hb4 (hE4.bytes hb3) (by have:=HHl.out;unfold maxLen;omega) (by have:=HHl.out;unfold maxLen;omega)
   have CA:=yS _ 2 [H,M] _ hP4 (by simp) (by rw[HFl.out];have:=HJl.out;omega)
   have hF5:=hF4.trans (zb w4 (.cells #[.slice A4 H.length c4,.slice A3 M.length c3] 29))
   unfold zt at CA
   rw[HFl.out]at CA
   clear s0 s1 s2 s3 s4 s5 CH3 hF3 hF4 hE4 hO4 hb4 hb3 hP4 HW3
   go_wp2_with fail
   refine CA.mono ?_
   rintro e w6 ⟨v6,rfl,hO6,hE6⟩
   have hF6:=hF5.trans hE6
   have hO7:=hO6.mono hF5.le
   clear CA hO6 hE6
   go_wp2
   go_ret2
   exact⟨_,rfl,hO7,hF6⟩
  ·have HR:=hide (show xU b p k d y c l=([],(Bdy.makeE b k p l).2) from by rw[HDf.out,if_neg (by omega),if_pos hM])
   rw[HR.out]
   dsimp only
   have hmb:((Bdy.makeE b k p l).2==0)=false:=by rw[beq_eq_false_iff_ne];exact hM
   generalize (Bdy.makeE b k p l).2=er at *
   generalize (Bdy.makeE b k p l).1=M at *
   unfold zB at *
   unfold zJ at *
   clear h hn hcr ht hw HR HDf hc hb1 hk1 hb hy hml
   go_enter Tryz.func7,Tryz.ntmps7
   go_wp2_with fail
   rw[← hw1]
   clear s0 s1 s2 s3 s4 s5 hw1
   refine (CK _).mono ?_
   rintro e w2 ⟨rfl,hE2⟩
   have hF2:=HE1.out.trans hE2
   have CM2:=CM w2 hF2
   have HW2:=hide (HW.out.ext hE2)
   clear CK CM hE2 HW
   have s0:=HW2.out.at 0 (u:=.int .i64 b) rfl
   have s1:=HW2.out.at 1 (u:=.bool p) rfl
   have s2:=HW2.out.at 2 (u:=.int .i64 k) rfl
   have s3:=HW2.out.at 3 (u:=.int .i64 d) rfl
   have s4:=HW2.out.at 4 (u:=.int .i64 y) rfl
   have s5:=HW2.out.at 5 (u:=.int .i64 c) rfl
   go_wp2_with fail
   refine CM2.mono ?_
   rintro e w3 ⟨v3,rfl,hO3,hE3⟩
   obtain⟨A3,c3,rfl,-,-,hb3⟩:=hO3.form
   have hF3:=hF2.trans hE3
   go_wp2
   go_ret2
   exact⟨_,rfl,OwnB.nil _ _,hF3⟩
 ·have HR:=hide (show xU b p k d y c l=([],chk 2 b k d y c) from by rw[HDf.out,if_pos hc])
  rw[HR.out]
  have hcb:(chk 2 b k d y c==0)=false:=by rw[beq_eq_false_iff_ne];exact hc
  generalize chk 2 b k d y c=er at *
  unfold zJ zB at *
  clear CM hml h hn hcr ht hw HDf hy
  go_enter Tryz.func7,Tryz.ntmps7
  go_wp2_with fail
  rw[← hw1]
  refine (CK _).mono ?_
  rintro e w2 ⟨rfl,hE2⟩
  go_wp2
  go_ret2
  exact⟨_,rfl,OwnB.nil _ _,HE1.out.trans hE2⟩
end
section
open Go.RowKit Tp Rcs Opt
theorem Qr {ops:Array Oper}{rest:List Oper}{o:Oper}{a:Act}{Q:Exit→Act→World→Prop}{w:World}(hgd:Region.wanted o (yielded ops a.tmps)=true)(s x:Operand)
  (ho:o.op=.call { callee:=.builtin .append,args:=#[s,x],argTypes:=#[29,29] }) {base:Nat} {v:Value} {l:List UInt8} (hs:a.eval s=v) (hown:OwnB w base v l)
  {A:Option Addr} {m c:Nat} {k:List UInt8} (hx:a.eval x=.slice A m c) (hb:Bytes w w.heap.size A m k) (hlen:l.length+m≤140737488355328) (hbase:base≤w.heap.size)
  (h:∀ v' w',OwnB w' base v' (l++k)→w.grownBy w' v.ownBlock→wpList Tryz.prog ops Q rest (a.put o.dst v') w'):wpList Tryz.prog ops Q (o::rest) a w :=
 BigFrame.wpList_want hgd fun _ hK=>V6 s x ho hs hown hx hb hlen hbase fun v' w' h2 h3=>hK _ _ (h v' w' h2 h3)
theorem Tp.fits:(vz 16 0 1).length+(Bdy.joinE 0 [] [] [] [0]).length≤140737488355328:=by decide +kernel
set_option maxHeartbeats 2000000 in
set_option maxRecDepth 100000 in
theorem Qs {w W:World}(ht:Tab w)(hE:Ext w W):Calls Tryz.prog 4 #[] W fun e W'=>e=.returned (.bool true)∧Ext W W':=by
 have C:=jf 16 false 1 0 0 0 none 0 0 [] W ⟨rfl,.inl rfl,by simp⟩ (Nat.le_refl _) (by unfold maxLen;omega) (by unfold vI;omega) (by omega) (hE.tab ht ht.pos) (fun _=>by decide)
 rw[Tp.pack_none]at C
 have CH:∀ W2,Calls Tryz.prog 10 #[.int .i64 16,.int .u8 0,.int .i64 1] W2 (zt W2 (vz 16 0 1)):=fun W2=>jM 16 1 0 W2 (by omega) (by omega)
 have CJ:=fun W2=>jI 0 none none none (some ⟨World.heap W2 |>.size,0,none⟩) 0 0 0 0 0 1 1 [] [] [] [0] (W2.alloc (.cells #[.int .u8 0] 5)) ⟨rfl,.inl rfl⟩ ⟨rfl,.inl rfl⟩ (Bytes.none _ _ _) (zr W2 [0] _ 5 (0,0) rfl 1 rfl) (by omega) (by omega) (fun j hj=>by omega) (fun s hs=>by simp at hs) (by omega) (by omega)
 have hfit:=Tp.fits
 unfold zt at CJ CH
 unfold zB at C
 dsimp only at C
 generalize vz 16 0 1=H at *
 generalize Bdy.joinE 0 [] [] [] [0]=x at *
 obtain⟨X,hX⟩:∃ X,X=H++x:=⟨_,rfl⟩
 rw[← hX]at C
 have HX:=hide hX
 clear hX
 unfold zJ at C
 go_enter Tryz.func4,Tryz.ntmps4
 go_wp2_with fail
 refine C.mono ?_
 rintro e w2 ⟨v2,rfl,hO2,hE2⟩
 have CH2:=CH w2
 clear C CH
 go_wp2_with fail
 refine CH2.mono ?_
 rintro e w3 ⟨v3,rfl,hO3,hE3⟩
 have CJ3:=CJ w3
 clear CH2 CJ
 go_wp2_with fail
 refine CJ3.mono ?_
 rintro e w5 ⟨v5,rfl,hO5,hE5⟩
 obtain⟨A5,c5,rfl,-,-,h5⟩:=hO5.form
 have hX5:=(zb w3 (.cells #[.int .u8 0] 5)).trans hE5
 have hO4:=hO3.ext hX5
 have hF5:=hE3.trans hX5
 have hB5:=hF5.le
 clear CJ3 hO5 hE5 hX5 hO3 hE3
 go_wp2_with (at_builtin;refine Qr (by rfl) (.tmp 12) (.tmp 14) rfl rfl hO4 rfl h5 hfit hB5 ?_;intro v6 w6 hO6 hG6;rw[← HX.out]at hO6;have hF6:Ext w2 w6:=OwnB.below hO4 hF5 hG6 hB5;obtain⟨A2,c2,rfl,_,_,h2⟩:=(hO2.ext hF6).form;obtain⟨A6,c6,rfl,_,_,h6⟩:=hO6.form;have CS:=Yx _ _ _ _ c2 c6 _ _ _ h2 h6;rw[vZ rfl]at CS;clear hO2 hO6 hO4 h2 h6 h5 hG6;generalize X.length=k at *)
 refine CS.mono ?_
 rintro e w7 ⟨rfl,hE7⟩
 go_wp2
 go_ret
 exact⟨rfl,(hE2.trans hF6).trans hE7⟩
set_option maxHeartbeats 4000000 in
set_option maxRecDepth 100000 in
theorem Vo (o:OptV)(A:Option Addr)(n c:Nat)(l:List Rc)(w:World)(ho:o.ok)(hn:n≤c)(hc:c≤maxLen)(h:RcsAt w w.heap.size A n l)(ht:Tab w) :
  Calls Tryz.prog 3 #[aef o,.slice A n c] w fun e w'=>e=.returned (.bool true)∧Ext w w':=by
 have hb:vI o.block:=ho.1
 have hy:o.parity≤9223372036854775807:=ho.2.2.2.1.2
 obtain⟨b,p,k,d,y,cc⟩:=o
 unfold aef
 dsimp only at *
 have C0:=fun W (hE:Ext w W)=>Qs ht hE
 have CK:=fun W (hE:Ext w W)=>uZ A n c l W (h.later hE)
 have CG:=fun W (hE:Ext w W)=>Xn A n c l 30 1500 W (h.later hE) (by omega)
 obtain⟨w1,hw1⟩:∃ w1,w1=w.alloc (.cells (zJ b p k d y cc) 23):=⟨_,rfl⟩
 have HE1:=hide (show Ext w w1 by rw[hw1];exact zb w _)
 have HW:=hide (show Whole w1 w.heap.size 23 (zJ b p k d y cc) by rw[hw1];exact Whole.new w _ _)
 clear ho
 by_cases hL:checkE l=0
 ·have CK:=fun W (hE:Ext w W)=>by have:=CK W hE;rw[hL]at this;exact this
  cases hg:V8 l 30 1500 with
  | true =>
   unfold zJ at *
   clear h hn hc hb hy ht HW
   go_enter Tryz.func3,Tryz.ntmps3
   go_wp2_with fail
   rw[← hw1]
   clear hw1
   refine (C0 _ HE1.out).mono ?_
   rintro e w2 ⟨rfl,hE2⟩
   have hF2:=HE1.out.trans hE2
   have CK2:=CK w2 hF2
   clear C0 CK
   go_wp2_with fail
   refine CK2.mono ?_
   rintro e w3 ⟨rfl,hQ3⟩
   have hF3:=hF2.trans hQ3.ext
   have CG3:=CG w3 hF3
   rw[hg]at CG3
   clear CK2 CG
   go_wp2_with fail
   refine CG3.mono ?_
   rintro e w4 ⟨rfl,hQ4⟩
   go_wp2
   go_ret
   exact⟨rfl,hF3.trans hQ4.ext⟩
  | false =>
   have hw:checkE l=0→weightE l≤1500:=fun _=>by have:=(ace hg (by omega)).2;omega
   have CM:=fun W (hE:Ext w W)=>jf b p k d y cc A n c l W (h.later hE) hn hc hb hy (hE.tab ht ht.pos) hw
   have CR:=fun W (hE:Ext w W)=>jN b p k d y cc A n c l W (h.later hE) hn hc hb hw
   generalize (xU b p k d y cc l).1=res at *
   generalize (xU b p k d y cc l).2=er at *
   have hee:((er:Int)==(er:Int))=true:=by simp
   unfold zB at CM CR
   unfold zJ at *
   clear hw h hn hc hb hy ht
   go_enter Tryz.func3,Tryz.ntmps3
   go_wp2_with fail
   rw[← hw1]
   clear hw1
   refine (C0 _ HE1.out).mono ?_
   rintro e w2 ⟨rfl,hE2⟩
   have hF2:=HE1.out.trans hE2
   have CK2:=CK w2 hF2
   clear C0 CK
   go_wp2_with fail
   refine CK2.mono ?_
   rintro e w3 ⟨rfl,hQ3⟩
   have hX3:=hE2.trans hQ3.ext
   have hF3:=hF2.trans hQ3.ext
   clear CK2 hE2 hQ3 hF2
   have CG3:=CG w3 hF3
   rw[hg]at CG3
   clear CG
   go_wp2_with fail
   refine CG3.mono ?_
   rintro e w4 ⟨rfl,hQ4⟩
   have hX3:=hX3.trans hQ4.ext
   have hF3:=hF3.trans hQ4.ext
   clear CG3 hQ4
   have HWx:=hide (HW.out.ext hX3)
   have s0:=HWx.out.at 0 (u:=.int .i64 b) rfl
   have s1:=HWx.out.at 1 (u:=.bool p) rfl
   have s2:=HWx.out.at 2 (u:=.int .i64 k) rfl
   have s3:=HWx.out.at 3 (u:=.int .i64 d) rfl
   have s4:=HWx.out.at 4 (u:=.int .i64 y) rfl
   have s5:=HWx.out.at 5 (u:=.int .i64 cc) rfl
   have CM3:=CM _ hF3
   clear CM
   go_wp2_with fail
   refine CM3.mono ?_
   rintro e w5 ⟨v5,rfl,hO5,hE5⟩
   clear s0 s1 s2 s3 s4 s5 CM3
   have hF5:=hF3.trans hE5
   have HWy:=hide (HWx.out.ext hE5)
   have s0:=HWy.out.at 0 (u:=.int .i64 b) rfl
   have s1:=HWy.out.at 1 (u:=.bool p) rfl
   have s2:=HWy.out.at 2 (u:=.int .i64 k) rfl
   have s3:=HWy.out.at 3 (u:=.int .i64 d) rfl
   have s4:=HWy.out.at 4 (u:=.int .i64 y) rfl
   have s5:=HWy.out.at 5 (u:=.int .i64 cc) rfl
   have CR5:=CR _ hF5
   clear CR
   go_wp2_with fail
   refine CR5.mono ?_
   rintro e w6 ⟨v6,rfl,hO6,hE6⟩
   clear s0 s1 s2 s3 s4 s5 CR5
   have hF6:=hF5.trans hE6
   obtain⟨A5,c5,rfl,_,_,h5⟩:=(hO5.ext hE6).form
   obtain⟨A6,c6,rfl,_,_,h6⟩:=hO6.form
   have CS:=Yx _ _ _ _ c5 c6 _ _ _ h5 h6
   rw[vZ rfl]at CS
   clear hO5 hO6 h5 h6 hE5 hE6
   generalize res.length=m at *
   go_wp2_with fail
   refine CS.mono ?_
   rintro e w7 ⟨rfl,hE7⟩
   go_wp2
   go_ret
   exact⟨rfl,hF6.trans hE7⟩
 ·have hL6:=Bdy.chk_not hL
  have CK:=fun W (hE:Ext w W)=>by have:=CK W hE;rw[hL6]at this;exact this
  have hw:checkE l=0→weightE l≤1500:=fun h0=>absurd h0 hL
  have CM:=fun W (hE:Ext w W)=>jf b p k d y cc A n c l W (h.later hE) hn hc hb hy (hE.tab ht ht.pos) hw
  have CR:=fun W (hE:Ext w W)=>jN b p k d y cc A n c l W (h.later hE) hn hc hb hw
  generalize (xU b p k d y cc l).1=res at *
  generalize (xU b p k d y cc l).2=er at *
  have hee:((er:Int)==(er:Int))=true:=by simp
  unfold zB at CM CR
  unfold zJ at *
  clear hw h hn hc hb hy ht
  go_enter Tryz.func3,Tryz.ntmps3
  go_wp2_with fail
  rw[← hw1]
  clear hw1
  refine (C0 _ HE1.out).mono ?_
  rintro e w2 ⟨rfl,hE2⟩
  have hF2:=HE1.out.trans hE2
  have CK2:=CK w2 hF2
  clear C0 CK
  go_wp2_with fail
  refine CK2.mono ?_
  rintro e w3 ⟨rfl,hQ3⟩
  have hX3:=hE2.trans hQ3.ext
  have hF3:=hF2.trans hQ3.ext
  clear CK2 hE2 hQ3 hF2
  have HWx:=hide (HW.out.ext hX3)
  have s0:=HWx.out.at 0 (u:=.int .i64 b) rfl
  have s1:=HWx.out.at 1 (u:=.bool p) rfl
  have s2:=HWx.out.at 2 (u:=.int .i64 k) rfl
  have s3:=HWx.out.at 3 (u:=.int .i64 d) rfl
  have s4:=HWx.out.at 4 (u:=.int .i64 y) rfl
  have s5:=HWx.out.at 5 (u:=.int .i64 cc) rfl
  have CM3:=CM _ hF3
  clear CM
  go_wp2_with fail
  refine CM3.mono ?_
  rintro e w5 ⟨v5,rfl,hO5,hE5⟩
  clear s0 s1 s2 s3 s4 s5 CM3
  have hF5:=hF3.trans hE5
  have HWy:=hide (HWx.out.ext hE5)
  have s0:=HWy.out.at 0 (u:=.int .i64 b) rfl
  have s1:=HWy.out.at 1 (u:=.bool p) rfl
  have s2:=HWy.out.at 2 (u:=.int .i64 k) rfl
  have s3:=HWy.out.at 3 (u:=.int .i64 d) rfl
  have s4:=HWy.out.at 4 (u:=.int .i64 y) rfl
  have s5:=HWy.out.at 5 (u:=.int .i64 cc) rfl
  have CR5:=CR _ hF5
  clear CR
  go_wp2_with fail
  refine CR5.mono ?_
  rintro e w6 ⟨v6,rfl,hO6,hE6⟩
  clear s0 s1 s2 s3 s4 s5 CR5
  have hF6:=hF5.trans hE6
  obtain⟨A5,c5,rfl,_,_,h5⟩:=(hO5.ext hE6).form
  obtain⟨A6,c6,rfl,_,_,h6⟩:=hO6.form
  have CS:=Yx _ _ _ _ c5 c6 _ _ _ h5 h6
  rw[vZ rfl]at CS
  clear hO5 hO6 h5 h6 hE5 hE6
  generalize res.length=m at *
  go_wp2_with fail
  refine CS.mono ?_
  rintro e w7 ⟨rfl,hE7⟩
  go_wp2
  go_ret
  exact⟨rfl,hF6.trans hE7⟩
end
end Go.Proofs.YtpmedpdjglcdpaaGreatDoor
