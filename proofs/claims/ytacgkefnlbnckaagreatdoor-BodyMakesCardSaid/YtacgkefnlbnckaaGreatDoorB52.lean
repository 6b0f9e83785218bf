/- Chapter 20: the program's parts of a body ahead of the directory. Chapter 20: the program's check of options, and Make. Chapter 20: the document's Make. Chapter 20: BodyMakes. -/
import Derived.Test.YtacgkefnlbnckaaGreatDoorB02
import Derived.Test.YtacgkefnlbnckaaGreatDoorB08
import Derived.Test.YtacgkefnlbnckaaGreatDoorB09
import Derived.Test.YtacgkefnlbnckaaGreatDoorB13
import Derived.Test.YtacgkefnlbnckaaGreatDoorB15
import Derived.Test.YtacgkefnlbnckaaGreatDoorB18
import Derived.Test.YtacgkefnlbnckaaGreatDoorB19
import Derived.Test.YtacgkefnlbnckaaGreatDoorB22
import Derived.Test.YtacgkefnlbnckaaGreatDoorB28
import Derived.Test.YtacgkefnlbnckaaGreatDoorB29
import Derived.Test.YtacgkefnlbnckaaGreatDoorB40
import Derived.Test.YtacgkefnlbnckaaGreatDoorB45
import Derived.Test.YtacgkefnlbnckaaGreatDoorB50
import Derived.Test.YtacgkefnlbnckaaGreatDoorB51
namespace Go.Proofs.YtacgkefnlbnckaaGreatDoor
section
open Go.RowKit Bdy Rcs
theorem run_topRc (W:World)(a:Option Addr)(n c:Nat)(k:IntKind)(h:Int)(h0:0≤h)(h2:h≤c) :
  (Instr.slice 24 (.slice a n c) none (some (.int k h)) none).run Tryz.prog W=.ok (.slice a h.toNat c) W:=by
 rw [run_slice_h (P:=Tryz.prog) (w:=W) 24 a n c (by kernel_rfl) k h h0 h2]
 have hs:(sizeOf (Tryz.prog.elem 24)).run Tryz.prog W=.ok 4 W:=by kernel_rfl
 rw [hs]
 rcases a with _ | ⟨b,o,s⟩ <;> simp [Result.andThen,sliced,Addr.add]
section
variable {o:Oper}{a:Act}{Q:Exit→Act→World→Prop}{w:World}{base:Nat}{v:Value}{ls:List (List UInt8)}
theorem wpList_appP2 {ops:Array Oper}{rest:List Oper}(hgd:o.guard=none)(s x:Operand)(ho:o.op=.call { callee:=.builtin .append,args:=#[s,x],argTypes:=#[44,44] })(hs:a.eval s=v){A1 A2:Option Addr}{m1 k1 m2 k2:Nat}{l1 l2:List UInt8}
  (h:OwnP w base v ls) (hr1:RowOf w w.heap.size (.slice A1 m1 k1) l1) (hc1:Clear v (.slice A1 m1 k1)) (hr2:RowOf w w.heap.size (.slice A2 m2 k2) l2) (hc2:Clear v (.slice A2 m2 k2)) {c:Nat} (hx:a.eval x=.slice (some ⟨w.heap.size,0,none⟩) 2 c) (hlen:ls.length≤1000) (hbase:base≤w.heap.size)
  (hk:∀ v' w',OwnP w' base v' (ls++[l1,l2])→(w.alloc (.cells #[.slice A1 m1 k1,.slice A2 m2 k2] 29)).grownBy w' v.ownBlock→wpList Tryz.prog ops Q rest (a.put o.dst v') w') :
  wpList Tryz.prog ops Q (o :: rest) a (w.alloc (.cells #[.slice A1 m1 k1,.slice A2 m2 k2] 29)):=by
 obtain ⟨i,hi,hz,hsz,hby⟩:=info_parts rw_info
 have hE:=extNew w (.cells #[.slice A1 m1 k1,.slice A2 m2 k2] 29)
 obtain ⟨R,h1,h2⟩:=(h.ext hE).own
 refine wpList_append_own_at _ hgd s x 44 ho base 29 i _ 1 24 Tryz.underlying44 hi hz hsz hby rfl (by omega) v ls.length _ hs h1 ⟨w.heap.size,0,none⟩ 2 c [.slice A1 m1 k1,.slice A2 m2 k2] hx rfl (by
  intro j u hu
  have e:∀ j,(⟨w.heap.size,0,none⟩:Addr).add j=⟨w.heap.size,j,none⟩:=fun j=>by cases j <;> simp [Addr.add]
  rw [e,cellNew]
  match j,hu with
  | 0,hu=>simpa using hu
  | 1,hu=>simpa using hu
  | j+2,hu=>simp at hu) (by
  intro u hu
  simp at hu
  rcases hu with rfl | rfl <;> rfl) (by unfold maxLen;omega) (by omega) (by simp;omega) ?_
 intro v' w' h3 h4 _ h5
 refine hk v' w' (OwnP.app (X:=fun j=>if j=0 then .slice A1 m1 k1 else .slice A2 m2 k2) h2 (fun i hi=>?_) (Nat.le_refl _) ?_ h4 h5) h4
 ·match i,hi with
  | 0,_=>exact ⟨hr1.ext hE,hc1⟩
  | 1,_=>exact ⟨hr2.ext hE,hc2⟩
 ·exact h3
end
def Bdy.partsE (p:Bool)(k:Int)(l:List Rc)(gs:List Nat):List (List UInt8):=framesTo p l gs gs.length++[Crc.put (columnsE l),Crc.put (Pst.bytesE k l.length (Pst.buildE l)).1]
def BodyParts (w:World)(ps:List (List UInt8))(e:Ending)(w':World):Prop:=∃ v,e=.returned (.tuple #[v,.int .i64 0])∧OwnP w' w.heap.size v ps∧Ext w w'
attribute [local go_sem ↓] run_dropRc
set_option maxHeartbeats 8000000 in
set_option maxRecDepth 100000 in
theorem partsOf_any (b:Int)(p:Bool)(k d y cc:Int)(Ag A:Option Addr)(ng cg n cr:Nat)(gs:List Nat)(l:List Rc)(w:World)(hI:IntsAt w w.heap.size Ag ng (gs.map fun (k:Nat)=>(k:Int)))(hng:ng≤93)
  (hgs:∀ j,j < ng→upTo gs j+gs.getD j 0≤l.length) (h:RcsAt w w.heap.size A n l) (hn:n≤cr) (hcr:cr≤maxLen) (hw:weightE l≤1500) (hk:1≤k∧k≤64) (ht:Tab w) :
  Calls Tryz.prog 15 #[.agg (optC b p k d y cc),.slice Ag ng cg,.slice A n cr] w (BodyParts w (partsE p k l gs)):=by
 have hgl:gs.length=ng:=by have:=hI.1;simpa using this
 have hll:=h.1
 have hn93:n≤93:=by rw [← hll];exact len_small hw
 have HT:=hide (And.intro ht ht.pos)
 have HI:=hide hI
 have HRc:=hide h
 have HUp:=hide (fun j (hj:j < ng)=>upTo_next (gs:=gs) (j:=j) (by omega))
 have HGs:=hide (show ∀ j,j < ng→upTo gs j+gs.getD j 0≤n∧(gs.map fun (k:Nat)=>(k:Int)).getD j 0=((gs.getD j 0:Nat):Int) from fun j hj=>⟨by rw [← hll];exact hgs j hj,by simp [show j < gs.length by omega]⟩)
 have HFn:=hide (frames_next p l gs)
 have HFl:=hide (frames_len p l gs)
 have HF0:=hide (show framesTo p l gs 0=[] from rfl)
 have HU0:=hide (upTo_zero gs)
 have HWr:=hide (fun i j=>write_ok (l:=(l.drop i).take j) (Nat.le_trans (weight_part l i j) hw) p)
 have HFa:=hide (show ∀ j,frameAt p l gs j=(Blk.writeF (bytesB false ((l.drop (upTo gs j)).take (gs.getD j 0))) p).1 from fun _=>rfl)
 have HDr:=hide (fun i j=>show (l.drop i).drop j=l.drop (i+j) from List.drop_drop)
 have HWt:=hide hw
 obtain ⟨ix1,ix2⟩:=index_ok hk hw
 obtain ⟨iy1,iy2,iy3,iy4⟩:=index_facts hw
 have hcol:=columns_small hw
 have HPE:=hide (show partsE p k l gs=framesTo p l gs ng++[Crc.put (columnsE l),Crc.put (Pst.bytesE k l.length (Pst.buildE l)).1] by unfold partsE;rw [hgl])
 have CX:=fun W (hE:Ext w W)=>pBuild_any A n cr l W (h.later hE) (by omega)
 have CC:=fun W (hE:Ext w W)=>pColumns17_any A n cr l W hn (h.later hE) (by omega)
 have CY:=fun (m:IxV) (W:World) (hx:m.x=Pst.buildE l) (hm:m.lies W)=>pBytes18_any k (n:Int) m W (by have:=hm.1.2.2.1;rw [hx] at this;omega) (by have:=hm.2.2.2.1;rw [hx] at this;omega) (fun s hs=>by rw [hx] at hs;have:=iy3 s hs;omega) (fun s hs=>by rw [hx] at hs;have:=iy4 s hs;omega) hm
 have CY:∀ (m:IxV) (W:World),m.x=Pst.buildE l→m.lies W→Calls Tryz.prog 33 #[.int .i64 k,.int .i64 (n:Int),.agg #[.slice m.a1 m.n1 m.c1,.slice m.a2 m.n2 m.c2]] W (MadeE W (Pst.bytesE k l.length (Pst.buildE l)).1 0):=fun m W hx hm=>by
  have:=CY m W hx hm
  rw [hx,← hll,ix1] at this
  rw [← hll]
  exact this
 rw [HPE.out]
 generalize (Pst.bytesE k l.length (Pst.buildE l)).1=I at *
 generalize columnsE l=K at *
 have CPK:=fun W (hE:Ext w W) A c (hb:Bytes W W.heap.size A K.length K)=>crcPut_any A K.length c K W (by omega) (hE.tab HT.out.1 HT.out.2) (by have:=HT.out.2;have:=hE.le;omega) hb
 have CPI:=fun W (hE:Ext w W) A c (hb:Bytes W W.heap.size A I.length I)=>crcPut_any A I.length c I W (by omega) (hE.tab HT.out.1 HT.out.2) (by have:=HT.out.2;have:=hE.le;omega) hb
 generalize Crc.put I=PI at *
 generalize Crc.put K=PK at *
 unfold BuildTo at CX
 unfold MadeE at CY
 unfold MadeB at CC CPK CPI
 obtain ⟨w1,hw1⟩:∃ w1,w1=w.alloc (.cells (optC b p k d y cc) 23):=⟨_,rfl⟩
 have HE1:=hide (show Ext w w1 by rw [hw1];exact extNew w _)
 have HW:=hide (show Whole w1 w.heap.size 23 (optC b p k d y cc) by rw [hw1];exact Whole.new w _ _)
 unfold optC at *
 unfold BodyParts
 clear hI hgs h hw ht hll ix1 ix2 iy1 iy2 iy3 iy4 hcol HPE hgl
 go_enter Tryz.func15,Tryz.ntmps15
 go_wp2
 rw [← hw1]
 clear hw1
 go_loopw [19,8,9] (fun z v lf wr=>∃ (j:Nat) (A9:Option Addr) (c9:Nat),j≤ng∧z=.int .i64 (j:Int)∧upTo gs j≤n∧lf=.slice A9 (n-upTo gs j) c9∧n-upTo gs j≤c9∧c9≤maxLen∧RcsAt w w.heap.size A9 (n-upTo gs j) (l.drop (upTo gs j))∧OwnP wr w1.heap.size v (framesTo p l gs j)∧Ext w1 wr) (fun z _ _ _=>ng-(intOf z).toNat)
 case atStart=>exact ⟨0,A,cr,by omega,rfl,by rw [HU0.out];omega,by rw [HU0.out];rfl,by omega,hcr,by rw [HU0.out];exact HRc.out,by rw [HF0.out];exact OwnP.nil _ _,Ext.refl _⟩
 case round =>
  obtain ⟨j,A9,c9,hj,rfl,hu,rfl,hc9,hm9,hR9,hO,hE⟩:=hrel
  have HO:=hide hO
  have HE:=hide hE
  have HEw:=hide (HE1.out.trans hE)
  have HR9:=hide hR9
  have HM9:=hide (And.intro hc9 hm9)
  clear hO hE hR9
  by_cases hlt:j < ng
  ·have hjI:(j:Int) < (ng:Int):=by omega
   obtain ⟨bg,og,rfl,hcg,hlg⟩:=HI.out.cellB hlt
   obtain ⟨z1,z2⟩:=HGs.out j hlt
   have hun:=HUp.out j hlt
   rw [z2] at hcg
   have hcg2:=(HEw.out.cell hlg).trans hcg
   obtain ⟨q1,q2⟩:=HWr.out (upTo gs j) (gs.getD j 0)
   have HFj:=hide (HFn.out j)
   rw [HFa.out] at HFj
   have HDj:=hide (HDr.out (upTo gs j) (gs.getD j 0))
   have HWj:=hide (Nat.le_trans (weight_part l (upTo gs j) (gs.getD j 0)) HWt.out)
   obtain ⟨x,hx⟩:∃ x,x=gs.getD j 0:=⟨_,rfl⟩
   obtain ⟨U,hU⟩:∃ U,U=upTo gs j:=⟨_,rfl⟩
   rw [← hx] at hcg2 z1 hun q1 q2 HFj HDj HWj
   rw [← hU] at hun z1 q1 q2 HFj HDj HR9 hu hc9 HWj
   have hxn:x≤n-U:=by omega
   have HPt:=hide (HR9.out.top hxn)
   have HCt:=hide (HR9.out.cut hxn hc9)
   rw [HDj.out] at HCt
   have CB:=fun W (hE:Ext w1 W)=>pBytes17_any false A9 x c9 ((l.drop U).take x) W (HPt.out.later (HE1.out.trans hE)) (by have:=HWj.out;omega)
   generalize bytesB false ((l.drop U).take x)=D at *
   have CW:=fun W (hE:Ext w1 W) A c (hc:D.length≤c) (hb:Bytes W W.heap.size A D.length D)=>bwrite_any A D.length c D p W hc ((HE1.out.trans hE).tab HT.out.1 HT.out.2) hb
   rw [q1] at CW
   generalize (Blk.writeF D p).1=F at *
   unfold MadeB at CB
   unfold MadeE at CW
   have HTop:=hide (fun (W:World)=>show (Instr.slice 24 (.slice A9 (n-U) c9) none (some (.int .i64 (x:Int))) none).run Tryz.prog W=.ok (.slice A9 x c9) W from by
    rw [run_topRc W _ _ _ _ _ (by omega) (by omega),Int.toNat_natCast])
   have HUn:=hide hun
   rw [← hU]
   clear hcg z2 q1 hx hU hun
   go_wp2_with fail
   refine wp_region_T (fun W=>Ext wr W) 6 12 #[false,false,false,false,false,false,false,false,false,false,false,false] (by kernel_rfl) rfl rfl (Ext.refl wr).drew ?_
   intro hS0
   refine wpAnyT_take 0 (some 24) (.slice A9 (n-U) c9) _ rfl rfl rfl (by kernel_rfl) (fun _ _ _ h=>h) hS0 (by rfl) (fun W hX=>by go_simp) ?_
   simp only [sP]
   refine wpAnyT_take 1 (some 25) (.int .i64 (x:Int)) _ rfl rfl rfl (by kernel_rfl) (fun _ _ _ h=>h) hS0 (by rfl) (fun W hX=>by go_simp) ?_
   simp only [sP]
   refine wpAnyT_take 2 (some 26) (.slice A9 x c9) _ rfl rfl rfl (by kernel_rfl) (fun _ _ _ h=>h) hS0 (by rfl) (fun W hX=>by have s0:=HTop.out W;go_simp) ?_
   simp only [sP]
   refine wpAnyT_take 4 (some 28) (.pointer (some ⟨w.heap.size,1,none⟩)) _ rfl rfl rfl (by kernel_rfl) (fun _ _ _ h=>h) hS0 (by rfl) (fun W hX=>by go_simp) ?_
   simp only [sP]
   refine wpAnyT_take 5 (some 29) (.bool p) _ rfl rfl rfl (by kernel_rfl) (fun _ _ _ h=>h) hS0 (by rfl) (fun W hX=>by have s0:=(HW.out.ext (HE.out.trans hX)).at 1 (u:=.bool p) rfl;go_simp) ?_
   simp only [sP]
   refine wpAnyT_only 3 _ (by kernel_rfl) rfl rfl (by rfl) (fun K0 hK0=>?_)
   go_simp
   go_at_call 31
   refine (CB _ (HE.out.trans hS0)).mono ?_
   rintro e w3 ⟨v3,rfl,hO3,hE3⟩
   obtain ⟨A3,c3,rfl,hc3,hm3,hb3⟩:=hO3.form
   have hS3:=hS0.trans hE3
   have CW3:=CW _ (HE.out.trans hS3) A3 c3 hc3 hb3
   clear hO3 hE3 hb3
   refine hK0 _ _ (fun _=>hS3) ?_
   clear hK0 K0
   refine wpAnyT_only 6 _ (by kernel_rfl) rfl rfl (by rfl) (fun K1 hK1=>?_)
   go_simp
   go_at_call 32
   refine CW3.mono ?_
   rintro e w4 ⟨v4,rfl,hO4,hE4⟩
   have hS4:=hS3.trans hE4
   have hcl4:=Clear.own (v:=u8) hO4 (fun q hq=>Nat.lt_of_lt_of_le (HO.out.lt q hq).2 hS3.le)
   obtain ⟨A4,c4,rfl,hc4,hm4,hb4⟩:=hO4.form
   have hr4:RowOf w4 w4.heap.size (.slice A4 F.length c4) F:=⟨A4,c4,rfl,hc4,hm4,hb4⟩
   clear CW3 hE4 hO4
   refine hK1 _ _ (fun h=>absurd h (by decide)) ?_
   clear hK1 K1
   refine wpAnyT_only 7 _ (by kernel_rfl) rfl rfl (by rfl) (fun K2 hK2=>?_)
   go_simp
   refine hK2 _ _ (fun h=>absurd h (by decide)) ?_
   clear hK2 K2
   refine wpAnyT_pure 8 (some 31) (.slice A4 F.length c4) _ rfl rfl rfl (by kernel_rfl) (fun _ _ _ h=>h) (fun h=>absurd h (by decide)) (by rfl) (fun W=>by go_simp) ?_
   simp only [sP]
   refine wpAnyT_pure 9 (some 32) (.int .i64 0) _ rfl rfl rfl (by kernel_rfl) (fun _ _ _ h=>h) (fun h=>absurd h (by decide)) (by rfl) (fun W=>by go_simp) ?_
   simp only [sP]
   refine wpAnyT_only 10 _ (by kernel_rfl) rfl rfl (by rfl) (fun K3 hK3=>?_)
   go_simp
   refine hK3 _ _ (fun h=>absurd h (by decide)) ?_
   clear hK3 K3
   refine wpAnyT_only 11 _ (by kernel_rfl) rfl rfl (by rfl) (fun K4 hK4=>?_)
   go_simp
   refine hK4 _ _ (fun h=>absurd h (by decide)) (wpAnyT_done (by kernel_rfl) ?_ _)
   clear hK4 K4
   have hx0:(0:Int)≤(x:Int):=by omega
   have hxI:(x:Int)≤((n-U:Nat):Int):=by omega
   have hO5:=HO.out.ext hS4
   have hB5:=Nat.le_trans HE.out.le hS4.le
   have hlen5:(framesTo p l gs j).length≤1000:=by rw [HFl.out];omega
   go_wp2_with (at_builtin;refine wpList_appP rfl (.tmp 36) (.tmp 38) rfl rfl hO5 hr4 hcl4 rfl hlen5 hB5 ?_;intro v9 w9 hO9 hG9;have hF9:Ext w1 w9:=Below.grown ((HE.out.trans hS4).alloc _) hG9 ((HE.out.trans hS4).alloc _).le (fun q hq=>(HO.out.lt q hq).1);clear hG9)
   go_roundw
   case rel=>exact ⟨j+1,cutR17 A9 c9 x,c9-x,by omega,by go_num,by rw [HUn.out];omega,by rw [HUn.out,Nat.sub_add_eq],by rw [HUn.out];have:=HM9.out;omega,by have:=HM9.out;omega,by rw [HUn.out,Nat.sub_add_eq];exact HCt.out,by rw [HFj.out];exact hO9,hF9⟩
   case measure=>simp [intOf];omega
  ·have hjI:¬ (j:Int) < (ng:Int):=by omega
   obtain rfl:ng=j:=by omega
   go_wp2_with fail
   refine wp_region_T (fun W=>Ext wr W) 6 12 #[false,false,false,false,false,false,false,false,false,false,false,false] (by kernel_rfl) rfl rfl (Ext.refl wr).drew ?_
   intro hS0
   refine wpAnyT_take 0 (some 45) (.pointer (some ⟨w.heap.size,2,none⟩)) _ rfl rfl rfl (by kernel_rfl) (fun _ _ _ h=>h) hS0 (by rfl) (fun W hX=>by go_simp) ?_
   simp only [sP]
   refine wpAnyT_take 1 (some 46) (.int .i64 k) _ rfl rfl rfl (by kernel_rfl) (fun _ _ _ h=>h) hS0 (by rfl) (fun W hX=>by have s0:=(HW.out.ext (HE.out.trans hX)).at 2 (u:=.int .i64 k) rfl;go_simp) ?_
   simp only [sP]
   refine wpAnyT_take 2 (some 47) (.slice A n cr) _ rfl rfl rfl (by kernel_rfl) (fun _ _ _ h=>h) hS0 (by rfl) (fun W hX=>by go_simp) ?_
   simp only [sP]
   refine wpAnyT_take 3 (some 48) (.int .i64 (n:Int)) _ rfl rfl rfl (by kernel_rfl) (fun _ _ _ h=>h) hS0 (by rfl) (fun W hX=>by go_simp) ?_
   simp only [sP]
   refine wpAnyT_take 4 (some 49) (.slice A n cr) _ rfl rfl rfl (by kernel_rfl) (fun _ _ _ h=>h) hS0 (by rfl) (fun W hX=>by go_simp) ?_
   simp only [sP]
   refine wpAnyT_only 5 _ (by kernel_rfl) rfl rfl (by rfl) (fun K0 hK0=>?_)
   go_simp
   go_at_call 34
   refine (CX _ (HEw.out.trans hS0)).mono ?_
   rintro e w3 ⟨m,rfl,hx,hm,hE3⟩
   have hS3:=hS0.trans hE3
   have CY3:=CY m w3 hx hm
   clear hE3 hm hx
   refine hK0 _ _ (fun _=>hS3) ?_
   clear hK0 K0
   refine wpAnyT_only 6 _ (by kernel_rfl) rfl rfl (by rfl) (fun K1 hK1=>?_)
   go_simp
   go_at_call 33
   refine CY3.mono ?_
   rintro e w4 ⟨v4,rfl,hO4,hE4⟩
   have hS4:=hS3.trans hE4
   obtain ⟨A4,c4,rfl,-,-,hb4⟩:=hO4.form
   clear CY3 hE4 hO4
   refine hK1 _ _ (fun h=>absurd h (by decide)) ?_
   clear hK1 K1
   refine wpAnyT_only 7 _ (by kernel_rfl) rfl rfl (by rfl) (fun K2 hK2=>?_)
   go_simp
   refine hK2 _ _ (fun h=>absurd h (by decide)) ?_
   clear hK2 K2
   refine wpAnyT_pure 8 (some 52) (.slice A4 I.length c4) _ rfl rfl rfl (by kernel_rfl) (fun _ _ _ h=>h) (fun h=>absurd h (by decide)) (by rfl) (fun W=>by go_simp) ?_
   simp only [sP]
   refine wpAnyT_pure 9 (some 53) (.int .i64 0) _ rfl rfl rfl (by kernel_rfl) (fun _ _ _ h=>h) (fun h=>absurd h (by decide)) (by rfl) (fun W=>by go_simp) ?_
   simp only [sP]
   refine wpAnyT_only 10 _ (by kernel_rfl) rfl rfl (by rfl) (fun K3 hK3=>?_)
   go_simp
   refine hK3 _ _ (fun h=>absurd h (by decide)) ?_
   clear hK3 K3
   refine wpAnyT_only 11 _ (by kernel_rfl) rfl rfl (by rfl) (fun K4 hK4=>?_)
   go_simp
   refine hK4 _ _ (fun h=>absurd h (by decide)) (wpAnyT_done (by kernel_rfl) ?_ _)
   clear hK4 K4
   have hF4:=HEw.out.trans hS4
   have CC4:=CC w4 hF4
   clear CX CY CC
   go_wp2_with fail
   refine CC4.mono ?_
   rintro e w5 ⟨v5,rfl,hO5,hE5⟩
   obtain ⟨A5,c5,rfl,-,-,hb5⟩:=hO5.form
   have hF5:=hF4.trans hE5
   have CK5:=CPK w5 hF5 A5 c5 hb5
   clear CC4 CPK hO5 hb5
   go_wp2_with fail
   refine CK5.mono ?_
   rintro e w6 ⟨v6,rfl,hO6,hE6⟩
   have hF6:=hF5.trans hE6
   have CI6:=CPI w6 hF6 A4 c4 ((hE5.trans hE6).bytes hb4)
   have hS6:=(hS4.trans hE5).trans hE6
   have hcl6:=Clear.own (v:=u8) hO6 (fun q hq=>Nat.lt_of_lt_of_le (HO.out.lt q hq).2 (hS4.trans hE5).le)
   obtain ⟨A6,c6,rfl,hc6,hm6,hb6⟩:=hO6.form
   clear CK5 CPI hO6 hb4 hE5 hE6 hF5
   go_wp2_with fail
   refine CI6.mono ?_
   rintro e w7 ⟨v7,rfl,hO7,hE7⟩
   have hcl7:=Clear.own (v:=u8) hO7 (fun q hq=>Nat.lt_of_lt_of_le (HO.out.lt q hq).2 hS6.le)
   obtain ⟨A7,c7,rfl,hc7,hm7,hb7⟩:=hO7.form
   have hr6:RowOf w7 w7.heap.size (.slice A6 PK.length c6) PK:=⟨A6,c6,rfl,hc6,hm6,hE7.bytes hb6⟩
   have hr7:RowOf w7 w7.heap.size (.slice A7 PI.length c7) PI:=⟨A7,c7,rfl,hc7,hm7,hb7⟩
   have hS7:=hS6.trans hE7
   have hO8:=HO.out.ext hS7
   have hB8:=Nat.le_trans HE.out.le hS7.le
   have hlen8:(framesTo p l gs ng).length≤1000:=by rw [HFl.out];omega
   clear CI6 hO7 hb7 hb6 hF6 hE7
   go_wp2_with (at_builtin;refine wpList_appP2 rfl (.tmp 57) (.tmp 63) rfl rfl hO8 hr6 hcl6 hr7 hcl7 rfl hlen8 hB8 ?_;intro v9 w9 hO9 hG9;have hF9:Ext w1 w9:=Below.grown ((HE.out.trans hS7).alloc _) hG9 ((HE.out.trans hS7).alloc _).le (fun q hq=>(HO.out.lt q hq).1);clear hG9)
   go_ret2
   exact ⟨_,rfl,hO9.mono HE1.out.le,HE1.out.trans hF9⟩
end
section
open Go.RowKit Bdy Rcs Opt
set_option maxHeartbeats 2000000 in
set_option maxRecDepth 100000 in
theorem bodyCheck_any (b:Int)(p:Bool)(k d y c:Int)(w:World):Calls Tryz.prog 12 #[.agg (optC b p k d y c)] w fun e w'=>e=.returned (.int .i64 (chk 2 b k 0 0 0))∧Ext w w':=by
 have hE1:=extNew w (.cells (optC b p k d y c) 23)
 have hW1:=Whole.new w 23 (optC b p k d y c)
 have C:=fun W=>pCheck_any 2 b p k 0 0 0 (by omega) W
 generalize chk 2 b k 0 0 0=er at *
 unfold optC at *
 have s0:=hW1.at 0 (u:=.int .i64 b) rfl
 have s1:=hW1.at 1 (u:=.bool p) rfl
 have s2:=hW1.at 2 (u:=.int .i64 k) rfl
 clear hW1
 go_enter Tryz.func12,Tryz.ntmps12
 go_wp2_with fail
 refine (C _).mono ?_
 rintro e w2 ⟨rfl,hE2⟩
 go_wp2
 go_ret
 exact ⟨rfl,hE1.trans hE2⟩
theorem RowsAt.parts {w:World}{B n:Nat}{A:Option Addr}{ls:List (List UInt8)}(h:RowsAt w B A n ls):Parts w B A n ls:=by
 refine ⟨h.1,h.2.imp_right fun ⟨b,off,e,hb,hc⟩=>⟨b,off,e,hb,fun i hi=>?_⟩⟩
 obtain ⟨x,h1,A',k,rfl,h3,h4,h5⟩:=hc i hi
 exact ⟨A',_,k,h1,by omega,by rw [← h5.1] at h5;exact h5⟩
namespace Bdy
theorem chk_not {l:List Rc}(h:checkE l≠0):checkE l=6:=by
 unfold checkE at *
 split at h
 ·simp at h
 ·rename_i hn
  rw [if_neg hn]
theorem dirP_is (b:Int)(p:Bool)(k:Int)(l:List Rc):dirP (groupsN b l) (partsE p k l (groupsN b l)) (groupsN b l).length ((groupsN b l).length+2) =
  dirB l.length (groupsN b l) (framesTo p l (groupsN b l) (groupsN b l).length) (Crc.put (columnsE l)) (Crc.put (Pst.bytesE k l.length (Pst.buildE l)).1):=by
 unfold dirP dirB partsE
 have hf:=frames_len p l (groupsN b l) (groupsN b l).length
 rw [groups_all,pairs_more _ _ _ (by omega)]
 generalize framesTo p l (groupsN b l) (groupsN b l).length=fs at *
 generalize (groupsN b l).length=n at *
 have e0:(fs++[Crc.put (columnsE l),Crc.put (Pst.bytesE k l.length (Pst.buildE l)).1]).getD n []=Crc.put (columnsE l):=by
  rw [List.getD_eq_getElem?_getD,List.getElem?_append_right (by omega),hf,Nat.sub_self]
  rfl
 have e1:(fs++[Crc.put (columnsE l),Crc.put (Pst.bytesE k l.length (Pst.buildE l)).1]).getD (n+1) []=Crc.put (Pst.bytesE k l.length (Pst.buildE l)).1:=by
  rw [List.getD_eq_getElem?_getD,List.getElem?_append_right (by omega),hf,show n+1-n=1 by omega]
  rfl
 rw [show n+2-n=2 by omega,rest_next,rest_next,Nat.add_zero,e0,e1]
 simp [restTo]
theorem join_is (b:Int)(p:Bool)(k:Int)(l:List Rc):(partsE p k l (groupsN b l)++[endB (dirP (groupsN b l) (partsE p k l (groupsN b l)) (groupsN b l).length ((groupsN b l).length+2))]).flatten =
  joinE l.length (groupsN b l) (framesTo p l (groupsN b l) (groupsN b l).length) (columnsE l) (Pst.bytesE k l.length (Pst.buildE l)).1:=by
 rw [dirP_is]
 unfold joinE endB partsE
 simp
theorem parts_small {k:Int}(hk:1≤k∧k≤64){l:List Rc}(h:weightE l≤1500)(p:Bool)(gs:List Nat):∀ s,s∈partsE p k l gs→s.length≤1000000:=fun s hs=>by
 unfold partsE at hs
 rcases List.mem_append.1 hs with h1 | h1
 ·have:=frames_small h p gs gs.length s h1
  omega
 ·have h2:=columns_small h
  have h3:=(index_ok hk h).2
  have h4:=put_len (columnsE l)
  have h5:=put_len (Pst.bytesE k l.length (Pst.buildE l)).1
  simp only [List.mem_cons,List.not_mem_nil,or_false] at h1
  rcases h1 with rfl | rfl <;> omega
theorem parts_len (p:Bool)(k:Int)(l:List Rc)(gs:List Nat):(partsE p k l gs).length=gs.length+2:=by
 unfold partsE
 rw [List.length_append,frames_len]
 rfl
end Bdy
set_option maxHeartbeats 8000000 in
set_option maxRecDepth 100000 in
theorem bodyMake_any (b:Int)(p:Bool)(k d y c:Int)(A:Option Addr)(n cr:Nat)(l:List Rc)(w:World)(h:RcsAt w w.heap.size A n l)(hn:n≤cr)(hcr:cr≤maxLen)(hb:IsI64 b)(ht:Tab w)(hw:checkE l=0→weightE l≤1500) :
  Calls Tryz.prog 7 #[.agg (optC b p k d y c),.slice A n cr] w (MadeE w (makeE b k p l).1 (makeE b k p l).2):=by
 have CK:=fun W=>bodyCheck_any b p k d y c W
 have CL:=fun W (hE:Ext w W)=>pCheck17_any A n cr l W (by omega) (h.later hE)
 obtain ⟨w1,hw1⟩:∃ w1,w1=w.alloc (.cells (optC b p k d y c) 23):=⟨_,rfl⟩
 have HE1:=hide (show Ext w w1 by rw [hw1];exact extNew w _)
 have HW:=hide (show Whole w1 w.heap.size 23 (optC b p k d y c) by rw [hw1];exact Whole.new w _ _)
 have HDf:=hide (show makeE b k p l=if chk 2 b k 0 0 0≠0 then ([],chk 2 b k 0 0 0) else if checkE l≠0 then ([],6) else _ from rfl)
 have s0:=HW.out.at 0 (u:=.int .i64 b) rfl
 have s1:=HW.out.at 1 (u:=.bool p) rfl
 have s2:=HW.out.at 2 (u:=.int .i64 k) rfl
 have s3:=HW.out.at 3 (u:=.int .i64 d) rfl
 have s4:=HW.out.at 4 (u:=.int .i64 y) rfl
 have s5:=HW.out.at 5 (u:=.int .i64 c) rfl
 rw [hw1] at s0 s1 s2 s3 s4 s5
 by_cases hc:chk 2 b k 0 0 0=0
 ·rw [hc] at CK
  by_cases hL:checkE l=0
  ·obtain ⟨-,hk1,hk2⟩:=chk_facts hc
   have hwl:=hw hL
   have HR:=hide (show makeE b k p l=(joinE l.length (groupsN b l) (framesTo p l (groupsN b l) (groupsN b l).length) (columnsE l) (Pst.bytesE k l.length (Pst.buildE l)).1,0) from by rw [HDf.out,if_neg (by omega),if_neg (by omega)])
   rw [HR.out,← join_is]
   have hl93:=len_small hwl
   have hfew:=groups_few b l
   have hall:=groups_all b l
   have hpart:=fun j (hj:j < (groupsN b l).length)=>part_le b l hj
   have hps:=parts_small ⟨hk1,hk2⟩ hwl p (groupsN b l)
   have hpl:=parts_len p k l (groupsN b l)
   have CG:=fun W (hE:Ext w W)=>pGroups17_any b false A n cr l W hb (h.later hE) (by omega)
   rw [groups_ints] at CG
   have CPt:=fun W (hE:Ext w W) Ag cg hI=>partsOf_any b p k d y c Ag A (groupsN b l).length cg n cr (groupsN b l) l W hI (by omega) hpart (h.later hE) hn hcr hwl ⟨hk1,hk2⟩ (hE.tab ht ht.pos)
   generalize groupsN b l=gs at *
   generalize partsE p k l gs=ps at *
   have HT:=hide (And.intro ht ht.pos)
   have CD:=fun W Ag cg Ap cp hI (hP:Parts W W.heap.size Ap ps.length ps)=>dirOf_any Ag Ap gs.length cg ps.length cp gs ps W hI (by omega) (by omega) hP (by omega)
   unfold DirTo at CD
   rw [ends_len,longs_len] at CD
   have CE:=fun W (hE:Ext w W) A1 c1 A2 c2 h1 k1 h2 k2=>@endOf_any W A1 A2 gs.length c1 ps.length c2 gs ps h1 k1 h2 k2 (hE.tab HT.out.1 HT.out.2) rfl rfl (by omega) (by omega) (by omega) hps
   rw [hpl] at CE
   have hDl:=dirP_len gs ps (n:=gs.length) (m:=gs.length+2) (by omega) (by omega)
   generalize dirP gs ps gs.length (gs.length+2)=D at *
   have hEl:(endB D).length≤100000:=by
    have h1:=Crc.put_four D
    have h2:=(fix4 (x:=(Crc.put D).length) (by omega)).2
    unfold endB
    rw [List.length_append]
    omega
   generalize endB D=EB at *
   have HTot:=hide (show (ps++[EB]).flatten.length≤1000000000∧(ps++[EB]).length≤1000000000 from by
    have:=flat_le (k:=1000000) (ps++[EB]) (fun s hs=>by
     rcases List.mem_append.1 hs with h1 | h1
     ·exact hps s h1
     ·obtain rfl:=List.mem_singleton.1 h1
      omega)
    rw [List.length_append,List.length_singleton] at this ⊢
    omega)
   have hlen8:ps.length≤1000:=by omega
   have HPl:=hide hpl
   obtain ⟨ng,hng⟩:∃ g,g=gs.length:=⟨_,rfl⟩
   have hgm:(gs.map fun (k:Nat)=>(k:Int)).length=ng:=by rw [List.length_map,hng]
   unfold MadeL at CG
   rw [hgm] at CG
   rw [← hng] at CPt CD CE HPl
   unfold BodyParts at CPt
   unfold MadeE at *
   have CL:=fun W (hE:Ext w W)=>by have:=CL W hE;rw [hL] at this;exact this
   unfold optC at *
   clear h hn hcr ht hw hDl hEl hwl hall hpart hps hpl hl93 hfew hgm hng HR HDf hL hc hk1 hk2 hb
   go_enter Tryz.func7,Tryz.ntmps7
   go_wp2_with fail
   rw [← hw1]
   clear s0 s1 s2 s3 s4 s5 hw1
   refine (CK _).mono ?_
   rintro e w2 ⟨rfl,hE2⟩
   have hF2:=HE1.out.trans hE2
   have CL2:=CL w2 hF2
   clear CK CL
   go_wp2_with fail
   refine CL2.mono ?_
   rintro e w3 ⟨rfl,hE3⟩
   have hF3:=hF2.trans hE3
   have CG3:=CG w3 hF3
   have HW3:=hide (HW.out.ext (hE2.trans hE3))
   have s0:=HW3.out.at 0 (u:=.int .i64 b) rfl
   clear CL2 CG hF2 hE3 hE2 HW
   go_wp2_with fail
   refine CG3.mono ?_
   rintro e w4 ⟨Ag,cg,rfl,hcg,hmg,hIg,hE4⟩
   have hF4:=hF3.trans hE4
   have CP4:=CPt w4 hF4 Ag cg hIg
   have HW4:=HW3.out.ext hE4
   have HIg:=hide hIg
   clear s0 CG3 CPt hF3 hE4 hIg hcg hmg
   have s0:=HW4.at 0 (u:=.int .i64 b) rfl
   have s1:=HW4.at 1 (u:=.bool p) rfl
   have s2:=HW4.at 2 (u:=.int .i64 k) rfl
   have s3:=HW4.at 3 (u:=.int .i64 d) rfl
   have s4:=HW4.at 4 (u:=.int .i64 y) rfl
   have s5:=HW4.at 5 (u:=.int .i64 c) rfl
   clear HW4 HW3
   go_wp2_with fail
   refine CP4.mono ?_
   rintro e w5 ⟨v5,rfl,hO5,hE5⟩
   obtain ⟨Ap,cp,rfl,-,-,hRp⟩:=hO5.form
   have hF5:=hF4.trans hE5
   have CD5:=CD w5 Ag cg Ap cp (HIg.out.later hE5) hRp.parts
   have HO5:=hide (hO5.mono hF4.le)
   clear s0 s1 s2 s3 s4 s5 CP4 CD hE5 hRp hO5 HIg
   go_wp2_with fail
   refine CD5.mono ?_
   rintro e w6 ⟨A1,c1,A2,c2,rfl,k1,k2,i1,i2,hE6⟩
   have hF6:=hF5.trans hE6
   rw [HPl.out] at i2 k2 ⊢
   have CE6:=CE w6 hF6 A1 c1 A2 c2 i1 k1 i2 k2
   clear CD5 CE i1 i2 k1 k2
   go_wp2_with fail
   refine CE6.mono ?_
   rintro e w7 ⟨v7,rfl,hO7,hE7⟩
   have hF7:=hF6.trans hE7
   have hO8:=HO5.out.ext (hE6.trans hE7)
   have hr7:=hO7.row
   have hcl7:Clear (.slice Ap ps.length cp) v7:=Clear.own hO7 (fun q hq=>Nat.lt_of_lt_of_le (HO5.out.lt q hq).2 hE6.le)
   obtain ⟨A7,c7,rfl,-,-,-⟩:=hO7.form
   have hB8:=hF7.le
   have HO8:=hide hO8
   clear CE6 hF5 hF6 hE6 hE7 hO7 HO5
   rw [HPl.out] at hO8 hcl7
   go_wp2_with (first
    | (at_builtin;refine wpList_appP rfl (.tmp 46) (.tmp 48) rfl rfl hO8 hr7 hcl7 rfl hlen8 hB8 ?_;intro v9 w9 hO9 hG9;have hF9:Ext w w9:=Below.grown (hF7.alloc _) hG9 (hF7.alloc _).le (fun q hq=>(hO8.lt q hq).1);obtain ⟨A9,c9,hv9,-,-,hR9⟩:=hO9.form;have CA:=all_any A9 c9 (ps++[EB]) w9 hR9.parts HTot.out.2 HTot.out.1;unfold MadeB at CA;rw [List.length_append,List.length_singleton] at hv9 CA;subst hv9;clear hO9 hG9 hR9)
    | (go_at_call 18;refine CA.mono ?_;rintro e w10 ⟨v10,rfl,hO10,hE10⟩;have hF10:=hF9.trans hE10;have hO11:=hO10.mono hF9.le;clear CA hO10 hE10))
   go_ret2
   exact ⟨_,rfl,hO11,hF10⟩
  ·have HR:=hide (show makeE b k p l=([],6) from by rw [HDf.out,if_neg (by omega),if_pos hL])
   rw [HR.out]
   have hL6:=chk_not hL
   have CL:=fun W (hE:Ext w W)=>by have:=CL W hE;rw [hL6] at this;exact this
   unfold optC MadeE at *
   clear h hn hcr ht hw HDf hL hL6 hc
   go_enter Tryz.func7,Tryz.ntmps7
   go_wp2_with fail
   rw [← hw1]
   refine (CK _).mono ?_
   rintro e w2 ⟨rfl,hE2⟩
   have CL2:=CL w2 (HE1.out.trans hE2)
   clear CL CK
   go_wp2_with fail
   refine CL2.mono ?_
   rintro e w3 ⟨rfl,hE3⟩
   go_wp2
   go_ret2
   exact ⟨_,rfl,OwnB.nil _ _,(HE1.out.trans hE2).trans hE3⟩
 ·have HR:=hide (show makeE b k p l=([],chk 2 b k 0 0 0) from by rw [HDf.out,if_pos hc])
  rw [HR.out]
  have hcb:(chk 2 b k 0 0 0 == 0)=false:=by rw [beq_eq_false_iff_ne];exact hc
  generalize chk 2 b k 0 0 0=er at *
  unfold optC MadeE at *
  clear CL h hn hcr ht hw HDf
  go_enter Tryz.func7,Tryz.ntmps7
  go_wp2_with fail
  rw [← hw1]
  refine (CK _).mono ?_
  rintro e w2 ⟨rfl,hE2⟩
  go_wp2
  go_ret2
  exact ⟨_,rfl,OwnB.nil _ _,HE1.out.trans hE2⟩
end
section
open Go.RowKit Bdy Rcs Opt
set_option maxHeartbeats 8000000 in
set_option maxRecDepth 100000 in
theorem refMake20_any (b:Int)(p:Bool)(k d y c:Int)(A:Option Addr)(n cr:Nat)(l:List Rc)(w:World)(h:RcsAt w w.heap.size A n l)(hn:n≤cr)(hcr:cr≤maxLen)(hb:IsI64 b)(hw:checkE l=0→weightE l≤1500) :
  Calls Tryz.prog 8 #[.agg (optC b p k d y c),.slice A n cr] w (MadeE w (makeE b k p l).1 (makeE b k p l).2):=by
 have CK:=fun W=>refCheck20_any b p k d y c W
 have CL:=fun W (hE:Ext w W)=>refCheck17_any A n cr l W (h.later hE)
 obtain ⟨w1,hw1⟩:∃ w1,w1=w.alloc (.cells (optC b p k d y c) 23):=⟨_,rfl⟩
 have HE1:=hide (show Ext w w1 by rw [hw1];exact extNew w _)
 have HW:=hide (show Whole w1 w.heap.size 23 (optC b p k d y c) by rw [hw1];exact Whole.new w _ _)
 have HDf:=hide (show makeE b k p l=if chk 2 b k 0 0 0≠0 then ([],chk 2 b k 0 0 0) else if checkE l≠0 then ([],6) else _ from rfl)
 have s0:=HW.out.at 0 (u:=.int .i64 b) rfl
 have s1:=HW.out.at 1 (u:=.bool p) rfl
 have s2:=HW.out.at 2 (u:=.int .i64 k) rfl
 have s3:=HW.out.at 3 (u:=.int .i64 d) rfl
 have s4:=HW.out.at 4 (u:=.int .i64 y) rfl
 have s5:=HW.out.at 5 (u:=.int .i64 c) rfl
 rw [hw1] at s0 s1 s2 s3 s4 s5
 by_cases hc:chk 2 b k 0 0 0=0
 ·rw [hc] at CK
  by_cases hL:checkE l=0
  ·obtain ⟨-,hk1,hk2⟩:=chk_facts hc
   have hwl:=hw hL
   have hll:=h.1
   have HR:=hide (show makeE b k p l=(joinE l.length (groupsN b l) (framesTo p l (groupsN b l) (groupsN b l).length) (columnsE l) (Pst.bytesE k l.length (Pst.buildE l)).1,0) from by rw [HDf.out,if_neg (by omega),if_neg (by omega)])
   rw [HR.out]
   have hl93:=len_small hwl
   have hfew:=groups_few b l
   have hgz:∀ j,j < (groupsN b l).length→(groupsN b l).getD j 0≤100000:=fun j hj=>by have:=part_le b l hj;omega
   have hfz:∀ s,s∈framesTo p l (groupsN b l) (groupsN b l).length→s.length≤1000000:=fun s hs=>by have:=frames_small hwl p (groupsN b l) _ s hs;omega
   have hfl:=frames_len p l (groupsN b l) (groupsN b l).length
   obtain ⟨ix1,ix2⟩:=index_ok ⟨hk1,hk2⟩ hwl
   obtain ⟨iy1,iy2,iy3,iy4⟩:=index_facts hwl
   have hcol:=columns_small hwl
   have CFr:=fun W (hE:Ext w W)=>refFrames20_any b p k d y c A n cr l W (h.later hE) hn hcr hb hwl
   have CX:=fun W (hE:Ext w W)=>refBuild18_any A n cr l W (h.later hE) (by omega)
   have CC:=fun W (hE:Ext w W)=>refColumns17_any A n cr l W (h.later hE) (by omega)
   have CY:∀ (m:IxV) (W:World),m.x=Pst.buildE l→m.lies W→Calls Tryz.prog 21 #[.int .i64 k,.int .i64 (n:Int),.agg #[.slice m.a1 m.n1 m.c1,.slice m.a2 m.n2 m.c2]] W (MadeE W (Pst.bytesE k l.length (Pst.buildE l)).1 0):=fun m W hx hm=>by
    have:=refBytes18_any k (n:Int) m W hm (by omega) (by have:=hm.1.2.2.1;rw [hx] at this;omega) (fun s hs=>by rw [hx] at hs;have:=iy3 s hs;omega) (fun s hs=>by rw [hx] at hs;have:=iy4 s hs;omega)
    rw [hx,← hll,ix1] at this
    rw [← hll]
    exact this
   rw [hll] at *
   generalize (Pst.bytesE k n (Pst.buildE l)).1=I at *
   generalize columnsE l=K at *
   generalize groupsN b l=gs at *
   generalize framesTo p l gs gs.length=fs at *
   obtain ⟨ng,hng⟩:∃ g,g=gs.length:=⟨_,rfl⟩
   rw [← hng] at hfew hgz hfl CFr
   have CJ:=fun W Af cf Ag cg Ac cc Ai ci hP hI hcb hib=>refJoin20_any n Af Ag Ac Ai cf ng cg K.length cc I.length ci gs fs K I W hP hI hcb hib (by omega) (by omega) hgz hfz (by omega) (by omega)
   generalize joinE n gs fs K I=J at *
   have CL:=fun W (hE:Ext w W)=>by have:=CL W hE;rw [hL] at this;exact this
   unfold FramesTo at CFr
   unfold BuildTo at CX
   unfold MadeB at CC CJ
   unfold MadeE at CY ⊢
   unfold optC at *
   clear h hn hcr hw hwl hll hgz hfz hl93 hfew hng HR HDf hL hc hk1 hk2 hb ix1 ix2 iy1 iy2 iy3 iy4 hcol
   have HFl:=hide hfl
   clear hfl
   go_enter Tryz.func8,Tryz.ntmps8
   go_wp2_with fail
   rw [← hw1]
   clear s0 s1 s2 s3 s4 s5 hw1
   refine (CK _).mono ?_
   rintro e w2 ⟨rfl,hE2⟩
   have hF2:=HE1.out.trans hE2
   have CL2:=CL w2 hF2
   clear CK CL
   go_wp2_with fail
   refine CL2.mono ?_
   rintro e w3 ⟨rfl,hQ3⟩
   have hE3:=hQ3.ext
   have hF3:=hF2.trans hE3
   have CF3:=CFr w3 hF3
   have HW3:=hide (HW.out.ext (hE2.trans hE3))
   have s0:=HW3.out.at 0 (u:=.int .i64 b) rfl
   have s1:=HW3.out.at 1 (u:=.bool p) rfl
   have s2:=HW3.out.at 2 (u:=.int .i64 k) rfl
   have s3:=HW3.out.at 3 (u:=.int .i64 d) rfl
   have s4:=HW3.out.at 4 (u:=.int .i64 y) rfl
   have s5:=HW3.out.at 5 (u:=.int .i64 c) rfl
   clear CL2 CFr hF2 hE3 hE2 hQ3 HW
   go_wp2_with fail
   refine CF3.mono ?_
   rintro e w4 ⟨v4,Ag,cg,rfl,hO4,-,hI4,hE4⟩
   obtain ⟨Af,cf,rfl,-,-,hRf⟩:=hO4.form
   have hF4:=hF3.trans hE4
   have HW4:=hide (HW3.out.ext hE4)
   have HPf:=hide hRf.parts
   have HI4:=hide hI4
   rw [HFl.out] at HPf
   clear s0 s1 s2 s3 s4 s5 CF3 hO4 hI4 hRf hE4 hF3 HW3
   go_wp2_with fail
   refine wp_region_T (fun W=>Ext w4 W) 6 12 #[false,false,false,false,false,false,false,false,false,false,false,false] (by kernel_rfl) rfl rfl (Ext.refl w4).drew ?_
   intro hS0
   refine wpAnyT_take 0 (some 26) (.pointer (some ⟨w.heap.size,2,none⟩)) _ rfl rfl rfl (by kernel_rfl) (fun _ _ _ h=>h) hS0 (by rfl) (fun W hX=>by go_simp) ?_
   simp only [sP]
   refine wpAnyT_take 1 (some 27) (.int .i64 k) _ rfl rfl rfl (by kernel_rfl) (fun _ _ _ h=>h) hS0 (by rfl) (fun W hX=>by have s0:=(HW4.out.ext hX).at 2 (u:=.int .i64 k) rfl;go_simp) ?_
   simp only [sP]
   refine wpAnyT_take 2 (some 28) (.slice A n cr) _ rfl rfl rfl (by kernel_rfl) (fun _ _ _ h=>h) hS0 (by rfl) (fun W hX=>by go_simp) ?_
   simp only [sP]
   refine wpAnyT_take 3 (some 29) (.int .i64 (n:Int)) _ rfl rfl rfl (by kernel_rfl) (fun _ _ _ h=>h) hS0 (by rfl) (fun W hX=>by go_simp) ?_
   simp only [sP]
   refine wpAnyT_take 4 (some 30) (.slice A n cr) _ rfl rfl rfl (by kernel_rfl) (fun _ _ _ h=>h) hS0 (by rfl) (fun W hX=>by go_simp) ?_
   simp only [sP]
   refine wpAnyT_only 5 _ (by kernel_rfl) rfl rfl (by rfl) (fun K0 hK0=>?_)
   go_simp
   go_at_call 22
   refine (CX _ (hF4.trans hS0)).mono ?_
   rintro e w5 ⟨m,rfl,hx,hm,hE5⟩
   have hS5:=hS0.trans hE5
   have CY5:=CY m w5 hx hm
   clear hE5 hm hx
   refine hK0 _ _ (fun _=>hS5) ?_
   clear hK0 K0
   refine wpAnyT_only 6 _ (by kernel_rfl) rfl rfl (by rfl) (fun K1 hK1=>?_)
   go_simp
   go_at_call 21
   refine CY5.mono ?_
   rintro e w6 ⟨v6,rfl,hO6,hE6⟩
   have hS6:=hS5.trans hE6
   obtain ⟨A6,c6,rfl,-,-,hb6⟩:=hO6.form
   clear CY5 hE6 hO6
   refine hK1 _ _ (fun h=>absurd h (by decide)) ?_
   clear hK1 K1
   refine wpAnyT_only 7 _ (by kernel_rfl) rfl rfl (by rfl) (fun K2 hK2=>?_)
   go_simp
   refine hK2 _ _ (fun h=>absurd h (by decide)) ?_
   clear hK2 K2
   refine wpAnyT_pure 8 (some 33) (.slice A6 I.length c6) _ rfl rfl rfl (by kernel_rfl) (fun _ _ _ h=>h) (fun h=>absurd h (by decide)) (by rfl) (fun W=>by go_simp) ?_
   simp only [sP]
   refine wpAnyT_pure 9 (some 34) (.int .i64 0) _ rfl rfl rfl (by kernel_rfl) (fun _ _ _ h=>h) (fun h=>absurd h (by decide)) (by rfl) (fun W=>by go_simp) ?_
   simp only [sP]
   refine wpAnyT_only 10 _ (by kernel_rfl) rfl rfl (by rfl) (fun K3 hK3=>?_)
   go_simp
   refine hK3 _ _ (fun h=>absurd h (by decide)) ?_
   clear hK3 K3
   refine wpAnyT_only 11 _ (by kernel_rfl) rfl rfl (by rfl) (fun K4 hK4=>?_)
   go_simp
   refine hK4 _ _ (fun h=>absurd h (by decide)) (wpAnyT_done (by kernel_rfl) ?_ _)
   clear hK4 K4
   have hF6:=hF4.trans hS6
   have CC6:=CC w6 hF6
   clear CX CY CC
   go_wp2_with fail
   refine CC6.mono ?_
   rintro e w7 ⟨v7,rfl,hO7,hE7⟩
   obtain ⟨A7,c7,rfl,-,-,hb7⟩:=hO7.form
   have hF7:=hF6.trans hE7
   have CJ7:=CJ w7 Af cf Ag cg A7 c7 A6 c6 (HPf.out.ext (hS6.trans hE7)) (HI4.out.later (hS6.trans hE7)) hb7 (hE7.bytes hb6)
   rw [HFl.out]
   clear CC6 CJ hO7 hb7 hb6
   go_wp2_with fail
   refine CJ7.mono ?_
   rintro e w8 ⟨v8,rfl,hO8,hE8⟩
   have hF8:=hF7.trans hE8
   have hO9:=hO8.mono hF7.le
   clear CJ7 hO8
   go_wp2
   go_ret2
   exact ⟨_,rfl,hO9,hF8⟩
  ·have HR:=hide (show makeE b k p l=([],6) from by rw [HDf.out,if_neg (by omega),if_pos hL])
   rw [HR.out]
   have hL6:=chk_not hL
   have CL:=fun W (hE:Ext w W)=>by have:=CL W hE;rw [hL6] at this;exact this
   unfold optC MadeE at *
   clear h hn hcr hw HDf hL hL6 hc
   go_enter Tryz.func8,Tryz.ntmps8
   go_wp2_with fail
   rw [← hw1]
   refine (CK _).mono ?_
   rintro e w2 ⟨rfl,hE2⟩
   have CL2:=CL w2 (HE1.out.trans hE2)
   clear CL CK
   go_wp2_with fail
   refine CL2.mono ?_
   rintro e w3 ⟨rfl,hQ3⟩
   go_wp2
   go_ret2
   exact ⟨_,rfl,OwnB.nil _ _,(HE1.out.trans hE2).trans hQ3.ext⟩
 ·have HR:=hide (show makeE b k p l=([],chk 2 b k 0 0 0) from by rw [HDf.out,if_pos hc])
  rw [HR.out]
  have hcb:(chk 2 b k 0 0 0 == 0)=false:=by rw [beq_eq_false_iff_ne];exact hc
  generalize chk 2 b k 0 0 0=er at *
  unfold optC MadeE at *
  clear CL h hn hcr hw HDf
  go_enter Tryz.func8,Tryz.ntmps8
  go_wp2_with fail
  rw [← hw1]
  refine (CK _).mono ?_
  rintro e w2 ⟨rfl,hE2⟩
  go_wp2
  go_ret2
  exact ⟨_,rfl,OwnB.nil _ _,HE1.out.trans hE2⟩
end
section
open Go.RowKit Bdy Rcs Opt
theorem Bdy.make_none:makeE 16 1 false []=(joinE 0 [] [] [] [0],0):=by decide +kernel
set_option maxHeartbeats 2000000 in
set_option maxRecDepth 100000 in
theorem alive20_any {w W:World}(ht:Tab w)(hE:Ext w W):Calls Tryz.prog 4 #[] W fun e W'=>e=.returned (.bool true)∧Ext W W':=by
 have C:=bodyMake_any 16 false 1 0 0 0 none 0 0 [] W ⟨rfl,.inl rfl,by simp⟩ (Nat.le_refl _) (by unfold maxLen;omega) (by unfold IsI64;omega) (hE.tab ht ht.pos) (fun _=>by decide)
 rw [make_none] at C
 unfold MadeE at C
 dsimp only at C
 have CJ:=fun W2=>refJoin20_any 0 none none none (some ⟨World.heap W2 |>.size,0,none⟩) 0 0 0 0 0 1 1 [] [] [] [0] (W2.alloc (.cells #[.int .u8 0] 5)) ⟨rfl,.inl rfl⟩ ⟨rfl,.inl rfl⟩ (Bytes.none _ _ _) (bytesNew W2 [0] _ 5 (0,0) rfl 1 rfl) (by omega) (by omega) (fun j hj=>by omega) (fun s hs=>by simp at hs) (by omega) (by omega)
 unfold MadeB at CJ
 generalize joinE 0 [] [] [] [0]=x at *
 unfold optC at C
 go_enter Tryz.func4,Tryz.ntmps4
 go_wp2_with fail
 refine C.mono ?_
 rintro e w2 ⟨v2,rfl,hO2,hE2⟩
 have CJ2:=CJ w2
 clear C CJ
 go_wp2_with fail
 refine CJ2.mono ?_
 rintro e w4 ⟨v4,rfl,hO4,hE4⟩
 have hX:=(extNew w2 (.cells #[.int .u8 0] 5)).trans hE4
 obtain ⟨A2,c2,rfl,_,_,h2⟩:=(hO2.ext hX).form
 obtain ⟨A4,c4,rfl,_,_,h4⟩:=hO4.form
 have CS:=same_any _ _ _ _ c2 c4 _ _ _ h2 h4
 rw [sameB_true rfl] at CS
 clear CJ2 hO2 hO4 h2 h4
 generalize x.length=k at *
 go_wp2_with fail
 refine CS.mono ?_
 rintro e w5 ⟨rfl,hE5⟩
 go_wp2
 go_ret
 exact ⟨rfl,(hE2.trans hX).trans hE5⟩
set_option maxHeartbeats 4000000 in
set_option maxRecDepth 100000 in
theorem bodyMakes_walk (o:OptV)(A:Option Addr)(n c:Nat)(l:List Rc)(w:World)(ho:o.ok)(hn:n≤c)(hc:c≤maxLen)(h:RcsAt w w.heap.size A n l)(ht:Tab w) :
  Calls Tryz.prog 3 #[optV o,.slice A n c] w fun e w'=>e=.returned (.bool true)∧Ext w w':=by
 have hb:IsI64 o.block:=ho.1
 obtain ⟨b,p,k,d,y,cc⟩:=o
 unfold optV
 dsimp only at *
 have C0:=fun W (hE:Ext w W)=>alive20_any ht hE
 have CK:=fun W (hE:Ext w W)=>refCheck17_any A n c l W (h.later hE)
 have CG:=fun W (hE:Ext w W)=>refGreat17_any A n c l 30 1500 W (h.later hE) (by omega)
 obtain ⟨w1,hw1⟩:∃ w1,w1=w.alloc (.cells (optC b p k d y cc) 23):=⟨_,rfl⟩
 have HE1:=hide (show Ext w w1 by rw [hw1];exact extNew w _)
 have HW:=hide (show Whole w1 w.heap.size 23 (optC b p k d y cc) by rw [hw1];exact Whole.new w _ _)
 clear ho
 by_cases hL:checkE l=0
 ·have CK:=fun W (hE:Ext w W)=>by have:=CK W hE;rw [hL] at this;exact this
  cases hg:greatE l 30 1500 with
  | true =>
   unfold optC at *
   clear h hn hc hb ht HW
   go_enter Tryz.func3,Tryz.ntmps3
   go_wp2_with fail
   rw [← hw1]
   clear hw1
   refine (C0 _ HE1.out).mono ?_
   rintro e w2 ⟨rfl,hE2⟩
   have hF2:=HE1.out.trans hE2
   have CK2:=CK w2 hF2
   clear C0 CK
   go_wp2_with fail
   refine CK2.mono ?_
   rintro e w3 ⟨rfl,hQ3⟩
   have hF3:=hF2.trans hQ3.ext
   have CG3:=CG w3 hF3
   rw [hg] at CG3
   clear CK2 CG
   go_wp2_with fail
   refine CG3.mono ?_
   rintro e w4 ⟨rfl,hQ4⟩
   go_wp2
   go_ret
   exact ⟨rfl,hF3.trans hQ4.ext⟩
  | false =>
   have hw:checkE l=0→weightE l≤1500:=fun _=>by have:=(great_no hg (by omega)).2;omega
   have CM:=fun W (hE:Ext w W)=>bodyMake_any b p k d y cc A n c l W (h.later hE) hn hc hb (hE.tab ht ht.pos) hw
   have CR:=fun W (hE:Ext w W)=>refMake20_any b p k d y cc A n c l W (h.later hE) hn hc hb hw
   generalize (makeE b k p l).1=res at *
   generalize (makeE b k p l).2=er at *
   have hee:((er:Int) == (er:Int))=true:=by simp
   unfold MadeE at CM CR
   unfold optC at *
   clear hw h hn hc hb ht
   go_enter Tryz.func3,Tryz.ntmps3
   go_wp2_with fail
   rw [← hw1]
   clear hw1
   refine (C0 _ HE1.out).mono ?_
   rintro e w2 ⟨rfl,hE2⟩
   have hF2:=HE1.out.trans hE2
   have CK2:=CK w2 hF2
   clear C0 CK
   go_wp2_with fail
   refine CK2.mono ?_
   rintro e w3 ⟨rfl,hQ3⟩
   have hX3:=hE2.trans hQ3.ext
   have hF3:=hF2.trans hQ3.ext
   clear CK2 hE2 hQ3 hF2
   have CG3:=CG w3 hF3
   rw [hg] at CG3
   clear CG
   go_wp2_with fail
   refine CG3.mono ?_
   rintro e w4 ⟨rfl,hQ4⟩
   have hX3:=hX3.trans hQ4.ext
   have hF3:=hF3.trans hQ4.ext
   clear CG3 hQ4
   have HWx:=hide (HW.out.ext hX3)
   have s0:=HWx.out.at 0 (u:=.int .i64 b) rfl
   have s1:=HWx.out.at 1 (u:=.bool p) rfl
   have s2:=HWx.out.at 2 (u:=.int .i64 k) rfl
   have s3:=HWx.out.at 3 (u:=.int .i64 d) rfl
   have s4:=HWx.out.at 4 (u:=.int .i64 y) rfl
   have s5:=HWx.out.at 5 (u:=.int .i64 cc) rfl
   have CM3:=CM _ hF3
   clear CM
   go_wp2_with fail
   refine CM3.mono ?_
   rintro e w5 ⟨v5,rfl,hO5,hE5⟩
   clear s0 s1 s2 s3 s4 s5 CM3
   have hF5:=hF3.trans hE5
   have HWy:=hide (HWx.out.ext hE5)
   have s0:=HWy.out.at 0 (u:=.int .i64 b) rfl
   have s1:=HWy.out.at 1 (u:=.bool p) rfl
   have s2:=HWy.out.at 2 (u:=.int .i64 k) rfl
   have s3:=HWy.out.at 3 (u:=.int .i64 d) rfl
   have s4:=HWy.out.at 4 (u:=.int .i64 y) rfl
   have s5:=HWy.out.at 5 (u:=.int .i64 cc) rfl
   have CR5:=CR _ hF5
   clear CR
   go_wp2_with fail
   refine CR5.mono ?_
   rintro e w6 ⟨v6,rfl,hO6,hE6⟩
   clear s0 s1 s2 s3 s4 s5 CR5
   have hF6:=hF5.trans hE6
   obtain ⟨A5,c5,rfl,_,_,h5⟩:=(hO5.ext hE6).form
   obtain ⟨A6,c6,rfl,_,_,h6⟩:=hO6.form
   have CS:=same_any _ _ _ _ c5 c6 _ _ _ h5 h6
   rw [sameB_true rfl] at CS
   clear hO5 hO6 h5 h6 hE5 hE6
   generalize res.length=m at *
   go_wp2_with fail
   refine CS.mono ?_
   rintro e w7 ⟨rfl,hE7⟩
   go_wp2
   go_ret
   exact ⟨rfl,hF6.trans hE7⟩
 ·have hL6:=chk_not hL
  have CK:=fun W (hE:Ext w W)=>by have:=CK W hE;rw [hL6] at this;exact this
  have hw:checkE l=0→weightE l≤1500:=fun h0=>absurd h0 hL
  have CM:=fun W (hE:Ext w W)=>bodyMake_any b p k d y cc A n c l W (h.later hE) hn hc hb (hE.tab ht ht.pos) hw
  have CR:=fun W (hE:Ext w W)=>refMake20_any b p k d y cc A n c l W (h.later hE) hn hc hb hw
  generalize (makeE b k p l).1=res at *
  generalize (makeE b k p l).2=er at *
  have hee:((er:Int) == (er:Int))=true:=by simp
  unfold MadeE at CM CR
  unfold optC at *
  clear hw h hn hc hb ht
  go_enter Tryz.func3,Tryz.ntmps3
  go_wp2_with fail
  rw [← hw1]
  clear hw1
  refine (C0 _ HE1.out).mono ?_
  rintro e w2 ⟨rfl,hE2⟩
  have hF2:=HE1.out.trans hE2
  have CK2:=CK w2 hF2
  clear C0 CK
  go_wp2_with fail
  refine CK2.mono ?_
  rintro e w3 ⟨rfl,hQ3⟩
  have hX3:=hE2.trans hQ3.ext
  have hF3:=hF2.trans hQ3.ext
  clear CK2 hE2 hQ3 hF2
  have HWx:=hide (HW.out.ext hX3)
  have s0:=HWx.out.at 0 (u:=.int .i64 b) rfl
  have s1:=HWx.out.at 1 (u:=.bool p) rfl
  have s2:=HWx.out.at 2 (u:=.int .i64 k) rfl
  have s3:=HWx.out.at 3 (u:=.int .i64 d) rfl
  have s4:=HWx.out.at 4 (u:=.int .i64 y) rfl
  have s5:=HWx.out.at 5 (u:=.int .i64 cc) rfl
  have CM3:=CM _ hF3
  clear CM
  go_wp2_with fail
  refine CM3.mono ?_
  rintro e w5 ⟨v5,rfl,hO5,hE5⟩
  clear s0 s1 s2 s3 s4 s5 CM3
  have hF5:=hF3.trans hE5
  have HWy:=hide (HWx.out.ext hE5)
  have s0:=HWy.out.at 0 (u:=.int .i64 b) rfl
  have s1:=HWy.out.at 1 (u:=.bool p) rfl
  have s2:=HWy.out.at 2 (u:=.int .i64 k) rfl
  have s3:=HWy.out.at 3 (u:=.int .i64 d) rfl
  have s4:=HWy.out.at 4 (u:=.int .i64 y) rfl
  have s5:=HWy.out.at 5 (u:=.int .i64 cc) rfl
  have CR5:=CR _ hF5
  clear CR
  go_wp2_with fail
  refine CR5.mono ?_
  rintro e w6 ⟨v6,rfl,hO6,hE6⟩
  clear s0 s1 s2 s3 s4 s5 CR5
  have hF6:=hF5.trans hE6
  obtain ⟨A5,c5,rfl,_,_,h5⟩:=(hO5.ext hE6).form
  obtain ⟨A6,c6,rfl,_,_,h6⟩:=hO6.form
  have CS:=same_any _ _ _ _ c5 c6 _ _ _ h5 h6
  rw [sameB_true rfl] at CS
  clear hO5 hO6 h5 h6 hE5 hE6
  generalize res.length=m at *
  go_wp2_with fail
  refine CS.mono ?_
  rintro e w7 ⟨rfl,hE7⟩
  go_wp2
  go_ret
  exact ⟨rfl,hF6.trans hE7⟩
end
end Go.Proofs.YtacgkefnlbnckaaGreatDoor
