/- The program's frames: squeeze, Write. Chapter 21: the program's blocks of a log, one behind the other. Chapter 21: the program's Pack. Chapter 21: OnePacks. -/
import Derived.Test.YtaogpmombefmmaaGreatDoorB02
import Derived.Test.YtaogpmombefmmaaGreatDoorB03
import Derived.Test.YtaogpmombefmmaaGreatDoorB09
import Derived.Test.YtaogpmombefmmaaGreatDoorB15
import Derived.Test.YtaogpmombefmmaaGreatDoorB19
import Derived.Test.YtaogpmombefmmaaGreatDoorB20
import Derived.Test.YtaogpmombefmmaaGreatDoorB30
import Derived.Test.YtaogpmombefmmaaGreatDoorB32
import Derived.Test.YtaogpmombefmmaaGreatDoorB33
import Derived.Test.YtaogpmombefmmaaGreatDoorB34
import Derived.Test.YtaogpmombefmmaaGreatDoorB37
import Derived.Test.YtaogpmombefmmaaGreatDoorB51
namespace Go.Proofs.YtaogpmombefmmaaGreatDoor
section
open Go.RowKit Num Lz Tok Blk
set_option maxHeartbeats 2000000 in
set_option maxRecDepth 100000 in
theorem squeeze_any (A:Option Addr)(n c:Nat)(b:List UInt8)(w:World)(hb:b.length≤32768)(hc:n≤c)(h:Bytes w w.heap.size A n b) :
  Calls Tryz.prog 47 #[.slice A n c] w (MadeE w (squeeze b) 0):=by
 have hl:=h.1
 have C1:=lzFind_any A n c b w (by omega) hc h
 have hT:=toks_len b 0
 have hok:=toks_ok b 0
 have HW:=hide (write_toks hb)
 have HS:=hide (show squeeze b=Bit.pack (writeB (toks b 0)) from rfl)
 clear h
 generalize toks b 0=T at *
 go_enter Tryz.func47,Tryz.ntmps47
 go_wp2_with fail
 refine C1.mono ?_
 rintro e w1 ⟨v1,rfl,hO1,hE1⟩
 obtain ⟨A1,c1,rfl,-,-,hT1⟩:=hO1.at hok
 have C2:=twrite_any A1 T.length c1 T w1 (by omega) hT1
 rw [HW.out] at C2
 clear C1 hT1
 go_wp2_with fail
 refine C2.mono ?_
 rintro e w2 ⟨v2,l2,rfl,hO2,hp2,-,hE2⟩
 have hpk:=(hp2 rfl).is
 subst hpk
 obtain ⟨A2,n2,c2,rfl,_⟩:=hO2.form'
 clear C2 hp2
 go_wp2
 go_ret2
 exact ⟨_,rfl,by rw [HS.out];exact hO2.mono hE1.le,hE1.trans hE2⟩
set_option maxHeartbeats 4000000 in
set_option maxRecDepth 100000 in
theorem bwrite_any (A:Option Addr)(n c:Nat)(b:List UInt8)(plain:Bool)(w:World)(hc:n≤c)(ht:Tab w)(h:Bytes w w.heap.size A n b) :
  Calls Tryz.prog 33 #[.slice A n c,.bool plain] w (MadeE w (writeF b plain).1 (writeF b plain).2):=by
 have hl:=h.1
 subst hl
 by_cases hbig:32768 < b.length
 ·have hbI:(32768:Int) < (b.length:Int):=by omega
  have HN:=hide (show writeF b plain=([],6) by unfold writeF;rw [if_pos hbig])
  rw [HN.out]
  clear HN
  go_enter Tryz.func33,Tryz.ntmps33
  go_wp2
  go_ret2
  exact ⟨_,rfl,OwnB.nil _ _,Ext.refl _⟩
 have hbI:¬ (32768:Int) < (b.length:Int):=by omega
 have h0:=ht.pos
 have HB:=hide h
 have HT:=hide ht
 have HN:=hide (show writeF b plain=(Crc.put (headB b plain++bodyOf b plain),0) by unfold writeF;rw [if_neg hbig];rfl)
 rw [HN.out]
 clear HN h ht
 have HAs:=fun (hu:useS b plain=false)=>show Crc.put (UInt8.ofNat 0 :: (enc b.length++enc b.length)++b)=Crc.put (headB b plain++bodyOf b plain) by
  unfold headB bodyOf wayOf
  rw [hu]
  rfl
 have HSq:=fun (hu:useS b plain=true)=>show Crc.put (UInt8.ofNat 1 :: (enc b.length++enc (squeeze b).length)++squeeze b)=Crc.put (headB b plain++bodyOf b plain) by
  unfold headB bodyOf wayOf
  rw [hu]
  rfl
 have HU:=hide (show useS b plain=(!plain && decide ((squeeze b).length < b.length)) from rfl)
 have CS:=fun W (hE:Ext w W)=>squeeze_any A b.length c b W (by omega) hc (hE.bytes HB.out)
 have CF:=fun W (hE:Ext w W)=>fbytes_any 0 b.length A b.length c b W (by omega) (by omega) (by omega) (hE.tab HT.out h0) (hE.bytes HB.out)
 have HAs:=hide HAs
 have HSq:=hide HSq
 generalize Crc.put (headB b plain++bodyOf b plain)=Y at *
 generalize useS b plain=us at *
 generalize hsq:squeeze b=sq at *
 clear hsq
 unfold frameV at CF
 cases plain with
 | true =>
  have hY:=HAs.out (by rw [HU.out];rfl)
  rw [hY] at CF
  have CF0:=CF w (Ext.refl w)
  clear HAs HSq HU CS CF
  go_enter Tryz.func33,Tryz.ntmps33
  go_wp2_with fail
  refine CF0.mono ?_
  rintro e w1 ⟨v1,rfl,hO1,hE1⟩
  obtain ⟨A1,n1,c1,rfl,_⟩:=hO1.form'
  go_wp2
  go_ret2
  exact ⟨_,rfl,hO1,hE1⟩
 | false =>
  have CS0:=CS w (Ext.refl w)
  clear CS
  by_cases hs:sq.length < b.length
  ·have hsI:(sq.length:Int) < (b.length:Int):=by omega
   have hY:=HSq.out (by rw [HU.out];simp [hs])
   clear HAs HSq HU CF
   go_enter Tryz.func33,Tryz.ntmps33
   go_wp2_with fail
   refine CS0.mono ?_
   rintro e w1 ⟨v1,rfl,hO1,hE1⟩
   obtain ⟨A1,c1,rfl,-,-,hb1⟩:=hO1.form
   have CF1:=fbytes_any 1 b.length A1 sq.length c1 sq w1 (by omega) (by omega) (by omega) (hE1.tab HT.out h0) hb1
   rw [hY] at CF1
   unfold frameV at CF1
   clear CS0 hY hb1
   go_wp2_with fail
   refine CF1.mono ?_
   rintro e w2 ⟨v2,rfl,hO2,hE2⟩
   obtain ⟨A2,n2,c2,rfl,_⟩:=hO2.form'
   go_wp2
   go_ret2
   exact ⟨_,rfl,hO2.mono hE1.le,hE1.trans hE2⟩
  ·have hsI:¬ (sq.length:Int) < (b.length:Int):=by omega
   have hY:=HAs.out (by rw [HU.out];simp [hs])
   rw [hY] at CF
   clear HAs HSq HU
   go_enter Tryz.func33,Tryz.ntmps33
   go_wp2_with fail
   refine CS0.mono ?_
   rintro e w1 ⟨v1,rfl,hO1,hE1⟩
   obtain ⟨A1,c1,rfl,-,-,-⟩:=hO1.form
   have CF1:=CF w1 hE1
   clear CS0 CF hY
   go_wp2_with fail
   refine CF1.mono ?_
   rintro e w2 ⟨v2,rfl,hO2,hE2⟩
   obtain ⟨A2,n2,c2,rfl,_⟩:=hO2.form'
   go_wp2
   go_ret2
   exact ⟨_,rfl,hO2.mono hE1.le,hE1.trans hE2⟩
end
section
open Go.RowKit Arc Rcs
theorem run_topR1 (W:World)(a:Option Addr)(n c:Nat)(k:IntKind)(h:Int)(h0:0≤h)(h2:h≤c) :
  (Instr.slice 24 (.slice a n c) none (some (.int k h)) none).run Tryz.prog W=.ok (.slice a h.toNat c) W:=by
 rw [run_slice_h (P:=Tryz.prog) (w:=W) 24 a n c (by kernel_rfl) k h h0 h2]
 have hs:(sizeOf (Tryz.prog.elem 24)).run Tryz.prog W=.ok 4 W:=by kernel_rfl
 rw [hs]
 rcases a with _ | ⟨b,o,s⟩ <;> simp [Result.andThen,sliced,Addr.add]
def cutR1 (a:Option Addr)(c k:Nat):Option Addr:=if c=k then a else a.map (·.add (k*4))
theorem run_dropR1 (W:World)(a:Option Addr)(n c:Nat)(k:IntKind)(l:Int)(h0:0≤l)(h1:l≤n) :
  (Instr.slice 24 (.slice a n c) (some (.int k l)) none none).run Tryz.prog W=.ok (.slice (cutR1 a c l.toNat) (n-l.toNat) (c-l.toNat)) W:=by
 rw [run_slice_l (P:=Tryz.prog) (w:=W) 24 a n c (by kernel_rfl) k l h0 h1]
 have hs:(sizeOf (Tryz.prog.elem 24)).run Tryz.prog W=.ok 4 W:=by kernel_rfl
 rw [hs]
 simp [Result.andThen,sliced,cutR1]
attribute [local go_sem ↓] run_dropR1
set_option maxHeartbeats 8000000 in
set_option maxRecDepth 100000 in
theorem oneBlocks_any (p:Bool)(Ag A:Option Addr)(ng cg n cr:Nat)(gs:List Nat)(l:List Rc)(w:World)(hI:IntsAt w w.heap.size Ag ng (gs.map fun (k:Nat)=>(k:Int)))(hng:ng≤93)
  (hgs:∀ j,j < ng→upTo gs j+gs.getD j 0≤l.length) (h:RcsAt w w.heap.size A n l) (hn:n≤cr) (hcr:cr≤maxLen) (hw:weightE l≤1500) (ht:Tab w) :
  Calls Tryz.prog 16 #[.bool p,.slice Ag ng cg,.slice A n cr] w (MadeE w (framesTo p l gs ng).flatten 0):=by
 have hgl:gs.length=ng:=by have:=hI.1;simpa using this
 have hll:=h.1
 have hn93:n≤93:=by rw [← hll];exact len_small hw
 have HT:=hide (And.intro ht ht.pos)
 have HI:=hide hI
 have HRc:=hide h
 have HUp:=hide (fun j (hj:j < ng)=>upTo_next (gs:=gs) (j:=j) (by omega))
 have HGs:=hide (show ∀ j,j < ng→upTo gs j+gs.getD j 0≤n∧(gs.map fun (k:Nat)=>(k:Int)).getD j 0=((gs.getD j 0:Nat):Int) from fun j hj=>⟨by rw [← hll];exact hgs j hj,by simp [show j < gs.length by omega]⟩)
 have HFn:=hide (flat_next p l gs)
 have HFl:=hide (flat_small hw p gs)
 have HF0:=hide (show (framesTo p l gs 0).flatten=[] from rfl)
 have HU0:=hide (upTo_zero gs)
 have HWr:=hide (fun i j=>write_ok (l:=(l.drop i).take j) (Nat.le_trans (weight_part l i j) hw) p)
 have HFa:=hide (show ∀ j,frameAt p l gs j=(Blk.writeF (bytesB true ((l.drop (upTo gs j)).take (gs.getD j 0))) p).1 from fun _=>rfl)
 have HDr:=hide (fun i j=>show (l.drop i).drop j=l.drop (i+j) from List.drop_drop)
 have HWt:=hide hw
 unfold MadeE
 clear hI hgs h hw ht hll hgl
 go_enter Tryz.func16,Tryz.ntmps16
 go_wp2
 go_loopw [17,8,9] (fun z v lf wr=>∃ (j:Nat) (A9:Option Addr) (c9:Nat),j≤ng∧z=.int .i64 (j:Int)∧upTo gs j≤n∧lf=.slice A9 (n-upTo gs j) c9∧n-upTo gs j≤c9∧c9≤maxLen∧RcsAt w w.heap.size A9 (n-upTo gs j) (l.drop (upTo gs j))∧OwnB wr w.heap.size v (framesTo p l gs j).flatten∧Ext w wr) (fun z _ _ _=>ng-(intOf z).toNat)
 case atStart=>exact ⟨0,A,cr,by omega,rfl,by rw [HU0.out];omega,by rw [HU0.out];rfl,by omega,hcr,by rw [HU0.out];exact HRc.out,by rw [HF0.out];exact OwnB.nil _ _,Ext.refl _⟩
 case round =>
  obtain ⟨j,A9,c9,hj,rfl,hu,rfl,hc9,hm9,hR9,hO,hE⟩:=hrel
  have HO:=hide hO
  have HE:=hide hE
  have HR9:=hide hR9
  have HM9:=hide (And.intro hc9 hm9)
  clear hO hE hR9
  by_cases hlt:j < ng
  ·have hjI:(j:Int) < (ng:Int):=by omega
   obtain ⟨bg,og,rfl,hcg,hlg⟩:=HI.out.cellQ hlt
   obtain ⟨z1,z2⟩:=HGs.out j hlt
   have hun:=HUp.out j hlt
   rw [z2] at hcg
   have hcg2:=(HE.out.cell hlg).trans hcg
   obtain ⟨q1,q2⟩:=HWr.out (upTo gs j) (gs.getD j 0)
   have HFj:=hide (HFn.out j)
   rw [HFa.out] at HFj
   have HDj:=hide (HDr.out (upTo gs j) (gs.getD j 0))
   have HWj:=hide (Nat.le_trans (weight_part l (upTo gs j) (gs.getD j 0)) HWt.out)
   obtain ⟨x,hx⟩:∃ x,x=gs.getD j 0:=⟨_,rfl⟩
   obtain ⟨U,hU⟩:∃ U,U=upTo gs j:=⟨_,rfl⟩
   rw [← hx] at hcg2 z1 hun q1 q2 HFj HDj HWj
   rw [← hU] at hun z1 q1 q2 HFj HDj HR9 hu hc9 HWj
   have hxn:x≤n-U:=by omega
   have HPt:=hide (HR9.out.top hxn)
   have HCt:=hide (HR9.out.cut hxn hc9)
   rw [HDj.out] at HCt
   have CB:=fun W (hE:Ext w W)=>pBytes17_any true A9 x c9 ((l.drop U).take x) W (HPt.out.later hE) (by have:=HWj.out;omega)
   generalize bytesB true ((l.drop U).take x)=D at *
   have CW:=fun W (hE:Ext w W) A c (hc:D.length≤c) (hb:Bytes W W.heap.size A D.length D)=>bwrite_any A D.length c D p W hc (hE.tab HT.out.1 HT.out.2) hb
   rw [q1] at CW
   generalize (Blk.writeF D p).1=F at *
   unfold MadeB at CB
   unfold MadeE at CW
   have HTop:=hide (fun (W:World)=>show (Instr.slice 24 (.slice A9 (n-U) c9) none (some (.int .i64 (x:Int))) none).run Tryz.prog W=.ok (.slice A9 x c9) W from by
    rw [run_topR1 W _ _ _ _ _ (by omega) (by omega),Int.toNat_natCast])
   have HUn:=hide hun
   have HQ:=hide (And.intro (HFl.out j) q2)
   rw [← hU]
   clear hcg z2 q1 q2 hx hU hun
   go_wp2_with fail
   refine (CB _ HE.out).mono ?_
   rintro e w3 ⟨v3,rfl,hO3,hE3⟩
   obtain ⟨A3,c3,rfl,hc3,hm3,hb3⟩:=hO3.form
   have CW3:=CW _ (HE.out.trans hE3) A3 c3 hc3 hb3
   clear hO3 hb3
   go_wp2_with fail
   refine CW3.mono ?_
   rintro e w4 ⟨v4,rfl,hO4,hE4⟩
   have hS4:=hE3.trans hE4
   obtain ⟨A4,c4,rfl,hc4,hm4,hb4⟩:=hO4.form
   clear CW3 hE4 hO4 hE3
   have hx0:(0:Int)≤(x:Int):=by omega
   have hxI:(x:Int)≤((n-U:Nat):Int):=by omega
   have hO5:=HO.out.ext hS4
   have hS5:=HE.out.trans hS4
   have hB5:=hS5.le
   have hfit5:(framesTo p l gs j).flatten.length+F.length≤140737488355328:=by have:=HQ.out;omega
   go_wp2_with (at_builtin;refine wpList_app rfl (.tmp 33) (.tmp 34) rfl rfl hO5 rfl hb4 hfit5 hB5 ?_;intro v9 w9 hO9 hG9;have hF9:Ext w w9:=OwnB.below hO5 hS5 hG9 hB5;clear hG9 hO5)
   go_roundw
   case rel=>exact ⟨j+1,cutR1 A9 c9 x,c9-x,by omega,by go_num,by rw [HUn.out];omega,by rw [HUn.out,Nat.sub_add_eq],by rw [HUn.out];have:=HM9.out;omega,by have:=HM9.out;omega,by rw [HUn.out,Nat.sub_add_eq];exact HCt.out,by rw [HFj.out];exact hO9,hF9⟩
   case measure=>simp [intOf];omega
  ·have hjI:¬ (j:Int) < (ng:Int):=by omega
   obtain rfl:ng=j:=by omega
   go_wp2
   go_ret2
   exact ⟨_,rfl,HO.out,HE.out⟩
end
section
open Go.RowKit Arc Rcs Opt
theorem partsTwoNew (w:World){A1 A2:Option Addr}{n1 c1 n2 c2:Nat}{a b:List UInt8}(t:TypeId)(h1:Bytes w w.heap.size A1 n1 a)(h2:Bytes w w.heap.size A2 n2 b)(m1:n1≤maxLen)(m2:n2≤maxLen) :
  Parts (w.alloc (.cells #[.slice A1 n1 c1,.slice A2 n2 c2] t)) (w.alloc (.cells #[.slice A1 n1 c1,.slice A2 n2 c2] t)).heap.size (some ⟨w.heap.size,0,none⟩) 2 [a,b]:=by
 have hE:=extNew w (.cells #[.slice A1 n1 c1,.slice A2 n2 c2] t)
 refine ⟨rfl,.inr ⟨w.heap.size,0,rfl,by simp,fun i hi=>?_⟩⟩
 match i,hi with
 | 0,_=>exact ⟨A1,n1,c1,cellNew _ _ _ _ _,m1,hE.bytes h1⟩
 | 1,_=>exact ⟨A2,n2,c2,cellNew _ _ _ _ _,m2,hE.bytes h2⟩
set_option maxHeartbeats 8000000 in
set_option maxRecDepth 100000 in
theorem onePack_any (b:Int)(p:Bool)(k d y c:Int)(A:Option Addr)(n cr:Nat)(l:List Rc)(w:World)(h:RcsAt w w.heap.size A n l)(hn:n≤cr)(hcr:cr≤maxLen)(hb:IsI64 b)(hy:y≤9223372036854775807)(ht:Tab w)(hw:checkE l=0→weightE l≤1500) :
  Calls Tryz.prog 7 #[.agg (optC b p k d y c),.slice A n cr] w (MadeE w (packE b p k d y c l).1 (packE b p k d y c l).2):=by
 have CK:=fun W=>pCheck_any 1 b p k d y c hy W
 have CL:=fun W (hE:Ext w W)=>pCheck17_any A n cr l W (by omega) (h.later hE)
 obtain ⟨w1,hw1⟩:∃ w1,w1=w.alloc (.cells (optC b p k d y c) 23):=⟨_,rfl⟩
 have HE1:=hide (show Ext w w1 by rw [hw1];exact extNew w _)
 have HW:=hide (show Whole w1 w.heap.size 23 (optC b p k d y c) by rw [hw1];exact Whole.new w _ _)
 have HDf:=hide (show packE b p k d y c l=if chk 1 b k d y c≠0 then ([],chk 1 b k d y c) else if checkE l≠0 then ([],6) else _ from rfl)
 have s0:=HW.out.at 0 (u:=.int .i64 b) rfl
 have s1:=HW.out.at 1 (u:=.bool p) rfl
 have s2:=HW.out.at 2 (u:=.int .i64 k) rfl
 have s3:=HW.out.at 3 (u:=.int .i64 d) rfl
 have s4:=HW.out.at 4 (u:=.int .i64 y) rfl
 have s5:=HW.out.at 5 (u:=.int .i64 c) rfl
 rw [hw1] at s0 s1 s2 s3 s4 s5
 by_cases hc:chk 1 b k d y c=0
 ·rw [hc] at CK
  by_cases hL:checkE l=0
  ·obtain ⟨hb1,hb2⟩:=chk_facts hc
   have hwl:=hw hL
   have HR:=hide (show packE b p k d y c l=(joinE b.toNat (flagB p) l.length (groupsN b l).length (framesTo p l (groupsN b l) (groupsN b l).length),0) from by rw [HDf.out,if_neg (by omega),if_neg (by omega)])
   rw [HR.out]
   have hl93:=len_small hwl
   have hll:=h.1
   have hfew:=groups_few b l
   have hpart:=fun j (hj:j < (groupsN b l).length)=>part_le b l hj
   have CG:=fun W (hE:Ext w W)=>pGroups17_any b true A n cr l W hb (h.later hE) (by omega)
   rw [groups_ints] at CG
   generalize groupsN b l=gs at *
   obtain ⟨ng,hng⟩:∃ g,g=gs.length:=⟨_,rfl⟩
   have hgm:(gs.map fun (k:Nat)=>(k:Int)).length=ng:=by rw [List.length_map,hng]
   have CB:=fun W (hE:Ext w W) Ag cg hI=>oneBlocks_any p Ag A ng cg n cr gs l W hI (by omega) (by rw [hng];exact hpart) (h.later hE) hn hcr hwl (hE.tab ht ht.pos)
   have CH:=fun W=>oneHead_any b.toNat n ng p k d y c W (by omega) (by omega) (by omega)
   rw [show ((b.toNat:Nat):Int)=b by omega] at CH
   rw [hll,← hng]
   have HJ:=hide (show joinE b.toNat (flagB p) n ng (framesTo p l gs ng)=Crc.put (headE b.toNat (flagB p) n ng++(framesTo p l gs ng).flatten) from rfl)
   rw [HJ.out]
   have hhl:=head_len b.toNat (flagB p) n ng
   have hfl:=flat_small hwl p gs ng
   generalize headE b.toNat (flagB p) n ng=H at *
   generalize (framesTo p l gs ng).flatten=F at *
   have HT:=hide (And.intro ht ht.pos)
   have HFl:=hide (show [H,F].flatten=H++F by simp)
   have hjl:(H++F).length≤400000:=by rw [List.length_append];omega
   have HHl:=hide (And.intro hhl hfl)
   have CP:=fun W (hE:Ext w W) A c (hb:Bytes W W.heap.size A (H++F).length (H++F))=>crcPut_any A (H++F).length c (H++F) W (by omega) (hE.tab HT.out.1 HT.out.2) (by have:=HT.out.2;have:=hE.le;omega) hb
   generalize Crc.put (H++F)=Z at *
   generalize H++F=X at *
   have HJl:=hide hjl
   unfold MadeL at CG
   rw [hgm] at CG
   unfold MadeB at CP
   unfold MadeE at *
   have CL:=fun W (hE:Ext w W)=>by have:=CL W hE;rw [hL] at this;exact this
   have HNg:=hide (show ng≤93 by omega)
   unfold optC at *
   clear h hn hcr ht hw hwl hpart hl93 hfew hgm hng HR HDf hL hc hb1 hb2 hb hy hhl hfl hjl hll HJ
   go_enter Tryz.func7,Tryz.ntmps7
   go_wp2_with fail
   rw [← hw1]
   clear s0 s1 s2 s3 s4 s5 hw1
   refine (CK _).mono ?_
   rintro e w2 ⟨rfl,hE2⟩
   have hF2:=HE1.out.trans hE2
   have CL2:=CL w2 hF2
   clear CK CL
   go_wp2_with fail
   refine CL2.mono ?_
   rintro e w3 ⟨rfl,hE3⟩
   have hF3:=hF2.trans hE3
   have CG3:=CG w3 hF3
   have HW3:=hide (HW.out.ext (hE2.trans hE3))
   have s0:=HW3.out.at 0 (u:=.int .i64 b) rfl
   clear CL2 CG hF2 hE3 hE2 HW
   go_wp2_with fail
   refine CG3.mono ?_
   rintro e w4 ⟨Ag,cg,rfl,hcg,hmg,hIg,hE4⟩
   have hF4:=hF3.trans hE4
   have HW4:=hide (HW3.out.ext hE4)
   have HIg:=hide hIg
   clear s0 CG3 hF3 hE4 hIg hcg hmg
   have s0:=HW4.out.at 0 (u:=.int .i64 b) rfl
   have s1:=HW4.out.at 1 (u:=.bool p) rfl
   have s2:=HW4.out.at 2 (u:=.int .i64 k) rfl
   have s3:=HW4.out.at 3 (u:=.int .i64 d) rfl
   have s4:=HW4.out.at 4 (u:=.int .i64 y) rfl
   have s5:=HW4.out.at 5 (u:=.int .i64 c) rfl
   clear HW3
   go_wp2_with fail
   refine (CH _).mono ?_
   rintro e w5 ⟨v5,rfl,hO5,hE5⟩
   obtain ⟨A5,c5,rfl,-,-,hb5⟩:=hO5.form
   have hF5:=hF4.trans hE5
   have CB5:=CB w5 hF5 Ag cg (HIg.out.later hE5)
   have HW5:=HW4.out.ext hE5
   clear s0 s1 s2 s3 s4 s5 CH CB hE5 hO5 HIg hF4 HW4
   have s1:=HW5.at 1 (u:=.bool p) rfl
   clear HW5
   go_wp2_with fail
   refine CB5.mono ?_
   rintro e w6 ⟨v6,rfl,hO6,hE6⟩
   obtain ⟨A6,c6,rfl,-,-,hb6⟩:=hO6.form
   have hF6:=hF5.trans hE6
   have hP6:=partsTwoNew w6 (c1:=c5) (c2:=c6) 29 (hE6.bytes hb5) hb6 (by have:=HHl.out;unfold maxLen;omega) (by have:=HHl.out;have:=HNg.out;unfold maxLen;omega)
   have CA:=all_any _ 2 [H,F] _ hP6 (by simp) (by rw [HFl.out];have:=HJl.out;omega)
   have hF7:=hF6.trans (extNew w6 (.cells #[.slice A5 H.length c5,.slice A6 F.length c6] 29))
   unfold MadeB at CA
   rw [HFl.out] at CA
   clear s1 CB5 hF5 hF6 hE6 hO6 hb5 hb6 hP6
   go_wp2_with fail
   refine CA.mono ?_
   rintro e w8 ⟨v8,rfl,hO8,hE8⟩
   obtain ⟨A8,c8,rfl,-,-,hb8⟩:=hO8.form
   have hF8:=hF7.trans hE8
   have CP8:=CP w8 hF8 A8 c8 hb8
   clear CA CP hO8 hE8 hb8
   go_wp2_with fail
   refine CP8.mono ?_
   rintro e w9 ⟨v9,rfl,hO9,hE9⟩
   have hF9:=hF8.trans hE9
   have hO10:=hO9.mono hF8.le
   clear CP8 hO9 hE9
   go_wp2
   go_ret2
   exact ⟨_,rfl,hO10,hF9⟩
  ·have HR:=hide (show packE b p k d y c l=([],6) from by rw [HDf.out,if_neg (by omega),if_pos hL])
   rw [HR.out]
   have hL6:=Arc.chk_not hL
   have CL:=fun W (hE:Ext w W)=>by have:=CL W hE;rw [hL6] at this;exact this
   unfold optC MadeE at *
   clear h hn hcr ht hw HDf hL hL6 hc hy
   go_enter Tryz.func7,Tryz.ntmps7
   go_wp2_with fail
   rw [← hw1]
   refine (CK _).mono ?_
   rintro e w2 ⟨rfl,hE2⟩
   have CL2:=CL w2 (HE1.out.trans hE2)
   clear CL CK
   go_wp2_with fail
   refine CL2.mono ?_
   rintro e w3 ⟨rfl,hE3⟩
   go_wp2
   go_ret2
   exact ⟨_,rfl,OwnB.nil _ _,(HE1.out.trans hE2).trans hE3⟩
 ·have HR:=hide (show packE b p k d y c l=([],chk 1 b k d y c) from by rw [HDf.out,if_pos hc])
  rw [HR.out]
  have hcb:(chk 1 b k d y c == 0)=false:=by rw [beq_eq_false_iff_ne];exact hc
  generalize chk 1 b k d y c=er at *
  unfold optC MadeE at *
  clear CL h hn hcr ht hw HDf hy
  go_enter Tryz.func7,Tryz.ntmps7
  go_wp2_with fail
  rw [← hw1]
  refine (CK _).mono ?_
  rintro e w2 ⟨rfl,hE2⟩
  go_wp2
  go_ret2
  exact ⟨_,rfl,OwnB.nil _ _,HE1.out.trans hE2⟩
end
section
open Go.RowKit Arc Rcs Opt
def Arc.headN:List UInt8:=[70,73,82,75,1,16,0,0,0]
set_option maxHeartbeats 2000000 in
set_option maxRecDepth 100000 in
theorem alive21_any {w W:World}(ht:Tab w)(hE:Ext w W):Calls Tryz.prog 4 #[] W fun e W'=>e=.returned (.bool true)∧Ext W W':=by
 have C:=onePack_any 16 false 0 0 0 0 none 0 0 [] W ⟨rfl,.inl rfl,by simp⟩ (Nat.le_refl _) (by unfold maxLen;omega) (by unfold IsI64;omega) (by omega) (hE.tab ht ht.pos) (fun _=>by decide)
 rw [pack_none] at C
 change Calls _ _ _ _ (MadeE W (Crc.put headN) 0) at C
 have CJ:=fun W2=>refCrcPut_any (some ⟨World.heap W2 |>.size,0,none⟩) 9 9 headN (W2.alloc (.cells #[.int .u8 70,.int .u8 73,.int .u8 82,.int .u8 75,.int .u8 1,.int .u8 16,.int .u8 0,.int .u8 0,.int .u8 0] 5)) (by omega) (bytesNew W2 headN _ 5 (0,0) rfl 9 rfl)
 unfold MadeB at CJ
 unfold MadeE at C
 generalize Crc.put headN=x at *
 unfold optC at C
 go_enter Tryz.func4,Tryz.ntmps4
 go_wp2_with fail
 refine C.mono ?_
 rintro e w2 ⟨v2,rfl,hO2,hE2⟩
 have CJ2:=CJ w2
 clear C CJ
 go_wp2_with fail
 refine CJ2.mono ?_
 rintro e w4 ⟨v4,rfl,hO4,hE4⟩
 have hX:=(extNew w2 (.cells #[.int .u8 70,.int .u8 73,.int .u8 82,.int .u8 75,.int .u8 1,.int .u8 16,.int .u8 0,.int .u8 0,.int .u8 0] 5)).trans hE4
 obtain ⟨A2,c2,rfl,_,_,h2⟩:=(hO2.ext hX).form
 obtain ⟨A4,c4,rfl,_,_,h4⟩:=hO4.form
 have CS:=same_any _ _ _ _ c2 c4 _ _ _ h2 h4
 rw [sameB_true rfl] at CS
 clear CJ2 hO2 hO4 h2 h4
 generalize x.length=k at *
 go_wp2_with fail
 refine CS.mono ?_
 rintro e w5 ⟨rfl,hE5⟩
 go_wp2
 go_ret
 exact ⟨rfl,(hE2.trans hX).trans hE5⟩
set_option maxHeartbeats 4000000 in
set_option maxRecDepth 100000 in
theorem onePacks_walk (o:OptV)(A:Option Addr)(n c:Nat)(l:List Rc)(w:World)(ho:o.ok)(hn:n≤c)(hc:c≤maxLen)(h:RcsAt w w.heap.size A n l)(ht:Tab w) :
  Calls Tryz.prog 3 #[optV o,.slice A n c] w fun e w'=>e=.returned (.bool true)∧Ext w w':=by
 have hb:IsI64 o.block:=ho.1
 have hy:o.parity≤9223372036854775807:=ho.2.2.2.1.2
 obtain ⟨b,p,k,d,y,cc⟩:=o
 unfold optV
 dsimp only at *
 have C0:=fun W (hE:Ext w W)=>alive21_any ht hE
 have CK:=fun W (hE:Ext w W)=>refCheck17_any A n c l W (h.later hE)
 have CG:=fun W (hE:Ext w W)=>refGreat17_any A n c l 30 1500 W (h.later hE) (by omega)
 obtain ⟨w1,hw1⟩:∃ w1,w1=w.alloc (.cells (optC b p k d y cc) 23):=⟨_,rfl⟩
 have HE1:=hide (show Ext w w1 by rw [hw1];exact extNew w _)
 have HW:=hide (show Whole w1 w.heap.size 23 (optC b p k d y cc) by rw [hw1];exact Whole.new w _ _)
 clear ho
 by_cases hL:checkE l=0
 ·have CK:=fun W (hE:Ext w W)=>by have:=CK W hE;rw [hL] at this;exact this
  cases hg:greatE l 30 1500 with
  | true =>
   unfold optC at *
   clear h hn hc hb hy ht HW
   go_enter Tryz.func3,Tryz.ntmps3
   go_wp2_with fail
   rw [← hw1]
   clear hw1
   refine (C0 _ HE1.out).mono ?_
   rintro e w2 ⟨rfl,hE2⟩
   have hF2:=HE1.out.trans hE2
   have CK2:=CK w2 hF2
   clear C0 CK
   go_wp2_with fail
   refine CK2.mono ?_
   rintro e w3 ⟨rfl,hQ3⟩
   have hF3:=hF2.trans hQ3.ext
   have CG3:=CG w3 hF3
   rw [hg] at CG3
   clear CK2 CG
   go_wp2_with fail
   refine CG3.mono ?_
   rintro e w4 ⟨rfl,hQ4⟩
   go_wp2
   go_ret
   exact ⟨rfl,hF3.trans hQ4.ext⟩
  | false =>
   have hw:checkE l=0→weightE l≤1500:=fun _=>by have:=(great_no hg (by omega)).2;omega
   have CM:=fun W (hE:Ext w W)=>onePack_any b p k d y cc A n c l W (h.later hE) hn hc hb hy (hE.tab ht ht.pos) hw
   have CR:=fun W (hE:Ext w W)=>refPack21_any b p k d y cc A n c l W (h.later hE) hn hc hb hw
   generalize (packE b p k d y cc l).1=res at *
   generalize (packE b p k d y cc l).2=er at *
   have hee:((er:Int) == (er:Int))=true:=by simp
   unfold MadeE at CM CR
   unfold optC at *
   clear hw h hn hc hb hy ht
   go_enter Tryz.func3,Tryz.ntmps3
   go_wp2_with fail
   rw [← hw1]
   clear hw1
   refine (C0 _ HE1.out).mono ?_
   rintro e w2 ⟨rfl,hE2⟩
   have hF2:=HE1.out.trans hE2
   have CK2:=CK w2 hF2
   clear C0 CK
   go_wp2_with fail
   refine CK2.mono ?_
   rintro e w3 ⟨rfl,hQ3⟩
   have hX3:=hE2.trans hQ3.ext
   have hF3:=hF2.trans hQ3.ext
   clear CK2 hE2 hQ3 hF2
   have CG3:=CG w3 hF3
   rw [hg] at CG3
   clear CG
   go_wp2_with fail
   refine CG3.mono ?_
   rintro e w4 ⟨rfl,hQ4⟩
   have hX3:=hX3.trans hQ4.ext
   have hF3:=hF3.trans hQ4.ext
   clear CG3 hQ4
   have HWx:=hide (HW.out.ext hX3)
   have s0:=HWx.out.at 0 (u:=.int .i64 b) rfl
   have s1:=HWx.out.at 1 (u:=.bool p) rfl
   have s2:=HWx.out.at 2 (u:=.int .i64 k) rfl
   have s3:=HWx.out.at 3 (u:=.int .i64 d) rfl
   have s4:=HWx.out.at 4 (u:=.int .i64 y) rfl
   have s5:=HWx.out.at 5 (u:=.int .i64 cc) rfl
   have CM3:=CM _ hF3
   clear CM
   go_wp2_with fail
   refine CM3.mono ?_
   rintro e w5 ⟨v5,rfl,hO5,hE5⟩
   clear s0 s1 s2 s3 s4 s5 CM3
   have hF5:=hF3.trans hE5
   have HWy:=hide (HWx.out.ext hE5)
   have s0:=HWy.out.at 0 (u:=.int .i64 b) rfl
   have s1:=HWy.out.at 1 (u:=.bool p) rfl
   have s2:=HWy.out.at 2 (u:=.int .i64 k) rfl
   have s3:=HWy.out.at 3 (u:=.int .i64 d) rfl
   have s4:=HWy.out.at 4 (u:=.int .i64 y) rfl
   have s5:=HWy.out.at 5 (u:=.int .i64 cc) rfl
   have CR5:=CR _ hF5
   clear CR
   go_wp2_with fail
   refine CR5.mono ?_
   rintro e w6 ⟨v6,rfl,hO6,hE6⟩
   clear s0 s1 s2 s3 s4 s5 CR5
   have hF6:=hF5.trans hE6
   obtain ⟨A5,c5,rfl,_,_,h5⟩:=(hO5.ext hE6).form
   obtain ⟨A6,c6,rfl,_,_,h6⟩:=hO6.form
   have CS:=same_any _ _ _ _ c5 c6 _ _ _ h5 h6
   rw [sameB_true rfl] at CS
   clear hO5 hO6 h5 h6 hE5 hE6
   generalize res.length=m at *
   go_wp2_with fail
   refine CS.mono ?_
   rintro e w7 ⟨rfl,hE7⟩
   go_wp2
   go_ret
   exact ⟨rfl,hF6.trans hE7⟩
 ·have hL6:=chk_not hL
  have CK:=fun W (hE:Ext w W)=>by have:=CK W hE;rw [hL6] at this;exact this
  have hw:checkE l=0→weightE l≤1500:=fun h0=>absurd h0 hL
  have CM:=fun W (hE:Ext w W)=>onePack_any b p k d y cc A n c l W (h.later hE) hn hc hb hy (hE.tab ht ht.pos) hw
  have CR:=fun W (hE:Ext w W)=>refPack21_any b p k d y cc A n c l W (h.later hE) hn hc hb hw
  generalize (packE b p k d y cc l).1=res at *
  generalize (packE b p k d y cc l).2=er at *
  have hee:((er:Int) == (er:Int))=true:=by simp
  unfold MadeE at CM CR
  unfold optC at *
  clear hw h hn hc hb hy ht
  go_enter Tryz.func3,Tryz.ntmps3
  go_wp2_with fail
  rw [← hw1]
  clear hw1
  refine (C0 _ HE1.out).mono ?_
  rintro e w2 ⟨rfl,hE2⟩
  have hF2:=HE1.out.trans hE2
  have CK2:=CK w2 hF2
  clear C0 CK
  go_wp2_with fail
  refine CK2.mono ?_
  rintro e w3 ⟨rfl,hQ3⟩
  have hX3:=hE2.trans hQ3.ext
  have hF3:=hF2.trans hQ3.ext
  clear CK2 hE2 hQ3 hF2
  have HWx:=hide (HW.out.ext hX3)
  have s0:=HWx.out.at 0 (u:=.int .i64 b) rfl
  have s1:=HWx.out.at 1 (u:=.bool p) rfl
  have s2:=HWx.out.at 2 (u:=.int .i64 k) rfl
  have s3:=HWx.out.at 3 (u:=.int .i64 d) rfl
  have s4:=HWx.out.at 4 (u:=.int .i64 y) rfl
  have s5:=HWx.out.at 5 (u:=.int .i64 cc) rfl
  have CM3:=CM _ hF3
  clear CM
  go_wp2_with fail
  refine CM3.mono ?_
  rintro e w5 ⟨v5,rfl,hO5,hE5⟩
  clear s0 s1 s2 s3 s4 s5 CM3
  have hF5:=hF3.trans hE5
  have HWy:=hide (HWx.out.ext hE5)
  have s0:=HWy.out.at 0 (u:=.int .i64 b) rfl
  have s1:=HWy.out.at 1 (u:=.bool p) rfl
  have s2:=HWy.out.at 2 (u:=.int .i64 k) rfl
  have s3:=HWy.out.at 3 (u:=.int .i64 d) rfl
  have s4:=HWy.out.at 4 (u:=.int .i64 y) rfl
  have s5:=HWy.out.at 5 (u:=.int .i64 cc) rfl
  have CR5:=CR _ hF5
  clear CR
  go_wp2_with fail
  refine CR5.mono ?_
  rintro e w6 ⟨v6,rfl,hO6,hE6⟩
  clear s0 s1 s2 s3 s4 s5 CR5
  have hF6:=hF5.trans hE6
  obtain ⟨A5,c5,rfl,_,_,h5⟩:=(hO5.ext hE6).form
  obtain ⟨A6,c6,rfl,_,_,h6⟩:=hO6.form
  have CS:=same_any _ _ _ _ c5 c6 _ _ _ h5 h6
  rw [sameB_true rfl] at CS
  clear hO5 hO6 h5 h6 hE5 hE6
  generalize res.length=m at *
  go_wp2_with fail
  refine CS.mono ?_
  rintro e w7 ⟨rfl,hE7⟩
  go_wp2
  go_ret
  exact ⟨rfl,hF6.trans hE7⟩
end
end Go.Proofs.YtaogpmombefmmaaGreatDoor
