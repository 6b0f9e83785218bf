/- The program's frames: squeeze, Write. -/
import Derived.Test.YtpmedpdjglcdpaaGreatDoorB21
import Derived.Test.YtpmedpdjglcdpaaGreatDoorB29
import Derived.Test.YtpmedpdjglcdpaaGreatDoorB30
import Derived.Test.YtpmedpdjglcdpaaGreatDoorB39
namespace Go.Proofs.YtpmedpdjglcdpaaGreatDoor
section
open Go.RowKit Num Lz Tok Blk
set_option maxHeartbeats 2000000 in
set_option maxRecDepth 100000 in
theorem Qd (A:Option Addr)(n c:Nat)(b:List UInt8)(w:World)(hb:b.length≤32768)(hc:n≤c)(h:Bytes w w.heap.size A n b) :
  Calls Tryz.prog 72 #[.slice A n c] w (zB w (squeeze b) 0):=by
 have hl:=h.1
 have C1:=Q7 A n c b w (by omega) hc h
 have hT:=uU b 0
 have hok:=toks_ok b 0
 have HW:=hide (write_toks hb)
 have HS:=hide (show squeeze b=Bit.pack (vO (toks b 0)) from rfl)
 clear h
 generalize toks b 0=T at *
 go_enter Tryz.func72,Tryz.ntmps72
 go_wp2_with fail
 refine C1.mono ?_
 rintro e w1 ⟨v1,rfl,hO1,hE1⟩
 obtain⟨A1,c1,rfl,-,-,hT1⟩:=hO1.at hok
 have C2:=aak A1 T.length c1 T w1 (by omega) hT1
 rw[HW.out]at C2
 clear C1 hT1
 go_wp2_with fail
 refine C2.mono ?_
 rintro e w2 ⟨v2,l2,rfl,hO2,hp2,-,hE2⟩
 have hpk:=(hp2 rfl).is
 subst hpk
 obtain⟨A2,n2,c2,rfl,_⟩:=hO2.form'
 clear C2 hp2
 go_wp2
 go_ret2
 exact⟨_,rfl,by rw[HS.out];exact hO2.mono hE1.le,hE1.trans hE2⟩
set_option maxHeartbeats 4000000 in
set_option maxRecDepth 100000 in
theorem aal (A:Option Addr)(n c:Nat)(b:List UInt8)(plain:Bool)(w:World)(hc:n≤c)(ht:Tab w)(h:Bytes w w.heap.size A n b) :
  Calls Tryz.prog 48 #[.slice A n c,.bool plain] w (zB w (writeF b plain).1 (writeF b plain).2):=by
 have hl:=h.1
 subst hl
 by_cases hbig:32768<b.length
 ·have hbI:(32768:Int)<(b.length:Int):=by omega
  have HN:=hide (show writeF b plain=([],6) by unfold writeF;rw[if_pos hbig])
  rw[HN.out]
  clear HN
  go_enter Tryz.func48,Tryz.ntmps48
  go_wp2
  go_ret2
  exact⟨_,rfl,OwnB.nil _ _,Ext.refl _⟩
 have hbI:¬ (32768:Int)<(b.length:Int):=by omega
 have h0:=ht.pos
 have HB:=hide h
 have HT:=hide ht
 have HN:=hide (show writeF b plain=(Crc.put (zP b plain++bodyOf b plain),0) by unfold writeF;rw[if_neg hbig];rfl)
 rw[HN.out]
 clear HN h ht
 have HAs:=fun (hu:Xh b plain=false)=>show Crc.put (UInt8.ofNat 0::(enc b.length++enc b.length)++b)=Crc.put (zP b plain++bodyOf b plain) by
  unfold zP bodyOf JN
  rw[hu]
  rfl
 have HSq:=fun (hu:Xh b plain=true)=>show Crc.put (UInt8.ofNat 1::(enc b.length++enc (squeeze b).length)++squeeze b)=Crc.put (zP b plain++bodyOf b plain) by
  unfold zP bodyOf JN
  rw[hu]
  rfl
 have HU:=hide (show Xh b plain=(!plain && decide ((squeeze b).length<b.length)) from rfl)
 have CS:=fun W (hE:Ext w W)=>Qd A b.length c b W (by omega) hc (hE.bytes HB.out)
 have CF:=fun W (hE:Ext w W)=>XD 0 b.length A b.length c b W (by omega) (by omega) (by omega) (hE.tab HT.out h0) (hE.bytes HB.out)
 have HAs:=hide HAs
 have HSq:=hide HSq
 generalize Crc.put (zP b plain++bodyOf b plain)=Y at *
 generalize Xh b plain=us at *
 generalize hsq:squeeze b=sq at *
 clear hsq
 unfold UP at CF
 cases plain with
 | true =>
  have hY:=HAs.out (by rw[HU.out];rfl)
  rw[hY]at CF
  have CF0:=CF w (Ext.refl w)
  clear HAs HSq HU CS CF
  go_enter Tryz.func48,Tryz.ntmps48
  go_wp2_with fail
  refine CF0.mono ?_
  rintro e w1 ⟨v1,rfl,hO1,hE1⟩
  obtain⟨A1,n1,c1,rfl,_⟩:=hO1.form'
  go_wp2
  go_ret2
  exact⟨_,rfl,hO1,hE1⟩
 | false =>
  have CS0:=CS w (Ext.refl w)
  clear CS
  by_cases hs:sq.length<b.length
  ·have hsI:(sq.length:Int)<(b.length:Int):=by omega
   have hY:=HSq.out (by rw[HU.out];simp[hs])
   clear HAs HSq HU CF
   go_enter Tryz.func48,Tryz.ntmps48
   go_wp2_with fail
   refine CS0.mono ?_
   rintro e w1 ⟨v1,rfl,hO1,hE1⟩
   obtain⟨A1,c1,rfl,-,-,hb1⟩:=hO1.form
   have CF1:=XD 1 b.length A1 sq.length c1 sq w1 (by omega) (by omega) (by omega) (hE1.tab HT.out h0) hb1
   rw[hY]at CF1
   unfold UP at CF1
   clear CS0 hY hb1
   go_wp2_with fail
   refine CF1.mono ?_
   rintro e w2 ⟨v2,rfl,hO2,hE2⟩
   obtain⟨A2,n2,c2,rfl,_⟩:=hO2.form'
   go_wp2
   go_ret2
   exact⟨_,rfl,hO2.mono hE1.le,hE1.trans hE2⟩
  ·have hsI:¬ (sq.length:Int)<(b.length:Int):=by omega
   have hY:=HAs.out (by rw[HU.out];simp[hs])
   rw[hY]at CF
   clear HAs HSq HU
   go_enter Tryz.func48,Tryz.ntmps48
   go_wp2_with fail
   refine CS0.mono ?_
   rintro e w1 ⟨v1,rfl,hO1,hE1⟩
   obtain⟨A1,c1,rfl,-,-,-⟩:=hO1.form
   have CF1:=CF w1 hE1
   clear CS0 CF hY
   go_wp2_with fail
   refine CF1.mono ?_
   rintro e w2 ⟨v2,rfl,hO2,hE2⟩
   obtain⟨A2,n2,c2,rfl,_⟩:=hO2.form'
   go_wp2
   go_ret2
   exact⟨_,rfl,hO2.mono hE1.le,hE1.trans hE2⟩
end
end Go.Proofs.YtpmedpdjglcdpaaGreatDoor
