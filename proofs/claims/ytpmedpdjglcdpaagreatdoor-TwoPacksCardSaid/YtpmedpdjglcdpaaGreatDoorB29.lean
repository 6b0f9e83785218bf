/- The document's Write of chapter 12. Chapter 20: the document's Check of options, and Frames. Chapter 20: the document's Join. The document's Read of chapter 12. What the laws of chapter 12 ask of the program; the example; BlockWrites, BlockReads, BlockBack, BlockBounds. -/
import Derived.Test.YtpmedpdjglcdpaaGreatDoorB02
import Derived.Test.YtpmedpdjglcdpaaGreatDoorB03
import Derived.Test.YtpmedpdjglcdpaaGreatDoorB04
import Derived.Test.YtpmedpdjglcdpaaGreatDoorB06
import Derived.Test.YtpmedpdjglcdpaaGreatDoorB08
import Derived.Test.YtpmedpdjglcdpaaGreatDoorB09
import Derived.Test.YtpmedpdjglcdpaaGreatDoorB13
import Derived.Test.YtpmedpdjglcdpaaGreatDoorB17
import Derived.Test.YtpmedpdjglcdpaaGreatDoorB19
import Derived.Test.YtpmedpdjglcdpaaGreatDoorB21
import Derived.Test.YtpmedpdjglcdpaaGreatDoorB23
import Derived.Test.YtpmedpdjglcdpaaGreatDoorB26
import Derived.Test.YtpmedpdjglcdpaaGreatDoorB27
import Derived.Test.YtpmedpdjglcdpaaGreatDoorB28
import Derived.Lib.SlBytesConst
namespace Go.Proofs.YtpmedpdjglcdpaaGreatDoor
section
open Go.RowKit Num Lz Tok Blk
theorem Blk.write_toks {b:List UInt8}(h:b.length≤32768):writeE (toks b 0)=(vO (toks b 0),0):=by
 have hl:=uU b 0
 unfold writeE
 rw[if_neg (by omega),if_pos (List.all_eq_true.2 (Jr b 0))]
set_option maxHeartbeats 4000000 in
set_option maxRecDepth 100000 in
theorem Va (A:Option Addr)(n c:Nat)(b:List UInt8)(plain:Bool)(w:World)(h:Bytes w w.heap.size A n b)(hLn:Y8 w) :
  Calls Tryz.prog 60 #[.slice A n c,.bool plain] w (zB w (writeF b plain).1 (writeF b plain).2):=by
 have hl:=h.1
 subst hl
 by_cases hbig:32768<b.length
 ·have hbI:(32768:Int)<(b.length:Int):=by omega
  have HN:=hide (show writeF b plain=([],6) by unfold writeF;rw[if_pos hbig])
  rw[HN.out]
  clear HN
  go_enter Tryz.func60,Tryz.ntmps60
  go_wp2
  go_ret2
  exact⟨_,rfl,OwnB.nil _ _,Ext.refl _⟩
 have hbI:¬ (32768:Int)<(b.length:Int):=by omega
 have HB:=hide h
 have HN:=hide (show writeF b plain=(Crc.put (zP b plain++bodyOf b plain),0) by unfold writeF;rw[if_neg hbig];rfl)
 rw[HN.out]
 clear HN h
 cases hu:Xh b plain with
 | false =>
  have HW:=hide (show zP b plain=[UInt8.ofNat 0]++enc b.length++enc b.length by unfold zP JN bodyOf;rw[hu];rfl)
  have HBd:=hide (show bodyOf b plain=b by unfold bodyOf;rw[hu];rfl)
  rw[HW.out,HBd.out]
  clear HW HBd
  cases plain with
  | true =>
   clear hu hLn
   go_enter Tryz.func60,Tryz.ntmps60
   go_wp2_with fail
   have hF0:Ext w w:=Ext.refl w
   have hS0:Bytes w w.heap.size A b.length b:=HB.out
   have hO1:=OwnB.lit w #[.int .u8 0] [UInt8.ofNat 0] 1 rfl rfl (by omega) (base:=w.heap.size) (Nat.le_refl _)
   have hE1:=zb w (.cells #[.int .u8 0] 5)
   have C1:=zx b.length (w.alloc (.cells #[.int .u8 0] 5)) (by omega)
   have hWn:=hF0.le
   obtain⟨B0,hB0⟩:∃ k,k=w.heap.size:=⟨_,rfl⟩
   have HB0:=hide hB0
   rw[← hB0]at hO1
   have hBel1:Below B0 w (w.alloc (.cells #[.int .u8 0] 5)):=by rw[hB0];exact hE1
   have hB1:B0≤(w.alloc (.cells #[.int .u8 0] 5)).heap.size:=by rw[hB0];exact hE1.le
   clear hE1 hB0
   generalize w.alloc (.cells #[.int .u8 0] 5)=u1 at *
   go_wp2_with fail
   refine C1.mono ?_
   rintro e u2 ⟨v2,rfl,hV2,hE2⟩
   obtain⟨A2,c2,rfl,_,_,hb2⟩:=hV2.form
   have hO2:=hO1.ext hE2
   have hBel2:=hBel1.trans (Below.mono hE2 hB1)
   have hB2:B0≤u2.heap.size:=Nat.le_trans hB1 hE2.le
   have hel:=enc_len b.length
   have hl2:[UInt8.ofNat 0].length+(enc b.length).length≤140737488355328:=by simp;omega
   clear C1 hO1 hE2 hBel1 hB1 hV2
   go_wp2_with (at_builtin;refine zw rfl (.tmp 31) (.tmp 35) rfl (by rw[HB0.out];rfl) hO2 rfl hb2 hl2 hB2 ?_;intro v3 u3 hO3 hG3;have hBel3:=hO2.below hBel2 hG3 hB2)
   have C4:=zx b.length u3 (by omega)
   have hB3:B0≤u3.heap.size:=Nat.le_trans hB2 hG3.size
   clear hO2 hBel2 hG3 hb2 hl2 hB2
   go_wp2_with fail
   refine C4.mono ?_
   rintro e u4 ⟨v4,rfl,hV4,hE4⟩
   obtain⟨A4,c4,rfl,_,_,hb4⟩:=hV4.form
   have hO4:=hO3.ext hE4
   have hBel4:=hBel3.trans (Below.mono hE4 hB3)
   have hB4:B0≤u4.heap.size:=Nat.le_trans hB3 hE4.le
   have hel2:=enc_len b.length
   have hl4:([UInt8.ofNat 0]++enc b.length).length+(enc b.length).length≤140737488355328:=by simp;omega
   clear C4 hO3 hE4 hBel3 hB3 hV4
   have hSx:∀ W',Below B0 w W'→B0≤W'.heap.size→Bytes W' W'.heap.size A b.length b:=fun W' h1 h2=>(hS0.below h1 (by rw[HB0.out];exact Nat.le_refl _)).mono (by rw[← HB0.out];exact h2)
   have HSx:=hide hSx
   clear hSx
   have hl5:([UInt8.ofNat 0]++enc b.length++enc b.length).length+b.length≤140737488355328:=by simp;omega
   go_wp2_with (first
    | (at_builtin;refine zw rfl (.tmp 37) (.tmp 41) rfl rfl hO4 rfl hb4 hl4 hB4 ?_;intro v5 u5 hO5 hG5;have hBel5:=hO4.below hBel4 hG5 hB4;have hB5:B0≤u5.heap.size:=Nat.le_trans hB4 hG5.size;have hb5:=HSx.out u5 hBel5 hB5)
    | (at_builtin;refine zw rfl (.tmp 43) (.tmp 44) rfl rfl hO5 rfl hb5 hl5 hB5 ?_;intro v6 u6 hO6 hG6;have hBel6:=hO5.below hBel5 hG6 hB5))
   clear hO4 hBel4 hG5 hb4 hl4 hB4
   obtain⟨A6,c6,rfl,h6c,h6m,hb6⟩:=hO6.form
   have C7:=yB A6 _ c6 _ u6 (by simp;omega) hb6
   have hB6:B0≤u6.heap.size:=Nat.le_trans hB5 hG6.size
   clear hO5 hBel5 hG6 hb5 hl5 hB5 hO6 hb6
   refine C7.mono ?_
   rintro e u7 ⟨v7,rfl,hO7,hE7⟩
   go_wp2
   go_ret2
   have hFu:Ext w u6:=Below.trans hF0 (Below.mono hBel6 (by rw[HB0.out];exact hWn))
   exact⟨_,rfl,hO7.mono hFu.le,hFu.trans hE7⟩
  | false =>
   have hnb:¬ ((squeeze b).length:Int)<(b.length:Int):=by unfold Xh at hu;simp at hu;omega
   have hLn2:=hLn
   have CF:=Z3 A b.length c b w (by omega) HB.out
   clear hLn
   go_enter Tryz.func60,Tryz.ntmps60
   go_wp2_with fail
   refine CF.mono ?_
   rintro e x1 ⟨y1,rfl,hT1,hX1⟩
   obtain⟨At,ct,rfl,htc,htm,ht⟩:=hT1.at (fun t ht=>toks_ok b 0 t ht)
   have htl:=uU b 0
   have CW:=jc At (toks b 0).length ct (toks b 0) x1 (by omega) ht (fun often limit A n c W hE=>hLn2 often limit A n c W (hX1.trans hE))
   rw[write_toks (by omega)]at CW
   clear CF hT1 ht hLn2
   generalize (toks b 0).length=tl at *
   go_wp2_with fail
   refine CW.mono ?_
   rintro e x2 ⟨y2,sq,rfl,hO2,hp2,_,hX2⟩
   obtain rfl:=(hp2 rfl).is
   have hsq:Bit.pack (vO (toks b 0))=squeeze b:=rfl
   rw[hsq]at hO2
   obtain⟨As,cs,rfl,_,_,hs⟩:=hO2.form
   have hF0:=hX1.trans hX2
   clear CW hO2 hp2 hX1 hX2 hsq
   have hS0:=hF0.bytes HB.out
   clear hs hu
   generalize (squeeze b).length=sl at *
   go_wp2_with fail
   have hO1:=OwnB.lit x2 #[.int .u8 0] [UInt8.ofNat 0] 1 rfl rfl (by omega) (base:=x2.heap.size) (Nat.le_refl _)
   have hE1:=zb x2 (.cells #[.int .u8 0] 5)
   have C1:=zx b.length (x2.alloc (.cells #[.int .u8 0] 5)) (by omega)
   have hWn:=hF0.le
   obtain⟨B0,hB0⟩:∃ k,k=x2.heap.size:=⟨_,rfl⟩
   have HB0:=hide hB0
   rw[← hB0]at hO1
   have hBel1:Below B0 x2 (x2.alloc (.cells #[.int .u8 0] 5)):=by rw[hB0];exact hE1
   have hB1:B0≤(x2.alloc (.cells #[.int .u8 0] 5)).heap.size:=by rw[hB0];exact hE1.le
   clear hE1 hB0
   generalize x2.alloc (.cells #[.int .u8 0] 5)=u1 at *
   go_wp2_with fail
   refine C1.mono ?_
   rintro e u2 ⟨v2,rfl,hV2,hE2⟩
   obtain⟨A2,c2,rfl,_,_,hb2⟩:=hV2.form
   have hO2:=hO1.ext hE2
   have hBel2:=hBel1.trans (Below.mono hE2 hB1)
   have hB2:B0≤u2.heap.size:=Nat.le_trans hB1 hE2.le
   have hel:=enc_len b.length
   have hl2:[UInt8.ofNat 0].length+(enc b.length).length≤140737488355328:=by simp;omega
   clear C1 hO1 hE2 hBel1 hB1 hV2
   go_wp2_with (at_builtin;refine zw rfl (.tmp 31) (.tmp 35) rfl (by rw[HB0.out];rfl) hO2 rfl hb2 hl2 hB2 ?_;intro v3 u3 hO3 hG3;have hBel3:=hO2.below hBel2 hG3 hB2)
   have C4:=zx b.length u3 (by omega)
   have hB3:B0≤u3.heap.size:=Nat.le_trans hB2 hG3.size
   clear hO2 hBel2 hG3 hb2 hl2 hB2
   go_wp2_with fail
   refine C4.mono ?_
   rintro e u4 ⟨v4,rfl,hV4,hE4⟩
   obtain⟨A4,c4,rfl,_,_,hb4⟩:=hV4.form
   have hO4:=hO3.ext hE4
   have hBel4:=hBel3.trans (Below.mono hE4 hB3)
   have hB4:B0≤u4.heap.size:=Nat.le_trans hB3 hE4.le
   have hel2:=enc_len b.length
   have hl4:([UInt8.ofNat 0]++enc b.length).length+(enc b.length).length≤140737488355328:=by simp;omega
   clear C4 hO3 hE4 hBel3 hB3 hV4
   have hSx:∀ W',Below B0 x2 W'→B0≤W'.heap.size→Bytes W' W'.heap.size A b.length b:=fun W' h1 h2=>(hS0.below h1 (by rw[HB0.out];exact Nat.le_refl _)).mono (by rw[← HB0.out];exact h2)
   have HSx:=hide hSx
   clear hSx
   have hl5:([UInt8.ofNat 0]++enc b.length++enc b.length).length+b.length≤140737488355328:=by simp;omega
   go_wp2_with (first
    | (at_builtin;refine zw rfl (.tmp 37) (.tmp 41) rfl rfl hO4 rfl hb4 hl4 hB4 ?_;intro v5 u5 hO5 hG5;have hBel5:=hO4.below hBel4 hG5 hB4;have hB5:B0≤u5.heap.size:=Nat.le_trans hB4 hG5.size;have hb5:=HSx.out u5 hBel5 hB5)
    | (at_builtin;refine zw rfl (.tmp 43) (.tmp 44) rfl rfl hO5 rfl hb5 hl5 hB5 ?_;intro v6 u6 hO6 hG6;have hBel6:=hO5.below hBel5 hG6 hB5))
   clear hO4 hBel4 hG5 hb4 hl4 hB4
   obtain⟨A6,c6,rfl,h6c,h6m,hb6⟩:=hO6.form
   have C7:=yB A6 _ c6 _ u6 (by simp;omega) hb6
   have hB6:B0≤u6.heap.size:=Nat.le_trans hB5 hG6.size
   clear hO5 hBel5 hG6 hb5 hl5 hB5 hO6 hb6
   refine C7.mono ?_
   rintro e u7 ⟨v7,rfl,hO7,hE7⟩
   go_wp2
   go_ret2
   have hFu:Ext w u6:=Below.trans hF0 (Below.mono hBel6 (by rw[HB0.out];exact hWn))
   exact⟨_,rfl,hO7.mono hFu.le,hFu.trans hE7⟩
 | true =>
  cases plain with
  | true=>simp[Xh]at hu
  | false =>
   have HW:=hide (show zP b false=[UInt8.ofNat 1]++enc b.length++enc (squeeze b).length by unfold zP JN bodyOf;rw[hu];rfl)
   have HBd:=hide (show bodyOf b false=squeeze b by unfold bodyOf;rw[hu];rfl)
   rw[HW.out,HBd.out]
   clear HW HBd
   have hnb:((squeeze b).length:Int)<(b.length:Int):=by unfold Xh at hu;simp at hu;omega
   have hLn2:=hLn
   have CF:=Z3 A b.length c b w (by omega) HB.out
   clear hLn
   go_enter Tryz.func60,Tryz.ntmps60
   go_wp2_with fail
   refine CF.mono ?_
   rintro e x1 ⟨y1,rfl,hT1,hX1⟩
   obtain⟨At,ct,rfl,htc,htm,ht⟩:=hT1.at (fun t ht=>toks_ok b 0 t ht)
   have htl:=uU b 0
   have CW:=jc At (toks b 0).length ct (toks b 0) x1 (by omega) ht (fun often limit A n c W hE=>hLn2 often limit A n c W (hX1.trans hE))
   rw[write_toks (by omega)]at CW
   clear CF hT1 ht hLn2
   generalize (toks b 0).length=tl at *
   go_wp2_with fail
   refine CW.mono ?_
   rintro e x2 ⟨y2,sq,rfl,hO2,hp2,_,hX2⟩
   obtain rfl:=(hp2 rfl).is
   have hsq:Bit.pack (vO (toks b 0))=squeeze b:=rfl
   rw[hsq]at hO2
   obtain⟨As,cs,rfl,_,_,hs⟩:=hO2.form
   have hF0:=hX1.trans hX2
   clear CW hO2 hp2 hX1 hX2 hsq
   have hS0:=hs
   clear hs hu
   have hsl:(squeeze b).length≤32768:=by omega
   go_wp2_with fail
   have hO1:=OwnB.lit x2 #[.int .u8 1] [UInt8.ofNat 1] 1 rfl rfl (by omega) (base:=x2.heap.size) (Nat.le_refl _)
   have hE1:=zb x2 (.cells #[.int .u8 1] 5)
   have C1:=zx b.length (x2.alloc (.cells #[.int .u8 1] 5)) (by omega)
   have hWn:=hF0.le
   obtain⟨B0,hB0⟩:∃ k,k=x2.heap.size:=⟨_,rfl⟩
   have HB0:=hide hB0
   rw[← hB0]at hO1
   have hBel1:Below B0 x2 (x2.alloc (.cells #[.int .u8 1] 5)):=by rw[hB0];exact hE1
   have hB1:B0≤(x2.alloc (.cells #[.int .u8 1] 5)).heap.size:=by rw[hB0];exact hE1.le
   clear hE1 hB0
   generalize x2.alloc (.cells #[.int .u8 1] 5)=u1 at *
   go_wp2_with fail
   refine C1.mono ?_
   rintro e u2 ⟨v2,rfl,hV2,hE2⟩
   obtain⟨A2,c2,rfl,_,_,hb2⟩:=hV2.form
   have hO2:=hO1.ext hE2
   have hBel2:=hBel1.trans (Below.mono hE2 hB1)
   have hB2:B0≤u2.heap.size:=Nat.le_trans hB1 hE2.le
   have hel:=enc_len b.length
   have hl2:[UInt8.ofNat 1].length+(enc b.length).length≤140737488355328:=by simp;omega
   clear C1 hO1 hE2 hBel1 hB1 hV2
   go_wp2_with (at_builtin;refine zw rfl (.tmp 31) (.tmp 35) rfl (by rw[HB0.out];rfl) hO2 rfl hb2 hl2 hB2 ?_;intro v3 u3 hO3 hG3;have hBel3:=hO2.below hBel2 hG3 hB2)
   have C4:=zx (squeeze b).length u3 (by omega)
   have hB3:B0≤u3.heap.size:=Nat.le_trans hB2 hG3.size
   clear hO2 hBel2 hG3 hb2 hl2 hB2
   go_wp2_with fail
   refine C4.mono ?_
   rintro e u4 ⟨v4,rfl,hV4,hE4⟩
   obtain⟨A4,c4,rfl,_,_,hb4⟩:=hV4.form
   have hO4:=hO3.ext hE4
   have hBel4:=hBel3.trans (Below.mono hE4 hB3)
   have hB4:B0≤u4.heap.size:=Nat.le_trans hB3 hE4.le
   have hel2:=enc_len (squeeze b).length
   have hl4:([UInt8.ofNat 1]++enc b.length).length+(enc (squeeze b).length).length≤140737488355328:=by simp;omega
   clear C4 hO3 hE4 hBel3 hB3 hV4
   have hSx:∀ W',Below B0 x2 W'→B0≤W'.heap.size→Bytes W' W'.heap.size As (squeeze b).length (squeeze b):=fun W' h1 h2=>(hS0.below h1 (by rw[HB0.out];exact Nat.le_refl _)).mono (by rw[← HB0.out];exact h2)
   have HSx:=hide hSx
   clear hSx
   have hl5:([UInt8.ofNat 1]++enc b.length++enc (squeeze b).length).length+(squeeze b).length≤140737488355328:=by simp;omega
   go_wp2_with (first
    | (at_builtin;refine zw rfl (.tmp 37) (.tmp 41) rfl rfl hO4 rfl hb4 hl4 hB4 ?_;intro v5 u5 hO5 hG5;have hBel5:=hO4.below hBel4 hG5 hB4;have hB5:B0≤u5.heap.size:=Nat.le_trans hB4 hG5.size;have hb5:=HSx.out u5 hBel5 hB5)
    | (at_builtin;refine zw rfl (.tmp 43) (.tmp 44) rfl rfl hO5 rfl hb5 hl5 hB5 ?_;intro v6 u6 hO6 hG6;have hBel6:=hO5.below hBel5 hG6 hB5))
   clear hO4 hBel4 hG5 hb4 hl4 hB4
   obtain⟨A6,c6,rfl,h6c,h6m,hb6⟩:=hO6.form
   have C7:=yB A6 _ c6 _ u6 (by simp;omega) hb6
   have hB6:B0≤u6.heap.size:=Nat.le_trans hB5 hG6.size
   clear hO5 hBel5 hG6 hb5 hl5 hB5 hO6 hb6
   refine C7.mono ?_
   rintro e u7 ⟨v7,rfl,hO7,hE7⟩
   go_wp2
   go_ret2
   have hFu:Ext w u6:=Below.trans hF0 (Below.mono hBel6 (by rw[HB0.out];exact hWn))
   exact⟨_,rfl,hO7.mono hFu.le,hFu.trans hE7⟩
end
section
open Go.RowKit Bdy Rcs Opt
set_option maxHeartbeats 2000000 in
set_option maxRecDepth 100000 in
theorem XB (b:Int)(p:Bool)(k d y c:Int)(w:World):Calls Tryz.prog 36 #[.agg (zJ b p k d y c)] w fun e w'=>e=.returned (.int .i64 (chk 2 b k 0 0 0))∧Ext w w':=by
 have hE1:=zb w (.cells (zJ b p k d y c) 23)
 have hW1:=Whole.new w 23 (zJ b p k d y c)
 have C:=fun W=>uW 2 b p k 0 0 0 W
 generalize chk 2 b k 0 0 0=er at *
 unfold zJ at *
 have s0:=hW1.at 0 (u:=.int .i64 b) rfl
 have s1:=hW1.at 1 (u:=.bool p) rfl
 have s2:=hW1.at 2 (u:=.int .i64 k) rfl
 clear hW1
 go_enter Tryz.func36,Tryz.ntmps36
 go_wp2_with fail
 refine (C _).mono ?_
 rintro e w2 ⟨rfl,hE2⟩
 go_wp2
 go_ret
 exact⟨rfl,hE1.trans hE2⟩
def J5 (a:Option Addr)(c k:Nat):Option Addr:=if c=k then a else a.map (·.add (k*4))
theorem abK (W:World)(a:Option Addr)(n c:Nat)(j k:Nat)(h:j+k≤c) :
  (Instr.slice 24 (.slice a n c) (some (.int .i64 (j:Int))) (some (.int .i64 ((j:Int)+(k:Int)))) none).run Tryz.prog W=.ok (.slice (J5 a c j) k (c-j)) W:=by
 rw[run_slice_lh (P:=Tryz.prog) (w:=W) 24 a n c (by kernel_rfl) .i64 .i64 (j:Int) ((j:Int)+(k:Int)) (by omega) (by omega) (by omega)]
 have hs:(sizeOf (Tryz.prog.elem 24)).run Tryz.prog W=.ok 4 W:=by kernel_rfl
 rw[hs]
 simp[Result.andThen,sliced,J5]
 omega
def XC (w:World)(ng:Nat)(fs:List (List UInt8))(L:List Int)(e:Ending)(w':World):Prop:=∃ v Ag cg,e=.returned (.tuple #[v,.slice Ag ng cg])∧OwnP w' w.heap.size v fs∧(ng≤cg∧cg≤maxLen)∧IntsAt w' w'.heap.size Ag ng L∧Ext w w'
set_option maxHeartbeats 8000000 in
set_option maxRecDepth 100000 in
theorem Yi (b:Int)(p:Bool)(k d y cc:Int)(A:Option Addr)(n cr:Nat)(l:List Rc)(w:World)(h:RcsAt w w.heap.size A n l)(hn:n≤cr)(_hcr:cr≤maxLen)(hb:vI b)(hw:weightE l≤1500) :
  Calls Tryz.prog 37 #[.agg (zJ b p k d y cc),.slice A n cr] w (XC w (groupsN b l).length (framesTo p l (groupsN b l) (groupsN b l).length) ((groupsN b l).map fun (k:Nat)=>(k:Int))):=by
 have hll:=h.1
 have hl93:=len_small hw
 have hn93:n≤93:=by omega
 have hfew:=groups_few b l
 have hpart:=fun j (hj:j<(groupsN b l).length)=>UF b l hj
 have HRc:=hide h
 have CG:=fun W (hE:Ext w W)=>Yh b false A n cr l W hb (h.later hE) (by omega)
 rw[Z0]at CG
 generalize groupsN b l=gs at *
 obtain⟨ng,hgl⟩:∃ g,g=gs.length:=⟨_,rfl⟩
 rw[← hgl]at hpart hfew ⊢
 have HUp:=hide (fun j (hj:j<ng)=>xK (gs:=gs) (j:=j) (by omega))
 have HGs:=hide (show ∀ j,j<ng→yc gs j+gs.getD j 0≤n∧(gs.map fun (k:Nat)=>(k:Int)).getD j 0=((gs.getD j 0:Nat):Int) from fun j hj=>⟨by rw[← hll];exact hpart j hj,by simp[show j<gs.length by omega]⟩)
 have HFn:=hide (ZY p l gs)
 have HFl:=hide (frames_len p l gs)
 have HF0:=hide (show framesTo p l gs 0=[] from rfl)
 have HU0:=hide (jw gs)
 have HFa:=hide (show ∀ j,qQ p l gs j=(Blk.writeF (bytesB false ((l.drop (yc gs j)).take (gs.getD j 0))) p).1 from fun _=>rfl)
 have HWt:=hide hw
 have hgm:(gs.map fun (k:Nat)=>(k:Int)).length=ng:=by rw[List.length_map,hgl]
 unfold YA at CG
 rw[hgm]at CG
 obtain⟨w1,hw1⟩:∃ w1,w1=w.alloc (.cells (zJ b p k d y cc) 23):=⟨_,rfl⟩
 have HE1:=hide (show Ext w w1 by rw[hw1];exact zb w _)
 have HW:=hide (show Whole w1 w.heap.size 23 (zJ b p k d y cc) by rw[hw1];exact Whole.new w _ _)
 have CG1:=CG w1 HE1.out
 unfold zJ at *
 unfold XC
 have s0:=HW.out.at 0 (u:=.int .i64 b) rfl
 rw[hw1]at s0
 clear h hpart hw hll CG hgm hgl
 go_enter Tryz.func37,Tryz.ntmps37
 go_wp2_with fail
 rw[← hw1]
 clear hw1 s0
 refine CG1.mono ?_
 rintro e w2 ⟨Ag,cg,rfl,hcg,hmg,hI,hE2⟩
 have HI:=hide hI
 have HE2:=hide hE2
 have HCm:=hide (And.intro hcg hmg)
 clear CG1 hI hE2 hcg hmg
 go_wp2
 go_loopw [9,7,8] (fun z v u wr=>∃ j:Nat,j≤ng∧z=.int .i64 (j:Int)∧u=.int .i64 ((yc gs j:Nat):Int)∧OwnP wr w2.heap.size v (framesTo p l gs j)∧Ext w2 wr) (fun z _ _ _=>ng-(intOf z).toNat)
 case atStart=>exact⟨0,by omega,rfl,by rw[HU0.out];rfl,by rw[HF0.out];exact OwnP.nil _ _,Ext.refl _⟩
 case round =>
  obtain⟨j,hj,rfl,rfl,hO,hE⟩:=hrel
  have HO:=hide hO
  have HEw:=hide hE
  have HE:=hide (HE2.out.trans hE)
  clear hO hE
  by_cases hlt:j<ng
  ·have hjI:(j:Int)<(ng:Int):=by omega
   obtain⟨bg,og,rfl,hcg,hlg⟩:=HI.out.cellB hlt
   obtain⟨z1,z2⟩:=HGs.out j hlt
   have hun:=HUp.out j hlt
   rw[z2]at hcg
   have HFj:=hide (HFn.out j)
   rw[HFa.out]at HFj
   have HWj:=hide (Nat.le_trans (vL l (yc gs j) (gs.getD j 0)) HWt.out)
   obtain⟨x,hx⟩:∃ x,x=gs.getD j 0:=⟨_,rfl⟩
   obtain⟨U,hU⟩:∃ U,U=yc gs j:=⟨_,rfl⟩
   rw[← hx]at hcg z1 hun HFj HWj
   rw[← hU]at hun z1 HFj HWj ⊢
   have HCg:=hide (show ∀ W,Ext w2 W→W.cell? ⟨bg,og+j,none⟩=some (.int .i64 (x:Int)) from fun W hE=>(hE.cell hlg).trans hcg)
   have HPt:=hide (show RcsAt w w.heap.size (J5 A cr U) x ((l.drop U).take x) from (HRc.out.cut (k:=U) (by omega) hn).top (by omega))
   have CB:=fun W (hE:Ext w1 W)=>YW false (J5 A cr U) x (cr-U) ((l.drop U).take x) W (HPt.out.later (HE1.out.trans hE)) (by have:=HWj.out;omega)
   generalize bytesB false ((l.drop U).take x)=D at *
   have CW:=fun W A c (hb:Bytes W W.heap.size A D.length D)=>Va A D.length c D p W hb (J4 W)
   generalize (Blk.writeF D p).1=F at *
   generalize (Blk.writeF D p).2=er at *
   unfold zt at CB
   unfold zB at CW
   have HTop:=hide (fun (W:World)=>abK W A n cr U x (by omega))
   have HAd:=hide (show IntKind.i64.wrap ((U:Int)+(x:Int))=(U:Int)+(x:Int) by rw[IntKind.wrap_i64];omega)
   have HUn:=hide hun
   clear hcg z2 hx hU hun
   go_wp2_with fail
   refine zq (fun W=>Ext wr W) 12 18 #[false,false,false,false,false,false,false,false,false,false,false,false,false,false,false,false,false,false] (by kernel_rfl) rfl rfl (Ext.refl wr).drew ?_
   intro hS0
   refine za 0 (some 23) (.slice A n cr) _ rfl rfl rfl (by kernel_rfl) (fun _ _ _ h=>h) hS0 (by rfl) (fun W hX=>by go_simp) ?_
   simp only[sP]
   refine za 1 (some 24) (.int .i64 (U:Int)) _ rfl rfl rfl (by kernel_rfl) (fun _ _ _ h=>h) hS0 (by rfl) (fun W hX=>by go_simp) ?_
   simp only[sP]
   refine za 2 (some 25) (.int .i64 (U:Int)) _ rfl rfl rfl (by kernel_rfl) (fun _ _ _ h=>h) hS0 (by rfl) (fun W hX=>by go_simp) ?_
   simp only[sP]
   refine za 3 (some 26) (.slice (some ⟨bg,og,none⟩) ng cg) _ rfl rfl rfl (by kernel_rfl) (fun _ _ _ h=>h) hS0 (by rfl) (fun W hX=>by go_simp) ?_
   simp only[sP]
   refine za 4 (some 27) (.int .i64 (j:Int)) _ rfl rfl rfl (by kernel_rfl) (fun _ _ _ h=>h) hS0 (by rfl) (fun W hX=>by go_simp) ?_
   simp only[sP]
   refine za 5 (some 28) (.pointer (some ⟨bg,og+j,none⟩)) _ rfl rfl rfl (by kernel_rfl) (fun _ _ _ h=>h) hS0 (by rfl) (fun W hX=>by go_simp) ?_
   simp only[sP]
   refine za 6 (some 29) (.int .i64 (x:Int)) _ rfl rfl rfl (by kernel_rfl) (fun _ _ _ h=>h) hS0 (by rfl) (fun W hX=>by have s0:=HCg.out W (HEw.out.trans hX);go_simp) ?_
   simp only[sP]
   refine za 7 (some 30) (.int .i64 ((U:Int)+(x:Int))) _ rfl rfl rfl (by kernel_rfl) (fun _ _ _ h=>h) hS0 (by rfl) (fun W hX=>by go_simp;rw[HAd.out]) ?_
   simp only[sP]
   refine za 8 (some 31) (.slice (J5 A cr U) x (cr-U)) _ rfl rfl rfl (by kernel_rfl) (fun _ _ _ h=>h) hS0 (by rfl) (fun W hX=>by have s0:=HTop.out W;go_simp) ?_
   simp only[sP]
   refine za 10 (some 33) (.pointer (some ⟨w.heap.size,1,none⟩)) _ rfl rfl rfl (by kernel_rfl) (fun _ _ _ h=>h) hS0 (by rfl) (fun W hX=>by go_simp) ?_
   simp only[sP]
   refine za 11 (some 34) (.bool p) _ rfl rfl rfl (by kernel_rfl) (fun _ _ _ h=>h) hS0 (by rfl) (fun W hX=>by have s0:=(HW.out.ext (HE.out.trans hX)).at 1 (u:=.bool p) rfl;go_simp) ?_
   simp only[sP]
   refine zc 9 _ (by kernel_rfl) rfl rfl (by rfl) (fun K0 hK0=>?_)
   go_simp
   go_at_call 61
   refine (CB _ (HE.out.trans hS0)).mono ?_
   rintro e w3 ⟨v3,rfl,hO3,hE3⟩
   obtain⟨A3,c3,rfl,hc3,hm3,hb3⟩:=hO3.form
   have hS3:=hS0.trans hE3
   have CW3:=CW _ A3 c3 hb3
   clear hO3 hE3 hb3
   refine hK0 _ _ (fun _=>hS3) ?_
   clear hK0 K0
   refine zc 12 _ (by kernel_rfl) rfl rfl (by rfl) (fun K1 hK1=>?_)
   go_simp
   go_at_call 60
   refine CW3.mono ?_
   rintro e w4 ⟨v4,rfl,hO4,hE4⟩
   have hS4:=hS3.trans hE4
   have hcl4:=Clear.own (v:=u7) hO4 (fun q hq=>Nat.lt_of_lt_of_le (HO.out.lt q hq).2 hS3.le)
   obtain⟨A4,c4,rfl,hc4,hm4,hb4⟩:=hO4.form
   have hr4:RowOf w4 w4.heap.size (.slice A4 F.length c4) F:=⟨A4,c4,rfl,hc4,hm4,hb4⟩
   clear CW3 hE4 hO4
   refine hK1 _ _ (fun h=>absurd h (by decide)) ?_
   clear hK1 K1
   refine zc 13 _ (by kernel_rfl) rfl rfl (by rfl) (fun K2 hK2=>?_)
   go_simp
   refine hK2 _ _ (fun h=>absurd h (by decide)) ?_
   clear hK2 K2
   refine yk 14 (some 36) (.slice A4 F.length c4) _ rfl rfl rfl (by kernel_rfl) (fun _ _ _ h=>h) (fun h=>absurd h (by decide)) (by rfl) (fun W=>by go_simp) ?_
   simp only[sP]
   refine yk 15 (some 37) (.int .i64 er) _ rfl rfl rfl (by kernel_rfl) (fun _ _ _ h=>h) (fun h=>absurd h (by decide)) (by rfl) (fun W=>by go_simp) ?_
   simp only[sP]
   refine zc 16 _ (by kernel_rfl) rfl rfl (by rfl) (fun K3 hK3=>?_)
   go_simp
   refine hK3 _ _ (fun h=>absurd h (by decide)) ?_
   clear hK3 K3
   refine zc 17 _ (by kernel_rfl) rfl rfl (by rfl) (fun K4 hK4=>?_)
   go_simp
   refine hK4 _ _ (fun h=>absurd h (by decide)) (zj (by kernel_rfl) ?_ _)
   clear hK4 K4
   have hO5:=HO.out.ext hS4
   have hB5:=Nat.le_trans HEw.out.le hS4.le
   have hlen5:(framesTo p l gs j).length≤1000:=by rw[HFl.out];omega
   go_wp2_with (at_builtin;refine uV rfl (.tmp 38) (.tmp 40) rfl rfl hO5 hr4 hcl4 rfl hlen5 hB5 ?_;intro v9 w9 hO9 hG9;have hF9:Ext w2 w9:=Below.grown ((HEw.out.trans hS4).alloc _) hG9 ((HEw.out.trans hS4).alloc _).le (fun q hq=>(HO.out.lt q hq).1);have hcg9:=HCg.out w9 hF9;clear hG9)
   go_roundw
   case rel=>exact⟨j+1,by omega,by go_num,by rw[HUn.out];go_num,by rw[HFj.out];exact hO9,hF9⟩
   case measure=>simp[intOf];omega
  ·have hjI:¬ (j:Int)<(ng:Int):=by omega
   obtain rfl:ng=j:=by omega
   go_wp2
   go_ret2
   exact⟨_,_,_,rfl,HO.out.mono (HE1.out.trans HE2.out).le,HCm.out,HI.out.later HEw.out,HE1.out.trans HE.out⟩
end
section
open Go.RowKit Bdy
structure TwoB (w:World)(base:Nat)(v1 v2:Value)(L H:List UInt8):Prop where
 one:OwnB w base v1 L
 two:OwnB w base v2 H
 apart:v1.ownBlock=none∨v1.ownBlock≠v2.ownBlock
def OutOf (ob:Option Nat)(lo hi:Nat):Prop:=∀ q,ob=some q→q<lo∨hi≤q
section
variable {w w':World}{base lo hi:Nat}{v v1 v2 v':Value}{l L H L':List UInt8}{ob ob':Option Nat}
theorem TwoB.ext (h:TwoB w base v1 v2 L H)(hE:Ext w w'):TwoB w' base v1 v2 L H:=⟨h.one.ext hE,h.two.ext hE,h.apart⟩
theorem TwoB.flip (h:TwoB w base v1 v2 L H):TwoB w base v2 v1 H L:=by
 refine⟨h.two,h.one,?_⟩
 cases hv:v2.ownBlock with
 | none=>exact .inl rfl
 | some k =>
  refine .inr fun e=>?_
  rcases h.apart with h1|h1
  ·rw[h1]at e;cases e
  ·exact h1 (by rw[hv];exact e.symm)
theorem TwoB.grow (h:TwoB w base v1 v2 L H)(hO:OwnB w' base v' L')(hG:w.grownBy w' v1.ownBlock)(hN:NewOb w v1.ownBlock v'.ownBlock):TwoB w' base v' v2 L' H:=by
 have hf:=h.flip
 refine⟨hO,World.ownsRow.kept h.two hG hf.apart,?_⟩
 rcases hN with e | ⟨n,e,hn⟩
 ·rw[e];exact h.apart
 ·refine .inr fun e2=>?_
  rw[e]at e2
  have:=h.two.lt n e2.symm
  omega
theorem OutOf.next (h:OutOf ob lo hi)(hN:NewOb w ob ob')(hw:hi≤w.heap.size):OutOf ob' lo hi:=fun q hq=>by
 rcases hN with e | ⟨n,e,hn⟩
 ·exact h q (by rw[← e];exact hq)
 ·rw[e]at hq
  cases hq
  omega
theorem OwnB.keptOut (h:OwnB w lo v l)(hv:∀ q,v.ownBlock=some q→q<hi)(hG:w.grownBy w' ob)(ho:OutOf ob lo hi):OwnB w' lo v l:=by
 refine World.ownsRow.kept h hG ?_
 cases e:v.ownBlock with
 | none=>exact .inl rfl
 | some q =>
  refine .inr fun e2=>?_
  have h1:=(h.lt q e).1
  have h2:=hv q e
  rcases ho q e2.symm with h3|h3<;>omega
theorem OwnB.outOf (h:OwnB w base v l)(hw:w.heap.size≤lo):OutOf v.ownBlock lo hi:=fun q hq=>.inl (Nat.lt_of_lt_of_le (h.lt q hq).2 hw)
theorem OwnB.formN (h:OwnB w base v l){n:Nat}(hn:l.length=n):∃ A c,v=.slice A n c∧Bytes w w.heap.size A n l:=by
 subst hn
 obtain⟨A,c,e,_,_,hb⟩:=h.form
 exact⟨A,c,e,hb⟩
theorem OwnB.grownExt {w0:World}(h:OwnB w base v l)(hE:Ext w0 w)(hb:w0.heap.size≤base)(hG:w.grownBy w' v.ownBlock):Ext w0 w':=Below.grown hE hG hE.le (fun q hq=>Nat.le_trans hb (h.lt q hq).1)
end
set_option maxHeartbeats 8000000 in
set_option maxRecDepth 100000 in
theorem jI (r:Nat)(Af Ag Ac Ai:Option Addr)(cf ng cg nc cc ni ci:Nat)(gs:List Nat)(fs:List (List UInt8))(col idx:List UInt8)(w:World)(hP:Parts w w.heap.size Af ng fs)(hI:IntsAt w w.heap.size Ag ng (gs.map fun (k:Nat)=>(k:Int)))
  (hc:Bytes w w.heap.size Ac nc col) (hi:Bytes w w.heap.size Ai ni idx) (hr:r≤1000000) (hng:ng≤1000) (hgz:∀ j,j<ng→gs.getD j 0≤100000) (hfz:∀ s,s∈fs→s.length≤1000000) (hnc:nc≤900000) (hni:ni≤900000) :
  Calls Tryz.prog 11 #[.int .i64 (r:Int),.slice Af ng cf,.slice Ag ng cg,.slice Ac nc cc,.slice Ai ni ci] w (zt w (joinE r gs fs col idx)):=by
 have hfl:=hP.1
 have hgl:gs.length=ng:=by have:=hI.1;simpa using this
 have hcl:=hc.1
 have hil:=hi.1
 have HFz:=hide (show ∀ j,j<ng→(fs.getD j []).length≤1000000 from fun j hj=>hfz _ (by rw[List.getD_eq_getElem?_getD,List.getElem?_eq_getElem (by omega)];exact List.getElem_mem _))
 have HGz:=hide (show ∀ j,j<ng→gs.getD j 0≤100000∧(gs.map fun (k:Nat)=>(k:Int)).getD j 0=((gs.getD j 0:Nat):Int) from fun j hj=>⟨hgz j hj,by simp[show j<gs.length by omega]⟩)
 have HFt:=hide (fun j (hj:j<fs.length)=>Zo fs j hj)
 have HFl:=hide (show ∀ j,(fs.take j).flatten.length≤1000000000 from fun j=>by
  have h1:=uq fs j
  have h2:=flat_le (k:=1000000) fs hfz
  rw[hfl]at h2
  have h3:1000000*ng≤1000000*1000:=Nat.mul_le_mul_left _ hng
  omega)
 have HPn:=hide (pairs_next gs fs)
 have HPl:=hide (VS gs fs)
 have HPt:=hide hP
 have HIn:=hide hI
 have HCb:=hide hc
 have HIb:=hide hi
 have hl1:=Num.enc_len r
 have hl2:=Num.enc_len ng
 have HL1:=hide hl1
 have HL2:=hide hl2
 have HFn:=hide hfl
 have CR:=zx r w (by omega)
 have CL:=fun W=>zx ng W (by omega)
 have hr9:(r:Int)≤1000000:=by omega
 have hr0:(0:Int)≤(r:Int):=by omega
 have hn9:(ng:Int)≤1000:=by omega
 have hn0:(0:Int)≤(ng:Int):=by omega
 unfold zt at CR CL ⊢
 obtain⟨J,hJ⟩:∃ J,J=joinE r gs fs col idx:=⟨_,rfl⟩
 rw[← hJ]
 have HJd:=hide hJ
 clear hP hI hc hi hgz hfz hfl hl1 hl2 hJ
 go_enter Tryz.func11,Tryz.ntmps11
 go_wp2_with fail
 refine CR.mono ?_
 rintro e w2 ⟨v2,rfl,hO2,hE2⟩
 have CL2:=CL w2
 clear CR CL
 go_wp2_with fail
 refine CL2.mono ?_
 rintro e w3 ⟨v3,rfl,hO3,hE3⟩
 obtain⟨A3,c3,rfl,-,-,hb3⟩:=hO3.form
 have hO2':=hO2.ext hE3
 have hF3:=hE2.trans hE3
 have hB3:=hF3.le
 have hfit3:(Num.enc r).length+(Num.enc ng).length≤140737488355328:=by have:=HL1.out;have:=HL2.out;omega
 clear CL2 hO3
 go_wp2_with (at_builtin;refine ze rfl (.tmp 21) (.tmp 25) rfl rfl hO2' rfl hb3 hfit3 hB3 ?_;intro v4 w4 hO4 hG4 hN4;have hF4:Ext w w4:=hO2'.grownExt hF3 (Nat.le_refl _) hG4;clear hG4 hN4)
 have hT4:TwoB w4 w.heap.size (.slice none 0 0) v4 [] (Num.enc r++Num.enc ng):=⟨OwnB.nil _ _,hO4,.inl rfl⟩
 have HT4:=hide hT4
 have HF4:=hide hF4
 clear hO4 hF4 hT4 hO2 hO2' hE2 hE3 hF3 hB3 hfit3 hb3
 go_loopw [13,11,12] (fun z o d wr=>∃ j:Nat,j≤ng∧z=.int .i64 (j:Int)∧TwoB wr w.heap.size o d (fs.take j).flatten (Num.enc r++Num.enc ng++pairsTo gs fs j)∧Ext w wr) (fun z _ _ _=>ng-(intOf z).toNat)
 case atStart=>exact⟨0,by omega,rfl,by rw[List.take_zero,show pairsTo gs fs 0=[] from rfl,List.append_nil];exact HT4.out,HF4.out⟩
 case round =>
  clear HT4 HF4
  obtain⟨j,hj,rfl,hT,hE⟩:=hrel
  have HT:=hide hT
  have HE:=hide hE
  clear hT hE
  by_cases hlt:j<ng
  ·have hjI:(j:Int)<(ng:Int):=by omega
   obtain⟨bg,og,rfl,hcg,hlg⟩:=HIn.out.cellB hlt
   obtain⟨z1,z2⟩:=HGz.out j hlt
   rw[z2]at hcg
   rcases HPt.out.2 with h0 | ⟨bf,of,rfl,hbf,hcs⟩
   ·omega
   obtain⟨A',y,c',hc1,-,hrow⟩:=hcs j hlt
   have hyl:=hrow.1
   have hfz:=HFz.out j hlt
   rw[hyl]at hfz
   have HNx:=hide (HPn.out j)
   have HFx:=hide (HFt.out j (by rw[HFn.out];exact hlt))
   rw[hyl]at HNx
   obtain⟨x,hx⟩:∃ x,x=gs.getD j 0:=⟨_,rfl⟩
   obtain⟨F,hF⟩:∃ F,F=fs.getD j []:=⟨_,rfl⟩
   rw[← hx]at hcg z1 HNx
   rw[← hF]at hrow HFx
   have HCg:=hide (show ∀ W,Ext w W→W.cell? ⟨bg,og+j,none⟩=some (.int .i64 (x:Int)) from fun W hE=>(hE.cell hlg).trans hcg)
   have HCf:=hide (show ∀ W,Ext w W→W.cell? ⟨bf,of+j,none⟩=some (.slice A' y c') from fun W hE=>(hE.cell hbf).trans hc1)
   have HBf:=hide (show ∀ W,Ext w W→Bytes W W.heap.size A' y F from fun W hE=>hE.bytes hrow)
   have CX:=fun W=>zx x W (by omega)
   have CY:=fun W=>zx y W (by omega)
   unfold zt at CX CY
   have hx9:(x:Int)≤100000:=by omega
   have hx0:(0:Int)≤(x:Int):=by omega
   have hy9:(y:Int)≤1000000:=by omega
   have hy0:(0:Int)≤(y:Int):=by omega
   have HD:=hide (show (Num.enc r++Num.enc ng++pairsTo gs fs j).length≤30000 from by
    have:=HL1.out
    have:=HL2.out
    have:=HPl.out j
    simp only[List.length_append]
    omega)
   have HFj:=hide (HFl.out j)
   have hEx:=Num.enc_len x
   have hEy:=Num.enc_len y
   have hfit5:(Num.enc r++Num.enc ng++pairsTo gs fs j).length+(Num.enc x).length≤140737488355328:=by have:=HD.out;omega
   have hfit7:(Num.enc r++Num.enc ng++pairsTo gs fs j++Num.enc x).length+(Num.enc y).length≤140737488355328:=by have:=HD.out;rw[List.length_append];omega
   have hfit8:(fs.take j).flatten.length+y≤140737488355328:=by have:=HFj.out;omega
   have HFit5:=hide hfit5
   have HFit7:=hide hfit7
   have HFit8:=hide hfit8
   have d0:=HCg.out wr HE.out
   clear hcg z2 hc1 hcs hrow hyl hx hF hEx hEy hfit5 hfit7 hfit8
   go_wp2_with fail
   refine (CX _).mono ?_
   rintro e w5 ⟨v5,rfl,hO5,hE5⟩
   obtain⟨A5,c5,rfl,-,-,hb5⟩:=hO5.form
   have hF5:=HE.out.trans hE5
   have hT5:=HT.out.ext hE5
   have hB5:=hF5.le
   have hfit5:=HFit5.out
   clear hO5 hE5 d0 CX
   go_wp2_with (first
    | (at_builtin;refine ze rfl (.tmp 33) (.tmp 39) rfl rfl hT5.two rfl hb5 hfit5 hB5 ?_;intro v6 w6 hO6 hG6 hN6;have hT6:=(hT5.flip.grow hO6 hG6 hN6).flip;have hF6:=hT5.two.grownExt hF5 (Nat.le_refl _) hG6;have d1:=HCf.out w6 hF6;clear hO6 hG6 hN6 hb5 hfit5 hB5 hT5 hF5)
    | (go_at_call 20;refine (CY _).mono ?_;rintro e w7 ⟨v7,rfl,hO7,hE7⟩;obtain⟨A7,c7,rfl,-,-,hb7⟩:=hO7.form;have hT7:=hT6.ext hE7;have hF7:=hF6.trans hE7;have hB7:=hF7.le;have hfit7:=HFit7.out;clear hO7 hE7 hT6 hF6 d1)
    | (at_builtin;refine ze rfl (.tmp 41) (.tmp 48) rfl rfl hT7.two rfl hb7 hfit7 hB7 ?_;intro v8 w8 hO8 hG8 hN8;have hT8:=(hT7.flip.grow hO8 hG8 hN8).flip;have hF8:=hT7.two.grownExt hF7 (Nat.le_refl _) hG8;have d2:=HCf.out w8 hF8;have hbF:=HBf.out w8 hF8;have hB8:=hF8.le;have hfit8:=HFit8.out;clear hO8 hG8 hN8 hb7 hfit7 hB7 hT7 hF7)
    | (at_builtin;refine ze rfl (.tmp 50) (.tmp 54) rfl rfl hT8.one rfl hbF hfit8 hB8 ?_;intro v9 w9 hO9 hG9 hN9;have hT9:=hT8.grow hO9 hG9 hN9;have hF9:=hT8.one.grownExt hF8 (Nat.le_refl _) hG9;clear hO9 hG9 hN9 d2 hbF hB8 hfit8 hT8 hF8))
   go_roundw
   case rel=>exact⟨j+1,by omega,by go_num,by rw[HFx.out,HNx.out,← List.append_assoc,← List.append_assoc];exact hT9,hF9⟩
   case measure=>simp[intOf];omega
  ·have hjI:¬ (j:Int)<(ng:Int):=by omega
   obtain rfl:ng=j:=by omega
   have hTe:=HT.out
   rw[List.take_of_length_le (by rw[HFn.out];exact Nat.le_refl _)]at hTe
   have hFLl:=HFl.out ng
   rw[List.take_of_length_le (by rw[HFn.out];exact Nat.le_refl _)]at hFLl
   have hDBl:(Num.enc r++Num.enc ng++pairsTo gs fs ng).length≤30000:=by
    have:=HL1.out
    have:=HL2.out
    have:=HPl.out ng
    simp only[List.length_append]
    omega
   have hkc:=put_len col
   have hkx:=put_len idx
   have CC:=yB Ac nc cc col wr (by omega) (HE.out.bytes HCb.out)
   have CI:=fun W (hE:Ext w W)=>yB Ai ni ci idx W (by omega) (hE.bytes HIb.out)
   have hJ2:J=fs.flatten++Crc.put col++Crc.put idx++Crc.put (Num.enc r++Num.enc ng++pairsTo gs fs ng++Num.enc (Crc.put col).length++Num.enc (Crc.put idx).length)++Num.fixBytes (Crc.put (Num.enc r++Num.enc ng++pairsTo gs fs ng++Num.enc (Crc.put col).length++Num.enc (Crc.put idx).length)).length 4:=by rw[HJd.out];unfold joinE dirB;rw[hgl]
   generalize Crc.put col=KC at *
   generalize Crc.put idx=KX at *
   generalize Num.enc r++Num.enc ng++pairsTo gs fs ng=DB at *
   generalize fs.flatten=FL at *
   obtain⟨kc,hkc2⟩:∃ k,k=KC.length:=⟨_,rfl⟩
   obtain⟨kx,hkx2⟩:∃ k,k=KX.length:=⟨_,rfl⟩
   rw[← hkc2,← hkx2]at hJ2
   have hec:=Num.enc_len kc
   have hex:=Num.enc_len kx
   have hDLl:(DB++Num.enc kc++Num.enc kx).length≤40000:=by simp only[List.length_append];omega
   have hfit7:DB.length+(Num.enc kc).length≤140737488355328:=by omega
   have hfit9:(DB++Num.enc kc).length+(Num.enc kx).length≤140737488355328:=by rw[List.length_append];omega
   obtain⟨DL,hDL⟩:∃ D,D=DB++Num.enc kc++Num.enc kx:=⟨_,rfl⟩
   rw[← hDL]at hDLl hJ2
   have hPl:=put_len DL
   have CP:=fun W A c (hb:Bytes W W.heap.size A DL.length DL)=>yB A DL.length c DL W (by omega) hb
   generalize Crc.put DL=P at *
   obtain⟨PL,hPL⟩:∃ k,k=P.length:=⟨_,rfl⟩
   rw[← hPL]at hPl hJ2
   have CF:=fun W=>Uj PL 4 W (by omega)
   have hFx:(Num.fixBytes PL 4).length≤8:=by
    have:=(fix_ok (x:=PL) (by omega)).2
    omega
   generalize Num.fixBytes PL 4=EB at *
   generalize Num.fixErr PL 4=er at *
   have hfit11:FL.length+kc≤140737488355328:=by omega
   have hfit12:(FL++KC).length+kx≤140737488355328:=by rw[List.length_append];omega
   have hfit13:(FL++KC++KX).length+PL≤140737488355328:=by simp only[List.length_append];omega
   have hfit15:(FL++KC++KX++P).length+EB.length≤140737488355328:=by simp only[List.length_append];omega
   have CN5:=fun W=>zx kc W (by omega)
   have CN6:=fun W=>zx kx W (by omega)
   unfold zt at CC CI CP CN5 CN6
   unfold zB at CF
   have hkc9:(kc:Int)≤1000000:=by omega
   have hkc0:(0:Int)≤(kc:Int):=by omega
   have hkx9:(kx:Int)≤1000000:=by omega
   have hkx0:(0:Int)≤(kx:Int):=by omega
   have hPL9:(PL:Int)≤100000:=by omega
   have hPL0:(0:Int)≤(PL:Int):=by omega
   have HKc:=hide hkc2.symm
   have HKx:=hide hkx2.symm
   have HPL:=hide hPL.symm
   have HDL:=hide hDL
   have hod:=fun hi=>hTe.two.outOf (lo:=wr.heap.size) (hi:=hi) (Nat.le_refl _)
   have hoo:=fun hi=>hTe.one.outOf (lo:=wr.heap.size) (hi:=hi) (Nat.le_refl _)
   have HOd:=hide hod
   have HOo:=hide hoo
   have HTe:=hide hTe
   have HJ2:=hide hJ2
   clear hJ2 HT hTe hFLl hDBl hkc hkx hkc2 hkx2 hec hex hDL hDLl hPl hPL hFx hod hoo HJd
   go_wp2_with fail
   refine CC.mono ?_
   rintro e w5 ⟨v5,rfl,hO5,hE5⟩
   have CI5:=CI w5 (HE.out.trans hE5)
   clear CC CI
   go_wp2_with fail
   refine CI5.mono ?_
   rintro e w6 ⟨v6,rfl,hO6,hE6⟩
   obtain⟨A5,c5,rfl,-⟩:=hO5.formN HKc.out
   obtain⟨A6,c6,rfl,-⟩:=hO6.formN HKx.out
   have K5:=hO5.ext hE6
   have K6:=hO6.mono hE5.le
   have HB5:=hide (fun q hq=>(K5.lt q hq).2)
   have HB6:=hide (fun q hq=>(K6.lt q hq).2)
   have hE56:=hE5.trans hE6
   have hT6:=HTe.out.ext hE56
   have hF6:=HE.out.trans hE56
   clear CI5 hO5 hO6 hE5 hE6
   go_wp2_with fail
   refine (CN5 _).mono ?_
   rintro e w7 ⟨v7,rfl,hO7,hE7⟩
   obtain⟨A7,c7,rfl,-,-,hb7⟩:=hO7.form
   have hT7:=hT6.ext hE7
   have hF7:=hF6.trans hE7
   have hB7:=hF7.le
   have K5a:=K5.ext hE7
   have K6a:=K6.ext hE7
   have HS7:=hide hE7.le
   clear CN5 hO7 hT6 hF6 K5 K6
   go_wp2_with (first
    | (at_builtin;refine ze rfl (.tmp 60) (.tmp 64) rfl rfl hT7.two rfl hb7 hfit7 hB7 ?_;intro v8 w8 hO8 hG8 hN8;have hT8:=(hT7.flip.grow hO8 hG8 hN8).flip;have hF8:=hT7.two.grownExt hF7 (Nat.le_refl _) hG8;have K5b:=K5a.keptOut HB5.out hG8 (HOd.out _);have K6b:=K6a.keptOut HB6.out hG8 (HOd.out _);have HO8:=hide ((HOd.out _).next hN8 HS7.out);have HS8:=hide (Nat.le_trans HS7.out hG8.size);clear hO8 hG8 hN8 hb7 hB7 hT7 hF7 K5a K6a)
    | (go_at_call 20;refine (CN6 _).mono ?_;rintro e w9 ⟨v9,rfl,hO9,hE9⟩;obtain⟨A9,c9,rfl,-,-,hb9⟩:=hO9.form;have hT9:=hT8.ext hE9;have hF9:=hF8.trans hE9;have hB9:=hF9.le;have K5c:=K5b.ext hE9;have K6c:=K6b.ext hE9;have HS9:=hide (Nat.le_trans HS8.out hE9.le);clear hO9 hE9 hT8 hF8 K5b K6b)
    | (at_builtin;refine ze rfl (.tmp 66) (.tmp 70) rfl rfl hT9.two rfl hb9 hfit9 hB9 ?_;intro v10 w10 hO10 hG10 hN10;have hT10:=(hT9.flip.grow hO10 hG10 hN10).flip;have hF10:=hT9.two.grownExt hF9 (Nat.le_refl _) hG10;have K5d:=K5c.keptOut HB5.out hG10 HO8.out;have K6d:=K6c.keptOut HB6.out hG10 HO8.out;have HS10:=hide (Nat.le_trans HS9.out hG10.size);have hO10b:=hO10;rw[← HDL.out]at hO10b;obtain⟨A10,c10,hv10,hb10⟩:=hO10b.formN rfl;subst hv10;have CP10:=CP w10 A10 c10 hb10;clear hO10 hO10b hG10 hN10 hb9 hB9 hT9 hF9 K5c K6c hb10)
    | (go_at_call 21;refine CP10.mono ?_;rintro e w11 ⟨v11,rfl,hO11,hE11⟩;obtain⟨A11,c11,rfl,-⟩:=hO11.formN HPL.out;have hO11o:=hT10.one.ext hE11;have hF11:=hF10.trans hE11;have hB11:=hF11.le;have P11:=hO11.mono (Nat.le_trans hE56.le HS10.out);have K5e:=K5d.ext hE11;have K6e:=K6d.ext hE11;have HS11:=hide (Nat.le_trans HS10.out hE11.le);have HBp:=hide (fun q hq=>(P11.lt q hq).2);have HB6e:=hide (fun q hq=>(K6e.lt q hq).2);clear hO11 hE11 hT10 hF10 K5d K6d CP10)
    | (at_builtin;refine ze rfl (.tmp 73) (.tmp 74) rfl rfl hO11o rfl K5e.bytesOf hfit11 hB11 ?_;intro v12 w12 hO12 hG12 hN12;have hF12:=hO11o.grownExt hF11 (Nat.le_refl _) hG12;have hB12:=hF12.le;have K6f:=K6e.keptOut HB6e.out hG12 (HOo.out _);have P12:=P11.keptOut HBp.out hG12 (HOo.out _);have HO12:=hide ((HOo.out _).next hN12 (Nat.le_refl _));clear hG12 hN12 hO11o hF11 hB11 K5e K6e P11)
    | (at_builtin;refine ze rfl (.tmp 76) (.tmp 77) rfl rfl hO12 rfl K6f.bytesOf hfit12 hB12 ?_;intro v13 w13 hO13 hG13 hN13;have hF13:=hO12.grownExt hF12 (Nat.le_refl _) hG13;have hB13:=hF13.le;have P13:=P12.keptOut HBp.out hG13 HO12.out;clear hG13 hN13 hO12 hF12 hB12 K6f P12)
    | (at_builtin;refine ze rfl (.tmp 79) (.tmp 80) rfl rfl hO13 rfl P13.bytesOf hfit13 hB13 ?_;intro v14 w14 hO14 hG14 hN14;have hF14:=hO13.grownExt hF13 (Nat.le_refl _) hG14;clear hG14 hN14 hO13 hF13 hB13 P13)
    | (go_at_call 22;refine (CF _).mono ?_;rintro e w15 ⟨v15,rfl,hO15,hE15⟩;obtain⟨A15,c15,rfl,-,-,hb15⟩:=hO15.form;have hO15o:=hO14.ext hE15;have hF15:=hF14.trans hE15;have hB15:=hF15.le;clear hO15 hE15 hO14 hF14)
    | (at_builtin;refine ze rfl (.tmp 89) (.tmp 90) rfl rfl hO15o rfl hb15 hfit15 hB15 ?_;intro v16 w16 hO16 hG16 hN16;have hF16:=hO15o.grownExt hF15 (Nat.le_refl _) hG16;clear hG16 hN16 hO15o hF15 hB15 hb15))
   have HO16:=hide hO16
   go_ret
   exact⟨_,rfl,by rw[HJ2.out];exact HO16.out,hF16⟩
end
end Go.Proofs.YtpmedpdjglcdpaaGreatDoor
