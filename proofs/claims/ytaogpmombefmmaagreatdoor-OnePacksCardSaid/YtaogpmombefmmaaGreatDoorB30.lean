/- The document's Write of chapter 12. Chapter 21: the document's Frames. Chapter 21: the document's Pack. The document's Read of chapter 12. What the laws of chapter 12 ask of the program; the example; BlockWrites, BlockReads, BlockBack, BlockBounds. -/
import Derived.Test.YtaogpmombefmmaaGreatDoorB02
import Derived.Test.YtaogpmombefmmaaGreatDoorB04
import Derived.Test.YtaogpmombefmmaaGreatDoorB07
import Derived.Test.YtaogpmombefmmaaGreatDoorB09
import Derived.Test.YtaogpmombefmmaaGreatDoorB12
import Derived.Test.YtaogpmombefmmaaGreatDoorB15
import Derived.Test.YtaogpmombefmmaaGreatDoorB19
import Derived.Test.YtaogpmombefmmaaGreatDoorB20
import Derived.Test.YtaogpmombefmmaaGreatDoorB21
import Derived.Test.YtaogpmombefmmaaGreatDoorB24
import Derived.Test.YtaogpmombefmmaaGreatDoorB26
import Derived.Test.YtaogpmombefmmaaGreatDoorB27
import Derived.Test.YtaogpmombefmmaaGreatDoorB28
import Derived.Test.YtaogpmombefmmaaGreatDoorB29
import Derived.Lib.SlBytesConst
namespace Go.Proofs.YtaogpmombefmmaaGreatDoor
section
open Go.RowKit Num Lz Tok Blk
theorem Blk.write_toks {b:List UInt8}(h:b.length≤32768):writeE (toks b 0)=(writeB (toks b 0),0):=by
 have hl:=toks_len b 0
 unfold writeE
 rw [if_neg (by omega),if_pos (List.all_eq_true.2 (toks_may b 0))]
set_option maxHeartbeats 4000000 in
set_option maxRecDepth 100000 in
theorem refBWrite_any (A:Option Addr)(n c:Nat)(b:List UInt8)(plain:Bool)(w:World)(h:Bytes w w.heap.size A n b)(hLn:RefLensC w) :
  Calls Tryz.prog 38 #[.slice A n c,.bool plain] w (MadeE w (writeF b plain).1 (writeF b plain).2):=by
 have hl:=h.1
 subst hl
 by_cases hbig:32768 < b.length
 ·have hbI:(32768:Int) < (b.length:Int):=by omega
  have HN:=hide (show writeF b plain=([],6) by unfold writeF;rw [if_pos hbig])
  rw [HN.out]
  clear HN
  go_enter Tryz.func38,Tryz.ntmps38
  go_wp2
  go_ret2
  exact ⟨_,rfl,OwnB.nil _ _,Ext.refl _⟩
 have hbI:¬ (32768:Int) < (b.length:Int):=by omega
 have HB:=hide h
 have HN:=hide (show writeF b plain=(Crc.put (headB b plain++bodyOf b plain),0) by unfold writeF;rw [if_neg hbig];rfl)
 rw [HN.out]
 clear HN h
 cases hu:useS b plain with
 | false =>
  have HW:=hide (show headB b plain=[UInt8.ofNat 0]++enc b.length++enc b.length by unfold headB wayOf bodyOf;rw [hu];rfl)
  have HBd:=hide (show bodyOf b plain=b by unfold bodyOf;rw [hu];rfl)
  rw [HW.out,HBd.out]
  clear HW HBd
  cases plain with
  | true =>
   clear hu hLn
   go_enter Tryz.func38,Tryz.ntmps38
   go_wp2_with fail
   have hF0:Ext w w:=Ext.refl w
   have hS0:Bytes w w.heap.size A b.length b:=HB.out
   have hO1:=OwnB.lit w #[.int .u8 0] [UInt8.ofNat 0] 1 rfl rfl (by omega) (base:=w.heap.size) (Nat.le_refl _)
   have hE1:=extNew w (.cells #[.int .u8 0] 5)
   have C1:=refNum_any b.length (w.alloc (.cells #[.int .u8 0] 5)) (by omega)
   have hWn:=hF0.le
   obtain ⟨B0,hB0⟩:∃ k,k=w.heap.size:=⟨_,rfl⟩
   have HB0:=hide hB0
   rw [← hB0] at hO1
   have hBel1:Below B0 w (w.alloc (.cells #[.int .u8 0] 5)):=by rw [hB0];exact hE1
   have hB1:B0≤(w.alloc (.cells #[.int .u8 0] 5)).heap.size:=by rw [hB0];exact hE1.le
   clear hE1 hB0
   generalize w.alloc (.cells #[.int .u8 0] 5)=u1 at *
   go_wp2_with fail
   refine C1.mono ?_
   rintro e u2 ⟨v2,rfl,hV2,hE2⟩
   obtain ⟨A2,c2,rfl,_,_,hb2⟩:=hV2.form
   have hO2:=hO1.ext hE2
   have hBel2:=hBel1.trans (Below.mono hE2 hB1)
   have hB2:B0≤u2.heap.size:=Nat.le_trans hB1 hE2.le
   have hel:=enc_len b.length
   have hl2:[UInt8.ofNat 0].length+(enc b.length).length≤140737488355328:=by simp;omega
   clear C1 hO1 hE2 hBel1 hB1 hV2
   go_wp2_with (at_builtin;refine wpList_app rfl (.tmp 31) (.tmp 35) rfl (by rw [HB0.out];rfl) hO2 rfl hb2 hl2 hB2 ?_;intro v3 u3 hO3 hG3;have hBel3:=hO2.below hBel2 hG3 hB2)
   have C4:=refNum_any b.length u3 (by omega)
   have hB3:B0≤u3.heap.size:=Nat.le_trans hB2 hG3.size
   clear hO2 hBel2 hG3 hb2 hl2 hB2
   go_wp2_with fail
   refine C4.mono ?_
   rintro e u4 ⟨v4,rfl,hV4,hE4⟩
   obtain ⟨A4,c4,rfl,_,_,hb4⟩:=hV4.form
   have hO4:=hO3.ext hE4
   have hBel4:=hBel3.trans (Below.mono hE4 hB3)
   have hB4:B0≤u4.heap.size:=Nat.le_trans hB3 hE4.le
   have hel2:=enc_len b.length
   have hl4:([UInt8.ofNat 0]++enc b.length).length+(enc b.length).length≤140737488355328:=by simp;omega
   clear C4 hO3 hE4 hBel3 hB3 hV4
   have hSx:∀ W',Below B0 w W'→B0≤W'.heap.size→Bytes W' W'.heap.size A b.length b:=fun W' h1 h2=>(hS0.below h1 (by rw [HB0.out];exact Nat.le_refl _)).mono (by rw [← HB0.out];exact h2)
   have HSx:=hide hSx
   clear hSx
   have hl5:([UInt8.ofNat 0]++enc b.length++enc b.length).length+b.length≤140737488355328:=by simp;omega
   go_wp2_with (first
    | (at_builtin;refine wpList_app rfl (.tmp 37) (.tmp 41) rfl rfl hO4 rfl hb4 hl4 hB4 ?_;intro v5 u5 hO5 hG5;have hBel5:=hO4.below hBel4 hG5 hB4;have hB5:B0≤u5.heap.size:=Nat.le_trans hB4 hG5.size;have hb5:=HSx.out u5 hBel5 hB5)
    | (at_builtin;refine wpList_app rfl (.tmp 43) (.tmp 44) rfl rfl hO5 rfl hb5 hl5 hB5 ?_;intro v6 u6 hO6 hG6;have hBel6:=hO5.below hBel5 hG6 hB5))
   clear hO4 hBel4 hG5 hb4 hl4 hB4
   obtain ⟨A6,c6,rfl,h6c,h6m,hb6⟩:=hO6.form
   have C7:=refCrcPut_any A6 _ c6 _ u6 (by simp;omega) hb6
   have hB6:B0≤u6.heap.size:=Nat.le_trans hB5 hG6.size
   clear hO5 hBel5 hG6 hb5 hl5 hB5 hO6 hb6
   refine C7.mono ?_
   rintro e u7 ⟨v7,rfl,hO7,hE7⟩
   go_wp2
   go_ret2
   have hFu:Ext w u6:=Below.trans hF0 (Below.mono hBel6 (by rw [HB0.out];exact hWn))
   exact ⟨_,rfl,hO7.mono hFu.le,hFu.trans hE7⟩
  | false =>
   have hnb:¬ ((squeeze b).length:Int) < (b.length:Int):=by unfold useS at hu;simp at hu;omega
   have hLn2:=hLn
   have CF:=refFind_any A b.length c b w (by omega) HB.out
   clear hLn
   go_enter Tryz.func38,Tryz.ntmps38
   go_wp2_with fail
   refine CF.mono ?_
   rintro e x1 ⟨y1,rfl,hT1,hX1⟩
   obtain ⟨At,ct,rfl,htc,htm,ht⟩:=hT1.at (fun t ht=>toks_ok b 0 t ht)
   have htl:=toks_len b 0
   have CW:=refWrite11_any At (toks b 0).length ct (toks b 0) x1 (by omega) ht (fun often limit A n c W hE=>hLn2 often limit A n c W (hX1.trans hE))
   rw [write_toks (by omega)] at CW
   clear CF hT1 ht hLn2
   generalize (toks b 0).length=tl at *
   go_wp2_with fail
   refine CW.mono ?_
   rintro e x2 ⟨y2,sq,rfl,hO2,hp2,_,hX2⟩
   obtain rfl:=(hp2 rfl).is
   have hsq:Bit.pack (writeB (toks b 0))=squeeze b:=rfl
   rw [hsq] at hO2
   obtain ⟨As,cs,rfl,_,_,hs⟩:=hO2.form
   have hF0:=hX1.trans hX2
   clear CW hO2 hp2 hX1 hX2 hsq
   have hS0:=hF0.bytes HB.out
   clear hs hu
   generalize (squeeze b).length=sl at *
   go_wp2_with fail
   have hO1:=OwnB.lit x2 #[.int .u8 0] [UInt8.ofNat 0] 1 rfl rfl (by omega) (base:=x2.heap.size) (Nat.le_refl _)
   have hE1:=extNew x2 (.cells #[.int .u8 0] 5)
   have C1:=refNum_any b.length (x2.alloc (.cells #[.int .u8 0] 5)) (by omega)
   have hWn:=hF0.le
   obtain ⟨B0,hB0⟩:∃ k,k=x2.heap.size:=⟨_,rfl⟩
   have HB0:=hide hB0
   rw [← hB0] at hO1
   have hBel1:Below B0 x2 (x2.alloc (.cells #[.int .u8 0] 5)):=by rw [hB0];exact hE1
   have hB1:B0≤(x2.alloc (.cells #[.int .u8 0] 5)).heap.size:=by rw [hB0];exact hE1.le
   clear hE1 hB0
   generalize x2.alloc (.cells #[.int .u8 0] 5)=u1 at *
   go_wp2_with fail
   refine C1.mono ?_
   rintro e u2 ⟨v2,rfl,hV2,hE2⟩
   obtain ⟨A2,c2,rfl,_,_,hb2⟩:=hV2.form
   have hO2:=hO1.ext hE2
   have hBel2:=hBel1.trans (Below.mono hE2 hB1)
   have hB2:B0≤u2.heap.size:=Nat.le_trans hB1 hE2.le
   have hel:=enc_len b.length
   have hl2:[UInt8.ofNat 0].length+(enc b.length).length≤140737488355328:=by simp;omega
   clear C1 hO1 hE2 hBel1 hB1 hV2
   go_wp2_with (at_builtin;refine wpList_app rfl (.tmp 31) (.tmp 35) rfl (by rw [HB0.out];rfl) hO2 rfl hb2 hl2 hB2 ?_;intro v3 u3 hO3 hG3;have hBel3:=hO2.below hBel2 hG3 hB2)
   have C4:=refNum_any b.length u3 (by omega)
   have hB3:B0≤u3.heap.size:=Nat.le_trans hB2 hG3.size
   clear hO2 hBel2 hG3 hb2 hl2 hB2
   go_wp2_with fail
   refine C4.mono ?_
   rintro e u4 ⟨v4,rfl,hV4,hE4⟩
   obtain ⟨A4,c4,rfl,_,_,hb4⟩:=hV4.form
   have hO4:=hO3.ext hE4
   have hBel4:=hBel3.trans (Below.mono hE4 hB3)
   have hB4:B0≤u4.heap.size:=Nat.le_trans hB3 hE4.le
   have hel2:=enc_len b.length
   have hl4:([UInt8.ofNat 0]++enc b.length).length+(enc b.length).length≤140737488355328:=by simp;omega
   clear C4 hO3 hE4 hBel3 hB3 hV4
   have hSx:∀ W',Below B0 x2 W'→B0≤W'.heap.size→Bytes W' W'.heap.size A b.length b:=fun W' h1 h2=>(hS0.below h1 (by rw [HB0.out];exact Nat.le_refl _)).mono (by rw [← HB0.out];exact h2)
   have HSx:=hide hSx
   clear hSx
   have hl5:([UInt8.ofNat 0]++enc b.length++enc b.length).length+b.length≤140737488355328:=by simp;omega
   go_wp2_with (first
    | (at_builtin;refine wpList_app rfl (.tmp 37) (.tmp 41) rfl rfl hO4 rfl hb4 hl4 hB4 ?_;intro v5 u5 hO5 hG5;have hBel5:=hO4.below hBel4 hG5 hB4;have hB5:B0≤u5.heap.size:=Nat.le_trans hB4 hG5.size;have hb5:=HSx.out u5 hBel5 hB5)
    | (at_builtin;refine wpList_app rfl (.tmp 43) (.tmp 44) rfl rfl hO5 rfl hb5 hl5 hB5 ?_;intro v6 u6 hO6 hG6;have hBel6:=hO5.below hBel5 hG6 hB5))
   clear hO4 hBel4 hG5 hb4 hl4 hB4
   obtain ⟨A6,c6,rfl,h6c,h6m,hb6⟩:=hO6.form
   have C7:=refCrcPut_any A6 _ c6 _ u6 (by simp;omega) hb6
   have hB6:B0≤u6.heap.size:=Nat.le_trans hB5 hG6.size
   clear hO5 hBel5 hG6 hb5 hl5 hB5 hO6 hb6
   refine C7.mono ?_
   rintro e u7 ⟨v7,rfl,hO7,hE7⟩
   go_wp2
   go_ret2
   have hFu:Ext w u6:=Below.trans hF0 (Below.mono hBel6 (by rw [HB0.out];exact hWn))
   exact ⟨_,rfl,hO7.mono hFu.le,hFu.trans hE7⟩
 | true =>
  cases plain with
  | true=>simp [useS] at hu
  | false =>
   have HW:=hide (show headB b false=[UInt8.ofNat 1]++enc b.length++enc (squeeze b).length by unfold headB wayOf bodyOf;rw [hu];rfl)
   have HBd:=hide (show bodyOf b false=squeeze b by unfold bodyOf;rw [hu];rfl)
   rw [HW.out,HBd.out]
   clear HW HBd
   have hnb:((squeeze b).length:Int) < (b.length:Int):=by unfold useS at hu;simp at hu;omega
   have hLn2:=hLn
   have CF:=refFind_any A b.length c b w (by omega) HB.out
   clear hLn
   go_enter Tryz.func38,Tryz.ntmps38
   go_wp2_with fail
   refine CF.mono ?_
   rintro e x1 ⟨y1,rfl,hT1,hX1⟩
   obtain ⟨At,ct,rfl,htc,htm,ht⟩:=hT1.at (fun t ht=>toks_ok b 0 t ht)
   have htl:=toks_len b 0
   have CW:=refWrite11_any At (toks b 0).length ct (toks b 0) x1 (by omega) ht (fun often limit A n c W hE=>hLn2 often limit A n c W (hX1.trans hE))
   rw [write_toks (by omega)] at CW
   clear CF hT1 ht hLn2
   generalize (toks b 0).length=tl at *
   go_wp2_with fail
   refine CW.mono ?_
   rintro e x2 ⟨y2,sq,rfl,hO2,hp2,_,hX2⟩
   obtain rfl:=(hp2 rfl).is
   have hsq:Bit.pack (writeB (toks b 0))=squeeze b:=rfl
   rw [hsq] at hO2
   obtain ⟨As,cs,rfl,_,_,hs⟩:=hO2.form
   have hF0:=hX1.trans hX2
   clear CW hO2 hp2 hX1 hX2 hsq
   have hS0:=hs
   clear hs hu
   have hsl:(squeeze b).length≤32768:=by omega
   go_wp2_with fail
   have hO1:=OwnB.lit x2 #[.int .u8 1] [UInt8.ofNat 1] 1 rfl rfl (by omega) (base:=x2.heap.size) (Nat.le_refl _)
   have hE1:=extNew x2 (.cells #[.int .u8 1] 5)
   have C1:=refNum_any b.length (x2.alloc (.cells #[.int .u8 1] 5)) (by omega)
   have hWn:=hF0.le
   obtain ⟨B0,hB0⟩:∃ k,k=x2.heap.size:=⟨_,rfl⟩
   have HB0:=hide hB0
   rw [← hB0] at hO1
   have hBel1:Below B0 x2 (x2.alloc (.cells #[.int .u8 1] 5)):=by rw [hB0];exact hE1
   have hB1:B0≤(x2.alloc (.cells #[.int .u8 1] 5)).heap.size:=by rw [hB0];exact hE1.le
   clear hE1 hB0
   generalize x2.alloc (.cells #[.int .u8 1] 5)=u1 at *
   go_wp2_with fail
   refine C1.mono ?_
   rintro e u2 ⟨v2,rfl,hV2,hE2⟩
   obtain ⟨A2,c2,rfl,_,_,hb2⟩:=hV2.form
   have hO2:=hO1.ext hE2
   have hBel2:=hBel1.trans (Below.mono hE2 hB1)
   have hB2:B0≤u2.heap.size:=Nat.le_trans hB1 hE2.le
   have hel:=enc_len b.length
   have hl2:[UInt8.ofNat 1].length+(enc b.length).length≤140737488355328:=by simp;omega
   clear C1 hO1 hE2 hBel1 hB1 hV2
   go_wp2_with (at_builtin;refine wpList_app rfl (.tmp 31) (.tmp 35) rfl (by rw [HB0.out];rfl) hO2 rfl hb2 hl2 hB2 ?_;intro v3 u3 hO3 hG3;have hBel3:=hO2.below hBel2 hG3 hB2)
   have C4:=refNum_any (squeeze b).length u3 (by omega)
   have hB3:B0≤u3.heap.size:=Nat.le_trans hB2 hG3.size
   clear hO2 hBel2 hG3 hb2 hl2 hB2
   go_wp2_with fail
   refine C4.mono ?_
   rintro e u4 ⟨v4,rfl,hV4,hE4⟩
   obtain ⟨A4,c4,rfl,_,_,hb4⟩:=hV4.form
   have hO4:=hO3.ext hE4
   have hBel4:=hBel3.trans (Below.mono hE4 hB3)
   have hB4:B0≤u4.heap.size:=Nat.le_trans hB3 hE4.le
   have hel2:=enc_len (squeeze b).length
   have hl4:([UInt8.ofNat 1]++enc b.length).length+(enc (squeeze b).length).length≤140737488355328:=by simp;omega
   clear C4 hO3 hE4 hBel3 hB3 hV4
   have hSx:∀ W',Below B0 x2 W'→B0≤W'.heap.size→Bytes W' W'.heap.size As (squeeze b).length (squeeze b):=fun W' h1 h2=>(hS0.below h1 (by rw [HB0.out];exact Nat.le_refl _)).mono (by rw [← HB0.out];exact h2)
   have HSx:=hide hSx
   clear hSx
   have hl5:([UInt8.ofNat 1]++enc b.length++enc (squeeze b).length).length+(squeeze b).length≤140737488355328:=by simp;omega
   go_wp2_with (first
    | (at_builtin;refine wpList_app rfl (.tmp 37) (.tmp 41) rfl rfl hO4 rfl hb4 hl4 hB4 ?_;intro v5 u5 hO5 hG5;have hBel5:=hO4.below hBel4 hG5 hB4;have hB5:B0≤u5.heap.size:=Nat.le_trans hB4 hG5.size;have hb5:=HSx.out u5 hBel5 hB5)
    | (at_builtin;refine wpList_app rfl (.tmp 43) (.tmp 44) rfl rfl hO5 rfl hb5 hl5 hB5 ?_;intro v6 u6 hO6 hG6;have hBel6:=hO5.below hBel5 hG6 hB5))
   clear hO4 hBel4 hG5 hb4 hl4 hB4
   obtain ⟨A6,c6,rfl,h6c,h6m,hb6⟩:=hO6.form
   have C7:=refCrcPut_any A6 _ c6 _ u6 (by simp;omega) hb6
   have hB6:B0≤u6.heap.size:=Nat.le_trans hB5 hG6.size
   clear hO5 hBel5 hG6 hb5 hl5 hB5 hO6 hb6
   refine C7.mono ?_
   rintro e u7 ⟨v7,rfl,hO7,hE7⟩
   go_wp2
   go_ret2
   have hFu:Ext w u6:=Below.trans hF0 (Below.mono hBel6 (by rw [HB0.out];exact hWn))
   exact ⟨_,rfl,hO7.mono hFu.le,hFu.trans hE7⟩
end
section
open Go.RowKit Arc Rcs
def cutR2 (a:Option Addr)(c k:Nat):Option Addr:=if c=k then a else a.map (·.add (k*4))
theorem run_midR2 (W:World)(a:Option Addr)(n c:Nat)(j k:Nat)(h:j+k≤c) :
  (Instr.slice 24 (.slice a n c) (some (.int .i64 (j:Int))) (some (.int .i64 ((j:Int)+(k:Int)))) none).run Tryz.prog W=.ok (.slice (cutR2 a c j) k (c-j)) W:=by
 rw [run_slice_lh (P:=Tryz.prog) (w:=W) 24 a n c (by kernel_rfl) .i64 .i64 (j:Int) ((j:Int)+(k:Int)) (by omega) (by omega) (by omega)]
 have hs:(sizeOf (Tryz.prog.elem 24)).run Tryz.prog W=.ok 4 W:=by kernel_rfl
 rw [hs]
 simp [Result.andThen,sliced,cutR2]
 omega
def FramesIn (w:World)(fs:List (List UInt8))(e:Ending)(w':World):Prop:=∃ v,e=.returned v∧OwnP w' w.heap.size v fs∧Ext w w'
set_option maxHeartbeats 8000000 in
set_option maxRecDepth 100000 in
theorem refFrames21_any (b:Int)(p:Bool)(k d y cc:Int)(A:Option Addr)(n cr:Nat)(l:List Rc)(w:World)(h:RcsAt w w.heap.size A n l)(hn:n≤cr)(_hcr:cr≤maxLen)(hb:IsI64 b)(hw:weightE l≤1500) :
  Calls Tryz.prog 20 #[.agg (optC b p k d y cc),.slice A n cr] w (FramesIn w (framesTo p l (groupsN b l) (groupsN b l).length)):=by
 have hll:=h.1
 have hl93:=len_small hw
 have hn93:n≤93:=by omega
 have hfew:=groups_few b l
 have hpart:=fun j (hj:j < (groupsN b l).length)=>part_le b l hj
 have HRc:=hide h
 have CG:=fun W (hE:Ext w W)=>refGroups17_any b true A n cr l W hb (h.later hE) (by omega)
 rw [groups_ints] at CG
 generalize groupsN b l=gs at *
 obtain ⟨ng,hgl⟩:∃ g,g=gs.length:=⟨_,rfl⟩
 rw [← hgl] at hpart hfew ⊢
 have HUp:=hide (fun j (hj:j < ng)=>upTo_next (gs:=gs) (j:=j) (by omega))
 have HGs:=hide (show ∀ j,j < ng→upTo gs j+gs.getD j 0≤n∧(gs.map fun (k:Nat)=>(k:Int)).getD j 0=((gs.getD j 0:Nat):Int) from fun j hj=>⟨by rw [← hll];exact hpart j hj,by simp [show j < gs.length by omega]⟩)
 have HFn:=hide (frames_next p l gs)
 have HFl:=hide (frames_len p l gs)
 have HF0:=hide (show framesTo p l gs 0=[] from rfl)
 have HU0:=hide (upTo_zero gs)
 have HFa:=hide (show ∀ j,frameAt p l gs j=(Blk.writeF (bytesB true ((l.drop (upTo gs j)).take (gs.getD j 0))) p).1 from fun _=>rfl)
 have HWt:=hide hw
 have hgm:(gs.map fun (k:Nat)=>(k:Int)).length=ng:=by rw [List.length_map,hgl]
 unfold MadeL at CG
 rw [hgm] at CG
 obtain ⟨w1,hw1⟩:∃ w1,w1=w.alloc (.cells (optC b p k d y cc) 23):=⟨_,rfl⟩
 have HE1:=hide (show Ext w w1 by rw [hw1];exact extNew w _)
 have HW:=hide (show Whole w1 w.heap.size 23 (optC b p k d y cc) by rw [hw1];exact Whole.new w _ _)
 have CG1:=CG w1 HE1.out
 unfold optC at *
 unfold FramesIn
 have s0:=HW.out.at 0 (u:=.int .i64 b) rfl
 rw [hw1] at s0
 clear h hpart hw hll CG hgm hgl
 go_enter Tryz.func20,Tryz.ntmps20
 go_wp2_with fail
 rw [← hw1]
 clear hw1 s0
 refine CG1.mono ?_
 rintro e w2 ⟨Ag,cg,rfl,hcg,hmg,hI,hE2⟩
 have HI:=hide hI
 have HE2:=hide hE2
 clear CG1 hI hE2 hcg hmg
 go_wp2
 go_loopw [8,6,7] (fun z v u wr=>∃ j:Nat,j≤ng∧z=.int .i64 (j:Int)∧u=.int .i64 ((upTo gs j:Nat):Int)∧OwnP wr w2.heap.size v (framesTo p l gs j)∧Ext w2 wr) (fun z _ _ _=>ng-(intOf z).toNat)
 case atStart=>exact ⟨0,by omega,rfl,by rw [HU0.out];rfl,by rw [HF0.out];exact OwnP.nil _ _,Ext.refl _⟩
 case round =>
  obtain ⟨j,hj,rfl,rfl,hO,hE⟩:=hrel
  have HO:=hide hO
  have HEw:=hide hE
  have HE:=hide (HE2.out.trans hE)
  clear hO hE
  by_cases hlt:j < ng
  ·have hjI:(j:Int) < (ng:Int):=by omega
   obtain ⟨bg,og,rfl,hcg,hlg⟩:=HI.out.cellQ hlt
   obtain ⟨z1,z2⟩:=HGs.out j hlt
   have hun:=HUp.out j hlt
   rw [z2] at hcg
   have HFj:=hide (HFn.out j)
   rw [HFa.out] at HFj
   have HWj:=hide (Nat.le_trans (weight_part l (upTo gs j) (gs.getD j 0)) HWt.out)
   obtain ⟨x,hx⟩:∃ x,x=gs.getD j 0:=⟨_,rfl⟩
   obtain ⟨U,hU⟩:∃ U,U=upTo gs j:=⟨_,rfl⟩
   rw [← hx] at hcg z1 hun HFj HWj
   rw [← hU] at hun z1 HFj HWj ⊢
   have HCg:=hide (show ∀ W,Ext w2 W→W.cell? ⟨bg,og+j,none⟩=some (.int .i64 (x:Int)) from fun W hE=>(hE.cell hlg).trans hcg)
   have HPt:=hide (show RcsAt w w.heap.size (cutR2 A cr U) x ((l.drop U).take x) from (HRc.out.cut (k:=U) (by omega) hn).top (by omega))
   have CB:=fun W (hE:Ext w1 W)=>refBytes17_any true (cutR2 A cr U) x (cr-U) ((l.drop U).take x) W (HPt.out.later (HE1.out.trans hE)) (by have:=HWj.out;omega)
   generalize bytesB true ((l.drop U).take x)=D at *
   have CW:=fun W A c (hb:Bytes W W.heap.size A D.length D)=>refBWrite_any A D.length c D p W hb (refLens_any W)
   generalize (Blk.writeF D p).1=F at *
   generalize (Blk.writeF D p).2=er at *
   unfold MadeB at CB
   unfold MadeE at CW
   have HTop:=hide (fun (W:World)=>run_midR2 W A n cr U x (by omega))
   have HAd:=hide (show IntKind.i64.wrap ((U:Int)+(x:Int))=(U:Int)+(x:Int) by rw [IntKind.wrap_i64];omega)
   have HUn:=hide hun
   clear hcg z2 hx hU hun
   go_wp2_with fail
   refine wp_region_T (fun W=>Ext wr W) 12 18 #[false,false,false,false,false,false,false,false,false,false,false,false,false,false,false,false,false,false] (by kernel_rfl) rfl rfl (Ext.refl wr).drew ?_
   intro hS0
   refine wpAnyT_take 0 (some 22) (.slice A n cr) _ rfl rfl rfl (by kernel_rfl) (fun _ _ _ h=>h) hS0 (by rfl) (fun W hX=>by go_simp) ?_
   simp only [sP]
   refine wpAnyT_take 1 (some 23) (.int .i64 (U:Int)) _ rfl rfl rfl (by kernel_rfl) (fun _ _ _ h=>h) hS0 (by rfl) (fun W hX=>by go_simp) ?_
   simp only [sP]
   refine wpAnyT_take 2 (some 24) (.int .i64 (U:Int)) _ rfl rfl rfl (by kernel_rfl) (fun _ _ _ h=>h) hS0 (by rfl) (fun W hX=>by go_simp) ?_
   simp only [sP]
   refine wpAnyT_take 3 (some 25) (.slice (some ⟨bg,og,none⟩) ng cg) _ rfl rfl rfl (by kernel_rfl) (fun _ _ _ h=>h) hS0 (by rfl) (fun W hX=>by go_simp) ?_
   simp only [sP]
   refine wpAnyT_take 4 (some 26) (.int .i64 (j:Int)) _ rfl rfl rfl (by kernel_rfl) (fun _ _ _ h=>h) hS0 (by rfl) (fun W hX=>by go_simp) ?_
   simp only [sP]
   refine wpAnyT_take 5 (some 27) (.pointer (some ⟨bg,og+j,none⟩)) _ rfl rfl rfl (by kernel_rfl) (fun _ _ _ h=>h) hS0 (by rfl) (fun W hX=>by go_simp) ?_
   simp only [sP]
   refine wpAnyT_take 6 (some 28) (.int .i64 (x:Int)) _ rfl rfl rfl (by kernel_rfl) (fun _ _ _ h=>h) hS0 (by rfl) (fun W hX=>by have s0:=HCg.out W (HEw.out.trans hX);go_simp) ?_
   simp only [sP]
   refine wpAnyT_take 7 (some 29) (.int .i64 ((U:Int)+(x:Int))) _ rfl rfl rfl (by kernel_rfl) (fun _ _ _ h=>h) hS0 (by rfl) (fun W hX=>by go_simp;rw [HAd.out]) ?_
   simp only [sP]
   refine wpAnyT_take 8 (some 30) (.slice (cutR2 A cr U) x (cr-U)) _ rfl rfl rfl (by kernel_rfl) (fun _ _ _ h=>h) hS0 (by rfl) (fun W hX=>by have s0:=HTop.out W;go_simp) ?_
   simp only [sP]
   refine wpAnyT_take 10 (some 32) (.pointer (some ⟨w.heap.size,1,none⟩)) _ rfl rfl rfl (by kernel_rfl) (fun _ _ _ h=>h) hS0 (by rfl) (fun W hX=>by go_simp) ?_
   simp only [sP]
   refine wpAnyT_take 11 (some 33) (.bool p) _ rfl rfl rfl (by kernel_rfl) (fun _ _ _ h=>h) hS0 (by rfl) (fun W hX=>by have s0:=(HW.out.ext (HE.out.trans hX)).at 1 (u:=.bool p) rfl;go_simp) ?_
   simp only [sP]
   refine wpAnyT_only 9 _ (by kernel_rfl) rfl rfl (by rfl) (fun K0 hK0=>?_)
   go_simp
   go_at_call 39
   refine (CB _ (HE.out.trans hS0)).mono ?_
   rintro e w3 ⟨v3,rfl,hO3,hE3⟩
   obtain ⟨A3,c3,rfl,hc3,hm3,hb3⟩:=hO3.form
   have hS3:=hS0.trans hE3
   have CW3:=CW _ A3 c3 hb3
   clear hO3 hE3 hb3
   refine hK0 _ _ (fun _=>hS3) ?_
   clear hK0 K0
   refine wpAnyT_only 12 _ (by kernel_rfl) rfl rfl (by rfl) (fun K1 hK1=>?_)
   go_simp
   go_at_call 38
   refine CW3.mono ?_
   rintro e w4 ⟨v4,rfl,hO4,hE4⟩
   have hS4:=hS3.trans hE4
   have hcl4:=Clear.own (v:=u6) hO4 (fun q hq=>Nat.lt_of_lt_of_le (HO.out.lt q hq).2 hS3.le)
   obtain ⟨A4,c4,rfl,hc4,hm4,hb4⟩:=hO4.form
   have hr4:RowOf w4 w4.heap.size (.slice A4 F.length c4) F:=⟨A4,c4,rfl,hc4,hm4,hb4⟩
   clear CW3 hE4 hO4
   refine hK1 _ _ (fun h=>absurd h (by decide)) ?_
   clear hK1 K1
   refine wpAnyT_only 13 _ (by kernel_rfl) rfl rfl (by rfl) (fun K2 hK2=>?_)
   go_simp
   refine hK2 _ _ (fun h=>absurd h (by decide)) ?_
   clear hK2 K2
   refine wpAnyT_pure 14 (some 35) (.slice A4 F.length c4) _ rfl rfl rfl (by kernel_rfl) (fun _ _ _ h=>h) (fun h=>absurd h (by decide)) (by rfl) (fun W=>by go_simp) ?_
   simp only [sP]
   refine wpAnyT_pure 15 (some 36) (.int .i64 er) _ rfl rfl rfl (by kernel_rfl) (fun _ _ _ h=>h) (fun h=>absurd h (by decide)) (by rfl) (fun W=>by go_simp) ?_
   simp only [sP]
   refine wpAnyT_only 16 _ (by kernel_rfl) rfl rfl (by rfl) (fun K3 hK3=>?_)
   go_simp
   refine hK3 _ _ (fun h=>absurd h (by decide)) ?_
   clear hK3 K3
   refine wpAnyT_only 17 _ (by kernel_rfl) rfl rfl (by rfl) (fun K4 hK4=>?_)
   go_simp
   refine hK4 _ _ (fun h=>absurd h (by decide)) (wpAnyT_done (by kernel_rfl) ?_ _)
   clear hK4 K4
   have hO5:=HO.out.ext hS4
   have hB5:=Nat.le_trans HEw.out.le hS4.le
   have hlen5:(framesTo p l gs j).length≤1000:=by rw [HFl.out];omega
   go_wp2_with (at_builtin;refine wpList_appP rfl (.tmp 37) (.tmp 39) rfl rfl hO5 hr4 hcl4 rfl hlen5 hB5 ?_;intro v9 w9 hO9 hG9;have hF9:Ext w2 w9:=Below.grown ((HEw.out.trans hS4).alloc _) hG9 ((HEw.out.trans hS4).alloc _).le (fun q hq=>(HO.out.lt q hq).1);have hcg9:=HCg.out w9 hF9;clear hG9)
   go_roundw
   case rel=>exact ⟨j+1,by omega,by go_num,by rw [HUn.out];go_num,by rw [HFj.out];exact hO9,hF9⟩
   case measure=>simp [intOf];omega
  ·have hjI:¬ (j:Int) < (ng:Int):=by omega
   obtain rfl:ng=j:=by omega
   go_wp2
   go_ret
   exact ⟨_,rfl,HO.out.mono (HE1.out.trans HE2.out).le,HE1.out.trans HE.out⟩
end
section
open Go.RowKit Arc Rcs Opt
theorem RowsAt.partsQ {w:World}{B n:Nat}{A:Option Addr}{ls:List (List UInt8)}(h:RowsAt w B A n ls):Parts w B A n ls:=by
 refine ⟨h.1,h.2.imp_right fun ⟨b,off,e,hb,hc⟩=>⟨b,off,e,hb,fun i hi=>?_⟩⟩
 obtain ⟨x,h1,A',k,rfl,h3,h4,h5⟩:=hc i hi
 exact ⟨A',_,k,h1,by omega,by rw [← h5.1] at h5;exact h5⟩
theorem Parts.extQ {w w':World}{A:Option Addr}{n:Nat}{ls:List (List UInt8)}(h:Parts w w.heap.size A n ls)(hE:Ext w w'):Parts w' w'.heap.size A n ls :=
 ⟨h.1,h.2.imp_right fun ⟨b,off,e,hb,hc⟩=>⟨b,off,e,Nat.lt_of_lt_of_le hb hE.le,fun i hi=>by
  obtain ⟨A',n',c',h1,h2,h3⟩:=hc i hi
  exact ⟨A',n',c',(hE.cell hb).trans h1,h2,hE.bytes h3⟩⟩⟩
set_option maxHeartbeats 8000000 in
set_option maxRecDepth 100000 in
theorem refPack21_any (b:Int)(p:Bool)(k d y c:Int)(A:Option Addr)(n cr:Nat)(l:List Rc)(w:World)(h:RcsAt w w.heap.size A n l)(hn:n≤cr)(hcr:cr≤maxLen)(hb:IsI64 b)(hw:checkE l=0→weightE l≤1500) :
  Calls Tryz.prog 8 #[.agg (optC b p k d y c),.slice A n cr] w (MadeE w (packE b p k d y c l).1 (packE b p k d y c l).2):=by
 have CK:=fun W=>refCheck19_any 1 b p k d y c W
 have CL:=fun W (hE:Ext w W)=>refCheck17_any A n cr l W (h.later hE)
 obtain ⟨w1,hw1⟩:∃ w1,w1=w.alloc (.cells (optC b p k d y c) 23):=⟨_,rfl⟩
 have HE1:=hide (show Ext w w1 by rw [hw1];exact extNew w _)
 have HW:=hide (show Whole w1 w.heap.size 23 (optC b p k d y c) by rw [hw1];exact Whole.new w _ _)
 have HDf:=hide (show packE b p k d y c l=if chk 1 b k d y c≠0 then ([],chk 1 b k d y c) else if checkE l≠0 then ([],6) else _ from rfl)
 have s0:=HW.out.at 0 (u:=.int .i64 b) rfl
 have s1:=HW.out.at 1 (u:=.bool p) rfl
 have s2:=HW.out.at 2 (u:=.int .i64 k) rfl
 have s3:=HW.out.at 3 (u:=.int .i64 d) rfl
 have s4:=HW.out.at 4 (u:=.int .i64 y) rfl
 have s5:=HW.out.at 5 (u:=.int .i64 c) rfl
 rw [hw1] at s0 s1 s2 s3 s4 s5
 by_cases hc:chk 1 b k d y c=0
 ·rw [hc] at CK
  by_cases hL:checkE l=0
  ·obtain ⟨hb1,hb2⟩:=chk_facts hc
   have hwl:=hw hL
   have HR:=hide (show packE b p k d y c l=(joinE b.toNat (flagB p) l.length (groupsN b l).length (framesTo p l (groupsN b l) (groupsN b l).length),0) from by rw [HDf.out,if_neg (by omega),if_neg (by omega)])
   rw [HR.out]
   have hl93:=len_small hwl
   have hll:=h.1
   have hfew:=groups_few b l
   have CM:=fun W (hE:Ext w W)=>refFrames21_any b p k d y c A n cr l W (h.later hE) hn hcr hb hwl
   have hFl:=frames_len p l (groupsN b l) (groupsN b l).length
   have hFs:=flat_small hwl p (groupsN b l) (groupsN b l).length
   generalize framesTo p l (groupsN b l) (groupsN b l).length=fs at *
   obtain ⟨ng,hng⟩:∃ g,g=(groupsN b l).length:=⟨_,rfl⟩
   rw [← hng] at hfew hFl hFs ⊢
   rw [hll] at hfew hl93 ⊢
   have HFl:=hide hFl
   have CF:=fun W=>refFlag21_any p W
   have CJ:=fun W Af cf (hP:Parts W W.heap.size Af ng fs)=>refJoin21_any b.toNat n ng (flagB p) Af cf fs W hP (by omega) (by omega) (by omega) (by omega)
   rw [show ((b.toNat:Nat):Int)=b by omega] at CJ
   generalize joinE b.toNat (flagB p) n ng fs=Z at *
   generalize flagB p=f at *
   unfold FramesIn at CM
   unfold MadeB at CJ
   unfold MadeE at *
   have CL:=fun W (hE:Ext w W)=>by have:=CL W hE;rw [hL] at this;exact this
   unfold optC at *
   clear h hn hcr hw hwl hl93 hfew hng HR HDf hL hc hb1 hb2 hb hll hFl hFs
   go_enter Tryz.func8,Tryz.ntmps8
   go_wp2_with fail
   rw [← hw1]
   clear s0 s1 s2 s3 s4 s5 hw1
   refine (CK _).mono ?_
   rintro e w2 ⟨rfl,hE2⟩
   have hF2:=HE1.out.trans hE2
   have CL2:=CL w2 hF2
   clear CK CL
   go_wp2_with fail
   refine CL2.mono ?_
   rintro e w3 ⟨rfl,hQ3⟩
   have hE3:=hQ3.ext
   have hF3:=hF2.trans hE3
   have CM3:=CM w3 hF3
   have HW3:=hide (HW.out.ext (hE2.trans hE3))
   have s0:=HW3.out.at 0 (u:=.int .i64 b) rfl
   have s1:=HW3.out.at 1 (u:=.bool p) rfl
   have s2:=HW3.out.at 2 (u:=.int .i64 k) rfl
   have s3:=HW3.out.at 3 (u:=.int .i64 d) rfl
   have s4:=HW3.out.at 4 (u:=.int .i64 y) rfl
   have s5:=HW3.out.at 5 (u:=.int .i64 c) rfl
   clear CL2 CM hF2 hE3 hE2 HW hQ3
   go_wp2_with fail
   refine CM3.mono ?_
   rintro e w4 ⟨v4,rfl,hO4,hE4⟩
   obtain ⟨Af,cf,rfl,-,-,hRf⟩:=hO4.form
   have HPf:=hide hRf.partsQ
   rw [HFl.out] at HPf ⊢
   have hF4:=hF3.trans hE4
   have HW4:=hide (HW3.out.ext hE4)
   clear s0 s1 s2 s3 s4 s5 CM3 hF3 hE4 HW3 hO4 hRf
   go_wp2_with fail
   refine wp_region_T (fun W=>Ext w4 W) 10 13 #[false,false,false,false,false,false,false,false,false,false,false,false,false] (by kernel_rfl) rfl rfl (Ext.refl w4).drew ?_
   intro hS0
   refine wpAnyT_take 0 (some 19) (.pointer (some ⟨w.heap.size,0,none⟩)) _ rfl rfl rfl (by kernel_rfl) (fun _ _ _ h=>h) hS0 (by rfl) (fun W hX=>by go_simp) ?_
   simp only [sP]
   refine wpAnyT_take 1 (some 20) (.int .i64 b) _ rfl rfl rfl (by kernel_rfl) (fun _ _ _ h=>h) hS0 (by rfl) (fun W hX=>by have s0:=(HW4.out.ext hX).at 0 (u:=.int .i64 b) rfl;go_simp) ?_
   simp only [sP]
   refine wpAnyT_take 2 (some 21) (.pointer (some ⟨w.heap.size,1,none⟩)) _ rfl rfl rfl (by kernel_rfl) (fun _ _ _ h=>h) hS0 (by rfl) (fun W hX=>by go_simp) ?_
   simp only [sP]
   refine wpAnyT_take 3 (some 22) (.bool p) _ rfl rfl rfl (by kernel_rfl) (fun _ _ _ h=>h) hS0 (by rfl) (fun W hX=>by have s0:=(HW4.out.ext hX).at 1 (u:=.bool p) rfl;go_simp) ?_
   simp only [sP]
   refine wpAnyT_take 5 (some 24) (.slice A n cr) _ rfl rfl rfl (by kernel_rfl) (fun _ _ _ h=>h) hS0 (by rfl) (fun W hX=>by go_simp) ?_
   simp only [sP]
   refine wpAnyT_take 6 (some 25) (.int .i64 (n:Int)) _ rfl rfl rfl (by kernel_rfl) (fun _ _ _ h=>h) hS0 (by rfl) (fun W hX=>by go_simp) ?_
   simp only [sP]
   refine wpAnyT_take 7 (some 26) (.slice Af ng cf) _ rfl rfl rfl (by kernel_rfl) (fun _ _ _ h=>h) hS0 (by rfl) (fun W hX=>by go_simp) ?_
   simp only [sP]
   refine wpAnyT_take 8 (some 27) (.int .i64 (ng:Int)) _ rfl rfl rfl (by kernel_rfl) (fun _ _ _ h=>h) hS0 (by rfl) (fun W hX=>by go_simp) ?_
   simp only [sP]
   refine wpAnyT_take 9 (some 28) (.slice Af ng cf) _ rfl rfl rfl (by kernel_rfl) (fun _ _ _ h=>h) hS0 (by rfl) (fun W hX=>by go_simp) ?_
   simp only [sP]
   refine wpAnyT_only 4 _ (by kernel_rfl) rfl rfl (by rfl) (fun K0 hK0=>?_)
   go_simp
   go_at_call 22
   refine (CF _).mono ?_
   rintro e w5 ⟨rfl,hE5⟩
   have hS5:=hS0.trans hE5
   have CJ5:=CJ w5 Af cf (HPf.out.extQ hS5)
   clear CJ CF hE5
   refine hK0 _ _ (fun _=>hS5) ?_
   clear hK0 K0
   refine wpAnyT_only 10 _ (by kernel_rfl) rfl rfl (by rfl) (fun K1 hK1=>?_)
   go_simp
   go_at_call 21
   refine CJ5.mono ?_
   rintro e w6 ⟨v6,rfl,hO6,hE6⟩
   have hF6:=hF4.trans (hS5.trans hE6)
   have hO7:=hO6.mono (hF4.trans hS5).le
   clear CJ5 hO6 hE6
   refine hK1 _ _ (fun h=>absurd h (by decide)) ?_
   clear hK1 K1
   refine wpAnyT_only 11 _ (by kernel_rfl) rfl rfl (by rfl) (fun K2 hK2=>?_)
   go_simp
   refine hK2 _ _ (fun h=>absurd h (by decide)) ?_
   clear hK2 K2
   refine wpAnyT_only 12 _ (by kernel_rfl) rfl rfl (by rfl) (fun K3 hK3=>?_)
   go_simp
   refine hK3 _ _ (fun h=>absurd h (by decide)) (wpAnyT_done (by kernel_rfl) ?_ _)
   clear hK3 K3
   go_wp2
   go_ret2
   exact ⟨_,rfl,hO7,hF6⟩
  ·have HR:=hide (show packE b p k d y c l=([],6) from by rw [HDf.out,if_neg (by omega),if_pos hL])
   rw [HR.out]
   have hL6:=Arc.chk_not hL
   have CL:=fun W (hE:Ext w W)=>by have:=CL W hE;rw [hL6] at this;exact this
   unfold optC MadeE at *
   clear h hn hcr hw HDf hL hL6 hc
   go_enter Tryz.func8,Tryz.ntmps8
   go_wp2_with fail
   rw [← hw1]
   refine (CK _).mono ?_
   rintro e w2 ⟨rfl,hE2⟩
   have CL2:=CL w2 (HE1.out.trans hE2)
   clear CL CK
   go_wp2_with fail
   refine CL2.mono ?_
   rintro e w3 ⟨rfl,hQ3⟩
   go_wp2
   go_ret2
   exact ⟨_,rfl,OwnB.nil _ _,(HE1.out.trans hE2).trans hQ3.ext⟩
 ·have HR:=hide (show packE b p k d y c l=([],chk 1 b k d y c) from by rw [HDf.out,if_pos hc])
  rw [HR.out]
  have hcb:(chk 1 b k d y c == 0)=false:=by rw [beq_eq_false_iff_ne];exact hc
  generalize chk 1 b k d y c=er at *
  unfold optC MadeE at *
  clear CL h hn hcr hw HDf
  go_enter Tryz.func8,Tryz.ntmps8
  go_wp2_with fail
  rw [← hw1]
  refine (CK _).mono ?_
  rintro e w2 ⟨rfl,hE2⟩
  go_wp2
  go_ret2
  exact ⟨_,rfl,OwnB.nil _ _,HE1.out.trans hE2⟩
end
end Go.Proofs.YtaogpmombefmmaaGreatDoor
