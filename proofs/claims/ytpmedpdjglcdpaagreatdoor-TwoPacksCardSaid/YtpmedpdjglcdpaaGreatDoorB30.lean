/- From what the row lists of the table to its sixteen cells; the world in which the door has laid it. The program's frames: the bytes of a frame. -/
import Derived.Test.YtpmedpdjglcdpaaGreatDoorB02
import Derived.Test.YtpmedpdjglcdpaaGreatDoorB03
import Derived.Test.YtpmedpdjglcdpaaGreatDoorB06
import Derived.Test.YtpmedpdjglcdpaaGreatDoorB08
import Derived.Test.YtpmedpdjglcdpaaGreatDoorB18
import Derived.ProofKit
import Derived.LaidMore
import Derived.OpenShut
import Derived.Stop.Joined
import Derived.Lib.LaidTab
namespace Go.Proofs.YtpmedpdjglcdpaaGreatDoor
section
open Go.ChangeShapes Go.WideShapes Go.ChangeAt Go.WideMaps Go.WideElems Go.RowKit
abbrev qX : List (String × DataW Unit) := [("firkin/crc.fourShifts", Rows.laid_firkin_crc_fourShifts)]
def tabInts:List Int:=Crc.tab.map Int.ofNat
theorem ac6 (os:Os)(args:Array Value):laidMetH Tryz.prog qX ((World.doorLaid Tryz.prog 400 os).forCall (fun _ _=>0) ⟨#[],args,[]⟩).memory :=
 laidMetH_of_parts3 (fuel:=8) (laidMet_of_run' 8 (by kernel_rfl) (by kernel_rfl)) (by kernel_rfl) (by kernel_rfl)
theorem J6 {W:World}(h:laidMetH Tryz.prog qX W):Tab W:=by
 rw[MakeChecks.laidMetH_plain _ _ _ (by kernel_rfl)]at h
 have g0 : Tryz.prog.globalNamed "firkin/crc.fourShifts" = some 0 := by kernel_rfl
 have h1 : laidMet Tryz.prog (("firkin/crc.fourShifts", Lib.tabData .u32 tabInts) :: []) W := h
 have h2:=Lib.tabIs_of_head g0 (t:=209) (by kernel_rfl) Tryz.underlying209 Tryz.underlying72 (by kernel_rfl) (by kernel_rfl) h1
 intro i hi
 have h3:=World.var?_cell g0 h2 i
 rw[h3]
 have:∀ i,i<16→(tabInts.map fun z=>Value.int .u32 z).toArray[i]?=some (.int .u32 ((Crc.tab.getD i 0:Nat):Int)):=by
  intro i hi
  simp only[tabInts,List.map_map,List.getElem?_toArray,List.getElem?_map]
  have hl:Crc.tab.length=16:=rfl
  rw[List.getD_eq_getElem?_getD,List.getElem?_eq_getElem (by omega)]
  rfl
 exact this i hi
theorem Tab.pos {w:World}(h:Tab w):0<w.heap.size:=World.block_lt_of_cell? w _ (h 0 (by omega))
end
section
open Go.RowKit Num
def UP (way many:Nat)(A:Option Addr)(n c:Nat):Value:=.agg #[.int .i64 (way:Int),.int .i64 (many:Int),.slice A n c]
theorem Blk.parts4 {w w0:World}{g n0 n1 n2 n3 c0 c1 c2 c3:Nat}{A0 A1 A2 A3:Option Addr}{l0 l1 l2 l3:List UInt8}(hE:Ext w0 w)(hg:Laid w g [.slice A0 n0 c0,.slice A1 n1 c1,.slice A2 n2 c2,.slice A3 n3 c3])
  (m0:n0≤maxLen) (m1:n1≤maxLen) (m2:n2≤maxLen) (m3:n3≤maxLen) (b0:Bytes w0 w0.heap.size A0 n0 l0) (b1:Bytes w0 w0.heap.size A1 n1 l1) (b2:Bytes w0 w0.heap.size A2 n2 l2) (b3:Bytes w0 w0.heap.size A3 n3 l3) :
  Parts w w.heap.size (some ⟨g,0,none⟩) 4 [l0,l1,l2,l3] :=
 ach hE rfl rfl hg fun i hi=>by
  rcases (by omega:i=0∨i=1∨i=2∨i=3) with rfl|rfl|rfl|rfl
  ·exact⟨A0,n0,c0,rfl,m0,b0⟩
  ·exact⟨A1,n1,c1,rfl,m1,b1⟩
  ·exact⟨A2,n2,c2,rfl,m2,b2⟩
  ·exact⟨A3,n3,c3,rfl,m3,b3⟩
set_option maxHeartbeats 4000000 in
set_option maxRecDepth 100000 in
theorem XD (way many:Nat)(A:Option Addr)(n c:Nat)(l:List UInt8)(w:World)(hw:way≤1)(hm:many≤32768)(hn:n≤100000)(ht:Tab w)(h:Bytes w w.heap.size A n l) :
  Calls Tryz.prog 73 #[UP way many A n c] w (zt w (Crc.put (UInt8.ofNat way::(enc many++enc n)++l))):=by
 have h0:=ht.pos
 have hWh:=Whole.new w 101 #[.int .i64 (way:Int),.int .i64 (many:Int),.slice A n c]
 have hEb:=zb w (.cells #[.int .i64 (way:Int),.int .i64 (many:Int),.slice A n c] 101)
 have hwr:IntKind.u8.wrap (way:Int)=(way:Int):=by rw[IntKind.wrap_u8];omega
 have hwm:IntKind.u64.wrap (many:Int)=(many:Int):=by rw[IntKind.wrap_u64];omega
 have hwn:IntKind.u64.wrap (n:Int)=(n:Int):=by rw[IntKind.wrap_u64];omega
 have hwb:(#[.int .u8 (way:Int)]:Array Value)=jg [UInt8.ofNat way]:=by
  unfold jg
  rw[List.map_cons,List.map_nil,ofNat_low way (by omega)]
 have HF:=hide (show [[UInt8.ofNat way],enc many,enc n,l].flatten=UInt8.ofNat way::(enc many++enc n)++l by simp)
 have hel:=enc_len many
 have hel2:=enc_len n
 have hll:=h.1
 have hlen:(UInt8.ofNat way::(enc many++enc n)++l).length≤200000:=by simp;omega
 generalize UInt8.ofNat way::(enc many++enc n)++l=F at *
 have HB:=hide h
 have HT:=hide ht
 have HW:=hide hwb
 clear h ht hwb
 unfold UP
 go_enter Tryz.func73,Tryz.ntmps73
 go_wp2_with fail
 obtain⟨w1,hw1⟩:∃ W,W=w.alloc (.cells #[.int .i64 (way:Int),.int .i64 (many:Int),.slice A n c] 101):=⟨_,rfl⟩
 rw[← hw1]at hWh hEb ⊢
 have hfr:w.heap.size<w1.heap.size:=hWh.lt
 clear hw1
 generalize w.heap.size=g at hWh hfr ⊢
 refine zq (fun W=>Ext w1 W) 18 19 #[false,false,false,false,false,false,false,false,false,false,false,false,false,false,false,false,false,false,false] (by kernel_rfl) rfl rfl ((Ext.refl w1).drew) ?_
 intro hS0
 refine za 0 (some 3) (.pointer (some ⟨g,0,none⟩)) _ rfl rfl rfl (by kernel_rfl) (fun _ _ _ h=>h) hS0 (by rfl) (fun W hX=>by have s0:=(hWh.ext hX).cell 0;have s1:=(hWh.ext hX).cell 1;have s2:=(hWh.ext hX).cell 2;go_simp) ?_
 simp only[sP]
 refine za 1 (some 4) (.int .i64 (way:Int)) _ rfl rfl rfl (by kernel_rfl) (fun _ _ _ h=>h) hS0 (by rfl) (fun W hX=>by have s0:=(hWh.ext hX).cell 0;have s1:=(hWh.ext hX).cell 1;have s2:=(hWh.ext hX).cell 2;go_simp) ?_
 simp only[sP]
 refine za 2 (some 5) (.int .u8 (way:Int)) _ rfl rfl rfl (by kernel_rfl) (fun _ _ _ h=>h) hS0 (by rfl) (fun W hX=>by have s0:=(hWh.ext hX).cell 0;have s1:=(hWh.ext hX).cell 1;have s2:=(hWh.ext hX).cell 2;go_simp) ?_
 simp only[sP]
 refine za 4 (some 7) (.pointer (some ⟨g,1,none⟩)) _ rfl rfl rfl (by kernel_rfl) (fun _ _ _ h=>h) hS0 (by rfl) (fun W hX=>by have s0:=(hWh.ext hX).cell 0;have s1:=(hWh.ext hX).cell 1;have s2:=(hWh.ext hX).cell 2;go_simp) ?_
 simp only[sP]
 refine za 5 (some 8) (.int .i64 (many:Int)) _ rfl rfl rfl (by kernel_rfl) (fun _ _ _ h=>h) hS0 (by rfl) (fun W hX=>by have s0:=(hWh.ext hX).cell 0;have s1:=(hWh.ext hX).cell 1;have s2:=(hWh.ext hX).cell 2;go_simp) ?_
 simp only[sP]
 refine za 6 (some 9) (.int .u64 (many:Int)) _ rfl rfl rfl (by kernel_rfl) (fun _ _ _ h=>h) hS0 (by rfl) (fun W hX=>by have s0:=(hWh.ext hX).cell 0;have s1:=(hWh.ext hX).cell 1;have s2:=(hWh.ext hX).cell 2;go_simp) ?_
 simp only[sP]
 refine za 8 (some 11) (.pointer (some ⟨g,2,none⟩)) _ rfl rfl rfl (by kernel_rfl) (fun _ _ _ h=>h) hS0 (by rfl) (fun W hX=>by have s0:=(hWh.ext hX).cell 0;have s1:=(hWh.ext hX).cell 1;have s2:=(hWh.ext hX).cell 2;go_simp) ?_
 simp only[sP]
 refine za 9 (some 12) (.slice A n c) _ rfl rfl rfl (by kernel_rfl) (fun _ _ _ h=>h) hS0 (by rfl) (fun W hX=>by have s0:=(hWh.ext hX).cell 0;have s1:=(hWh.ext hX).cell 1;have s2:=(hWh.ext hX).cell 2;go_simp) ?_
 simp only[sP]
 refine za 10 (some 13) (.int .i64 (n:Int)) _ rfl rfl rfl (by kernel_rfl) (fun _ _ _ h=>h) hS0 (by rfl) (fun W hX=>by have s0:=(hWh.ext hX).cell 0;have s1:=(hWh.ext hX).cell 1;have s2:=(hWh.ext hX).cell 2;go_simp) ?_
 simp only[sP]
 refine za 11 (some 14) (.int .u64 (n:Int)) _ rfl rfl rfl (by kernel_rfl) (fun _ _ _ h=>h) hS0 (by rfl) (fun W hX=>by have s0:=(hWh.ext hX).cell 0;have s1:=(hWh.ext hX).cell 1;have s2:=(hWh.ext hX).cell 2;go_simp) ?_
 simp only[sP]
 refine za 13 (some 16) (.pointer (some ⟨g,2,none⟩)) _ rfl rfl rfl (by kernel_rfl) (fun _ _ _ h=>h) hS0 (by rfl) (fun W hX=>by have s0:=(hWh.ext hX).cell 0;have s1:=(hWh.ext hX).cell 1;have s2:=(hWh.ext hX).cell 2;go_simp) ?_
 simp only[sP]
 refine za 14 (some 17) (.slice A n c) _ rfl rfl rfl (by kernel_rfl) (fun _ _ _ h=>h) hS0 (by rfl) (fun W hX=>by have s0:=(hWh.ext hX).cell 0;have s1:=(hWh.ext hX).cell 1;have s2:=(hWh.ext hX).cell 2;go_simp) ?_
 simp only[sP]
 generalize w1.drew=wa at *
 refine qc 3 7 #[true,true,true,true,true,true,true,false,true,true,true,true,false,true,true,false,false,false,false] #[true,true,true,false,true,true,true,true,true,true,true,true,false,true,true,false,false,false,false] (by kernel_rfl) rfl rfl rfl rfl (by rfl) (by rfl) (fun K0 hK0=>?_) (fun K0 hK0=>?_)
 ·go_simp
  have hb3:=zr wa [UInt8.ofNat way] #[.int .u8 (way:Int)] 5 (0,0) HW.out 1 rfl
  have hE0:=zb wa (.cells #[.int .u8 (way:Int)] 5)
  generalize wa.alloc (.cells #[.int .u8 (way:Int)] 5)=u0 at *
  generalize (some ⟨wa.heap.size,0,none⟩:Option Addr)=A3 at *
  have hX0:=hS0.trans hE0
  refine hK0 _ _ (fun _=>hX0) ?_
  clear hK0 K0
  refine zc 7 _ (by kernel_rfl) rfl rfl (by rfl) (fun K1 hK1=>?_)
  go_simp
  go_at_call 57
  refine (zS many _ (by omega)).mono ?_
  rintro e u1 ⟨v7,rfl,hO7,hE1⟩
  obtain⟨A7,c7,rfl,-,hm7,hb7⟩:=hO7.form
  have hX1:=hX0.trans hE1
  replace hb3:=hE1.bytes hb3
  refine hK1 _ _ (fun _=>hX1) ?_
  clear hK1 K1
  refine zc 12 _ (by kernel_rfl) rfl rfl (by rfl) (fun K2 hK2=>?_)
  go_simp
  go_at_call 57
  refine (zS n _ (by omega)).mono ?_
  rintro e u2 ⟨v12,rfl,hO12,hE2⟩
  obtain⟨A12,c12,rfl,-,hm12,hb12⟩:=hO12.form
  have hX2:=hX1.trans hE2
  replace hb3:=hE2.bytes hb3
  replace hb7:=hE2.bytes hb7
  refine hK2 _ _ (fun _=>hX2) ?_
  clear hK2 K2
  refine zc 15 _ (by kernel_rfl) rfl rfl (by rfl) (fun K3 hK3=>?_)
  go_simp
  have hLd:=Laid.new u2 [.slice A3 1 1,.slice A7 (enc many).length c7,.slice A12 (enc n).length c12,.slice A n c] 29
  have hE3:=zb u2 (.cells #[.slice A3 1 1,.slice A7 (enc many).length c7,.slice A12 (enc n).length c12,.slice A n c] 29)
  have hP:=Blk.parts4 hE3 hLd (by unfold maxLen;omega) (by unfold maxLen;omega) (by unfold maxLen;omega) (by unfold maxLen;omega) hb3 hb7 hb12 ((hEb.trans hX2).bytes HB.out)
  have hX3:=hX2.trans hE3
  refine hK3 _ _ (fun _=>hX3) ?_
  clear hK3 K3 hLd hE3
  generalize u2.alloc (.cells #[.slice A3 1 1,.slice A7 (enc many).length c7,.slice A12 (enc n).length c12,.slice A n c] 29)=u3 at *
  generalize u2.heap.size=g4 at *
  refine zc 16 _ (by kernel_rfl) rfl rfl (by rfl) (fun K4 hK4=>?_)
  go_simp
  go_at_call 16
  refine (yS _ 4 [[UInt8.ofNat way],enc many,enc n,l] u3 hP (by simp) (by simp;omega)).mono ?_
  rintro e u4 ⟨v4,rfl,hO4,hE4⟩
  rw[HF.out]at hO4
  obtain⟨A16,c16,rfl,-,hm16,hb16⟩:=hO4.form
  have hX4:=hX3.trans hE4
  refine hK4 _ _ (fun _=>hX4) ?_
  clear hK4 K4
  refine zc 17 _ (by kernel_rfl) rfl rfl (by rfl) (fun K5 hK5=>?_)
  go_simp
  go_at_call 32
  have hF:=hEb.trans hX4
  refine (xj A16 F.length c16 F u4 (by omega) (hF.tab HT.out h0) (Nat.lt_of_lt_of_le h0 hF.le) hb16).mono ?_
  rintro e u5 ⟨v5,rfl,hO5,hE5⟩
  have hX5:=hX4.trans hE5
  refine hK5 _ _ (fun _=>hX5) ?_
  clear hK5 K5
  refine zc 18 _ (by kernel_rfl) rfl rfl (by rfl) (fun K6 hK6=>?_)
  go_simp
  refine hK6 _ _ (fun h=>absurd h (by decide)) (zj (by kernel_rfl) ?_ _)
  clear hK6 K6
  go_wp2
  go_ret
  exact⟨v5,rfl,hO5.mono hF.le,hF.trans hE5⟩
 ·go_simp
  go_at_call 57
  refine (zS many _ (by omega)).mono ?_
  rintro e u0 ⟨v7,rfl,hO7,hE0⟩
  obtain⟨A7,c7,rfl,-,hm7,hb7⟩:=hO7.form
  have hX0:=hS0.trans hE0
  refine hK0 _ _ (fun _=>hX0) ?_
  clear hK0 K0
  refine qc 3 12 #[true,true,true,true,true,true,true,true,true,true,true,true,false,true,true,false,false,false,false] #[true,true,true,false,true,true,true,true,true,true,true,true,true,true,true,false,false,false,false] (by kernel_rfl) rfl rfl rfl rfl (by rfl) (by rfl) (fun K1 hK1=>?_) (fun K1 hK1=>?_)
  ·go_simp
   have hb3:=zr u0 [UInt8.ofNat way] #[.int .u8 (way:Int)] 5 (0,0) HW.out 1 rfl
   have hE1:=zb u0 (.cells #[.int .u8 (way:Int)] 5)
   generalize u0.alloc (.cells #[.int .u8 (way:Int)] 5)=u1 at *
   generalize (some ⟨u0.heap.size,0,none⟩:Option Addr)=A3 at *
   have hX1:=hX0.trans hE1
   replace hb7:=hE1.bytes hb7
   refine hK1 _ _ (fun _=>hX1) ?_
   clear hK1 K1
   refine zc 12 _ (by kernel_rfl) rfl rfl (by rfl) (fun K2 hK2=>?_)
   go_simp
   go_at_call 57
   refine (zS n _ (by omega)).mono ?_
   rintro e u2 ⟨v12,rfl,hO12,hE2⟩
   obtain⟨A12,c12,rfl,-,hm12,hb12⟩:=hO12.form
   have hX2:=hX1.trans hE2
   replace hb7:=hE2.bytes hb7
   replace hb3:=hE2.bytes hb3
   refine hK2 _ _ (fun _=>hX2) ?_
   clear hK2 K2
   refine zc 15 _ (by kernel_rfl) rfl rfl (by rfl) (fun K3 hK3=>?_)
   go_simp
   have hLd:=Laid.new u2 [.slice A3 1 1,.slice A7 (enc many).length c7,.slice A12 (enc n).length c12,.slice A n c] 29
   have hE3:=zb u2 (.cells #[.slice A3 1 1,.slice A7 (enc many).length c7,.slice A12 (enc n).length c12,.slice A n c] 29)
   have hP:=Blk.parts4 hE3 hLd (by unfold maxLen;omega) (by unfold maxLen;omega) (by unfold maxLen;omega) (by unfold maxLen;omega) hb3 hb7 hb12 ((hEb.trans hX2).bytes HB.out)
   have hX3:=hX2.trans hE3
   refine hK3 _ _ (fun _=>hX3) ?_
   clear hK3 K3 hLd hE3
   generalize u2.alloc (.cells #[.slice A3 1 1,.slice A7 (enc many).length c7,.slice A12 (enc n).length c12,.slice A n c] 29)=u3 at *
   generalize u2.heap.size=g4 at *
   refine zc 16 _ (by kernel_rfl) rfl rfl (by rfl) (fun K4 hK4=>?_)
   go_simp
   go_at_call 16
   refine (yS _ 4 [[UInt8.ofNat way],enc many,enc n,l] u3 hP (by simp) (by simp;omega)).mono ?_
   rintro e u4 ⟨v4,rfl,hO4,hE4⟩
   rw[HF.out]at hO4
   obtain⟨A16,c16,rfl,-,hm16,hb16⟩:=hO4.form
   have hX4:=hX3.trans hE4
   refine hK4 _ _ (fun _=>hX4) ?_
   clear hK4 K4
   refine zc 17 _ (by kernel_rfl) rfl rfl (by rfl) (fun K5 hK5=>?_)
   go_simp
   go_at_call 32
   have hF:=hEb.trans hX4
   refine (xj A16 F.length c16 F u4 (by omega) (hF.tab HT.out h0) (Nat.lt_of_lt_of_le h0 hF.le) hb16).mono ?_
   rintro e u5 ⟨v5,rfl,hO5,hE5⟩
   have hX5:=hX4.trans hE5
   refine hK5 _ _ (fun _=>hX5) ?_
   clear hK5 K5
   refine zc 18 _ (by kernel_rfl) rfl rfl (by rfl) (fun K6 hK6=>?_)
   go_simp
   refine hK6 _ _ (fun h=>absurd h (by decide)) (zj (by kernel_rfl) ?_ _)
   clear hK6 K6
   go_wp2
   go_ret
   exact⟨v5,rfl,hO5.mono hF.le,hF.trans hE5⟩
  ·go_simp
   go_at_call 57
   refine (zS n _ (by omega)).mono ?_
   rintro e u1 ⟨v12,rfl,hO12,hE1⟩
   obtain⟨A12,c12,rfl,-,hm12,hb12⟩:=hO12.form
   have hX1:=hX0.trans hE1
   replace hb7:=hE1.bytes hb7
   refine hK1 _ _ (fun _=>hX1) ?_
   clear hK1 K1
   refine zc 3 _ (by kernel_rfl) rfl rfl (by rfl) (fun K2 hK2=>?_)
   go_simp
   have hb3:=zr u1 [UInt8.ofNat way] #[.int .u8 (way:Int)] 5 (0,0) HW.out 1 rfl
   have hE2:=zb u1 (.cells #[.int .u8 (way:Int)] 5)
   generalize u1.alloc (.cells #[.int .u8 (way:Int)] 5)=u2 at *
   generalize (some ⟨u1.heap.size,0,none⟩:Option Addr)=A3 at *
   have hX2:=hX1.trans hE2
   replace hb7:=hE2.bytes hb7
   replace hb12:=hE2.bytes hb12
   refine hK2 _ _ (fun _=>hX2) ?_
   clear hK2 K2
   refine zc 15 _ (by kernel_rfl) rfl rfl (by rfl) (fun K3 hK3=>?_)
   go_simp
   have hLd:=Laid.new u2 [.slice A3 1 1,.slice A7 (enc many).length c7,.slice A12 (enc n).length c12,.slice A n c] 29
   have hE3:=zb u2 (.cells #[.slice A3 1 1,.slice A7 (enc many).length c7,.slice A12 (enc n).length c12,.slice A n c] 29)
   have hP:=Blk.parts4 hE3 hLd (by unfold maxLen;omega) (by unfold maxLen;omega) (by unfold maxLen;omega) (by unfold maxLen;omega) hb3 hb7 hb12 ((hEb.trans hX2).bytes HB.out)
   have hX3:=hX2.trans hE3
   refine hK3 _ _ (fun _=>hX3) ?_
   clear hK3 K3 hLd hE3
   generalize u2.alloc (.cells #[.slice A3 1 1,.slice A7 (enc many).length c7,.slice A12 (enc n).length c12,.slice A n c] 29)=u3 at *
   generalize u2.heap.size=g4 at *
   refine zc 16 _ (by kernel_rfl) rfl rfl (by rfl) (fun K4 hK4=>?_)
   go_simp
   go_at_call 16
   refine (yS _ 4 [[UInt8.ofNat way],enc many,enc n,l] u3 hP (by simp) (by simp;omega)).mono ?_
   rintro e u4 ⟨v4,rfl,hO4,hE4⟩
   rw[HF.out]at hO4
   obtain⟨A16,c16,rfl,-,hm16,hb16⟩:=hO4.form
   have hX4:=hX3.trans hE4
   refine hK4 _ _ (fun _=>hX4) ?_
   clear hK4 K4
   refine zc 17 _ (by kernel_rfl) rfl rfl (by rfl) (fun K5 hK5=>?_)
   go_simp
   go_at_call 32
   have hF:=hEb.trans hX4
   refine (xj A16 F.length c16 F u4 (by omega) (hF.tab HT.out h0) (Nat.lt_of_lt_of_le h0 hF.le) hb16).mono ?_
   rintro e u5 ⟨v5,rfl,hO5,hE5⟩
   have hX5:=hX4.trans hE5
   refine hK5 _ _ (fun _=>hX5) ?_
   clear hK5 K5
   refine zc 18 _ (by kernel_rfl) rfl rfl (by rfl) (fun K6 hK6=>?_)
   go_simp
   refine hK6 _ _ (fun h=>absurd h (by decide)) (zj (by kernel_rfl) ?_ _)
   clear hK6 K6
   go_wp2
   go_ret
   exact⟨v5,rfl,hO5.mono hF.le,hF.trans hE5⟩
end
end Go.Proofs.YtpmedpdjglcdpaaGreatDoor
