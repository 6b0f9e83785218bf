/- Mark and Marked of chapter 19: the program's and the document's. -/
import Derived.Test.YtpmedpdjglcdpaaGreatDoorB06
import Derived.Test.YtpmedpdjglcdpaaGreatDoorB07
import Derived.Test.YtpmedpdjglcdpaaGreatDoorB13
import Derived.Deep.DeepCutAuto
import Derived.Lib.SlBytesConst
import Derived.ArgAppend
namespace Go.Proofs.YtpmedpdjglcdpaaGreatDoor
section
open Go.RowKit Opt
theorem abZ {w:World}(ty:TypeId){g o h q n m d:Nat}{k l:List UInt8}(hk:Bytes w w.heap.size (some ⟨g,o,none⟩) n k)(hl:Bytes w w.heap.size (some ⟨h,q,none⟩) m l)(hm:0<m)(hlen:n+m≤1000) :
  ∃ v' w',(Builtin.append_ #[29,29] ty #[.slice (some ⟨g,o,none⟩) n n,.slice (some ⟨h,q,none⟩) m d]).run Tryz.prog w=.ok v' w'∧OwnB w' w.heap.size v' (k++l)∧w.grownBy w' none:=by
 obtain⟨i,hi,hz,hs,hby⟩:=info_parts yY
 have cells:∀ {b off r:Nat} {L:List UInt8},Bytes w w.heap.size (some ⟨b,off,none⟩) r L→∀ j u,(L.map zY)[j]?=some u→w.cell? ((⟨b,off,none⟩:Addr).add j)=some u:=by
  intro b off r L hL j u hu
  have hj:j<L.length:=by
   rcases Nat.lt_or_ge j L.length with h|h
   ·exact h
   ·rw[List.getElem?_eq_none (by simp;omega)]at hu;cases hu
  have hadd:(⟨b,off,none⟩:Addr).add j=⟨b,off+j,none⟩:=by unfold Addr.add;split<;>simp_all
  have hr:=hL.1
  rcases hL.2 with h0 | ⟨b',off',hA,_,hc⟩
  ·omega
  ·simp only[Option.some.injEq,Addr.mk.injEq,and_true]at hA
   obtain⟨rfl,rfl⟩:=hA
   rw[hadd,hc j (by omega)]
   rw[List.getElem?_map,List.getElem?_eq_getElem (by omega)]at hu
   rw[List.getD_eq_getElem?_getD,List.getElem?_eq_getElem (by omega)]
   simpa[zY] using hu
 obtain⟨v',w',hr,h2,h3⟩:=run_append_arg_grows (P:=Tryz.prog) w 29 ty 5 i _ 1 1 Tryz.underlying29 hi hz hs hby rfl (by omega) ⟨g,o,none⟩ n n (k.map zY) (by simpa using hk.1) (cells hk)
  ⟨h,q,none⟩ m d (l.map zY) (by simpa using hl.1) (cells hl) (by omega) (by unfold maxLen;omega) (by omega)
 refine⟨v',w',hr,?_,h3⟩
 unfold OwnB
 rw[List.length_append,hk.1,hl.1,List.map_append]
 exact h2
theorem xV {ops:Array Oper}{rest:List Oper}{op:Oper}{a:Act}{Q:Exit→Act→World→Prop}{w:World}(hgd:op.guard=none)(s x:Operand)
  (ho:op.op=.call { callee:=.builtin .append,args:=#[s,x],argTypes:=#[29,29] }) {g o h q n m d:Nat} {k l:List UInt8}
  (hs:a.eval s=.slice (some ⟨g,o,none⟩) n n) (hx:a.eval x=.slice (some ⟨h,q,none⟩) m d) (hk:Bytes w w.heap.size (some ⟨g,o,none⟩) n k) (hl:Bytes w w.heap.size (some ⟨h,q,none⟩) m l) (hm:0<m) (hlen:n+m≤1000)
  (H:∀ v' w',OwnB w' w.heap.size v' (k++l)→w.grownBy w' none→wpList Tryz.prog ops Q rest (a.put op.dst v') w'):wpList Tryz.prog ops Q (op::rest) a w:=by
 obtain⟨v',w',hr,h2,h3⟩:=abZ op.type hk hl hm hlen (d:=d)
 refine wpList_plain hgd fun _ hK=>?_
 unfold Oper.wp execOp
 simp only[ho,resolve,invoke,builtin,Sem.run_bind,Sem.run_pure,Result.andThen_ok,List.map_toArray,List.map_cons,List.map_nil,hs,hx,hr]
 exact hK _ _ (H v' w' h2 h3)
set_option maxHeartbeats 2000000 in
set_option maxRecDepth 100000 in
theorem ab0 (v:Int)(w:World)(hv:1≤v∧v≤3):Calls Tryz.prog 31 #[.int .i64 v] w fun e w'=>(∃ sl,e=.returned (.tuple #[sl,.int .i64 0])∧OwnB w' w.heap.size sl [70,73,82,75,UInt8.ofNat v.toNat])∧Ext w w':=by
 have kc:=fun (w:World) (C:Array Value) (n c:Nat)=>Lib.run_convert_bytes_const (P:=Tryz.prog) w 29 5 C n c Tryz.underlying29 Tryz.underlying5
 have FT:=fun W=>Y9 v W
 rw[decide_eq_true hv]at FT
 rcases (show v=1∨v=2∨v=3 by omega) with rfl|rfl|rfl
 ·clear hv
  go_enter Tryz.func31,Tryz.ntmps31
  go_wp2_with fail
  refine (FT _).mono ?_
  rintro e w2 ⟨rfl,hE2⟩
  have hK:=zr w2 [70,73,82,75] #[.int .u8 70,.int .u8 73,.int .u8 82,.int .u8 75] 5 (4,5) rfl 4 rfl
  have hK':=(zb _ (.cells #[.int .u8 1] 5)).bytes hK
  have hL:=zr (w2.alloc (.cells #[.int .u8 70,.int .u8 73,.int .u8 82,.int .u8 75] 5 (4,5))) [1] #[.int .u8 1] 5 (0,0) rfl 1 rfl
  rw[show (w2.alloc (.cells #[.int .u8 70,.int .u8 73,.int .u8 82,.int .u8 75] 5 (4,5))).heap.size=w2.heap.size+1 from World.size_alloc ..]at hL
  have hE3:=(hE2.alloc (.cells #[.int .u8 70,.int .u8 73,.int .u8 82,.int .u8 75] 5 (4,5))).alloc (.cells #[.int .u8 1] 5)
  clear FT hK
  go_wp2_with (refine xV rfl (.tmp 8) (.tmp 11) rfl rfl rfl hK' hL (by omega) (by omega) ?_;intro v5 w5 hO5 hG5)
  go_ret2
  exact⟨⟨_,rfl,hO5.mono hE3.le⟩,hE3.grown' hG5⟩
 ·clear hv
  go_enter Tryz.func31,Tryz.ntmps31
  go_wp2_with fail
  refine (FT _).mono ?_
  rintro e w2 ⟨rfl,hE2⟩
  have hK:=zr w2 [70,73,82,75] #[.int .u8 70,.int .u8 73,.int .u8 82,.int .u8 75] 5 (4,5) rfl 4 rfl
  have hK':=(zb _ (.cells #[.int .u8 2] 5)).bytes hK
  have hL:=zr (w2.alloc (.cells #[.int .u8 70,.int .u8 73,.int .u8 82,.int .u8 75] 5 (4,5))) [2] #[.int .u8 2] 5 (0,0) rfl 1 rfl
  rw[show (w2.alloc (.cells #[.int .u8 70,.int .u8 73,.int .u8 82,.int .u8 75] 5 (4,5))).heap.size=w2.heap.size+1 from World.size_alloc ..]at hL
  have hE3:=(hE2.alloc (.cells #[.int .u8 70,.int .u8 73,.int .u8 82,.int .u8 75] 5 (4,5))).alloc (.cells #[.int .u8 2] 5)
  clear FT hK
  go_wp2_with (refine xV rfl (.tmp 8) (.tmp 11) rfl rfl rfl hK' hL (by omega) (by omega) ?_;intro v5 w5 hO5 hG5)
  go_ret2
  exact⟨⟨_,rfl,hO5.mono hE3.le⟩,hE3.grown' hG5⟩
 ·clear hv
  go_enter Tryz.func31,Tryz.ntmps31
  go_wp2_with fail
  refine (FT _).mono ?_
  rintro e w2 ⟨rfl,hE2⟩
  have hK:=zr w2 [70,73,82,75] #[.int .u8 70,.int .u8 73,.int .u8 82,.int .u8 75] 5 (4,5) rfl 4 rfl
  have hK':=(zb _ (.cells #[.int .u8 3] 5)).bytes hK
  have hL:=zr (w2.alloc (.cells #[.int .u8 70,.int .u8 73,.int .u8 82,.int .u8 75] 5 (4,5))) [3] #[.int .u8 3] 5 (0,0) rfl 1 rfl
  rw[show (w2.alloc (.cells #[.int .u8 70,.int .u8 73,.int .u8 82,.int .u8 75] 5 (4,5))).heap.size=w2.heap.size+1 from World.size_alloc ..]at hL
  have hE3:=(hE2.alloc (.cells #[.int .u8 70,.int .u8 73,.int .u8 82,.int .u8 75] 5 (4,5))).alloc (.cells #[.int .u8 3] 5)
  clear FT hK
  go_wp2_with (refine xV rfl (.tmp 8) (.tmp 11) rfl rfl rfl hK' hL (by omega) (by omega) ?_;intro v5 w5 hO5 hG5)
  go_ret2
  exact⟨⟨_,rfl,hO5.mono hE3.le⟩,hE3.grown' hG5⟩
end
end Go.Proofs.YtpmedpdjglcdpaaGreatDoor
