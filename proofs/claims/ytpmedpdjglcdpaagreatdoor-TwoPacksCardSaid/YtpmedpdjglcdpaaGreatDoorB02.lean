/- Small facts that all proofs of a seat use: later worlds, slices of bytes, what a cut of a slice is. Contracts of one shift, and of what the table of sixteen makes. Contracts of the loops over bytes: what bytes make of a register. Contracts  -/
import Derived.Test.YtpmedpdjglcdpaaGreatDoorB01
import Derived.Test.YtpmedpdjglcdpaaGreatDoorRows
import Derived.WalkKit
import Derived.WalkSpells
import Derived.WalkLawsBesides
import Derived.Maps.AppendAt
import Derived.Laws.OwnMore
namespace Go.Proofs.YtpmedpdjglcdpaaGreatDoor
section
open Go.RowKit
theorem hide {p:Prop}(h:p):Hid p:=h
theorem zf {a b:Bool}(h:a=b):Ending.returned (.bool a)=.returned (.bool b):=by rw[h]
theorem qi {a b:Int}(h:a=b):Ending.returned (.int .u32 a)=.returned (.int .u32 b):=by rw[h]
def Ext (w W:World):Prop:=Below w.heap.size w W
theorem Ext.refl (w:World):Ext w w:=Below.refl _ _
theorem Ext.trans {a b c:World}(h:Ext a b)(k:Ext b c):Ext a c:=Below.trans h (Below.mono k h.size)
theorem Ext.drew {a b:World}(h:Ext a b):Ext a b.drew:=Below.drew h
theorem Ext.drewN {a b:World}(h:Ext a b)(n:Nat):Ext a (b.drewN n):=⟨h.os,h.tape,h.output,h.size,h.block⟩
theorem Ext.alloc {a b:World}(h:Ext a b)(o:Obj):Ext a (b.alloc o):=Below.alloc h h.size o
theorem Ext.grown' {a b c:World}(h:Ext a b)(hg:b.grownBy c none):Ext a c:=Below.grown h hg h.size (fun k hk=>by cases hk)
theorem Ext.setCell {a b:World}(h:Ext a b){g i:Nat}(hg:a.heap.size≤g)(u:Value):Ext a (b.setCell ⟨g,i,none⟩ u):=Below.setCell (p:=⟨g,i,none⟩) h hg u
theorem Ext.cell {a b:World}(h:Ext a b){g i:Nat}(hp:g<a.heap.size):b.cell? ⟨g,i,none⟩=a.cell? ⟨g,i,none⟩:=Below.cell (p:=⟨g,i,none⟩) h hp
theorem Ext.le {a b:World}(h:Ext a b):a.heap.size≤b.heap.size:=h.size
theorem zA (w:World)(cs:Array Value)(t:TypeId)(fr:Nat×Nat)(i:Nat):(w.alloc (.cells cs t fr)).cell? ⟨w.heap.size,i,none⟩=cs[i]?:=World.cell?_alloc_mark w cs t fr i
theorem qj (w:World)(o:Obj):Below w.heap.size w (w.alloc o):=(Below.refl _ _).alloc (Nat.le_refl _) o
theorem zb (w:World)(o:Obj):Ext w (w.alloc o):=qj w o
def Bytes (w:World)(B:Nat)(A:Option Addr)(n:Nat)(l:List UInt8):Prop :=
 l.length=n∧(n=0∨∃ b off,A=some ⟨b,off,none⟩∧b<B∧∀ i,i<n→w.cell? ⟨b,off+i,none⟩=some (.int .u8 ((l.getD i 0).toNat:Int)))
theorem Bytes.below {w w':World}{B C:Nat}{A:Option Addr}{n:Nat}{l:List UInt8}(h:Bytes w B A n l)(hb:Below C w w')(hC:B≤C):Bytes w' B A n l:=by
 refine⟨h.1,?_⟩
 rcases h.2 with h0 | ⟨b,off,hA,hB,hc⟩
 ·exact .inl h0
 ·exact .inr ⟨b,off,hA,hB,fun i hi=>by rw[hb.cell (p:=⟨b,off+i,none⟩) (Nat.lt_of_lt_of_le hB hC)];exact hc i hi⟩
theorem Bytes.mono {w:World}{B C:Nat}{A:Option Addr}{n:Nat}{l:List UInt8}(h:Bytes w B A n l)(hC:B≤C):Bytes w C A n l:=by
 refine⟨h.1,?_⟩
 rcases h.2 with h0 | ⟨b,off,hA,hB,hc⟩
 ·exact .inl h0
 ·exact .inr ⟨b,off,hA,Nat.lt_of_lt_of_le hB hC,hc⟩
theorem Ext.bytes {a b:World}(h:Ext a b){A:Option Addr}{n:Nat}{l:List UInt8}(hb:Bytes a a.heap.size A n l):Bytes b b.heap.size A n l:=(hb.below h (Nat.le_refl _)).mono h.size
theorem Bytes.take {w:World}{B:Nat}{A:Option Addr}{n:Nat}{l:List UInt8}(h:Bytes w B A n l){k:Nat}(hk:k≤n):Bytes w B A k (l.take k):=by
 refine⟨by rw[List.length_take,h.1];omega,?_⟩
 rcases h.2 with h0 | ⟨b,off,hA,hB,hc⟩
 ·exact .inl (by omega)
 ·refine .inr ⟨b,off,hA,hB,fun i hi=>?_⟩
  rw[hc i (by omega)]
  simp[List.getD_eq_getElem?_getD,hi]
theorem Bytes.none (w:World)(B:Nat)(A:Option Addr):Bytes w B A 0 []:=⟨rfl,.inl rfl⟩
def zQ (A:Option Addr)(c k:Nat):Option Addr:=if c=k then A else A.map (·.add k)
theorem Bytes.drop {w:World}{B:Nat}{A:Option Addr}{n:Nat}{l:List UInt8}(h:Bytes w B A n l){k c:Nat}(hk:k≤n)(hc:n≤c):Bytes w B (zQ A c k) (n-k) (l.drop k):=by
 refine⟨by rw[List.length_drop,h.1],?_⟩
 by_cases hkn:k=n
 ·exact .inl (by omega)
 rcases h.2 with h0 | ⟨b,off,rfl,hB,hcell⟩
 ·exact .inl (by omega)
 ·refine .inr ⟨b,off+k,?_,hB,fun i hi=>?_⟩
  ·simp[zQ,show ¬ c=k by omega,Addr.add]
  ·rw[Nat.add_assoc,hcell (k+i) (by omega)]
   simp[List.getD_eq_getElem?_getD]
def jg (l:List UInt8):Array Value:=(l.map fun c=>Value.int .u8 (c.toNat:Int)).toArray
theorem zr (w:World)(l:List UInt8)(cs:Array Value)(t:TypeId)(fr:Nat×Nat)(h:cs=jg l)(n:Nat)(hn:l.length=n) :
  Bytes (w.alloc (.cells cs t fr)) (w.alloc (.cells cs t fr)).heap.size (some ⟨w.heap.size,0,none⟩) n l:=by
 subst h
 subst hn
 refine⟨rfl,.inr ⟨w.heap.size,0,rfl,by simp,fun i hi=>?_⟩⟩
 rw[Nat.zero_add,World.cell?_alloc_mark]
 simp[hi,jg]
theorem Ym (W:World)(a:Option Addr)(n c:Nat)(k:IntKind)(l:Int)(h0:0≤l)(h1:l≤n) :
  (Instr.slice 29 (.slice a n c) (some (.int k l)) none none).run Tryz.prog W=.ok (.slice (zQ a c l.toNat) (n-l.toNat) (c-l.toNat)) W:=by
 rw[run_slice_l (P:=Tryz.prog) (w:=W) 29 a n c (by kernel_rfl) k l h0 h1]
 have hs:(sizeOf (Tryz.prog.elem 29)).run Tryz.prog W=.ok 1 W:=by kernel_rfl
 rw[hs]
 simp[Result.andThen,sliced,zQ]
end
section
open Go.RowKit
theorem Crc.bit_odd {x:Nat}(h:((x:Int) % 2==1)=true)(hx:x<4294967296):bits .xor .u32 ((x:Int) / 2) 3988292384=((Crc.bit x:Nat):Int):=by
 have h1:x % 2=1:=by
  have:=beq_iff_eq.1 h
  omega
 have e:(x:Int) / 2=((x / 2:Nat):Int):=by omega
 have h2:=u32_xor_nat (x / 2) 3988292384 (by omega) (by omega)
 rw[e]
 simp only[Crc.bit,if_pos h1]
 exact h2
theorem Crc.bit_even {x:Nat}(h:((x:Int) % 2==1)=false):(x:Int) / 2=((Crc.bit x:Nat):Int):=by
 have h1:¬ x % 2=1:=by
  have:=beq_eq_false_iff_ne.1 h
  omega
 simp only[Crc.bit,if_neg h1]
 omega
set_option maxHeartbeats 400000 in
theorem Qu (x:Nat)(w:World)(h:x<4294967296) :
  Calls Tryz.prog 97 #[.int .u32 x] w fun e w'=>e=.returned (.int .u32 (Crc.bit x:Nat))∧w=w':=by
 go_enter Tryz.func97,Tryz.ntmps97
 go_wp2
 ·go_ret
  exact⟨qi (Crc.bit_odd ‹_› h),rfl⟩
 ·go_ret
  exact⟨qi (Crc.bit_even ‹_›),rfl⟩
theorem Crc.and15 (x:Nat)(h:x<4294967296):bits .and .u32 (x:Int) 15=((x % 16:Nat):Int):=by
 rw[show (15:Int)=((15:Nat):Int) from rfl,u32_and_nat x 15 h (by omega),show 15=2 ^ 4-1 from rfl,Nat.and_two_pow_sub_one_eq_mod]
def Tab (w:World):Prop:=∀ i,i<16→w.cell? ⟨0,i,none⟩=some (.int .u32 ((Crc.tab.getD i 0:Nat):Int))
theorem Tab.below {w w':World}{B:Nat}(h:Tab w)(hb:Below B w w')(hB:0<B):Tab w':=fun i hi=>by
 rw[hb.cell (p:=⟨0,i,none⟩) hB]
 exact h i hi
theorem Crc.four_bits (x:Nat)(h:x<4294967296):bits .xor .u32 ((x:Int) / 16) ((Crc.tab[x % 16]?.getD 0:Nat):Int)=((Crc.run 4 x:Nat):Int):=by
 have e:(x:Int) / 16=((x / 16:Nat):Int):=by omega
 have hr:∀ r,r<16→Crc.tab.getD r 0<4294967296:=by decide
 have f:=Crc.four x
 rw[List.getD_eq_getElem?_getD]at f
 have b:=hr (x % 16) (by omega)
 rw[List.getD_eq_getElem?_getD]at b
 rw[e,u32_xor_nat (x / 16) _ (by omega) b,f]
set_option maxHeartbeats 400000 in
theorem XT (x:Nat)(w:World)(h:x<4294967296)(ht:Tab w) :
  Calls Tryz.prog 146 #[.int .u32 x] w fun e w'=>e=.returned (.int .u32 (Crc.run 8 x:Nat))∧w=w':=by
 have h8:Crc.run 8 x=Crc.run 4 (Crc.run 4 x):=Crc.run_add 4 4 x
 have hl:=Crc.run_lt32 4 h
 rw[h8]
 clear h8
 have hx:=Crc.four_bits x h
 have hm:=Crc.and15 x h
 have h1:=ht (x % 16) (by omega)
 generalize Crc.run 4 x=y at *
 have hx2:=Crc.four_bits y hl
 have hm2:=Crc.and15 y hl
 have h2:=ht (y % 16) (by omega)
 generalize Crc.run 4 y=z at *
 go_enter Tryz.func146,Tryz.ntmps146
 go_wp2
 go_ret
 exact⟨rfl,rfl⟩
end
section
open Go.RowKit
theorem Crc.xor_byte (r:Nat)(c:UInt8)(h:r<4294967296):bits .xor .u32 (r:Int) ((c.toNat:Int) % 4294967296)=((r ^^^ c.toNat:Nat):Int):=by
 have hc:(c.toNat:Int) % 4294967296=(c.toNat:Int):=by have:=c.toNat_lt;omega
 rw[hc]
 exact u32_xor_nat r c.toNat h (Nat.lt_trans c.toNat_lt (by decide))
theorem Crc.xor_lt (r:Nat)(c:UInt8)(h:r<4294967296):r ^^^ c.toNat<4294967296 :=
 Nat.xor_lt_two_pow (n:=32) h (Nat.lt_trans c.toNat_lt (by decide))
theorem Crc.fold_take (r:Nat)(l:List UInt8)(k:Nat)(h:k<l.length):Crc.fold r (l.take (k+1))=Crc.run 8 (Crc.fold r (l.take k) ^^^ (l.getD k 0).toNat):=by
 rw[List.take_succ_eq_append_getElem h,Crc.fold_append,Crc.fold_cons,Crc.fold_nil,Crc.step8,List.getD_eq_getElem?_getD,List.getElem?_eq_getElem h]
 rfl
set_option maxHeartbeats 400000 in
theorem XU (r:Nat)(A:Option Addr)(n c:Nat)(l:List UInt8)(w:World)(h:r<4294967296)(hn:n≤maxLen)(ht:Tab w)(hb:Bytes w w.heap.size A n l) :
  Calls Tryz.prog 115 #[.int .u32 r,.slice A n c] w fun e w'=>e=.returned (.int .u32 (Crc.fold r l:Nat))∧w=w':=by
 unfold maxLen at hn
 obtain⟨hl,hb⟩:=hb
 rcases hb with rfl | ⟨b,off,rfl,hB,hc⟩
 ·obtain rfl:=List.eq_nil_of_length_eq_zero hl
  rw[Crc.fold_nil]
  go_enter Tryz.func115,Tryz.ntmps115
  go_wp2
  go_loop [0,9] (fun x i=>x=.int .u32 r∧i=.int .i64 0) (fun _ _=>0)
  case atStart=>exact⟨rfl,rfl⟩
  case round =>
   obtain⟨rfl,rfl⟩:=hrel
   go_wp2
   go_ret
   exact⟨rfl,rfl⟩
 ·go_enter Tryz.func115,Tryz.ntmps115
  go_wp2
  go_loop [0,9] (fun x i=>∃ k:Nat,k≤n∧i=.int .i64 k∧x=.int .u32 (Crc.fold r (l.take k):Nat)) (fun _ i=>n-(intOf i).toNat)
  case atStart=>exact⟨0,by omega,rfl,by simp[Crc.fold_nil]⟩
  case round =>
   obtain⟨k,hk,rfl,rfl⟩:=hrel
   by_cases hlt:k<n
   ·have HS:=hide (Crc.fold_take r l k (by omega))
    have hfl:=Crc.fold_lt (l.take k) r h
    have hcell:=hc k hlt
    clear hc
    generalize Crc.fold r (l.take k)=y at *
    have hx:=Crc.xor_byte y (l.getD k 0) hfl
    have hxl:=Crc.xor_lt y (l.getD k 0) hfl
    generalize l.getD k 0=z at *
    go_wp2_with (go_at_call 146;refine (XT _ _ hxl ht).mono ?_;rintro e w' ⟨rfl,rfl⟩)
    go_round
    case rel=>exact⟨k+1,by omega,by go_num,by rw[HS.out]⟩
    case measure=>simp[intOf];omega
   ·obtain rfl:k=n:=by omega
    go_wp2
    go_ret
    exact⟨qi (by rw[List.take_of_length_le (by omega)]),rfl⟩
end
section
open Go.RowKit
theorem Crc.not_eq (x:Nat)(h:x<4294967296):(4294967295:Int)-(x:Int)=((4294967295-x:Nat):Int):=by omega
set_option maxHeartbeats 400000 in
theorem U9 (s:Nat)(A:Option Addr)(n c:Nat)(l:List UInt8)(w:World)(h:s<4294967296)(hn:n≤maxLen)(hb:Bytes w w.heap.size A n l) :
  Calls Tryz.prog 69 #[.int .u32 s,.slice A n c] w fun e w'=>e=.returned (.int .u32 ((4294967295-Crc.fold (4294967295-s) l:Nat):Int))∧w=w':=by
 unfold maxLen at hn
 obtain⟨hl,hb⟩:=hb
 have hs:=Crc.not_eq s h
 have hs':4294967295-s<4294967296:=by omega
 generalize 4294967295-s=r at *
 rcases hb with rfl | ⟨b,off,rfl,hB,hc⟩
 ·obtain rfl:=List.eq_nil_of_length_eq_zero hl
  rw[Crc.fold_nil]
  have hr:=Crc.not_eq r hs'
  generalize 4294967295-r=q at *
  go_enter Tryz.func69,Tryz.ntmps69
  go_wp2
  go_loop [5,6,7] (fun x i _=>x=.int .u32 r∧i=.int .i64 0) (fun _ _ _=>0)
  case atStart=>exact⟨rfl,rfl⟩
  case round =>
   obtain⟨rfl,rfl⟩:=hrel
   go_wp2
   go_ret
   exact⟨rfl,rfl⟩
 ·go_enter Tryz.func69,Tryz.ntmps69
  go_wp2
  go_loop [5,6,7] (fun x i _=>∃ k:Nat,k≤n∧i=.int .i64 k∧x=.int .u32 (Crc.fold r (l.take k):Nat)) (fun _ i _=>n-(intOf i).toNat)
  case atStart=>exact⟨0,by omega,rfl,by simp[Crc.fold_nil]⟩
  case round =>
   obtain⟨k,hk,rfl,rfl⟩:=hrel
   by_cases hlt:k<n
   ·have HS:=hide (Crc.fold_take r l k (by omega))
    have hfl:=Crc.fold_lt (l.take k) r hs'
    have hcell:=hc k hlt
    clear hc
    generalize Crc.fold r (l.take k)=y at *
    have hx:=Crc.xor_byte y (l.getD k 0) hfl
    have hxl:=Crc.xor_lt y (l.getD k 0) hfl
    generalize l.getD k 0=z at *
    go_wp2
    go_loop [5,7] (fun x j=>∃ m:Nat,m≤8∧j=.int .i64 m∧x=.int .u32 (Crc.run m (y ^^^ z.toNat):Nat)) (fun _ j=>8-(intOf j).toNat)
    case atStart=>exact⟨0,by omega,rfl,rfl⟩
    case round =>
     obtain⟨m,hm,rfl,rfl⟩:=hrel
     by_cases hm8:m<8
     ·have hrl:=Crc.run_lt32 m hxl
      have HR:=hide (Crc.run_add m 1 (y ^^^ z.toNat))
      generalize Crc.run m (y ^^^ z.toNat)=q at *
      go_wp2_with (go_at_call 97;refine (Qu _ _ hrl).mono ?_;rintro e w' ⟨rfl,rfl⟩)
      go_round
      case rel=>exact⟨m+1,by omega,by go_num,by rw[HR.out];rfl⟩
      case measure=>simp[intOf];omega
     ·obtain rfl:m=8:=by omega
      go_wp2
      go_round
      case rel=>exact⟨k+1,by omega,by go_num,by rw[HS.out]⟩
      case measure=>simp[intOf];omega
   ·obtain rfl:k=n:=by omega
    rw[List.take_of_length_le (by omega:l.length≤k)]
    have hf:=Crc.fold_lt l r hs'
    have hr:=Crc.not_eq _ hf
    go_wp2
    go_ret
    exact⟨rfl,rfl⟩
set_option maxHeartbeats 400000 in
theorem Qv (A:Option Addr)(n c:Nat)(l:List UInt8)(w:World)(hn:n≤maxLen)(hb:Bytes w w.heap.size A n l) :
  Calls Tryz.prog 41 #[.slice A n c] w fun e w'=>e=.returned (.int .u32 ((4294967295-Crc.fold 4294967295 l:Nat):Int))∧w=w':=by
 go_enter Tryz.func41,Tryz.ntmps41
 go_wp2_with (go_at_call 69;refine (U9 0 _ _ _ _ _ (by decide) hn hb).mono ?_;rintro e w' ⟨rfl,rfl⟩)
 go_ret
 exact⟨rfl,rfl⟩
end
section
open Go.RowKit
def Parts (w:World)(B:Nat)(A:Option Addr)(n:Nat)(ls:List (List UInt8)):Prop :=
 ls.length=n∧(n=0∨∃ b off,A=some ⟨b,off,none⟩∧b<B∧∀ i,i<n→∃ A' n' c',w.cell? ⟨b,off+i,none⟩=some (.slice A' n' c')∧n'≤maxLen∧Bytes w B A' n' (ls.getD i []))
end
section
open Go.RowKit
def Crc.folds (x:Nat)(ls:List (List UInt8)):Nat:=Crc.fold x ls.flatten
theorem Crc.folds_take (r:Nat)(ls:List (List UInt8))(k:Nat)(h:k<ls.length):Crc.folds r (ls.take (k+1))=Crc.fold (Crc.folds r (ls.take k)) (ls.getD k []):=by
 unfold Crc.folds
 rw[List.take_succ_eq_append_getElem h,List.flatten_append,Crc.fold_append,List.getD_eq_getElem?_getD,List.getElem?_eq_getElem h]
 simp
theorem Crc.not_bits (s:Nat)(h:s<4294967296):bits .xor .u32 IntKind.u32.max (s:Int)=((4294967295-s:Nat):Int):=by
 have hm:IntKind.u32.max=((4294967295:Nat):Int):=by decide
 have e:(4294967295:Nat) ^^^ s=4294967295-s:=by
  have h1:=congrArg BitVec.toNat (BitVec.allOnes_xor (x:=BitVec.ofNat 32 s))
  rw[BitVec.toNat_xor,BitVec.toNat_not,BitVec.toNat_ofNat,BitVec.toNat_allOnes,Nat.mod_eq_of_lt (by omega:s<2 ^ 32)]at h1
  exact h1
 rw[hm,u32_xor_nat _ _ (by decide) h,e]
set_option maxHeartbeats 400000 in
theorem ab5 (s:Nat)(A:Option Addr)(n c:Nat)(ls:List (List UInt8))(w:World)(h:s<4294967296)(hn:n≤maxLen)(ht:Tab w)(hb:Parts w w.heap.size A n ls) :
  Calls Tryz.prog 84 #[.int .u32 s,.slice A n c] w fun e w'=>e=.returned (.int .u32 ((4294967295-Crc.folds (4294967295-s) ls:Nat):Int))∧w=w':=by
 unfold maxLen at hn
 obtain⟨hl,hb⟩:=hb
 have hs:=Crc.not_bits s h
 have hs':4294967295-s<4294967296:=by omega
 generalize 4294967295-s=r at *
 rcases hb with rfl | ⟨b,off,rfl,hB,hc⟩
 ·obtain rfl:=List.eq_nil_of_length_eq_zero hl
  have hr:=Crc.not_bits r hs'
  have HF:=hide (show Crc.folds r []=r from rfl)
  go_enter Tryz.func84,Tryz.ntmps84
  go_wp2
  go_loop [5,12] (fun x i=>x=.int .u32 r∧i=.int .i64 0) (fun _ _=>0)
  case atStart=>exact⟨rfl,rfl⟩
  case round =>
   obtain⟨rfl,rfl⟩:=hrel
   go_wp2
   go_ret
   exact⟨qi (by rw[HF.out]),rfl⟩
 ·go_enter Tryz.func84,Tryz.ntmps84
  go_wp2
  go_loop [5,12] (fun x i=>∃ k:Nat,k≤n∧i=.int .i64 k∧x=.int .u32 (Crc.folds r (ls.take k):Nat)) (fun _ i=>n-(intOf i).toNat)
  case atStart=>exact⟨0,by omega,rfl,by simp[Crc.folds,Crc.fold_nil]⟩
  case round =>
   obtain⟨k,hk,rfl,rfl⟩:=hrel
   have hfl:=Crc.fold_lt (ls.take k).flatten r hs'
   change Crc.folds r (ls.take k)<_ at hfl
   by_cases hlt:k<n
   ·have HS:=hide (Crc.folds_take r ls k (by omega))
    obtain⟨A',n',c',hcell,hn',hby⟩:=hc k hlt
    clear hc
    generalize Crc.folds r (ls.take k)=y at *
    generalize ls.getD k []=z at *
    go_wp2_with (go_at_call 115;refine (XU _ _ _ _ _ _ hfl hn' ht hby).mono ?_;rintro e w' ⟨rfl,rfl⟩)
    go_round
    case rel=>exact⟨k+1,by omega,by go_num,by rw[HS.out]⟩
    case measure=>simp[intOf];omega
   ·obtain rfl:k=n:=by omega
    rw[List.take_of_length_le (by omega:ls.length≤k)]at *
    have hr:=Crc.not_bits _ hfl
    go_wp2
    go_ret
    exact⟨rfl,rfl⟩
theorem Parts.one {w:World}{A:Option Addr}{n c:Nat}{l:List UInt8}(t:TypeId)(hn:n≤maxLen)(hb:Bytes w w.heap.size A n l) :
  Parts (w.alloc (.cells #[.slice A n c] t)) (w.alloc (.cells #[.slice A n c] t)).heap.size (some ⟨w.heap.size,0,none⟩) 1 [l]:=by
 refine⟨rfl,.inr ⟨w.heap.size,0,rfl,by simp,fun i hi=>?_⟩⟩
 obtain rfl:i=0:=by omega
 exact⟨A,n,c,zA w _ t _ 0,hn,(hb.below (qj w _) (Nat.le_refl _)).mono (by simp)⟩
def Crc.sum (l:List UInt8):Nat:=4294967295-Crc.fold 4294967295 l
set_option maxHeartbeats 400000 in
theorem adt (A:Option Addr)(n c:Nat)(l:List UInt8)(w:World)(hn:n≤maxLen)(h0:0<w.heap.size)(ht:Tab w)(hb:Bytes w w.heap.size A n l) :
  Calls Tryz.prog 56 #[.slice A n c] w fun e w'=>e=.returned (.int .u32 (Crc.sum l:Nat))∧Below w.heap.size w w':=by
 have hp:=Parts.one (c:=c) 29 hn hb
 have ht':=ht.below (qj w (.cells #[.slice A n c] 29)) h0
 have HS:=hide (show Crc.sum l=4294967295-Crc.folds 4294967295 [l] by simp[Crc.sum,Crc.folds])
 have hbl:=qj w (.cells #[.slice A n c] 29)
 go_enter Tryz.func56,Tryz.ntmps56
 go_wp2_with (go_at_call 84;refine (ab5 0 _ _ _ _ _ (by decide) (by decide) ht' hp).mono ?_;rintro e w' ⟨rfl,rfl⟩)
 go_ret
 exact⟨qi (by rw[HS.out]),hbl⟩
end
section
open Go.RowKit
def zY (c:UInt8):Value:=.int .u8 (c.toNat:Int)
def OwnB (w:World)(base:Nat)(v:Value)(l:List UInt8):Prop:=w.ownsRow base 5 1 v l.length (l.map zY)
theorem yY:(Tryz.prog.info? 5).map (fun i=>(i.zero,i.size,i.bytes))=some (some (.int .u8 0),1,1):=by kernel_rfl
theorem OwnB.nil (w:World)(base:Nat):OwnB w base (.slice none 0 0) []:=World.ownsRow_nil w base _ _
theorem Ext.grown {w w':World}(h:Ext w w')(row:Option Nat):w.grownBy w' row:=⟨h.os,h.tape,h.output,h.size,fun i hi _=>h.block i hi⟩
theorem OwnB.empty (w:World){base:Nat}(h:base≤w.heap.size):OwnB (w.alloc (.cells #[] 5)) base (.slice (some ⟨w.heap.size,0,none⟩) 0 0) [] :=
 World.ownsRow_made (size:=1) w #[] 0 h (by unfold maxLen;omega) (by simp)
theorem OwnB.lit (w:World)(cs:Array Value)(l:List UInt8)(n:Nat)(hcs:cs=(l.map zY).toArray)(hn:l.length=n)(hm:n≤1000){base:Nat}(h:base≤w.heap.size) :
  OwnB (w.alloc (.cells cs 5)) base (.slice (some ⟨w.heap.size,0,none⟩) n n) l:=by
 subst hcs
 subst hn
 have:=World.ownsRow_lit (e:=5) (size:=1) w (l.map zY).toArray l.length h (by unfold maxLen;omega) (by simp)
 simpa[OwnB] using this
theorem OwnB.ext {w w':World}{base:Nat}{v:Value}{l:List UInt8}(h:OwnB w base v l)(hE:Ext w w'):OwnB w' base v l :=
 World.ownsRow.kept h (hE.grown none) (by cases hv:v.ownBlock<;>simp)
theorem OwnB.form {w:World}{base:Nat}{v:Value}{l:List UInt8}(h:OwnB w base v l) :
  ∃ A c,v=.slice A l.length c∧l.length≤c∧c≤maxLen∧Bytes w w.heap.size A l.length l:=by
 have hl:=h.lt
 rcases h.2 with ⟨rfl,h0⟩ | ⟨g,cap,cur,rfl,hb,hg,hn,hc,hs,ht⟩
 ·exact⟨none,0,by rw[h0],by omega,by unfold maxLen;omega,rfl,.inl h0⟩
 ·refine⟨_,cap,rfl,hn,hc,rfl,.inr ⟨g,0,rfl,(hl g rfl).2,fun i hi=>?_⟩⟩
  have hk:=World.ownsRow.cellAt h i (by omega)
  rw[Nat.zero_add,hk]
  simp[zY,hi]
theorem OwnB.form' {w:World}{base:Nat}{v:Value}{l:List UInt8}(h:OwnB w base v l):∃ A n c,v=.slice A n c∧n≤c∧n≤l.length∧Bytes w w.heap.size A n l:=by
 obtain⟨A,c,hv,hc,_,hb⟩:=h.form
 exact⟨A,_,c,hv,hc,Nat.le_refl _,hb⟩
theorem OwnB.mono {w:World}{base base':Nat}{v:Value}{l:List UInt8}(h:OwnB w base v l)(hb:base'≤base):OwnB w base' v l :=
 ⟨h.1,h.2.elim Or.inl fun ⟨g,cap,cur,hv,hg,r⟩=>Or.inr ⟨g,cap,cur,hv,Nat.le_trans hb hg,r⟩⟩
theorem OwnB.len_le {w:World}{base:Nat}{v:Value}{l:List UInt8}(h:OwnB w base v l):l.length≤maxLen:=by
 obtain⟨_,c,_,h1,h2,_⟩:=h.form
 omega
theorem uE (w:World)(ty:TypeId)(base:Nat)(v:Value)(l:List UInt8)(hown:OwnB w base v l)(A:Option Addr)(c:Nat) :
  (Builtin.append_ #[29,29] ty #[v,.slice A 0 c]).run Tryz.prog w=.ok v w:=by
 obtain⟨i,hi,_,_,_⟩:=info_parts yY
 rcases hown.2 with ⟨rfl,_⟩ | ⟨g,cap,cur,rfl,_,_,hnc,_⟩
 ·cases A<;>simp[Builtin.append_,run_underlying Tryz.underlying29,sizeOf,typeInfo,hi,Builtin.lenOf,Builtin.firstCells,loadCells,loadCellsFrom]
 ·cases A<;>simp[Builtin.append_,run_underlying Tryz.underlying29,sizeOf,typeInfo,hi,Builtin.lenOf,Builtin.firstCells,loadCells,loadCellsFrom,hnc,storeCells]
theorem OwnB.formG {w:World}{base:Nat}{v:Value}{l:List UInt8}(h:OwnB w base v l)(hl:0<l.length):∃ g c,v=.slice (some ⟨g,0,none⟩) l.length c∧base≤g∧l.length≤c:=by
 rcases h.2 with ⟨_,h0⟩ | ⟨g,cap,_,rfl,hb,_,hn,_⟩
 ·omega
 ·exact⟨g,cap,rfl,hb,hn⟩
theorem OwnB.cell {w:World}{base g n c:Nat}{l:List UInt8}(h:OwnB w base (.slice (some ⟨g,0,none⟩) n c) l){i:Nat}(hi:i<l.length) :
  w.cell? ⟨g,i,none⟩=some (.int .u8 ((l.getD i 0).toNat:Int))∧w.frozen? ⟨g,i,none⟩=false:=by
 have hn:n=l.length:=by
  rcases h.2 with ⟨h',_⟩ | ⟨_,_,_,h',_⟩
  ·simp at h'
  ·simp only[Value.slice.injEq]at h';exact h'.2.1
 subst hn
 refine⟨?_,World.ownsRow.frozenAt h i⟩
 rw[World.ownsRow.cellAt h i (by omega)]
 simp[zY,hi]
theorem OwnB.set {w:World}{base g n c:Nat}{l:List UInt8}(h:OwnB w base (.slice (some ⟨g,0,none⟩) n c) l)(i:Nat)(x:UInt8) :
  OwnB (w.setCell ⟨g,i,none⟩ (.int .u8 (x.toNat:Int))) base (.slice (some ⟨g,0,none⟩) n c) (l.set i x):=by
 have hn:n=l.length:=by
  rcases h.2 with ⟨h',_⟩ | ⟨_,_,_,h',_⟩
  ·simp at h'
  ·simp only[Value.slice.injEq]at h';exact h'.2.1
 subst hn
 have:=(World.ownsRow.stored h i (zY x)).1
 unfold OwnB
 rw[List.length_set,List.map_set]
 exact this
theorem adu {w:World}(ty:TypeId){base:Nat}{v:Value}{l:List UInt8}(hown:OwnB w base v l){A:Option Addr}{m:Nat}{k:List UInt8}(c:Nat)(hb:Bytes w w.heap.size A m k)
  (hlen:l.length+m≤140737488355328) (hbase:base≤w.heap.size) :
  ∃ v' w',(Builtin.append_ #[29,29] ty #[v,.slice A m c]).run Tryz.prog w=.ok v' w'∧OwnB w' base v' (l++k)∧w.grownBy w' v.ownBlock:=by
 obtain⟨hk,hb⟩:=hb
 rcases hb with rfl | ⟨b,off,rfl,hB,hc⟩
 ·obtain rfl:=List.eq_nil_of_length_eq_zero hk
  exact⟨v,w,uE w ty base v l hown A c,by simpa using hown,World.grownBy.refl w _⟩
 ·obtain⟨i,hi,hz,hs,hby⟩:=info_parts yY
  obtain⟨v',w',hr,h2,h3,_⟩:=run_append_own (P:=Tryz.prog) w base 29 ty 5 i _ 1 1 Tryz.underlying29 hi hz hs hby rfl (by omega) v l.length (l.map zY) hown
   ⟨b,off,none⟩ m c (k.map zY) (by simpa using hk) (by
    intro j u hu
    have hj:j<m:=by
     rcases Nat.lt_or_ge j m with h|h
     ·exact h
     ·rw[List.getElem?_eq_none (by simp;omega)]at hu;cases hu
    have hadd:(⟨b,off,none⟩:Addr).add j=⟨b,off+j,none⟩:=by unfold Addr.add;split<;>simp_all
    rw[hadd,hc j hj]
    rw[List.getElem?_map,List.getElem?_eq_getElem (by omega)]at hu
    rw[List.getD_eq_getElem?_getD,List.getElem?_eq_getElem (by omega)]
    simpa[zY] using hu) (by
    intro u hu
    obtain⟨x,_,rfl⟩:=List.mem_map.1 hu
    rfl) (by unfold maxLen;omega) (by omega) hbase
  refine⟨v',w',hr,?_,h3⟩
  unfold OwnB
  rw[List.length_append,hk,List.map_append]
  exact h2
theorem V6 {o:Oper}{a:Act}{K:Act→World→Prop}{Q:Exit→Act→World→Prop}{w:World}(s x:Operand)
  (ho:o.op=.call { callee:=.builtin .append,args:=#[s,x],argTypes:=#[29,29] }) {base:Nat} {v:Value} {l:List UInt8} (hs:a.eval s=v) (hown:OwnB w base v l)
  {A:Option Addr} {m c:Nat} {k:List UInt8} (hx:a.eval x=.slice A m c) (hb:Bytes w w.heap.size A m k) (hlen:l.length+m≤140737488355328) (hbase:base≤w.heap.size)
  (h:∀ v' w',OwnB w' base v' (l++k)→w.grownBy w' v.ownBlock→K (a.put o.dst v') w'):o.wp Tryz.prog a w K Q:=by
 obtain⟨v',w',hr,h2,h3⟩:=adu o.type hown c hb hlen hbase
 unfold Oper.wp execOp
 simp only[ho,resolve,invoke,builtin,Sem.run_bind,Sem.run_pure,Result.andThen_ok,List.map_toArray,List.map_cons,List.map_nil,hs,hx,hr]
 exact h v' w' h2 h3
theorem zw {ops:Array Oper}{rest:List Oper}{o:Oper}{a:Act}{Q:Exit→Act→World→Prop}{w:World}(hgd:o.guard=none)(s x:Operand)
  (ho:o.op=.call { callee:=.builtin .append,args:=#[s,x],argTypes:=#[29,29] }) {base:Nat} {v:Value} {l:List UInt8} (hs:a.eval s=v) (hown:OwnB w base v l)
  {A:Option Addr} {m c:Nat} {k:List UInt8} (hx:a.eval x=.slice A m c) (hb:Bytes w w.heap.size A m k) (hlen:l.length+m≤140737488355328) (hbase:base≤w.heap.size)
  (h:∀ v' w',OwnB w' base v' (l++k)→w.grownBy w' v.ownBlock→wpList Tryz.prog ops Q rest (a.put o.dst v') w'):wpList Tryz.prog ops Q (o::rest) a w :=
 wpList_plain hgd fun _ hK=>V6 s x ho hs hown hx hb hlen hbase fun v' w' h2 h3=>hK _ _ (h v' w' h2 h3)
def zt (w:World)(l:List UInt8)(e:Ending)(w':World):Prop:=∃ v,e=.returned v∧OwnB w' w.heap.size v l∧Ext w w'
theorem OwnB.below {w0 w w':World}{base:Nat}{v:Value}{l:List UInt8}(h:OwnB w base v l)(hb:Below base w0 w)(hg:w.grownBy w' v.ownBlock)(hbase:base≤w.heap.size):Below base w0 w' :=
 hb.grown hg hbase fun k hk=>(h.lt k hk).1
end
section
open Go.RowKit
def aat (a b:List UInt8):Bool:=decide (a=b)
theorem vZ {a b:List UInt8}(h:a=b):aat a b=true:=decide_eq_true h
theorem Ja {a b:List UInt8}(h:a≠b):aat a b=false:=decide_eq_false h
end
section
open Go.RowKit
theorem xg {w:World}{B:Nat}{A:Option Addr}{n:Nat}{l:List UInt8}(c:Nat)(h:Bytes w B A n l)(hA:A=none→n=0) :
  (convert 29 9 (.slice A n c)).run Tryz.prog w=.ok (.string ⟨l.toArray⟩) w:=by
 obtain⟨hl,hb⟩:=h
 rcases A with _|ad
 ·obtain rfl:=hA rfl
  obtain rfl:=List.eq_nil_of_length_eq_zero hl
  exact run_convert_bytes_nil w 29 5 Tryz.underlying29 Tryz.underlying5 0 c 9 Tryz.underlying9
 ·subst hl
  refine run_convert_bytes_back w 29 9 5 ad c l Tryz.underlying29 Tryz.underlying5 Tryz.underlying9 fun j hj=>?_
  rcases hb with h0 | ⟨b,off,hA,_,hc⟩
  ·omega
  ·obtain rfl:ad=⟨b,off,none⟩:=by injection hA
   have hadd:(⟨b,off,none⟩:Addr).add j=⟨b,off+j,none⟩:=by unfold Addr.add;split<;>simp_all
   rw[hadd,hc j hj,List.getD_eq_getElem?_getD,List.getElem?_eq_getElem hj]
   rfl
theorem ab6 (a b:List UInt8):aat a b=(a==b):=by
 by_cases h:a=b
 ·rw[vZ h];simp[h]
 ·rw[Ja h];simp[h]
end
section
open Go.RowKit
set_option maxHeartbeats 1000000 in
theorem Yx (A1 A2:Option Addr)(n m c d:Nat)(a b:List UInt8)(w:World)(ha:Bytes w w.heap.size A1 n a)(hb:Bytes w w.heap.size A2 m b) :
  Calls Tryz.prog 9 #[.slice A1 n c,.slice A2 m d] w fun e w'=>e=.returned (.bool (aat a b))∧Ext w w':=by
 have h1:=xg c ha (fun h=>by subst h;rcases ha.2 with h | ⟨_,_,h,_⟩;exact h;cases h)
 have h2:=xg d hb (fun h=>by subst h;rcases hb.2 with h | ⟨_,_,h,_⟩;exact h;cases h)
 clear ha hb
 go_enter Tryz.func9,Tryz.ntmps9
 go_wp2
 go_ret
 exact⟨zf (ab6 a b).symm,Ext.refl _⟩
end
section
open Go.RowKit
namespace Num
def encF:Nat→Nat→List UInt8
 | 0,_=>[]
 | f+1,x=>if x<128 then [UInt8.ofNat x] else UInt8.ofNat (128+x % 128)::encF f (x / 128)
def enc (x:Nat):List UInt8:=encF 10 x
theorem encF_small {f x:Nat}(h:x<128):encF (f+1) x=[UInt8.ofNat x]:=by rw[encF,if_pos h]
theorem encF_big {f x:Nat}(h:¬ x<128):encF (f+1) x=UInt8.ofNat (128+x % 128)::encF f (x / 128):=by rw[encF,if_neg h]
theorem Jb:∀ (f x:Nat),(encF f x).length≤f
 | 0,_=>by simp[encF]
 | f+1,x=>by
  rw[encF]
  split
  ·simp
  ·have:=Jb f (x / 128)
   simp;omega
theorem enc_len (x:Nat):(enc x).length≤10:=Jb 10 x
theorem adv (x:Nat):0<(enc x).length:=by
 unfold enc
 rw[encF]
 split<;>simp
theorem ofNat_low (y:Nat)(h:y<256):(UInt8.ofNat y).toNat=y:=by rw[UInt8.toNat_ofNat'];exact Nat.mod_eq_of_lt h
def fix:Nat→Nat→List UInt8
 | 0,_=>[]
 | n+1,x=>UInt8.ofNat (x % 256)::fix n (x / 256)
theorem fix_len:∀ n x,(fix n x).length=n
 | 0,_=>rfl
 | n+1,x=>by rw[fix,List.length_cons,fix_len]
theorem fix_snoc:∀ n x,fix (n+1) x=fix n x++[UInt8.ofNat (x / 256 ^ n % 256)]
 | 0,x=>by simp[fix]
 | n+1,x=>by
  rw[fix,fix_snoc n (x / 256),Nat.div_div_eq_div_mul,Nat.mul_comm 256,← Nat.pow_succ]
  rfl
def zig (d:Nat):Nat:=if 2 ^ 63≤d then 2*(2 ^ 64-1-d)+1 else 2*d
theorem ab7 {d:Nat}(h:d<2 ^ 64):zig d<2 ^ 64:=by
 unfold zig
 split<;>omega
end Num
end
section
open Go.RowKit
namespace Bit
def at_ (l:List UInt8)(i:Nat):Bool:=(l.getD (i / 8) 0).toNat.testBit (7-i % 8)
def val (f:Nat→Bool):Nat→Nat
 | 0=>0
 | n+1=>2*val f n+(f n).toNat
def num (x n:Nat):List Bool:=(List.range n).map fun i=>x.testBit (n-1-i)
theorem val_lt (f:Nat→Bool):∀ n,val f n<2 ^ n
 | 0=>by simp[val]
 | n+1=>by
  have:=val_lt f n
  have hb:(f n).toNat≤1:=by cases f n<;>simp
  rw[val,Nat.pow_succ]
  omega
theorem testBit_toNat (x i:Nat):(x.testBit i).toNat=x / 2 ^ i % 2:=by
 rw[Nat.testBit_eq_decide_div_mod_eq]
 have:x / 2 ^ i % 2<2:=Nat.mod_lt _ (by omega)
 rcases (by omega:x / 2 ^ i % 2=0∨x / 2 ^ i % 2=1) with h|h<;>simp[h]
theorem num_length (x n:Nat):(num x n).length=n:=by simp[num]
theorem num_getD (x n i:Nat)(h:i<n):(num x n).getD i false=x.testBit (n-1-i):=by simp[num,List.getD_eq_getElem?_getD,h]
theorem ua {x n i:Nat}(h:x<2 ^ n)(hi:n≤i):x.testBit i=false:=Nat.testBit_lt_two_pow (Nat.lt_of_lt_of_le h (Nat.pow_le_pow_right (by omega) hi))
def Packs (l:List UInt8)(B:List Bool):Prop:=l.length=(B.length+7) / 8∧∀ i,i<8*l.length→at_ l i=B.getD i false
theorem adZ {a b:UInt8}(h:∀ j,j<8→a.toNat.testBit j=b.toNat.testBit j):a=b:=by
 apply UInt8.toNat_inj.1
 apply Nat.eq_of_testBit_eq
 intro j
 by_cases hj:j<8
 ·exact h j hj
 ·rw[ua (n:=8) a.toNat_lt (by omega),ua (n:=8) b.toNat_lt (by omega)]
theorem ab8 {a b:List UInt8}(h:a.length=b.length)(hx:∀ i,i<a.length→a.getD i 0=b.getD i 0):a=b:=by
 apply List.ext_getElem h
 intro i h1 h2
 have:=hx i h1
 simpa[List.getD_eq_getElem?_getD,h1,h2] using this
theorem Packs.uniq {a b:List UInt8}{B:List Bool}(ha:Packs a B)(hb:Packs b B):a=b:=by
 have hl:a.length=b.length:=ha.1.trans hb.1.symm
 refine ab8 hl fun i hi=>adZ fun j hj=>?_
 have h1:=ha.2 (8*i+(7-j)) (by omega)
 have h2:=hb.2 (8*i+(7-j)) (by omega)
 unfold at_ at h1 h2
 rw[show (8*i+(7-j)) / 8=i by omega,show 7-(8*i+(7-j)) % 8=j by omega]at h1 h2
 rw[h1,h2]
theorem Packs.nil:Packs [] []:=⟨by simp,fun i hi=>by simp at hi⟩
theorem ab9 (l:List UInt8)(k i:Nat):at_ (l++List.replicate k 0) i=(if i<8*l.length then at_ l i else false):=by
 unfold at_
 by_cases h:i<8*l.length
 ·have h1:i / 8<l.length:=by omega
  rw[if_pos h,List.getD_eq_getElem?_getD,List.getElem?_append_left h1,List.getD_eq_getElem?_getD]
 ·have h1:l.length≤i / 8:=by omega
  rw[if_neg h,List.getD_eq_getElem?_getD,List.getElem?_append_right h1,List.getElem?_replicate]
  split<;>simp
theorem uJ (B C:List Bool)(i:Nat)(h:B.length≤i):(B++C).getD i false=C.getD (i-B.length) false:=by
 simp only[List.getD_eq_getElem?_getD]
 rw[List.getElem?_append_right h]
theorem jB (B C:List Bool)(i:Nat)(h:i<B.length):(B++C).getD i false=B.getD i false:=by
 simp only[List.getD_eq_getElem?_getD]
 rw[List.getElem?_append_left h]
theorem getD_far (B:List Bool)(i:Nat)(h:B.length≤i):B.getD i false=false:=by
 simp only[List.getD_eq_getElem?_getD]
 rw[List.getElem?_eq_none h];rfl
theorem ZG (B:List Bool)(n i:Nat):(B++List.replicate n false).getD i false=B.getD i false:=by
 by_cases h:i<B.length
 ·exact jB _ _ _ h
 ·rw[uJ _ _ _ (by omega),getD_far B i (by omega),List.getD_eq_getElem?_getD,List.getElem?_replicate]
  split<;>rfl
theorem Packs.widen {l:List UInt8}{B:List Bool}(h:Packs l B)(n:Nat):Packs (l++List.replicate ((B.length+n+7) / 8-l.length) 0) (B++List.replicate n false):=by
 have h1:=h.1
 refine⟨by simp;omega,fun i hi=>?_⟩
 rw[ab9,ZG]
 by_cases hx:i<8*l.length
 ·rw[if_pos hx];exact h.2 i hx
 ·rw[if_neg hx,getD_far B i (by omega)]
def Adds (B:List Bool)(x n:Nat)(l:List UInt8)(p:Nat):Prop :=
 l.length=(B.length+n+7) / 8∧B.length≤p∧p≤B.length+n∧(p=B.length∨p % 8=0∨p=B.length+n) ∧
 ∀ i,i<8*l.length→at_ l i=(if i<B.length then B.getD i false else (decide (i<p) && x.testBit (B.length+n-1-i)))
theorem Adds.start {l:List UInt8}{B:List Bool}(h:Packs l B)(x n:Nat):Adds B x n (l++List.replicate ((B.length+n+7) / 8-l.length) 0) B.length:=by
 have h2:=h.widen n
 have h1:=h.1
 refine⟨by simp;omega,Nat.le_refl _,by omega,.inl rfl,fun i hi=>?_⟩
 rw[h2.2 i hi,ZG]
 by_cases hx:i<B.length
 ·rw[if_pos hx]
 ·rw[if_neg hx,getD_far B i (by omega),decide_eq_false hx];rfl
theorem Adds.done {l:List UInt8}{B:List Bool}{x n:Nat}(h:Adds B x n l (B.length+n)):Packs l (B++num x n):=by
 refine⟨by rw[h.1,List.length_append,num_length],fun i hi=>?_⟩
 rw[h.2.2.2.2 i hi]
 by_cases h1:i<B.length
 ·rw[if_pos h1,jB _ _ _ h1]
 ·rw[if_neg h1,uJ _ _ _ (by omega)]
  by_cases h2:i<B.length+n
  ·rw[decide_eq_true h2,Bool.true_and,num_getD _ _ _ (by omega)]
   congr 1
   omega
  ·rw[decide_eq_false h2,getD_far _ _ (by rw[num_length];omega)];rfl
theorem ad0 (l:List UInt8)(j i:Nat)(c:UInt8)(hj:j<l.length):at_ (l.set j c) i=(if i / 8=j then c.toNat.testBit (7-i % 8) else at_ l i):=by
 unfold at_
 simp only[List.getD_eq_getElem?_getD,List.getElem?_set]
 by_cases h:i / 8=j
 ·rw[if_pos h,if_pos h.symm,if_pos hj];rfl
 ·rw[if_neg h,if_neg (fun e=>h e.symm)]
def mix (c:UInt8)(x s t:Nat):UInt8:=c ||| UInt8.ofNat ((x >>> s) % 256*2 ^ t)
theorem adw (c:UInt8)(x s t j:Nat)(hj:j<8):(mix c x s t).toNat.testBit j=(c.toNat.testBit j || (decide (t≤j) && x.testBit (s+(j-t)))):=by
 unfold mix
 rw[UInt8.toNat_or,Nat.testBit_or,UInt8.toNat_ofNat',Nat.testBit_mod_two_pow,decide_eq_true hj,Bool.true_and,Nat.testBit_mul_two_pow]
 by_cases h:t≤j
 ·rw[decide_eq_true h,Bool.true_and,Bool.true_and,show (256:Nat)=2 ^ 8 from rfl,Nat.testBit_mod_two_pow,decide_eq_true (show j-t<8 by omega),Bool.true_and,Nat.testBit_shiftRight]
 ·rw[decide_eq_false h]
  simp
theorem Adds.step {l:List UInt8}{B:List Bool}{x n p k:Nat}(h:Adds B x n l p)(hx:x<2 ^ n)(hk:k=min (B.length+n-p) (8-p % 8))(hp:p<B.length+n) :
  Adds B x n (l.set (p / 8) (mix (l.getD (p / 8) 0) x (B.length+n-p-k) (8-p % 8-k))) (p+k):=by
 obtain⟨h1,h2,h3,h4,h5⟩:=h
 have hj:p / 8<l.length:=by omega
 refine⟨by rw[List.length_set];exact h1,by omega,by omega,by omega,fun i hi=>?_⟩
 rw[List.length_set]at hi
 have h5i:=h5 i hi
 rw[ad0 _ _ _ _ hj]
 by_cases hb:i / 8=p / 8
 ·rw[if_pos hb,adw _ _ _ _ _ (by omega)]
  have hat:(l.getD (p / 8) 0).toNat.testBit (7-i % 8)=at_ l i:=by unfold at_;rw[hb]
  rw[hat,h5i]
  by_cases hi1:i<B.length
  ·rw[if_pos hi1,if_pos hi1]
   by_cases ht:8-p % 8-k≤7-i % 8
   ·rw[ua hx (by omega)];simp
   ·simp[ht]
  ·rw[if_neg hi1,if_neg hi1]
   by_cases hip:i<p
   ·rw[decide_eq_true hip,decide_eq_true (show i<p+k by omega)]
    omega
   ·rw[decide_eq_false hip,Bool.false_and,Bool.false_or]
    by_cases hik:i<p+k
    ·rw[decide_eq_true hik,decide_eq_true (show 8-p % 8-k≤7-i % 8 by omega)]
     congr 2
     omega
    ·rw[decide_eq_false hik,decide_eq_false (show ¬ 8-p % 8-k≤7-i % 8 by omega)]
     rfl
 ·rw[if_neg hb,h5i]
  by_cases hi1:i<B.length
  ·rw[if_pos hi1,if_pos hi1]
  ·rw[if_neg hi1,if_neg hi1]
   by_cases hip:i<p
   ·rw[decide_eq_true hip,decide_eq_true (show i<p+k by omega)]
   ·rw[decide_eq_false hip,decide_eq_false (show ¬ i<p+k by omega)]
end Bit
end
section
structure Rc where
 time:Nat
 lv:UInt8
 src:List UInt8
 text:List UInt8
deriving DecidableEq
instance :Inhabited Rc:=⟨⟨0,0,[],[]⟩⟩
namespace Rcs
open Num
def weightE (l:List Rc):Nat:=(l.map fun r=>16+r.src.length+r.text.length).sum
def checkE (l:List Rc):Int:=if l.length≤20000∧(∀ r∈l,r.src.length≤4000∧r.text.length≤4000)∧weightE l≤1048576 then 0 else 6
def xa (s:List UInt8):List UInt8:=enc s.length++s
def oneB (whole:Bool)(r:Rc):List UInt8:=(if whole=true then enc r.time++[r.lv] else [])++(xa r.src++xa r.text)
def bytesB (whole:Bool)(l:List Rc):List UInt8:=l.flatMap (oneB whole)
def moreG (whole:Bool)(size:Int):Nat→List Rc→Nat
 | _,[]=>0
 | sum,r::t=>if ((sum+(oneB whole r).length:Nat):Int)≤size then moreG whole size (sum+(oneB whole r).length) t+1 else 0
def groupsF (whole:Bool)(size:Int):Nat→List Rc→List Nat
 | 0,_=>[]
 | _+1,[]=>[]
 | f+1,r::t=>(moreG whole size (oneB whole r).length t+1)::groupsF whole size f (t.drop (moreG whole size (oneB whole r).length t))
def groupsE (size:Int)(whole:Bool)(l:List Rc):List Nat:=groupsF whole (if size<1 then 1 else size) l.length l
def uF (a b:Nat):Nat:=(a+(2 ^ 64-b)) % 2 ^ 64
def yf:Nat→List Rc→List UInt8
 | _,[]=>[]
 | was,r::t=>enc (zig (uF r.time was))++yf r.time t
def yt (x:UInt8):List Rc→Nat
 | []=>0
 | r::t=>if r.lv=x then yt x t+1 else 0
def zu:Option UInt8→List Rc→List UInt8
 | _,[]=>[]
 | p,r::t=>(if p=some r.lv then [] else r.lv::enc (yt r.lv t+1))++zu (some r.lv) t
def columnsE (l:List Rc):List UInt8:=yf 0 l++zu none l
theorem adx (whole:Bool)(r:Rc):0<(oneB whole r).length:=by
 have:=adv r.src.length
 unfold oneB xa
 simp only[List.length_append]
 omega
end Rcs
end
section
namespace Rcs
open Num
theorem V7 (whole:Bool)(size:Int):∀ (sum:Nat) (l:List Rc),moreG whole size sum l≤l.length
 | _,[]=>by simp[moreG]
 | sum,r::t=>by
  have:=V7 whole size (sum+(oneB whole r).length) t
  rw[moreG]
  split<;>simp<;>omega
theorem uK {whole:Bool}{size:Int}:∀ (f:Nat) (l:List Rc),l.length≤f→groupsF whole size f l=groupsF whole size l.length l
 | 0,l,h=>by obtain rfl:=List.eq_nil_of_length_eq_zero (by omega:l.length=0);rfl
 | f+1,[],_=>rfl
 | f+1,r::t,h=>by
  have hm:=V7 whole size (oneB whole r).length t
  rw[groupsF,List.length_cons,groupsF]
  have h1:(t.drop (moreG whole size (oneB whole r).length t)).length≤t.length:=by rw[List.length_drop];omega
  rw[uK f _ (by simp at h;omega),uK t.length _ h1]
def groupsAt (size:Int)(whole:Bool)(l:List Rc)(i:Nat):List Nat:=groupsF whole size (l.length-i) (l.drop i)
theorem groups_end {size:Int}{whole:Bool}{l:List Rc}{i:Nat}(h:l.length≤i):groupsAt size whole l i=[]:=by unfold groupsAt;rw[show l.length-i=0 by omega];rfl
def groupN (size:Int)(whole:Bool)(l:List Rc)(i:Nat):Nat:=moreG whole size (oneB whole (l.getD i default)).length (l.drop (i+1))+1
theorem jh {l:List Rc}{i:Nat}(h:i<l.length):l.drop i=l.getD i default::l.drop (i+1):=by
 rw[List.drop_eq_getElem_cons h,List.getD_eq_getElem?_getD,List.getElem?_eq_getElem h]
 rfl
theorem groups_step {size:Int}{whole:Bool}{l:List Rc}{i:Nat}(h:i<l.length):groupsAt size whole l i=groupN size whole l i::groupsAt size whole l (i+groupN size whole l i)∧i+groupN size whole l i≤l.length:=by
 have hm:=V7 whole size (oneB whole (l.getD i default)).length (l.drop (i+1))
 rw[List.length_drop]at hm
 unfold groupsAt groupN
 obtain⟨f,hf⟩:∃ f,l.length-i=f+1:=⟨l.length-i-1,by omega⟩
 rw[hf,jh h,groupsF,List.drop_drop]
 refine⟨?_,by omega⟩
 congr 1
 rw[uK f _ (by rw[List.length_drop];omega),List.length_drop]
 rw[show i+1+moreG whole size (oneB whole (l.getD i default)).length (l.drop (i+1))=i+(moreG whole size (oneB whole (l.getD i default)).length (l.drop (i+1))+1) by omega]
theorem aca (a b:Nat):uF a b<2 ^ 64:=Nat.mod_lt _ (by decide)
theorem jO (x:UInt8):∀ l:List Rc,yt x l≤l.length
 | []=>by simp[yt]
 | r::t=>by
  have:=jO x t
  rw[yt]
  split<;>simp<;>omega
theorem Yy (x:UInt8):∀ l:List Rc,zu (some x) l=zu (some x) (l.drop (yt x l))∧l.map Rc.lv=List.replicate (yt x l) x++(l.drop (yt x l)).map Rc.lv∧∀ r,(l.drop (yt x l)).head?=some r→r.lv≠x
 | []=>by simp[yt]
 | r::t=>by
  obtain⟨h1,h2,h3⟩:=Yy x t
  rw[yt]
  by_cases h:r.lv=x
  ·rw[if_pos h,List.drop_succ_cons,zu,if_pos (by rw[h]),List.nil_append,h,List.replicate_succ,List.map_cons,h,List.cons_append]
   exact⟨h1,by rw[h2],h3⟩
  ·rw[if_neg h,List.drop_zero]
   refine⟨rfl,by simp,fun y hy=>?_⟩
   simp at hy
   rw[← hy]
   exact h
end Rcs
end
section
namespace Rcs
open Num
theorem aau {l:List Rc}{i:Nat}(h:i<l.length):l.take (i+1)=l.take i++[l.getD i default]:=by
 rw[List.take_add_one,List.getElem?_eq_getElem h,List.getD_eq_getElem?_getD,List.getElem?_eq_getElem h]
 rfl
theorem vA {l:List Rc}{i:Nat}(h:i<l.length):weightE (l.take (i+1))=weightE (l.take i)+16+(l.getD i default).src.length+(l.getD i default).text.length:=by
 rw[aau h]
 unfold weightE
 rw[List.map_append,List.sum_append]
 simp
 omega
theorem weight_take (l:List Rc)(i:Nat):weightE (l.take i)≤weightE l:=by
 have:weightE l=weightE (l.take i)+weightE (l.drop i):=by
  conv=>lhs;rw[← List.take_append_drop i l]
  unfold weightE
  rw[List.map_append,List.sum_append]
 omega
theorem weight_mem {l:List Rc}{r:Rc}(h:r∈l):16+r.src.length+r.text.length≤weightE l:=by
 unfold weightE
 induction l with
 | nil=>simp at h
 | cons a t ih =>
  rw[List.map_cons,List.sum_cons]
  rcases List.mem_cons.1 h with rfl|h
  ·omega
  ·have:=ih h;omega
theorem weight_len (l:List Rc):16*l.length≤weightE l:=by
 unfold weightE
 induction l with
 | nil=>simp
 | cons a t ih=>rw[List.map_cons,List.sum_cons,List.length_cons];omega
def uH:Nat→List Rc→Nat
 | sum,[]=>sum
 | sum,r::t=>if 1099511627776<sum∨1099511627776<r.src.length∨1099511627776<r.text.length then 2199023255552 else uH (sum+16+r.src.length+r.text.length) t
theorem acb:∀ (l:List Rc) (sum:Nat),uH sum l≤1099511627776→uH sum l=sum+weightE l
 | [],sum,_=>by simp[uH,weightE]
 | r::t,sum,h=>by
  rw[uH]at h ⊢
  by_cases h1:1099511627776<sum∨1099511627776<r.src.length∨1099511627776<r.text.length
  ·rw[if_pos h1]at h;omega
  ·rw[if_neg h1]at h ⊢
   rw[acb t _ h]
   unfold weightE
   rw[List.map_cons,List.sum_cons]
   omega
theorem acd {l:List Rc}{i sum:Nat}(h:i<l.length):uH sum (l.drop i)=if 1099511627776<sum∨1099511627776<(l.getD i default).src.length∨1099511627776<(l.getD i default).text.length then 2199023255552 else uH (sum+16+(l.getD i default).src.length+(l.getD i default).text.length) (l.drop (i+1)):=by
 rw[jh h,uH]
def V8 (l:List Rc)(records bytes:Int):Bool:=decide (records<(l.length:Int)∨bytes<(uH 0 l:Int))
theorem ace {l:List Rc}{records bytes:Int}(h:V8 l records bytes=false)(hb:bytes≤1099511627776):(l.length:Int)≤records∧(weightE l:Int)≤bytes:=by
 have h:=of_decide_eq_false h
 have h1:¬ records<(l.length:Int):=fun e=>h (.inl e)
 have h2:¬ bytes<(uH 0 l:Int):=fun e=>h (.inr e)
 have:=acb l 0 (by omega)
 omega
end Rcs
end
section
open Go.RowKit
def IntsAt (w:World)(B:Nat)(A:Option Addr)(n:Nat)(L:List Int):Prop :=
 L.length=n∧(n=0∨∃ b off,A=some ⟨b,off,none⟩∧b<B∧∀ i,i<n→w.cell? ⟨b,off+i,none⟩=some (.int .i64 (L.getD i 0)))
theorem IntsAt.below {w w':World}{B C:Nat}{A:Option Addr}{n:Nat}{L:List Int}(h:IntsAt w B A n L)(hb:Below C w w')(hC:B≤C):IntsAt w' B A n L:=by
 refine⟨h.1,?_⟩
 rcases h.2 with h0 | ⟨b,off,hA,hB,hc⟩
 ·exact .inl h0
 ·exact .inr ⟨b,off,hA,hB,fun i hi=>by rw[hb.cell (p:=⟨b,off+i,none⟩) (Nat.lt_of_lt_of_le hB hC)];exact hc i hi⟩
theorem IntsAt.later {w w':World}{A:Option Addr}{n:Nat}{L:List Int}(h:IntsAt w w.heap.size A n L)(hE:Ext w w'):IntsAt w' w'.heap.size A n L:=by
 refine⟨h.1,?_⟩
 rcases h.2 with h0 | ⟨b,off,hA,hB,hc⟩
 ·exact .inl h0
 ·exact .inr ⟨b,off,hA,Nat.lt_of_lt_of_le hB hE.le,fun i hi=>by rw[hE.cell hB];exact hc i hi⟩
end
section
open Go.RowKit
def OwnI (w:World)(base:Nat)(v:Value)(L:List Int):Prop:=w.ownsRow base 3 1 v L.length (L.map (Value.int .i64))
theorem Yz:(Tryz.prog.info? 3).map (fun i=>(i.zero,i.size,i.bytes))=some (some (.int .i64 0),1,8):=by kernel_rfl
theorem OwnI.nil (w:World)(base:Nat):OwnI w base (.slice none 0 0) []:=World.ownsRow_nil w base _ _
theorem OwnI.ext {w w':World}{base:Nat}{v:Value}{L:List Int}(h:OwnI w base v L)(hE:Ext w w'):OwnI w' base v L :=
 World.ownsRow.kept h (hE.grown none) (by cases hv:v.ownBlock<;>simp)
theorem OwnI.lt {w:World}{base:Nat}{v:Value}{L:List Int}(h:OwnI w base v L):∀ k,v.ownBlock=some k→base≤k∧k<w.heap.size:=World.ownsRow.lt h
theorem OwnI.form {w:World}{base:Nat}{v:Value}{L:List Int}(h:OwnI w base v L):∃ A c,v=.slice A L.length c∧L.length≤c∧IntsAt w w.heap.size A L.length L:=by
 have hl:=h.lt
 rcases h.2 with ⟨rfl,h0⟩ | ⟨g,cap,cur,rfl,hb,hg,hn,hc,hs,ht⟩
 ·exact⟨none,0,by rw[h0],by omega,rfl,.inl h0⟩
 ·refine⟨_,cap,rfl,hn,rfl,.inr ⟨g,0,rfl,(hl g rfl).2,fun i hi=>?_⟩⟩
  have hk:=World.ownsRow.cellAt h i (by omega)
  rw[Nat.zero_add,hk]
  simp[hi]
section
variable {o:Oper}{a:Act}{Q:Exit→Act→World→Prop}{w:World}{base:Nat}{v:Value}{L:List Int}
theorem ub {ops:Array Oper}{rest:List Oper}(hgd:o.guard=none)(s x:Operand)(ho:o.op=.call { callee:=.builtin .append,args:=#[s,x],argTypes:=#[48,48] })(hs:a.eval s=v)(p:Int)
  (hown:OwnI (w.alloc (.cells #[.int .i64 p] 3)) base v L) {c:Nat} (hx:a.eval x=.slice (some ⟨w.heap.size,0,none⟩) 1 c) (hlen:L.length≤1000000) (hbase:base≤w.heap.size)
  (h:∀ v' w',OwnI w' base v' (L++[p])→(w.alloc (.cells #[.int .i64 p] 3)).grownBy w' v.ownBlock→wpList Tryz.prog ops Q rest (a.put o.dst v') w') :
  wpList Tryz.prog ops Q (o::rest) a (w.alloc (.cells #[.int .i64 p] 3)):=by
 obtain⟨i,hi,hz,hsz,hby⟩:=info_parts Yz
 refine wpList_append_own_at _ hgd s x 48 ho base 3 i _ 1 8 Tryz.underlying48 hi hz hsz hby rfl (by omega) v L.length (L.map (Value.int .i64)) hs hown ⟨w.heap.size,0,none⟩ 1 c [.int .i64 p] hx rfl (by
  intro j u hu
  match j,hu with
  | 0,hu =>
   have:(⟨w.heap.size,0,none⟩:Addr).add 0=⟨w.heap.size,0,none⟩:=rfl
   rw[this,zA]
   simpa using hu
  | j+1,hu=>simp at hu) (by
  intro u hu
  simp at hu
  subst hu
  rfl) (by unfold maxLen;omega) (by omega) (by simp;omega) ?_
 intro v' w' h2 h3 _ h5
 refine h v' w' ?_ h3
 unfold OwnI
 rw[List.length_append,List.map_append]
 exact h2
end
end
section
open Go.RowKit
theorem OwnI.form2 {w:World}{base:Nat}{v:Value}{L:List Int}(h:OwnI w base v L):∃ A c,v=.slice A L.length c∧L.length≤c∧c≤maxLen∧IntsAt w w.heap.size A L.length L:=by
 have hl:=h.lt
 rcases h.2 with ⟨rfl,h0⟩ | ⟨g,cap,cur,rfl,hb,hg,hn,hc,hs,ht⟩
 ·exact⟨.none,0,by rw[h0],by omega,by unfold maxLen;omega,rfl,.inl h0⟩
 ·refine⟨_,cap,rfl,hn,hc,rfl,.inr ⟨g,0,rfl,(hl g rfl).2,fun i hi=>?_⟩⟩
  have hk:=World.ownsRow.cellAt h i (by omega)
  rw[Nat.zero_add,hk]
  simp[hi]
theorem xF {ops:Array Oper}{rest:List Oper}{o:Oper}{a:Act}{Q:Exit→Act→World→Prop}(hgd:o.guard=none)(s x:Operand)(ho:o.op=.call { callee:=.builtin .append,args:=#[s,x],argTypes:=#[48,48] }){w0 w:World}{v:Value}{L:List Int}
  (hE:Ext w0 w) (hO:OwnI w w0.heap.size v L) (hs:a.eval s=v) (p:Int) {c:Nat} (hx:a.eval x=.slice (some ⟨w.heap.size,0,none⟩) 1 c) (hlen:L.length≤1000000)
  (h:∀ v' w',OwnI w' w0.heap.size v' (L++[p])→Ext w0 w'→wpList Tryz.prog ops Q rest (a.put o.dst v') w'):wpList Tryz.prog ops Q (o::rest) a (w.alloc (.cells #[.int .i64 p] 3)) :=
 ub hgd s x ho hs p (hO.ext (zb w _)) hx hlen hE.le fun v' w' h1 h2=>h v' w' h1 (Below.grown (hE.alloc _) h2 (by rw[World.size_alloc];have:=hE.le;omega) (fun k hk=>(hO.lt k hk).1))
def YA (w:World)(l:List Int)(e:Ending)(w':World):Prop:=∃ A c,e=.returned (.slice A l.length c)∧l.length≤c∧c≤maxLen∧IntsAt w' w'.heap.size A l.length l∧Ext w w'
end
section
namespace Wrd
def small (c:UInt8):UInt8:=if (97≤c.toNat∧c.toNat≤122)∨(48≤c.toNat∧c.toNat≤57) then c else if 65≤c.toNat∧c.toNat≤90 then c+32 else 0
def isL (c:UInt8):Bool:=!(small c==0)
def zZ:Nat→List UInt8→List UInt8
 | 0,_=>[]
 | _+1,[]=>[]
 | m+1,c::t=>if isL c=true then small c::zZ m t else []
def zE:Bool→List UInt8→List (List UInt8)
 | _,[]=>[]
 | p,c::t=>(if isL c=true∧p=false then [zZ 24 (c::t)] else [])++zE (isL c) t
def zv (l:List UInt8):List (List UInt8):=zE false l
def zM:List (List UInt8)→List UInt8→List (List UInt8)
 | [],s=>[s]
 | a::t,s=>if Op.bytesLess a s=true then a::zM t s else if a=s then a::t else s::a::t
def xh (txt src:List UInt8):List (List UInt8):=((zv src).map fun w=>64::w).foldl zM ((zv txt).foldl zM [])
theorem ad1 (p:UInt8→Bool)(h:∀ i:Fin 256,p (UInt8.ofFin i)=true)(c:UInt8):p c=true:=by
 have:=h c.toFin
 simpa using this
theorem ZH (c:UInt8):small (small c)=small c:=by
 have:=ad1 (fun c=>small (small c)==small c) (by decide +kernel) c
 simpa using this
theorem aaZ (c:UInt8):isL (small c)=isL c:=by unfold isL;rw[ZH]
theorem aav {c:UInt8}:isL c=true↔small c≠0:=by unfold isL;simp
theorem acf {c:UInt8}:isL c=false↔small c=0:=by unfold isL;simp
theorem Vp:∀ (m:Nat) (l:List UInt8),(zZ m l).length≤m
 | 0,_=>by simp[zZ]
 | _+1,[]=>by simp[zZ]
 | m+1,c::t=>by
  rw[zZ]
  split
  ·have:=Vp m t;simp;omega
  ·simp
theorem ZI:∀ (m:Nat) (l:List UInt8) (c:UInt8),c∈zZ m l→isL c=true∧small c=c
 | 0,_,c,h=>by simp[zZ]at h
 | _+1,[],c,h=>by simp[zZ]at h
 | m+1,x::t,c,h=>by
  rw[zZ]at h
  split at h
  ·rename_i hx
   rcases List.mem_cons.1 h with rfl|h
   ·exact⟨by rw[aaZ];exact hx,ZH x⟩
   ·exact ZI m t c h
  ·simp at h
theorem YB:∀ (p:Bool) (l:List UInt8),(zE p l).length≤l.length
 | _,[]=>by simp[zE]
 | p,x::t=>by
  have:=YB (isL x) t
  rw[zE]
  split<;>simp<;>omega
theorem xm (l:List UInt8):(zv l).length≤l.length:=YB false l
def Word (w:List UInt8):Prop:=(1≤w.length∧w.length≤24)∧∀ c,c∈w→isL c=true∧small c=c
theorem ZJ:∀ (p:Bool) (l:List UInt8) (w:List UInt8),w∈zE p l→Word w
 | _,[],w,h=>by simp[zE]at h
 | p,x::t,w,h=>by
  rw[zE,List.mem_append]at h
  rcases h with h|h
  ·split at h
   ·rename_i hx
    rw[List.mem_singleton]at h
    subst h
    refine⟨⟨?_,Vp 24 _⟩,fun c hc=>ZI 24 _ c hc⟩
    rw[zZ,if_pos hx.1]
    simp
   ·simp at h
  ·exact ZJ _ t w h
theorem jP {l w:List UInt8}(h:w∈zv l):Word w:=ZJ false l w h
theorem va:∀ (a:List UInt8),Op.bytesLess a a=false
 | []=>by simp[Op.bytesLess]
 | x::t=>by simp[Op.bytesLess,va t]
theorem vi:∀ (a b c:List UInt8),Op.bytesLess a b=true→Op.bytesLess b c=true→Op.bytesLess a c=true
 | a,[],c,h,_=>by cases a<;>simp[Op.bytesLess]at h
 | a,_::_,[],_,h=>by simp[Op.bytesLess]at h
 | [],_::_,_::_,_,_=>by simp[Op.bytesLess]
 | x::a,y::b,z::c,h1,h2=>by
  simp only[Op.bytesLess,Bool.or_eq_true,Bool.and_eq_true,decide_eq_true_eq,beq_iff_eq]at h1 h2 ⊢
  rcases h1 with h1 | ⟨rfl,h1⟩
  ·rcases h2 with h2 | ⟨rfl,h2⟩
   ·exact .inl (UInt8.lt_trans h1 h2)
   ·exact .inl h1
  ·rcases h2 with h2 | ⟨rfl,h2⟩
   ·exact .inl h2
   ·exact .inr ⟨rfl,vi a b c h1 h2⟩
theorem uc:∀ (a b:List UInt8),Op.bytesLess a b=false→a≠b→Op.bytesLess b a=true
 | [],[],_,h=>absurd rfl h
 | [],_::_,h,_=>by simp[Op.bytesLess]at h
 | _::_,[],_,_=>by simp[Op.bytesLess]
 | x::a,y::b,h1,h2=>by
  simp only[Op.bytesLess,Bool.or_eq_false_iff,Bool.and_eq_false_iff,decide_eq_false_iff_not,beq_eq_false_iff_ne]at h1
  simp only[Op.bytesLess,Bool.or_eq_true,Bool.and_eq_true,decide_eq_true_eq,beq_iff_eq]
  rcases UInt8.lt_or_eq_of_le (UInt8.not_lt.1 h1.1) with h|h
  ·exact .inl h
  ·subst h
   exact .inr ⟨rfl,uc a b (h1.2.resolve_left (fun h=>h rfl)) (fun e=>h2 (by rw[e]))⟩
theorem YC {s z:List UInt8}:∀ {l:List (List UInt8)},z∈zM l s↔z∈l∨z=s
 | []=>by simp[zM]
 | a::t=>by
  rw[zM]
  split
  ·rw[List.mem_cons,YC,List.mem_cons,or_assoc]
  ·split
   ·rename_i h;subst h;simp only[List.mem_cons];constructor
    ·exact .inl
    ·rintro (h | h)
     ·exact h
     ·exact .inl h
   ·simp only[List.mem_cons];constructor
    ·rintro (h | h | h)
     ·exact .inr h
     ·exact .inl (.inl h)
     ·exact .inl (.inr h)
    ·rintro ((h | h) | h)
     ·exact .inr (.inl h)
     ·exact .inr (.inr h)
     ·exact .inl h
def Rising (l:List (List UInt8)):Prop:=l.Pairwise fun a b=>Op.bytesLess a b=true
theorem ZK {s:List UInt8}:∀ {l:List (List UInt8)},Rising l→Rising (zM l s)
 | [],_=>by simp[zM,Rising]
 | a::t,h=>by
  have h':=List.pairwise_cons.1 h
  rw[zM]
  split
  ·rename_i ha
   refine List.pairwise_cons.2 ⟨fun z hz=>?_,ZK h'.2⟩
   rcases YC.1 hz with hz|rfl
   ·exact h'.1 z hz
   ·exact ha
  ·split
   ·exact h
   ·rename_i ha hne
    have hs:=uc a s (by simpa using ha) hne
    refine List.pairwise_cons.2 ⟨fun z hz=>?_,h⟩
    rcases List.mem_cons.1 hz with rfl|hz
    ·exact hs
    ·exact vi s a z hs (h'.1 z hz)
theorem xi:∀ (l out:List (List UInt8)),Rising out→Rising (l.foldl zM out)∧∀ z,z∈l.foldl zM out↔z∈out∨z∈l
 | [],out,h=>⟨h,fun z=>by simp⟩
 | s::l,out,h=>by
  obtain⟨h1,h2⟩:=xi l (zM out s) (ZK h)
  refine⟨h1,fun z=>?_⟩
  rw[List.foldl_cons,h2 z,YC,List.mem_cons,or_assoc]
theorem YD (s:List UInt8):∀ (l:List (List UInt8)),(zM l s).length≤l.length+1
 | []=>by simp[zM]
 | a::t=>by
  have:=YD s t
  rw[zM]
  split
  ·simp;omega
  ·split<;>simp
theorem qk (txt src:List UInt8):Rising (xh txt src):=(xi _ _ (xi _ [] List.Pairwise.nil).1).1
theorem Vq {txt src z:List UInt8}:z∈xh txt src↔z∈zv txt∨∃ w,w∈zv src∧z=64::w:=by
 unfold xh
 rw[(xi _ _ (xi _ [] List.Pairwise.nil).1).2,(xi _ [] List.Pairwise.nil).2,List.mem_map]
 simp only[List.not_mem_nil,false_or]
 constructor
 ·rintro (h | ⟨w,h1,h2⟩)
  ·exact .inl h
  ·exact .inr ⟨w,h1,h2.symm⟩
 ·rintro (h | ⟨w,h1,h2⟩)
  ·exact .inl h
  ·exact .inr ⟨w,h1,h2.symm⟩
end Wrd
end
section
namespace Dic
open Num Wrd
def alike:List UInt8→List UInt8→Nat
 | a::s,b::t=>if a=b then alike s t+1 else 0
 | _,_=>0
def uL:List (List UInt8)→Bool
 | a::b::t=>Op.bytesLess a b && uL (b::t)
 | _=>true
def fits (s:List UInt8):Bool:=decide (1≤s.length∧s.length≤25)
def mayD (l:List (List UInt8)):Bool:=decide (l.length≤1048576) && l.all fits && uL l
def xC (s:List UInt8):List UInt8:=enc s.length++s
def itemB (was s:List UInt8):List UInt8:=enc (alike was s)++xC (s.drop (alike was s))
def xD:List UInt8→List (List UInt8)→List UInt8
 | _,[]=>[]
 | was,s::t=>itemB was s++xD s t
def yp:List (List UInt8)→List UInt8
 | []=>[]
 | s::t=>xC s++xD s t
def chunks (size:Nat):Nat→List (List UInt8)→List (List (List UInt8))
 | 0,_=>[]
 | f+1,l=>if l=[] then [] else l.take size::chunks size f (l.drop size)
def ym (size:Nat)(l:List (List UInt8)):List (List (List UInt8)):=chunks size l.length l
def zP (bs:List (List (List UInt8))):List UInt8:=bs.flatMap fun p=>enc (yp p).length
def zV (bs:List (List (List UInt8))):List UInt8:=bs.flatMap yp
def dictB (size:Nat)(l:List (List UInt8)):List UInt8:=enc l.length++zP (ym size l)++zV (ym size l)
def writeE (size:Int)(l:List (List UInt8)):List UInt8×Int:=if size<1∨64<size∨mayD l=false then ([],13) else (dictB size.toNat l,0)
def yN (size n:Nat):Nat:=(n+size-1) / size
theorem ql:∀ (a b:List UInt8),alike a b≤a.length∧alike a b≤b.length
 | [],_=>by simp[alike]
 | _::_,[]=>by simp[alike]
 | a::s,b::t=>by
  have:=ql s t
  rw[alike]
  split<;>simp<;>omega
theorem ji:∀ (l:List (List UInt8)),uL l=true↔Rising l
 | []=>by simp[uL,Rising]
 | [a]=>by simp[uL,Rising]
 | a::b::t=>by
  rw[uL,Bool.and_eq_true,ji (b::t)]
  unfold Rising
  constructor
  ·rintro⟨h1,h2⟩
   refine List.pairwise_cons.2 ⟨fun z hz=>?_,h2⟩
   rcases List.mem_cons.1 hz with rfl|hz
   ·exact h1
   ·exact vi a b z h1 ((List.pairwise_cons.1 h2).1 z hz)
  ·intro h
   exact⟨(List.pairwise_cons.1 h).1 b (by simp),(List.pairwise_cons.1 h).2⟩
theorem may_facts {l:List (List UInt8)}(h:mayD l=true):l.length≤1048576∧(∀ s,s∈l→1≤s.length∧s.length≤25)∧Rising l:=by
 unfold mayD at h
 rw[Bool.and_eq_true,Bool.and_eq_true,decide_eq_true_eq,List.all_eq_true,ji]at h
 exact⟨h.1.1,fun s hs=>by simpa[fits] using h.1.2 s hs,h.2⟩
theorem may_of {l:List (List UInt8)}(h1:l.length≤1048576)(h2:∀ s,s∈l→1≤s.length∧s.length≤25)(h3:Rising l):mayD l=true:=by
 unfold mayD
 rw[Bool.and_eq_true,Bool.and_eq_true,decide_eq_true_eq,List.all_eq_true,ji]
 exact⟨⟨h1,fun s hs=>by simpa[fits] using h2 s hs⟩,h3⟩
end Dic
end
section
namespace Dic
open Num Wrd
theorem Zd {x:Nat}(h:x<128):(enc x).length=1:=by unfold enc;rw[encF_small h];rfl
theorem Jc:∀ (t:List (List UInt8)) (was:List UInt8),was.length≤25→(∀ s,s∈t→s.length≤25)→(xD was t).length≤27*t.length
 | [],_,_,_=>by simp[xD]
 | s::t,was,hw,h=>by
  have h1:=Jc t s (h s (by simp)) (fun x hx=>h x (by simp[hx]))
  have h2:=h s (by simp)
  have h3:=ql was s
  have e1:=Zd (show alike was s<128 by omega)
  have e2:=Zd (show (s.drop (alike was s)).length<128 by rw[List.length_drop];omega)
  rw[xD,itemB,xC,List.length_append,List.length_append,List.length_append,e1,e2,List.length_drop,List.length_cons]
  omega
theorem ud {c:List (List UInt8)}(h:∀ s,s∈c→s.length≤25):(yp c).length≤27*c.length:=by
 cases c with
 | nil=>simp[yp]
 | cons s t =>
  have h1:=Jc t s (h s (by simp)) (fun x hx=>h x (by simp[hx]))
  have h2:=h s (by simp)
  have e2:=Zd (show s.length<128 by omega)
  rw[yp,xC,List.length_append,List.length_append,e2,List.length_cons]
  omega
theorem YE {size:Nat}(hs:size≤64):∀ (f:Nat) (l:List (List UInt8)),(∀ s,s∈l→s.length≤25)→∀ c,c∈chunks size f l→(yp c).length≤2000
 | 0,_,_,c,hc=>by simp[chunks]at hc
 | f+1,l,h,c,hc=>by
  rw[chunks]at hc
  split at hc
  ·simp at hc
  ·rcases List.mem_cons.1 hc with rfl | hc
   ·have:=ud (c:=l.take size) (fun s hs=>h s (List.mem_of_mem_take hs))
    rw[List.length_take]at this
    omega
   ·exact YE hs f (l.drop size) (fun s hs=>h s (List.mem_of_mem_drop hs)) c hc
end Dic
end
section
namespace Dic
open Wrd
theorem aaw {l:List (List UInt8)}(h:Rising l){i j:Nat}(hij:i<j)(hj:j<l.length):Op.bytesLess (l.getD i []) (l.getD j [])=true:=by
 have:=List.pairwise_iff_getElem.1 h i j (by omega) hj hij
 simpa[List.getD_eq_getElem?_getD,hj,show i<l.length by omega] using this
end Dic
end
section
namespace Dic
open Num Wrd
theorem uM {size:Nat}(hs:1≤size):∀ (f:Nat) (l:List (List UInt8)),l.length≤f→chunks size f l=chunks size l.length l
 | 0,l,h=>by obtain rfl:=List.eq_nil_of_length_eq_zero (by omega:l.length=0);rfl
 | f+1,[],_=>by simp[chunks]
 | f+1,a::t,h=>by
  rw[chunks,if_neg (by simp),List.length_cons,chunks,if_neg (by simp)]
  have h1:((a::t).drop size).length≤t.length:=by rw[List.length_drop,List.length_cons];omega
  rw[uM hs f _ (by simp at h;omega),uM hs t.length _ h1]
def zy (size:Nat)(l:List (List UInt8))(i:Nat):List (List (List UInt8)):=chunks size (l.length-i) (l.drop i)
theorem vM (size:Nat)(l:List (List UInt8)):ym size l=zy size l 0:=by simp[ym,zy]
theorem ZL {size:Nat}{l:List (List UInt8)}{i:Nat}(h:l.length≤i):zy size l i=[]:=by unfold zy;rw[show l.length-i=0 by omega];rfl
theorem qm {size:Nat}(hs:1≤size){l:List (List UInt8)}{i:Nat}(h:i<l.length):zy size l i=(l.drop i).take size::zy size l (i+size):=by
 unfold zy
 obtain⟨f,hf⟩:∃ f,l.length-i=f+1:=⟨l.length-i-1,by omega⟩
 rw[hf,chunks,if_neg (by intro e;have:=congrArg List.length e;simp at this;omega),List.drop_drop]
 congr 1
 rw[uM hs f _ (by rw[List.length_drop];omega),List.length_drop]
theorem Yn {l:List (List UInt8)}{i:Nat}(h:i<l.length):l.drop i=l.getD i []::l.drop (i+1):=by
 rw[List.drop_eq_getElem_cons h,List.getD_eq_getElem?_getD,List.getElem?_eq_getElem h]
 rfl
def left (l:List (List UInt8))(k e:Nat):List (List UInt8):=(l.drop k).take (e-k)
theorem V9 {size:Nat}(hs:1≤size){l:List (List UInt8)}{i:Nat}(h:i<l.length):yp ((l.drop i).take size)=xC (l.getD i [])++xD (l.getD i []) (left l (i+1) (i+size)):=by
 obtain⟨m,rfl⟩:∃ m,size=m+1:=⟨size-1,by omega⟩
 rw[Yn h,List.take_succ_cons,yp]
 unfold left
 rw[show i+(m+1)-(i+1)=m by omega]
theorem aa0 {l:List (List UInt8)}{k e:Nat}(h1:k<e)(h2:k<l.length)(was:List UInt8):xD was (left l k e)=itemB was (l.getD k [])++xD (l.getD k []) (left l (k+1) e):=by
 unfold left
 obtain⟨m,hm⟩:∃ m,e-k=m+1:=⟨e-k-1,by omega⟩
 rw[Yn h2,hm,List.take_succ_cons,xD,show e-(k+1)=m by omega]
theorem acg {l:List (List UInt8)}{k e:Nat}(h:e≤k∨l.length≤k)(was:List UInt8):xD was (left l k e)=[]:=by
 unfold left
 rcases h with h|h
 ·rw[show e-k=0 by omega];rfl
 ·rw[List.drop_eq_nil_of_le h];simp[xD]
theorem head_len:∀ bs:List (List (List UInt8)),(zP bs).length≤10*bs.length
 | []=>by simp[zP]
 | c::bs=>by
  have h1:=head_len bs
  have h2:=enc_len (yp c).length
  unfold zP at h1 ⊢
  rw[List.flatMap_cons,List.length_append,List.length_cons]
  omega
theorem Jd:∀ bs:List (List (List UInt8)),(∀ c,c∈bs→(yp c).length≤2000)→(zV bs).length≤2000*bs.length
 | [],_=>by simp[zV]
 | c::bs,h=>by
  have h1:=Jd bs (fun c hc=>h c (by simp[hc]))
  have h2:=h c (by simp)
  unfold zV at h1 ⊢
  rw[List.flatMap_cons,List.length_append,List.length_cons]
  omega
theorem YF {size:Nat}(hs:1≤size):∀ (f:Nat) (l:List (List UInt8)),(chunks size f l).length≤f
 | 0,_=>by simp[chunks]
 | f+1,l=>by
  have:=YF hs f (l.drop size)
  rw[chunks]
  split<;>simp<;>omega
theorem ZM {size:Nat}:∀ (f:Nat) (l:List (List UInt8)),(∀ s,s∈l→s.length≤25)→(zV (chunks size f l)).length≤27*l.length
 | 0,_,_=>by simp[chunks,zV]
 | f+1,l,h=>by
  have h1:=ZM (size:=size) f (l.drop size) (fun s hs=>h s (List.mem_of_mem_drop hs))
  have h2:=ud (c:=l.take size) (fun s hs=>h s (List.mem_of_mem_take hs))
  rw[chunks]
  split
  ·simp[zV]
  ·unfold zV at h1 ⊢
   rw[List.flatMap_cons,List.length_append]
   rw[List.length_drop]at h1
   rw[List.length_take]at h2
   omega
theorem YG {size:Nat}(h1:1≤size)(h2:size≤64){l:List (List UInt8)}(hl:∀ s,s∈l→s.length≤25):(enc l.length++zP (ym size l)).length≤10+10*l.length∧(zV (ym size l)).length≤2000*l.length∧∀ c,c∈ym size l→(yp c).length≤2000:=by
 have hf:=YE h2 l.length l hl
 have hn:=YF h1 l.length l
 have ha:=head_len (ym size l)
 have hb:=Jd (ym size l) hf
 have hc:=enc_len l.length
 unfold ym at ha hb hf ⊢
 refine⟨?_,?_,hf⟩
 ·rw[List.length_append];omega
 ·exact Nat.le_trans hb (Nat.mul_le_mul_left _ hn)
theorem dict_small {size:Nat}(h1:1≤size)(h2:size≤64){l:List (List UInt8)}(hl:∀ s,s∈l→s.length≤25):(dictB size l).length≤10+37*l.length:=by
 have ha:=(YG h1 h2 hl).1
 have hb:=ZM (size:=size) l.length l hl
 unfold dictB
 rw[List.length_append]
 unfold ym at ha ⊢
 omega
theorem Vr {size:Nat}(h1:1≤size)(h2:size≤64){l:List (List UInt8)}(hl:∀ s,s∈l→s.length≤25)(i:Nat):(yp ((l.drop i).take size)).length≤2000:=by
 have:=ud (c:=(l.drop i).take size) (fun s hs=>hl s (List.mem_of_mem_drop (List.mem_of_mem_take hs)))
 have h3:((l.drop i).take size).length≤64:=by rw[List.length_take];omega
 omega
end Dic
end
section
open Go.RowKit
theorem xX {ops:Array Oper}{rest:List Oper}{o:Oper}{a:Act}{Q:Exit→Act→World→Prop}{w:World}(hgd:o.guard=none)(x y:Operand)(ho:o.op=.makeSlice 29 x y){n:Nat}(hx:a.eval x=.int .i64 (n:Int))(hy:a.eval y=.int .i64 (n:Int))(hn:n≤1000)
  (h:∀ w',OwnB w' w.heap.size (.slice (some ⟨w.heap.size,0,none⟩) n n) (List.replicate n 0)→Ext w w'→wpList Tryz.prog ops Q rest (a.put o.dst (.slice (some ⟨w.heap.size,0,none⟩) n n)) w'):wpList Tryz.prog ops Q (o::rest) a w:=by
 obtain⟨i,hi,hz,hsz,hby⟩:=info_parts yY
 refine wpList_make_full w hgd x y 29 ho w.heap.size 5 i _ 1 Tryz.underlying29 hi hz hsz .i64 .i64 _ _ n hx hy rfl rfl (by rw[hby];omega) (by unfold maxLen;omega) (Nat.le_refl _) ?_
 intro w' h1 h2
 refine h w' ?_ (Below.grown (Ext.refl w) h2 (Nat.le_refl _) fun k hk=>by cases hk)
 unfold OwnB
 have e:(madeCells (Value.int .u8 0).cells (n*1)).toList=(List.replicate n (0:UInt8)).map zY:=by
  have:madeCells (Value.int .u8 0).cells n=((List.replicate n (0:UInt8)).map zY).toArray:=by
   apply Array.ext
   ·simp[size_madeCells]
   ·intro i h1 h2
    simp[madeCells,Value.cells,zY,Nat.mod_one]
  rw[Nat.mul_one,this]
 rw[e]at h1
 simpa using h1
end
section
namespace Dic
open Num Wrd
theorem YH {size n k:Nat}(hs:1≤size)(h:k<yN size n):k*size<n:=by
 unfold yN at h
 have h1:(k+1)*size≤n+size-1:=Nat.le_trans (Nat.mul_le_mul_right _ h) (Nat.div_mul_le_self _ _)
 rw[Nat.add_mul,Nat.one_mul]at h1
 omega
theorem qn {size n k:Nat}(hs:1≤size)(h:k*size<n):k<yN size n:=by
 unfold yN
 have:(k+1)≤(n+size-1) / size:=by
  rw[Nat.le_div_iff_mul_le (by omega),Nat.add_mul,Nat.one_mul]
  omega
 omega
end Dic
end
end Go.Proofs.YtpmedpdjglcdpaaGreatDoor
