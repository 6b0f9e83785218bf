/- The document's Join of chapter 11. The program's pieces: the library's Len, halve, isMatch, lenBits, Split. -/
import Derived.Test.YtpmedpdjglcdpaaGreatDoorB11
import Derived.Test.YtpmedpdjglcdpaaGreatDoorB19
import Derived.Test.YtpmedpdjglcdpaaGreatDoorB21
namespace Go.Proofs.YtpmedpdjglcdpaaGreatDoor
section
open Go.RowKit Lz Tok
theorem Tok.bitLen_small {x:Nat}(h0:x≠0)(h1:x<256):Lib.bitLen x=x.log2+1:=JB ⟨x,h1⟩ h0
theorem Tok.bitLen_big {x:Nat}(h0:256≤x)(h1:x<65536):8+Lib.bitLen (x / 256)=x.log2+1:=by
 rw[bitLen_small (by omega) (by omega)]
 have h:=YV (v:=x / 256) (by omega)
 have e:x.log2=(x / 256).log2+8:=acz (by rw[Nat.pow_add];omega) (by rw[show (x / 256).log2+8+1=(x / 256).log2+1+8 by omega,Nat.pow_add];omega)
 omega
set_option maxHeartbeats 1000000 in
set_option maxRecDepth 20000 in
theorem abH (x:Int)(w:World)(h0:0≤x)(h1:x≤255):Calls Tryz.prog 186 #[.int .u64 x] w fun e w'=>e=.returned (.int .i64 (Lib.bitLen x.toNat))∧w=w':=by
 rw[← Lib.len8_int x h0 h1]
 go_enter Tryz.func186,Tryz.ntmps186
 go_wp2
 go_ret
 exact⟨congrArg (fun v=>Ending.returned (.int .i64 v)) (by simp only[wrap64];generalize Lib.len8 x=y;omega),rfl⟩
set_option maxHeartbeats 1000000 in
set_option maxRecDepth 20000 in
theorem abI (x:Int)(w:World)(h0:256≤x)(h1:x≤4095):Calls Tryz.prog 186 #[.int .u64 x] w fun e w'=>e=.returned (.int .i64 (8+Lib.bitLen (x / 256).toNat))∧w=w':=by
 obtain⟨z,hz⟩:∃ z:Int,8+(Lib.bitLen (x / 256).toNat:Int)=z:=⟨_,rfl⟩
 rw[hz]
 have HZ:=hide hz
 have hd0:0≤x / 256:=by omega
 have hd1:x / 256≤255:=by omega
 clear hz
 go_enter Tryz.func186,Tryz.ntmps186
 go_wp2
 go_ret
 refine⟨congrArg (fun v=>Ending.returned (.int .i64 v)) ?_,rfl⟩
 have h1:=Lib.len8_int (x / 256) hd0 hd1
 have h2:=Lib.bitLen_le8' (x / 256) hd0 hd1
 rw[← HZ.out]
 simp only[wrap64]
 generalize Lib.len8 (x / 256)=y at *
 omega
theorem JY (x:Nat)(w:World)(h0:x≠0)(h1:x≤4095):Calls Tryz.prog 167 #[.int .u64 (x:Int)] w fun e w'=>e=.returned (.int .i64 ((x.log2+1:Nat):Int))∧w=w':=by
 have C:Calls Tryz.prog 186 #[.int .u64 (x:Int)] w fun e w'=>e=.returned (.int .i64 ((x.log2+1:Nat):Int))∧w=w':=by
  by_cases h:x<256
  ·have C:=abH (x:Int) w (by omega) (by omega)
   rw[Int.toNat_natCast,bitLen_small h0 h]at C
   exact C
  ·have C:=abI (x:Int) w (by omega) (by omega)
   have e:((x:Int) / 256).toNat=x / 256:=by omega
   rw[e]at C
   have e2:(8:Int)+(Lib.bitLen (x / 256):Int)=((x.log2+1:Nat):Int):=by rw[← bitLen_big (by omega) (by omega)];omega
   rw[e2]at C
   exact C
 generalize x.log2+1=k at *
 clear h0 h1
 go_enter Tryz.func167,Tryz.ntmps167
 go_wp2_with fail
 refine C.mono ?_
 rintro e w2 ⟨rfl,rfl⟩
 go_wp2
 go_ret
 exact⟨rfl,rfl⟩
set_option maxHeartbeats 1000000 in
theorem VR (x:Nat)(w:World)(h0:x≠0)(h1:x≤4095):Calls Tryz.prog 155 #[.int .i64 (x:Int)] w fun e w'=>e=.returned (.tuple #[.int .i64 ((Nat.log2 x:Nat):Int),.int .i64 ((x-2 ^ Nat.log2 x:Nat):Int)])∧Ext w w':=by
 have C:=fun w=>JY x w h0 h1
 have hl:x.log2<12:=jU h0 (by omega)
 have hp:=YV h0
 have HS:=hide (show ((x-2 ^ x.log2:Nat):Int)=(x:Int)-2 ^ x.log2 by
  rw[Int.ofNat_sub hp.1]
  simp)
 have hp2:=jo (k:=x.log2) (m:=11) (by omega)
 have hpI:(2:Int) ^ x.log2≤2048:=by
  have:((2 ^ x.log2:Nat):Int)≤2048:=by omega
  simpa using this
 have hpI0:(0:Int)<(2:Int) ^ x.log2:=by
  have:=Nat.two_pow_pos x.log2
  have:(0:Int)<((2 ^ x.log2:Nat):Int):=by omega
  simpa using this
 clear hp hp2
 generalize x-2 ^ x.log2=r at *
 generalize x.log2=k at *
 go_enter Tryz.func155,Tryz.ntmps155
 go_wp2_with fail
 refine (C _).mono ?_
 rintro e w2 ⟨rfl,rfl⟩
 go_wp2_with fail
 go_region
 go_wp2
 go_ret2
 exact⟨congrArg (fun v=>Ending.returned (.tuple #[.int .i64 (k:Int),.int .i64 v])) HS.out.symm,(Ext.refl _).drew⟩
end
end Go.Proofs.YtpmedpdjglcdpaaGreatDoor
