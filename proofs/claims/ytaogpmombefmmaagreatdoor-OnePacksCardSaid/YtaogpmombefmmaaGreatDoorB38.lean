/- The program's pieces: whole, tokenOf, Split, Join. The program's pieces: Join. -/
import Derived.Test.YtaogpmombefmmaaGreatDoorB11
import Derived.Test.YtaogpmombefmmaaGreatDoorB22
import Derived.Test.YtaogpmombefmmaaGreatDoorB24
import Derived.OpenShut
namespace Go.Proofs.YtaogpmombefmmaaGreatDoor
section
open Go.RowKit Lz Tok
set_option maxHeartbeats 1000000 in
theorem isMatch_any (p:PcV)(w:World):Calls Tryz.prog 82 #[pcV p] w fun e w'=>e=.returned (.bool (decide (257≤p.sym)))∧Ext w w':=by
 have hE:=extNew w (.cells #[.int .i64 p.sym,.int .i64 p.len,.int .i64 p.dist,.int .i64 p.far] 99)
 have c0:=(Whole.new w 99 #[.int .i64 p.sym,.int .i64 p.len,.int .i64 p.dist,.int .i64 p.far]).at 0 (u:=.int .i64 p.sym) rfl
 unfold pcV
 go_enter Tryz.func82,Tryz.ntmps82
 go_wp2
 go_ret
 exact ⟨rfl,hE⟩
set_option maxHeartbeats 1000000 in
theorem lenBits_any (p:PcV)(w:World)(h0:257≤p.sym)(h1:p.sym≤9223372036854775807):Calls Tryz.prog 88 #[pcV p] w fun e w'=>e=.returned (.int .i64 (p.sym-257))∧Ext w w':=by
 have hE:=extNew w (.cells #[.int .i64 p.sym,.int .i64 p.len,.int .i64 p.dist,.int .i64 p.far] 99)
 have c0:=(Whole.new w 99 #[.int .i64 p.sym,.int .i64 p.len,.int .i64 p.dist,.int .i64 p.far]).at 0 (u:=.int .i64 p.sym) rfl
 unfold pcV
 go_enter Tryz.func88,Tryz.ntmps88
 go_wp2
 go_ret
 exact ⟨rfl,hE⟩
set_option maxHeartbeats 2000000 in
set_option maxRecDepth 100000 in
theorem tsplit_any (t:TokV)(w:World):Calls Tryz.prog 69 #[tokV t] w (SplitTo w (splitE t)):=by
 have hE1:=(extNew w (.cells #[.int .u8 (t.lit.toNat:Int),.int .i64 t.len,.int .i64 t.dist] 103)).alloc (.cells #[.int .i64 0,.int .i64 0,.int .i64 0,.int .i64 0] 99)
 have hW1:=(Whole.new w 103 #[.int .u8 (t.lit.toNat:Int),.int .i64 t.len,.int .i64 t.dist]).alloc (.cells #[.int .i64 0,.int .i64 0,.int .i64 0,.int .i64 0] 99)
 have hP1:=Whole.new (w.alloc (.cells #[.int .u8 (t.lit.toNat:Int),.int .i64 t.len,.int .i64 t.dist] 103)) 99 #[.int .i64 0,.int .i64 0,.int .i64 0,.int .i64 0]
 rw [World.size_alloc] at hP1
 have CM:=fun W=>lzMay_any t W
 unfold tokV at CM ⊢
 cases hm:may t with
 | false =>
  rw [hm] at CM
  have HN:=hide (split_bad hm)
  generalize splitE t=res at *
  clear hm
  generalize t.lit.toNat=y at *
  generalize t.len=tn at *
  generalize t.dist=td at *
  go_enter Tryz.func69,Tryz.ntmps69
  go_wp2_with (refine wpList_load_row rfl 103 (.tmp 1) rfl _ rfl _ _ _ _ hW1 Tryz.underlying103 rfl tk_info ?_)
  refine (CM _).mono ?_
  rintro e w2 ⟨rfl,hE2⟩
  have hP2:=hP1.ext hE2
  clear CM
  go_wp2_with (refine wpList_storeW rfl 99 (.tmp 2) (.tmp 12) rfl rfl rfl hP2 rfl pc_info (pc_one ..) ?_;intro w5 hW5 hG5 _)
  refine bodyPost_ret (results_row2 rfl _ rfl rfl (run_loadVar_row _ _ _ _ _ _ _ hW5 Tryz.underlying99 rfl pc_info)) rfl ?_
  have hE:=hE1.trans hE2
  rw [HN.out]
  exact ⟨rfl,Below.grown hE hG5 hE.le (fun k hk=>by cases hk;omega)⟩
 | true =>
  rw [hm] at CM
  have hwp:=hP1.lt
  by_cases h0:t.len=0
  ·have HN:=hide (split_lit hm h0)
   generalize splitE t=res at *
   rw [h0] at CM hE1 hW1 hP1 ⊢
   clear hm h0
   have h8:=UInt8.toNat_lt t.lit
   generalize t.lit.toNat=y at *
   generalize t.dist=td at *
   go_enter Tryz.func69,Tryz.ntmps69
   go_wp2_with (refine wpList_load_row rfl 103 (.tmp 1) rfl _ rfl _ _ _ _ hW1 Tryz.underlying103 rfl tk_info ?_)
   refine (CM _).mono ?_
   rintro e w2 ⟨rfl,hE2⟩
   have hP2:=hP1.ext hE2
   have hW2:=hW1.ext hE2
   have c0:=hW2.at 0 (u:=.int .u8 (y:Int)) rfl
   have c1:=hW2.at 1 (u:=.int .i64 0) rfl
   clear CM
   go_wp2_with (refine wpList_storeW rfl 99 (.tmp 2) (.tmp 20) rfl rfl rfl hP2 rfl pc_info (pc_one ..) ?_;intro w5 hW5 hG5 _)
   refine bodyPost_ret (results_row2 rfl _ rfl rfl (run_loadVar_row _ _ _ _ _ _ _ hW5 Tryz.underlying99 rfl pc_info)) rfl ?_
   have hE:=hE1.trans hE2
   rw [HN.out]
   exact ⟨rfl,Below.grown hE hG5 hE.le (fun k hk=>by cases hk;omega)⟩
  ·obtain ⟨_,m1,m2,m3,m4⟩:=may_facts hm h0
   obtain ⟨v,hv⟩:=Int.eq_ofNat_of_zero_le (show 0≤t.len-2 by omega)
   obtain ⟨d,hd⟩:=Int.eq_ofNat_of_zero_le (show 0≤t.dist by omega)
   have hlv:t.len=(v:Int)+2:=by omega
   have HN:=hide (show splitE t=(⟨257+(Nat.log2 v:Nat),(v-2 ^ Nat.log2 v:Nat),(Nat.log2 d:Nat),(d-2 ^ Nat.log2 d:Nat)⟩,0) by
    unfold splitE
    rw [if_neg (by rw [hm];simp),if_neg h0,hv,hd,Int.toNat_natCast,Int.toNat_natCast])
   have C1:=fun W=>halve_any v W (by omega) (by omega)
   have C2:=fun W=>halve_any d W (by omega) (by omega)
   have b1:Nat.log2 v < 8:=log_lt (by omega) (by omega)
   have b2:Nat.log2 d < 12:=log_lt (by omega) (by omega)
   generalize splitE t=res at *
   rw [hlv,hd] at CM hE1 hW1 hP1 ⊢
   have hv8:v≤255:=by omega
   have hd4:d≤4095:=by omega
   clear hm h0 m1 m2 m3 m4 hv hd hlv
   generalize t.lit.toNat=y at *
   generalize v-2 ^ Nat.log2 v=x1 at *
   generalize d-2 ^ Nat.log2 d=x2 at *
   generalize Nat.log2 v=l1 at *
   generalize Nat.log2 d=l2 at *
   have hlb:(((v:Int)+2) == 0)=false:=by rw [beq_eq_false_iff_ne];omega
   go_enter Tryz.func69,Tryz.ntmps69
   go_wp2_with (refine wpList_load_row rfl 103 (.tmp 1) rfl _ rfl _ _ _ _ hW1 Tryz.underlying103 rfl tk_info ?_)
   refine (CM _).mono ?_
   rintro e w2 ⟨rfl,hE2⟩
   have hP2:=hP1.ext hE2
   have hW2:=hW1.ext hE2
   have c1:=hW2.at 1 (u:=.int .i64 ((v:Int)+2)) rfl
   clear CM
   go_wp2_with fail
   have hv2:(v:Int)+2-2=(v:Int):=by omega
   try rw [hv2]
   refine (C1 _).mono ?_
   rintro e w3 ⟨rfl,hE3⟩
   have hP3:=hP2.ext hE3
   have hW3:=hW2.ext hE3
   have c2:=hW3.at 2 (u:=.int .i64 (d:Int)) rfl
   clear C1
   go_wp2_with fail
   refine (C2 _).mono ?_
   rintro e w4 ⟨rfl,hE4⟩
   have hP4:=hP3.ext hE4
   have hE:=((hE1.trans hE2).trans hE3).trans hE4
   clear C2
   go_wp2_with (refine wpList_storeW rfl 99 (.tmp 2) (.tmp 39) rfl rfl rfl hP4 rfl pc_info (pc_one ..) ?_;intro w5 hW5 hG5 _)
   refine bodyPost_ret (results_row2 rfl _ rfl rfl (run_loadVar_row _ _ _ _ _ _ _ hW5 Tryz.underlying99 rfl pc_info)) rfl ?_
   rw [HN.out]
   exact ⟨rfl,Below.grown hE hG5 hE.le (fun k hk=>by cases hk;omega)⟩
end
end Go.Proofs.YtaogpmombefmmaaGreatDoor
