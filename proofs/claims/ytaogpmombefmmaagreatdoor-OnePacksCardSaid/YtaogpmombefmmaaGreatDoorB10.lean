/- The contract of the library's slices.Clone at bytes. The contract of the library's slices.Clone at bytes (named uint8). -/
import Derived.Test.YtaogpmombefmmaaGreatDoorB02
import Derived.Deep.QuietTactic
import Derived.BigQuiet
import Derived.Lib.SliceRun
namespace Go.Proofs.YtaogpmombefmmaaGreatDoor
section
open Go.RowKit
set_option maxHeartbeats 1000000 in
theorem slicesClone_any (A:Option Addr)(n c:Nat)(l:List UInt8)(w:World)(hc:n≤c)(hn:n≤140737488355328)(hb:Bytes w w.heap.size A n l) :
  Calls Tryz.prog 89 #[.slice A n c] w (MadeB w l):=by
 have hnil:=fun (W:World) (a:Option Addr) (n c n' c':Nat)=>Lib.run_eql_slice_nil (P:=Tryz.prog) W 29 5 a n c n' c' Tryz.underlying29
 rcases A with _ | ad
 ·have hl:l=[]:=by
   rcases hb.2 with h0 | ⟨_,_,h,_⟩
   ·exact List.eq_nil_of_length_eq_zero (by rw [hb.1,h0])
   ·cases h
  subst hl
  have hn0:n=0:=hb.1.symm
  subst hn0
  go_enter Tryz.func89,Tryz.ntmps89
  go_wp2
  go_ret
  exact ⟨_,rfl,OwnB.nil _ _,Ext.refl _⟩
 ·have ho:=OwnB.empty w (Nat.le_refl _)
  have hb':=(extNew w (.cells #[] 5)).bytes hb
  have hB:w.heap.size≤(w.alloc (.cells #[] 5)).heap.size:=by simp
  have hl0:([]:List UInt8).length+n≤140737488355328:=by simpa using hn
  have hE:=extNew w (.cells #[] 5)
  go_enter Tryz.func89,Tryz.ntmps89
  go_wp2_with (at_builtin;refine wpList_app rfl (.tmp 5) (.tmp 6) rfl rfl ho rfl hb' hl0 hB ?_;intro v1 w1 hown1 hg1)
  go_ret
  exact ⟨v1,rfl,hown1,ho.below hE hg1 hB⟩
end
section
open Go.RowKit
set_option maxHeartbeats 1000000 in
theorem sliceClone8_any (A:Option Addr)(n c:Nat)(l:List UInt8)(w:World)(hc:n≤c)(hn:n≤140737488355328)(hb:Bytes w w.heap.size A n l) :
  Calls Tryz.prog 89 #[.slice A n c] w (MadeB w l):=by
 have hnil:=fun (W:World) (a:Option Addr) (n c n' c':Nat)=>Lib.run_eql_slice_nil (P:=Tryz.prog) W 29 5 a n c n' c' Tryz.underlying29
 rcases A with _ | ad
 ·have hl:l=[]:=by
   rcases hb.2 with h0 | ⟨_,_,h,_⟩
   ·exact List.eq_nil_of_length_eq_zero (by rw [hb.1,h0])
   ·cases h
  subst hl
  have hn0:n=0:=hb.1.symm
  subst hn0
  go_enter Tryz.func89,Tryz.ntmps89
  go_wp2
  go_ret
  exact ⟨_,rfl,OwnB.nil _ _,Ext.refl _⟩
 ·have ho:=OwnB.empty w (Nat.le_refl _)
  have hb':=(extNew w (.cells #[] 5)).bytes hb
  have hB:w.heap.size≤(w.alloc (.cells #[] 5)).heap.size:=by simp
  have hl0:([]:List UInt8).length+n≤140737488355328:=by simpa using hn
  have hE:=extNew w (.cells #[] 5)
  go_enter Tryz.func89,Tryz.ntmps89
  go_wp2_with (at_builtin;refine wpList_app rfl (.tmp 5) (.tmp 6) rfl rfl ho rfl hb' hl0 hB ?_;intro v1 w1 hown1 hg1)
  go_ret
  exact ⟨v1,rfl,hown1,ho.below hE hg1 hB⟩
end
end Go.Proofs.YtaogpmombefmmaaGreatDoor
