/- What the laws of chapter 10 ask of the program; the example; LzFinds, LzBack, LzPlays, LzMay. LzLongest, under what the program tells; the document's Size. The program's lz.May, size, put, Play. -/
import Derived.Test.YtaogpmombefmmaaGreatDoorB02
import Derived.Test.YtaogpmombefmmaaGreatDoorB09
import Derived.Test.YtaogpmombefmmaaGreatDoorB20
import Derived.Deep.QuietTactic
import Derived.Lib.SlBytesConst
import Derived.BigQuiet
namespace Go.Proofs.YtaogpmombefmmaaGreatDoor
section
open Go.RowKit Lz
theorem Lz.tok_ok (b:List UInt8)(p:Nat):(tokAt b p).ok:=by
 have h:=best_le b p (min 4095 p)
 unfold tokAt TokV.ok
 split
 ·unfold bestAt at *
  dsimp only
  omega
 ·dsimp only
  omega
theorem Lz.toks_ok (b:List UInt8)(p:Nat):∀ t,t∈toks b p→t.ok:=by
 intro t ht
 by_cases h:p < b.length
 ·rw [toks_next h] at ht
  rcases List.mem_cons.1 ht with rfl | ht
  ·exact tok_ok b p
  ·exact toks_ok b (p+stepAt b p) t ht
 ·rw [toks_end h] at ht
  cases ht
termination_by b.length-p
decreasing_by have:=step_pos b p;omega
theorem OwnTk.at {w:World}{base:Nat}{v:Value}{L:List TokV}(h:OwnTk w base v L)(hok:∀ t,t∈L→t.ok):∃ A c,v=.slice A L.length c∧L.length≤c∧c≤maxLen∧ToksAt w w.heap.size A L.length L:=by
 have hl:=h.lt
 obtain ⟨A,c,rfl,hA⟩:=h.form
 have hc:L.length≤c∧c≤maxLen:=by
  rcases h.2 with ⟨e,h0⟩ | ⟨g,cap,cur,e,hb,hgg,hn,hc,_⟩
  ·simp only [Value.slice.injEq] at e
   unfold maxLen
   omega
  ·simp only [Value.slice.injEq] at e
   obtain ⟨_,_,rfl⟩:=e
   exact ⟨hn,hc⟩
 refine ⟨A,c,rfl,hc.1,hc.2,rfl,?_⟩
 rcases hA with h0 | ⟨g,rfl,hi⟩
 ·exact .inl h0
 ·refine .inr ⟨g,0,rfl,(hl g rfl).2,fun i hi2=>⟨hi i hi2,hok _ ?_⟩⟩
  rw [List.getD_eq_getElem?_getD,List.getElem?_eq_getElem hi2]
  exact List.getElem_mem hi2
end
section
open Go.RowKit Lz
set_option maxHeartbeats 2000000 in
set_option maxRecDepth 100000 in
theorem lzMay_any (t:TokV)(w:World):Calls Tryz.prog 84 #[tokV t] w fun e w'=>e=.returned (.bool (may t))∧Ext w w':=by
 have hE1:=extNew w (.cells #[.int .u8 (t.lit.toNat:Int),.int .i64 t.len,.int .i64 t.dist] 103)
 have hW1:=Whole.new w 103 #[.int .u8 (t.lit.toNat:Int),.int .i64 t.len,.int .i64 t.dist]
 have c0:=hW1.at 0 rfl
 have c1:=hW1.at 1 rfl
 have c2:=hW1.at 2 rfl
 have hl8:=UInt8.toNat_lt t.lit
 have HLit:=hide (show t.lit.toNat=0↔t.lit=0 from ⟨fun h=>UInt8.toNat_inj.1 h,fun h=>by rw [h];rfl⟩)
 unfold tokV
 by_cases h0:t.len=0
 ·have HM:=hide (may_lit h0)
  generalize may t=res at *
  obtain ⟨tl,tn,td⟩:=t
  dsimp only at *
  subst h0
  by_cases hd:td=0
  ·have HR:=hide (show res=true by rw [HM.out];exact decide_eq_true hd)
   subst hd
   clear HM HLit
   go_enter Tryz.func84,Tryz.ntmps84
   go_wp2
   go_ret
   exact ⟨ret_bool HR.out.symm,hE1⟩
  ·have HR:=hide (show res=false by rw [HM.out];exact decide_eq_false hd)
   have hdb:(td == 0)=false:=by rw [beq_eq_false_iff_ne];exact hd
   clear HM HLit
   go_enter Tryz.func84,Tryz.ntmps84
   go_wp2
   go_ret
   exact ⟨ret_bool HR.out.symm,hE1⟩
 ·have HM:=hide (may_match h0)
  generalize may t=res at *
  obtain ⟨tl,tn,td⟩:=t
  dsimp only at *
  have h0b:(tn == 0)=false:=by rw [beq_eq_false_iff_ne];exact h0
  have HNo:=hide (show ¬ (tl=0∧3≤tn∧tn≤257∧1≤td∧td≤4095)→res=false from fun h=>by rw [HM.out];exact decide_eq_false h)
  have HYes:=hide (show (tl=0∧3≤tn∧tn≤257∧1≤td∧td≤4095)→res=true from fun h=>by rw [HM.out];exact decide_eq_true h)
  obtain ⟨y,hy⟩:∃ y,y=tl.toNat:=⟨_,rfl⟩
  rw [← hy] at c0 c1 c2 hE1 hl8 HLit ⊢
  clear HM hy hW1
  by_cases g1:y=0
  ·have hl0:=HLit.out.1 g1
   subst g1
   by_cases g2:3≤tn
   ·by_cases g3:tn≤257
    ·by_cases g4:1≤td
     ·by_cases g5:td≤4095
      ·have HR:=hide (HYes.out ⟨hl0,g2,g3,g4,g5⟩)
       clear HYes HNo HLit hl0
       go_enter Tryz.func84,Tryz.ntmps84
       go_wp2
       go_ret
       exact ⟨ret_bool HR.out.symm,hE1⟩
      ·have HR:=hide (HNo.out fun h=>g5 h.2.2.2.2)
       clear HYes HNo HLit hl0
       go_enter Tryz.func84,Tryz.ntmps84
       go_wp2
       go_ret
       exact ⟨ret_bool HR.out.symm,hE1⟩
     ·have HR:=hide (HNo.out fun h=>g4 h.2.2.2.1)
      clear HYes HNo HLit hl0
      go_enter Tryz.func84,Tryz.ntmps84
      go_wp2
      go_ret
      exact ⟨ret_bool HR.out.symm,hE1⟩
    ·have HR:=hide (HNo.out fun h=>g3 h.2.2.1)
     clear HYes HNo HLit hl0
     go_enter Tryz.func84,Tryz.ntmps84
     go_wp2
     go_ret
     exact ⟨ret_bool HR.out.symm,hE1⟩
   ·have HR:=hide (HNo.out fun h=>g2 h.2.1)
    clear HYes HNo HLit hl0
    go_enter Tryz.func84,Tryz.ntmps84
    go_wp2
    go_ret
    exact ⟨ret_bool HR.out.symm,hE1⟩
  ·have HR:=hide (HNo.out fun h=>g1 (HLit.out.2 h.1))
   have hyb:((y:Int) == 0)=false:=by rw [beq_eq_false_iff_ne];omega
   clear HYes HNo HLit
   go_enter Tryz.func84,Tryz.ntmps84
   go_wp2
   go_ret
   exact ⟨ret_bool HR.out.symm,hE1⟩
theorem Lz.may_len {t:TokV}(h:may t=true):(t.len=0∧t.dist=0)∨(3≤t.len∧t.len≤257∧1≤t.dist∧t.dist≤4095):=by
 by_cases h0:t.len=0
 ·rw [may_lit h0] at h
  exact .inl ⟨h0,of_decide_eq_true h⟩
 ·rw [may_match h0] at h
  have:=of_decide_eq_true h
  exact .inr this.2
set_option maxHeartbeats 2000000 in
set_option maxRecDepth 100000 in
theorem lzSize_any (t:TokV)(w:World)(hm:may t=true):Calls Tryz.prog 75 #[tokV t] w fun e w'=>e=.returned (.int .i64 (sizeT t:Int))∧Ext w w':=by
 have hE1:=extNew w (.cells #[.int .u8 (t.lit.toNat:Int),.int .i64 t.len,.int .i64 t.dist] 103)
 have hW1:=Whole.new w 103 #[.int .u8 (t.lit.toNat:Int),.int .i64 t.len,.int .i64 t.dist]
 have c1:=hW1.at 1 rfl
 have HL:=hide (may_len hm)
 unfold tokV
 have HS:=hide (show (sizeT t:Int)=max t.len 1 by
  unfold sizeT
  rcases HL.out with h | h
  ·rw [if_pos h.1,h.1];rfl
  ·rw [if_neg (by omega)];omega)
 generalize sizeT t=res at *
 obtain ⟨tl,tn,td⟩:=t
 dsimp only at *
 generalize (tl.toNat:Int)=y at *
 clear hW1 hm
 rcases HL.out with h | h
 ·obtain ⟨rfl,rfl⟩:=h
  have HR:=hide (show (res:Int)=1 by rw [HS.out];rfl)
  clear HL HS
  go_enter Tryz.func75,Tryz.ntmps75
  go_wp2
  go_ret
  exact ⟨ret_i64 HR.out.symm,hE1⟩
 ·have HR:=hide (show (res:Int)=tn by rw [HS.out];omega)
  have h1:1≤tn:=by omega
  clear HL HS h
  go_enter Tryz.func75,Tryz.ntmps75
  go_wp2
  ·go_ret
   exact ⟨ret_i64 HR.out.symm,hE1⟩
  all_goals omega
end
end Go.Proofs.YtaogpmombefmmaaGreatDoor
