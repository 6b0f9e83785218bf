/- The program's lz.Find. -/
import Derived.Test.YtaogpmombefmmaaGreatDoorB21
import Derived.Test.YtaogpmombefmmaaGreatDoorB36
namespace Go.Proofs.YtaogpmombefmmaaGreatDoor
section
open Go.RowKit Lz
theorem OwnTk.mono {w:World}{base b':Nat}{v:Value}{L:List TokV}(h:OwnTk w base v L)(hb:b'≤base):OwnTk w b' v L:=⟨h.1,h.2.imp_right fun ⟨g,cap,cur,e,hg,r⟩=>⟨g,cap,cur,e,Nat.le_trans hb hg,r⟩⟩
set_option maxHeartbeats 4000000 in
set_option maxRecDepth 100000 in
theorem lzFind_any (A:Option Addr)(n c:Nat)(b:List UInt8)(w:World)(hn:n≤100000)(hnc:n≤c)(h:Bytes w w.heap.size A n b):Calls Tryz.prog 56 #[.slice A n c] w (MadeTk w (toks b 0)):=by
 have hl:=h.1
 subst hl
 have HB:=hide h
 have HEnd:=hide (show ∀ p,¬ p < b.length→toks b p=[] from fun p hp=>toks_end hp)
 have HNext:=hide (show ∀ p,p < b.length→toks b p=tokAt b p :: toks b (p+stepAt b p) from fun p hp=>toks_next hp)
 have HIn:=hide (show ∀ p,p < b.length→p+stepAt b p≤b.length from fun p hp=>step_in hp)
 have HPos:=hide (step_pos b)
 have HSz:=hide (show ∀ p,p < b.length→sizeT (tokAt b p)=stepAt b p from fun p hp=>(play_tok hp).2.1)
 have CT:=lzTrail_any A b.length c b w hn hnc h
 have CL:=hide (fun q W g c2 (hq:q < b.length) hB hg hT=>lzLongest_any A b.length c b g c2 q W hn hnc hq hB hg hT)
 have CS:=hide (fun q W=>lzSize_any (tokAt b q) W (tok_may b q))
 unfold TrailTo at CT
 unfold tokV at CL CS
 clear h
 go_enter Tryz.func56,Tryz.ntmps56
 go_wp2_with fail
 refine CT.mono ?_
 rintro e w1 ⟨g,c2,rfl,hg0,hg1,hT1,hE1⟩
 have HT:=hide (fun W (hE:Ext w1 W)=>hT1.ext hE hg1)
 have HE1:=hide hE1
 clear CT hT1 hE1
 go_wp2_with fail
 go_loopw [3,5] (fun o a wr=>∃ (p:Nat) (L:List TokV),p≤b.length∧L.length≤p∧a=.int .i64 (p:Int)∧OwnTk wr w1.heap.size o L∧L++toks b p=toks b 0∧Ext w1 wr) (fun _ a _=>b.length-(intOf a).toNat)
 case atStart=>exact ⟨0,[],by omega,by simp,rfl,OwnTk.nil _ _,rfl,Ext.refl _⟩
 case round =>
  obtain ⟨p,L,hp,hLp,rfl,hO,hL,hE⟩:=hrel
  by_cases hlt:p < b.length
  ·have hpI:(p:Int) < (b.length:Int):=by omega
   have HL:=hide hL
   have hnx:=hide (HNext.out p hlt)
   have hst:=HPos.out p
   have hin:=HIn.out p hlt
   have hsz:=hide (HSz.out p hlt)
   have hbm:=hide ((HE1.out.trans hE).bytes HB.out)
   have C1:=CL.out p wr g c2 hlt ((HE1.out.trans hE).bytes HB.out) (Nat.lt_of_lt_of_le hg1 hE.le) (HT.out wr hE)
   have C2:=hide (CS.out p)
   have HO:=hide hO
   clear hL hO
   generalize stepAt b p=st at *
   generalize tokAt b p=t at *
   obtain ⟨tl,tn,td⟩:=t
   dsimp only at C1
   go_wp2_with fail
   refine C1.mono ?_
   rintro e w2 ⟨rfl,hE2⟩
   have hF2:=hE.trans hE2
   have hO2:=HO.out.ext hE2
   have hW3:=Whole.new w2 103 #[.int .u8 (tl.toNat:Int),.int .i64 tn,.int .i64 td]
   have hE3:=extNew w2 (.cells #[.int .u8 (tl.toNat:Int),.int .i64 tn,.int .i64 td] 103)
   have hF3:=hF2.trans hE3
   have hO3:=hO2.ext hE3
   have hlt2:=hO2.lt
   have k0:=hW3.at 0 rfl
   have k1:=hW3.at 1 rfl
   have k2:=hW3.at 2 rfl
   clear C1 HO hE hE2 hF2 hO2
   generalize hw3:w2.alloc (.cells #[.int .u8 (tl.toNat:Int),.int .i64 tn,.int .i64 td] 103)=w3 at *
   have hEa:=extNew w3 (.cells #[.int .u8 (tl.toNat:Int),.int .i64 tn,.int .i64 td] 103)
   have hOa:=hO3.ext hEa
   have hWa:=hW3.ext hEa
   have hbs:w1.heap.size≤w3.heap.size:=hF3.le
   have hLn:L.length≤1000000:=by omega
   have hFa:=hF3.trans hEa
   have hne:∀ v:Value,(∀ k,v.ownBlock=some k→w1.heap.size≤k∧k < w2.heap.size)→v.ownBlock≠some w2.heap.size:=fun v hv e=>by have:=(hv _ e).2;omega
   subst hw3
   have hw2:=hide (show w2.heap.size+1=(w2.alloc (.cells #[.int .u8 (tl.toNat:Int),.int .i64 tn,.int .i64 td] 103)).heap.size by simp)
   clear hO3 hF3
   obtain ⟨Ao,co,rfl,_⟩:=hOa.form
   go_wp2_with (at_builtin;refine wpList_appTkB rfl (.tmp 17) (.tmp 19) rfl rfl ⟨tl,tn,td⟩ hOa (congrArg (fun k=>Value.slice (some ⟨k,0,none⟩) 1 1) hw2.out) hLn hbs ?_;intro v5 w5 hO5 hG5 _;have hE5:Ext w1 w5:=Below.grown hFa hG5 hFa.le (fun k hk=>(hlt2 k hk).1);have hW5:=hWa.ownGrown hG5 (hne _ hlt2);have d0:=hW5.at 0 rfl;have d1:=hW5.at 1 rfl;have d2:=hW5.at 2 rfl)
   refine (C2.out _).mono ?_
   rintro e w6 ⟨rfl,hE6⟩
   rw [hsz.out]
   have hF6:=hE5.trans hE6
   have hO6:=hO5.ext hE6
   clear hO5 hE5 hW5 hE6 hOa hWa hFa hEa hE3 hW3 hw2 hG5 C2 hne d0 d1 d2 k0 k1 k2
   go_wp2
   go_roundw
   case rel=>exact ⟨p+st,L++[⟨tl,tn,td⟩],hin,by rw [List.length_append];simp;omega,by go_num,hO6,by rw [List.append_assoc,← HL.out,hnx.out];rfl,hF6⟩
   case measure=>simp [intOf];omega
  ·have HLe:=hide (HEnd.out p hlt)
   have HO:=hide hO
   clear hO
   go_wp2
   go_ret
   refine ⟨_,rfl,?_,HE1.out.trans hE⟩
   rw [← hL,HLe.out,List.append_nil]
   exact HO.out.mono HE1.out.le
end
end Go.Proofs.YtaogpmombefmmaaGreatDoor
