/- The document's Write of chapter 11. The document's Read of chapter 11. -/
import Derived.Test.YtaogpmombefmmaaGreatDoorB15
import Derived.Test.YtaogpmombefmmaaGreatDoorB16
import Derived.Test.YtaogpmombefmmaaGreatDoorB17
import Derived.Test.YtaogpmombefmmaaGreatDoorB23
import Derived.Test.YtaogpmombefmmaaGreatDoorB25
namespace Go.Proofs.YtaogpmombefmmaaGreatDoor
section
open Go.RowKit Lz Tok Len Can Huf
theorem Tok.countsS_lt (L:List TokV)(q:Nat):(countsS L).getD q 0≤L.length+1:=by
 rw [← cntS_end,List.getD_eq_getElem?_getD,List.getElem?_set]
 have h1:=cntS_le L 256
 have h2:=cntS_le L q
 rw [List.getD_eq_getElem?_getD] at h2
 split
 ·split
  ·show (cntS L).getD 256 0+1≤_
   omega
  ·exact Nat.zero_le _
 ·omega
theorem OwnB.away {w w':World}{base hi g:Nat}{ob:Option Nat}{v:Value}{l:List UInt8}(h:OwnB w base v l)(hhi:∀ k,v.ownBlock=some k→k < hi)(hM:Mod w w' g ob)(hg:g < base)(ho:∀ k,ob=some k→hi≤k):OwnB w' base v l:=by
 refine hM.own h (fun e=>by have:=(h.lt g e).1;omega) ?_
 cases hv:v.ownBlock with
 | none=>exact .inl rfl
 | some k =>
  refine .inr fun e=>?_
  have:=hhi k hv
  have:=ho k e.symm
  omega
theorem OwnB.at {w:World}{base n c:Nat}{A:Option Addr}{l:List UInt8}(h:OwnB w base (.slice A n c) l)(hn:n=l.length):Bytes w w.heap.size A n l:=by
 subst hn
 obtain ⟨A7,c7,e7,_,_,h7⟩:=h.form
 simp only [Value.slice.injEq] at e7
 obtain ⟨rfl,_,rfl⟩:=e7
 exact h7
theorem OwnB.atIn {w:World}{base hi n c:Nat}{A:Option Addr}{l:List UInt8}(h:OwnB w base (.slice A n c) l)(hn:n=l.length)(hhi:∀ k,Value.ownBlock (.slice A n c)=some k→k < hi):Bytes w hi A n l:=by
 obtain ⟨h1,h2⟩:=h.at hn
 refine ⟨h1,h2.imp id ?_⟩
 rintro ⟨b,off,rfl,_,hc⟩
 exact ⟨b,off,rfl,hhi b rfl,hc⟩
theorem Tok.bodyB_next (x y:List UInt8){L:List TokV}{i:Nat}(hi:i < L.length):bodyB x y (L.take (i+1))=bodyB x y (L.take i)++tokB x y (L.getD i default):=by
 rw [take_next hi]
 unfold bodyB
 rw [List.flatMap_append]
 simp
theorem Tok.tokB_lit {x y:List UInt8}{t:TokV}(h:fine x (splitE t).1.sym=true)(h0:t.len=0):tokB x y t=putX x (splitE t).1.sym:=by
 unfold tokB putX
 rw [if_pos h0,if_pos h,List.append_nil]
theorem Tok.tokB_match {x y:List UInt8}{t:TokV}{k v c z:Nat}(e:splitE t=(⟨257+(k:Int),v,c,z⟩,0))(h:fine x (257+(k:Int))=true)(h2:fine y (c:Int)=true)(h0:t.len≠0):tokB x y t=putX x (257+(k:Int))++Bit.num v k++putX y (c:Int)++Bit.num z c:=by
 unfold tokB putX matchB
 rw [if_neg h0,e]
 dsimp only
 rw [if_pos h,if_pos h2,show (257+(k:Int)-257).toNat=k by omega,Int.toNat_natCast,Int.toNat_natCast,Int.toNat_natCast]
 simp only [List.append_assoc]
theorem Tok.putX_le {l:List UInt8}(s:Int)(hr:right l=true):(putX l s).length≤15:=by
 unfold putX
 split
 ·rename_i h
  exact putB_le hr h
 ·simp
theorem Tok.put_num {x k:Nat}(hk:k≤64)(h:x < 2 ^ k):Bit.putBits x (k:Int)=Bit.num x k:=by
 have:=(Bit.put_good (x:=x) (n:=(k:Int)) (decide_eq_true ⟨by omega,by omega,by rw [Int.toNat_natCast];exact h⟩)).2
 rwa [Int.toNat_natCast] at this
set_option maxHeartbeats 1000000 in
set_option maxRecDepth 100000 in
theorem refWrite11_any (A:Option Addr)(n c:Nat)(L:List TokV)(w:World)(hn:n≤100000)(hT:ToksAt w w.heap.size A n L)(hLn:RefLensC w):Calls Tryz.prog 52 #[.slice A n c] w (PackTo w (writeE L)):=by
 have C1:=refCount_any A n c L w hn hT
 have hl:=hT.1
 subst hl
 by_cases h32:32768 < L.length
 ·have HN:=hide (show writeE L=([],6) from if_pos h32)
  generalize writeE L=res at *
  have hI:(32768:Int) < (L.length:Int):=by omega
  clear h32 hT C1 hLn
  go_enter Tryz.func52,Tryz.ntmps52
  go_wp2
  go_ret2
  rw [HN.out]
  exact ⟨_,[],rfl,OwnB.nil _ _,fun h=>absurd h (by simp),fun _=>rfl,Ext.refl _⟩
 have hI:¬ (32768:Int) < (L.length:Int):=by omega
 cases hall:L.all may with
 | false =>
  have HN:=hide (show writeE L=([],7) by unfold writeE;rw [if_neg h32,hall];rfl)
  have HA:=hide hall
  generalize writeE L=res at *
  clear h32 hT hLn hall
  go_enter Tryz.func52,Tryz.ntmps52
  go_wp2_with fail
  refine C1.mono ?_
  rintro e w1 ⟨hE1,hC⟩
  rw [HA.out,if_neg (by simp)] at hC
  subst hC
  clear C1
  go_wp2
  go_ret2
  rw [HN.out]
  exact ⟨_,[],rfl,OwnB.nil _ _,fun h=>absurd h (by simp),fun _=>rfl,hE1⟩
 | true =>
  have HN:=hide (show writeE L=(writeB L,0) by unfold writeE;rw [if_neg h32,if_pos hall])
  have HA:=hide hall
  generalize writeE L=res at *
  have HT:=hide hT
  have HLn:=hide hLn
  clear h32 hT hLn hall
  go_enter Tryz.func52,Tryz.ntmps52
  go_wp2_with fail
  refine C1.mono ?_
  rintro e w1 ⟨hE1,hC⟩
  rw [if_pos HA.out] at hC
  obtain ⟨g1,g2,hne,rfl,hO1,hO2⟩:=hC
  have hEw:=extNew w1 (.cells #[.slice none 0 0] 89)
  have hR0:=RefW.new w1
  have hEa:=hE1.trans hEw
  have hO1a:=hO1.ext hEw
  have HO2a:=hide (hO2.ext hEw)
  have hsz:(w1.alloc (.cells #[.slice none 0 0] 89)).heap.size=w1.heap.size+1:=by simp
  have hg:=hE1.le
  have hU1:=hO1a.at (by rw [countsS_len]) (fun q=>by have:=countsS_lt L q;omega)
  have C2:=HLn.out (countsS L) 15 (some ⟨g1,0,none⟩) 265 265 _ hEa (Nat.le_refl _) hU1 (by omega) (by omega)
  rw [lens_found (by rw [countsS_len];omega)] at C2
  change Calls _ _ _ _ (TellsB _ (bestS L,0)) at C2
  clear C1 hO1 hO2 hO1a hE1 hU1
  go_wp2_with fail
  generalize hgg:w1.heap.size=g at *
  generalize w1.alloc (.cells #[.slice none 0 0] 89)=wa at *
  refine C2.mono ?_
  rintro e w2 ⟨v1,rfl,hV1,hE2⟩
  rw [hsz] at hV1
  clear C2 hEw
  have hle2:=hE2.le
  have hEb:=hEa.trans hE2
  have hO2b:=HO2a.out.ext hE2
  have hR2:=hR0.ext hE2
  have hU2:=hO2b.at (by rw [countsF_len]) (fun q=>by have:=cntF_le L q;omega)
  have C3:=HLn.out (countsF L) 15 (some ⟨g2,0,none⟩) 12 12 _ hEb (Nat.le_refl _) hU2 (by omega) (by omega)
  rw [lens_found (by rw [countsF_len];omega)] at C3
  change Calls _ _ _ _ (TellsB _ (bestF L,0)) at C3
  clear hO2b hU2 HO2a HLn hR0
  dsimp only at hV1 ⊢
  go_wp2_with fail
  refine C3.mono ?_
  rintro e w3 ⟨v2,rfl,hV2,hE3⟩
  dsimp only at hV2 ⊢
  have hle3:=hE3.le
  have hEc:=hEb.trans hE3
  have hR3:=hR2.ext hE3
  have hV1hi:=fun k (hk:v1.ownBlock=some k)=>(hV1.lt k hk).2
  have hV2hi:=fun k (hk:v2.ownBlock=some k)=>(hV2.lt k hk).2
  have hV1c:=hV1.ext hE3
  obtain ⟨Ab1,cb1,rfl,_,_,_⟩:=hV1c.form
  obtain ⟨Ab2,cb2,rfl,_,_,_⟩:=hV2.form
  rw [bestS_len] at hV1c hV1hi ⊢
  rw [bestF_len] at hV2 hV2hi ⊢
  have hgw2:g < w2.heap.size:=by omega
  have hw23:w2.heap.size≤w3.heap.size:=hle3
  have C4:=refWriteK_any hR3 (by simp) Ab1 265 cb1 (bestS L) (fun W hM=>(hV1c.away hV1hi hM (by omega) (fun k hk=>by cases hk)).atIn (by rw [bestS_len]) (fun k hk=>Nat.lt_of_lt_of_le (hV1hi k hk) hle3))
  rw [if_pos (bestS_right L),check_right (bestS_right L)] at C4
  have HV1:=hide hV1c
  have HV2:=hide hV2
  have HI1:=hide hV1hi
  have HI2:=hide hV2hi
  have hWl1:=wbits_len (bestS L)
  have hWl2:=wbits_len (bestF L)
  rw [bestS_len] at hWl1
  rw [bestF_len] at hWl2
  clear hV1 hV1c hV2 hV1hi hV2hi hR2 hR3 C3
  go_wp2_with fail
  refine C4.mono ?_
  rintro e w4 ⟨rfl,ob4,hR4,hN4,hM4⟩
  have hob4:=hN4.le (Nat.le_refl _) (fun k hk=>by cases hk)
  have hV1d:=HV1.out.away HI1.out hM4 (by omega) (fun k hk=>by cases hk)
  have hV2d:=HV2.out.away HI2.out hM4 hgw2 (fun k hk=>by cases hk)
  have C5:=refWriteK_any hR4 (by simp;omega) Ab2 12 cb2 (bestF L) (fun W hM=>(hV2d.away HI2.out hM hgw2 hob4).atIn (by rw [bestF_len]) (fun k hk=>Nat.lt_of_lt_of_le (HI2.out k hk) hM4.size))
  rw [if_pos (bestF_right L),check_right (bestF_right L)] at C5
  have HV1d:=hide hV1d
  have HV2d:=hide hV2d
  clear hV1d hV2d C4 HV1 HV2 hR4
  go_wp2_with fail
  refine C5.mono ?_
  rintro e w5 ⟨rfl,ob5,hR5,hN5,hM5⟩
  have hM35:=hM4.trans hM5 hN4
  have hN35:=hN4.trans hM4.size hN5
  have hob5:=hN35.le (Nat.le_refl _) (fun k hk=>by cases hk)
  have hob5h:=fun k hk=>(hR5.own k hk).2
  have hV1e:=HV1d.out.away HI1.out hM5 (by omega) (fun k hk=>Nat.le_trans hw23 (hob4 k hk))
  have hV2e:=HV2d.out.away HI2.out hM5 hgw2 hob4
  have h35:=hM35.size
  have C6:=refNew9R_any Ab1 265 cb1 (bestS L) w5 (hV1e.at (by rw [bestS_len]))
  unfold RefNewR at C6
  rw [check_right (bestS_right L)] at C6
  have HV2e:=hide hV2e
  have HR5:=hide hR5
  have HM35:=hide hM35
  have HN35:=hide hN35
  clear hV1e hV2e C5 HV1d HV2d hR5 hM4 hM5 hN4 hN5 hob4 HI1 hM35 hN35
  go_wp2_with fail
  refine C6.mono ?_
  rintro e w6 ⟨vc,rfl,hvc,_,hE6⟩
  have hvc:=hvc (bestS_right L)
  obtain ⟨B1,d1,B2,d2,rfl,hvr⟩:=hvc
  have HCc:=hide (show RefCodR w6 w5.heap.size w6.heap.size (.agg #[.slice B1 (bestS L).length d1,.slice B2 (bestS L).length d2]) (bestS L) from ⟨B1,d1,B2,d2,rfl,hvr⟩)
  clear hvr hvc C6
  rw [bestS_len] at HCc ⊢
  have hE6a:=extNew w6 (.cells #[.slice B1 265 d1,.slice B2 265 d2] 95)
  have HWc:=hide (Whole.new w6 95 #[.slice B1 265 d1,.slice B2 265 d2])
  have hs6:(w6.alloc (.cells #[.slice B1 265 d1,.slice B2 265 d2] 95)).heap.size=w6.heap.size+1:=by simp
  have hV2f:=(HV2e.out.ext hE6).ext hE6a
  have C7:=refNew9R_any Ab2 12 cb2 (bestF L) _ (hV2f.at (by rw [bestF_len]))
  unfold RefNewR at C7
  rw [check_right (bestF_right L)] at C7
  have hle6:=hE6.le
  have hE56:=hE6.trans hE6a
  have HCc2:=hide (HCc.out.ext hE6a)
  clear hV2f HV2e HCc hE6a hE6
  go_wp2_with fail
  generalize w6.heap.size=H6 at *
  generalize w6.alloc (.cells #[.slice B1 265 d1,.slice B2 265 d2] 95)=w6a at *
  refine C7.mono ?_
  rintro e w7 ⟨vd,rfl,hvd,_,hE7⟩
  have hvd:=hvd (bestF_right L)
  rw [hs6] at hvd
  obtain ⟨B3,d3,B4,d4,rfl,hvr⟩:=hvd
  have HCd:=hide (show RefCodR w7 (H6+1) w7.heap.size (.agg #[.slice B3 (bestF L).length d3,.slice B4 (bestF L).length d4]) (bestF L) from ⟨B3,d3,B4,d4,rfl,hvr⟩)
  clear hvr hvd C7
  rw [bestF_len] at HCd ⊢
  have hE7a:=extNew w7 (.cells #[.slice B3 12 d3,.slice B4 12 d4] 95)
  have HWd:=hide (Whole.new w7 95 #[.slice B3 12 d3,.slice B4 12 d4])
  have hs7:(w7.alloc (.cells #[.slice B3 12 d3,.slice B4 12 d4] 95)).heap.size=w7.heap.size+1:=by simp
  have hle7:=hE7.le
  have hE58:=(hE56.trans hE7).trans hE7a
  have HCc3:=hide ((HCc2.out.ext hE7).ext hE7a)
  have HCd3:=hide (HCd.out.ext hE7a)
  have HWc3:=hide ((HWc.out.ext hE7).ext hE7a)
  have hR8:=HR5.out.ext hE58
  have hM38:=HM35.out.trans (Mod.ofExt (ob:=ob5) hE58) HN35.out
  clear HCc2 HCd HWc HR5 hE7a hE7 hE56
  go_wp2_with fail
  generalize w7.heap.size=H7 at *
  generalize w7.alloc (.cells #[.slice B3 12 d3,.slice B4 12 d4] 95)=w8 at *
  rw [List.nil_append,← List.map_append] at hR8
  have HR8:=hide hR8
  have hE8:Ext w w8:=Below.trans hEc (hM38.below (B:=w.heap.size) hEc.le hg (fun k hk=>by cases hk))
  have hH6:H6≠g:=by omega
  have hH7:H7≠g:=by omega
  have HAll:=hide (show ∀ W,Mod w8 W g ob5→RefCodR W w5.heap.size H6 (.agg #[.slice B1 265 d1,.slice B2 265 d2]) (bestS L)∧RefCodR W (H6+1) H7 (.agg #[.slice B3 12 d3,.slice B4 12 d4]) (bestF L)∧Whole W H6 95 #[.slice B1 265 d1,.slice B2 265 d2]∧Whole W H7 95 #[.slice B3 12 d3,.slice B4 12 d4]∧Ext w W from fun W hM =>
   ⟨HCc3.out.mod hM (.inl (by omega)) (fun k hk=>.inl (hob5h k hk)),HCd3.out.mod hM (.inl (by omega)) (fun k hk=>.inl (by have:=hob5h k hk;omega)),hM.whole HWc3.out hH6 (fun e=>by have:=hob5h H6 e;omega),hM.whole HWd.out hH7 (fun e=>by have:=hob5h H7 e;omega),
    Below.trans hE8 (hM.below (B:=w.heap.size) hE8.le hg (fun k hk=>by have:=hob5 k hk;omega))⟩)
  clear HCc3 HWc3 hR8 hM38 HWd HCd3 hEc hE8 hE58 hE3 hEb hE2 hEa HM35 HI2 hob5 hob5h HN35
  go_loopw [16] (fun x wr=>∃ (i:Nat) (ob:Option Nat),i≤L.length∧x=.int .i64 (i:Int)∧RefW wr g g ob ((wbits (bestS L)++wbits (bestF L)++bodyB (bestS L) (bestF L) (L.take i)).map bit8)∧NewOb w8 ob5 ob∧Mod w8 wr g ob5∧(bodyB (bestS L) (bestF L) (L.take i)).length≤48*i) (fun x _=>L.length-(intOf x).toNat)
  case atStart=>exact ⟨0,ob5,by omega,rfl,by simpa [bodyB] using HR8.out,.inl rfl,Mod.refl _ _ _,by simp [bodyB]⟩
  case round =>
   clear HR8
   obtain ⟨i,ob,hi,rfl,hR,hN,hM,hlen⟩:=hrel
   by_cases hlt:i < L.length
   ·have hiI:(i:Int) < (L.length:Int):=by omega
    obtain ⟨hCr,hDr,hWc,hWd,hEw⟩:=HAll.out wr hM
    have hMem:L.getD i default∈L:=by
     rw [List.getD_eq_getElem?_getD,List.getElem?_eq_getElem hlt]
     exact List.getElem_mem hlt
    have hmay:=List.all_eq_true.1 HA.out _ hMem
    have hfS:=sym_fine hMem hmay
    have hfF:=dist_fine hMem hmay
    have HBn:=hide (bodyB_next (bestS L) (bestF L) hlt)
    have CM:=fun W=>refSplit_any (L.getD i default) W
    unfold tokV at CM
    have hToks:=HT.out.below hEw (Nat.le_refl _)
    rcases hToks.2 with h0 | ⟨b1,o1,rfl,hb1,hc⟩
    ·omega
    obtain ⟨hAt,hOk⟩:=hc i hlt
    obtain ⟨c0,c1,c2⟩:=hAt.cells
    clear hc hToks hAt hMem
    obtain ⟨t,ht⟩:∃ t,t=L.getD i default:=⟨_,rfl⟩
    rw [← ht] at c0 c1 c2 hOk CM hmay hfS hfF HBn
    have HCell:=hide (show ∀ W,Ext w W→W.cell? ⟨b1,o1+i*3+1,none⟩=some (.int .i64 t.len) from fun W hW=>by
     have:=(HT.out.below hW (Nat.le_refl _)).2
     rcases this with h0 | ⟨b',o',e',_,hc'⟩
     ·omega
     simp only [Option.some.injEq,Addr.mk.injEq,and_true] at e'
     obtain ⟨rfl,rfl⟩:=e'
     have:=(hc' i hlt).1
     rw [← ht] at this
     exact this.2.1)
    clear ht
    obtain ⟨P,hP⟩:∃ P,P=wbits (bestS L)++wbits (bestF L)++bodyB (bestS L) (bestF L) (L.take i):=⟨_,rfl⟩
    have hPl:P.length≤2770+48*i:=by rw [hP];simp only [List.length_append];omega
    rw [← hP] at hR
    have HP:=hide hP
    have HN2:=hide hN
    have HM2:=hide hM
    have HRr:=hide hR
    have hobr:=fun k hk=>(hR.own k hk).2
    have hgr:=hR.lt
    clear hP hN hM hR
    by_cases h0:t.len=0
    ·have hsp:=split_lit hmay h0
     have HBt:=hide (tokB_lit (y:=bestF L) hfS h0)
     rw [hsp] at CM HBt
     dsimp only at HBt
     unfold SplitTo pcV at CM
     dsimp only at CM
     rw [h0] at c1 CM
     have HC0:=hide (show ∀ W,Ext w W→W.cell? ⟨b1,o1+i*3+1,none⟩=some (.int .i64 0) from fun W hW=>h0 ▸ HCell.out W hW)
     have h8:=UInt8.toNat_lt t.lit
     clear hsp hfS hfF hmay HCell h0 hOk
     generalize tokB (bestS L) (bestF L) t=T at *
     generalize t.lit.toNat=y at *
     generalize t.dist=td at *
     go_wp2_with fail
     refine (CM wr).mono ?_
     rintro e wa ⟨rfl,hEs⟩
     have hEp:=hEs.trans (extNew wa (.cells #[.int .i64 (y:Int),.int .i64 0,.int .i64 0,.int .i64 0] 99))
     have hWcp:=hWc.ext hEp
     have q0:=hWcp.at 0 (u:=.slice B1 265 d1) rfl
     have q1:=hWcp.at 1 (u:=.slice B2 265 d2) rfl
     have CP:=refPut9H_any (hCr.ext hEp).cod (bestS_right L) (HRr.out.ext hEp) (y:Int) (by omega)
     have HMp:=hide (HM2.out.trans (Mod.ofExt (ob:=ob) hEp) HN2.out)
     clear CM c0 c1 c2 hWc hWd hCr hDr hEs hWcp
     go_wp2_with fail
     refine CP.mono ?_
     rintro e wc ⟨rfl,obc,hRc,hNc,hMc⟩
     have hMw:=HMp.out.trans hMc HN2.out
     have hNw:=HN2.out.trans HMp.out.size hNc
     obtain ⟨_,_,_,_,hEc⟩:=HAll.out wc hMw
     have f1:=HC0.out wc hEc
     have hxl:=putX_le (l:=bestS L) (y:Int) (bestS_right L)
     clear CP q0 q1
     go_wp2
     go_roundw
     case rel=>exact ⟨i+1,obc,by omega,by go_num,(by rw [HBn.out,HBt.out,← List.append_assoc,← HP.out];exact hRc),hNw,hMw,by rw [HBn.out,HBt.out,List.length_append];omega⟩
     case measure=>simp [intOf];omega
    ·obtain ⟨k,x,cn,y,hk,hx,hcn,hy,e1,e2,e3⟩:=split_match hmay h0
     have hfF:=hfF h0
     rw [e3] at hfS hfF
     dsimp only at hfS hfF
     have HBt:=hide (tokB_match (x:=bestS L) (y:=bestF L) e3 hfS hfF h0)
     have hlp:0 < t.len:=by have:=(may_facts hmay h0).2.1;omega
     rw [e3] at CM
     unfold SplitTo pcV at CM
     dsimp only at CM
     have hkp:=pow_top hk
     have hcp:=pow_top hcn
     have HYn:=hide (put_num (x:=y) (k:=cn) (by omega) hy)
     obtain ⟨sy,hsy⟩:∃ s:Int,s=257+(k:Int):=⟨_,rfl⟩
     rw [← hsy] at CM HBt
     have hsk:sy-257=(k:Int):=by omega
     have HXn:=hide (show Bit.putBits x (sy-257)=Bit.num x k by rw [hsk];exact put_num (by omega) hx)
     have hs1:257≤sy:=by omega
     have hs2:sy≤264:=by omega
     have hx7:x < 128:=by omega
     have hy7:y < 2048:=by omega
     have hs3:sy-257≤7:=by omega
     clear e1 e2 e3 hsy hsk hx hy hkp hcp hfS hfF hmay h0 hOk
     generalize tokB (bestS L) (bestF L) t=T at *
     generalize hyy:t.lit.toNat=yl at *
     go_wp2_with fail
     refine (CM wr).mono ?_
     rintro e wa ⟨rfl,hEs⟩
     have hEp:=hEs.trans (extNew wa (.cells #[.int .i64 sy,.int .i64 (x:Int),.int .i64 (cn:Int),.int .i64 (y:Int)] 99))
     have hWp:=Whole.new wa 99 #[.int .i64 sy,.int .i64 (x:Int),.int .i64 (cn:Int),.int .i64 (y:Int)]
     have hles:=hEs.le
     have HPc:=hide (fun W (hM:Mod (wa.alloc (.cells #[.int .i64 sy,.int .i64 (x:Int),.int .i64 (cn:Int),.int .i64 (y:Int)] 99)) W g ob)=>hM.whole hWp (by omega) (fun e=>by have:=hobr _ e;omega))
     have hWcp:=hWc.ext hEp
     have q0:=hWcp.at 0 (u:=.slice B1 265 d1) rfl
     have q1:=hWcp.at 1 (u:=.slice B2 265 d2) rfl
     have CP:=refPut9H_any (hCr.ext hEp).cod (bestS_right L) (HRr.out.ext hEp) sy (by omega)
     have HMp:=hide (HM2.out.trans (Mod.ofExt (ob:=ob) hEp) HN2.out)
     have hxl:=putX_le (l:=bestS L) sy (bestS_right L)
     have hfl:=putX_le (l:=bestF L) (cn:Int) (bestF_right L)
     have hnl1:=Bit.num_length x k
     have hnl2:=Bit.num_length y cn
     clear CM c0 c1 c2 hWc hWd hCr hDr hEs hWcp hWp
     go_wp2_with fail
     refine CP.mono ?_
     rintro e wc ⟨rfl,obc,hRc,hNc,hMc⟩
     obtain ⟨_,_,_,_,hEwc⟩:=HAll.out wc (HMp.out.trans hMc HN2.out)
     have f1:=HCell.out wc hEwc
     have hPc:=HPc.out wc hMc
     have p0:=hPc.at 0 (u:=.int .i64 sy) rfl
     have p1:=hPc.at 1 (u:=.int .i64 (x:Int)) rfl
     have CP2:=refPut_any hRc x (sy-257) (by omega) (by rw [List.length_map,List.length_append];omega)
     rw [HXn.out,← List.map_append] at CP2
     generalize Bit.putErr x (sy-257)=E2 at CP2
     clear CP q0 q1 hPc hEwc hRc
     go_wp2_with fail
     refine CP2.mono ?_
     rintro e wd ⟨rfl,obd,hRd,hNd,hMd⟩
     have hMpd:=hMc.trans hMd hNc
     have hNpd:=hNc.trans hMc.size hNd
     obtain ⟨_,hDd,_,hWdd,_⟩:=HAll.out wd (HMp.out.trans hMpd HN2.out)
     have r0:=hWdd.at 0 (u:=.slice B3 12 d3) rfl
     have r1:=hWdd.at 1 (u:=.slice B4 12 d4) rfl
     have p2:=(HPc.out wd hMpd).at 2 (u:=.int .i64 (cn:Int)) rfl
     have CP3:=refPut9H_any hDd.cod (bestF_right L) hRd (cn:Int) (by simp only [List.length_append];omega)
     clear CP2 p0 p1 f1 hWdd hDd hRd hMd hNd hMc hNc
     go_wp2_with fail
     refine CP3.mono ?_
     rintro e we ⟨rfl,obe,hRe,hNe,hMe⟩
     have hMpe:=hMpd.trans hMe hNpd
     have hNpe:=hNpd.trans hMpd.size hNe
     have hPe:=HPc.out we hMpe
     have s2:=hPe.at 2 (u:=.int .i64 (cn:Int)) rfl
     have s3:=hPe.at 3 (u:=.int .i64 (y:Int)) rfl
     have CP4:=refPut_any hRe y (cn:Int) (by omega) (by rw [List.length_map];simp only [List.length_append];omega)
     rw [HYn.out,← List.map_append] at CP4
     generalize Bit.putErr y (cn:Int)=E4 at CP4
     clear CP3 r0 r1 p2 hPe hRe hMpd hNpd hMe hNe
     go_wp2_with fail
     refine CP4.mono ?_
     rintro e wf ⟨rfl,obf,hRf,hNf,hMf⟩
     have hMpf:=hMpe.trans hMf hNpe
     have hNpf:=hNpe.trans hMpe.size hNf
     clear CP4 s2 s3
     go_wp2
     go_roundw
     case rel=>exact ⟨i+1,obf,by omega,by go_num,(by rw [HBn.out,HBt.out,← List.append_assoc,← HP.out];simpa only [List.append_assoc] using hRf),HN2.out.trans HMp.out.size hNpf,HMp.out.trans hMpf HN2.out,by rw [HBn.out,HBt.out];simp only [List.length_append];omega⟩
     case measure=>simp [intOf];omega
   ·obtain rfl:L.length=i:=by omega
    rw [List.take_length] at hR hlen
    obtain ⟨hCr,_,hWc,_,hEw⟩:=HAll.out wr hM
    have q0:=hWc.at 0 (u:=.slice B1 265 d1) rfl
    have q1:=hWc.at 1 (u:=.slice B2 265 d2) rfl
    have CP:=refPut9H_any hCr.cod (bestS_right L) hR 256 (by simp only [List.length_append];omega)
    have hxl:=putX_le (l:=bestS L) 256 (bestS_right L)
    have HEnd:=hide (show putX (bestS L) 256=putB (bestS L) 256 from if_pos (end_fine L))
    have HM2:=hide hM
    have HN2:=hide hN
    clear hR hWc hCr hM hN
    go_wp2_with fail
    refine CP.mono ?_
    rintro e wc ⟨rfl,obc,hRc,hNc,hMc⟩
    have hMw:=HM2.out.trans hMc HN2.out
    obtain ⟨_,_,_,_,hEc⟩:=HAll.out wc hMw
    have CB:=refBytes_any hRc (by simp only [List.length_append];omega)
    clear CP q0 q1 hRc
    go_wp2_with fail
    refine CB.mono ?_
    rintro e wd ⟨l,hPk,v,rfl,hO,hE⟩
    go_wp2
    go_ret2
    rw [HN.out]
    refine ⟨v,l,rfl,hO.mono hEc.le,fun _=>?_,fun h=>absurd rfl h,hEc.trans hE⟩
    rw [HEnd.out] at hPk
    unfold writeB
    simpa only [List.append_assoc] using hPk
end
end Go.Proofs.YtaogpmombefmmaaGreatDoor
