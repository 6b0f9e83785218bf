/- The document's Write of chapter 11. The document's Read of chapter 11. ToksCounts, ToksWrites, ToksReads, ToksBack, ToksMay. The program's Count of chapter 11. -/
import Derived.Test.YtpmedpdjglcdpaaGreatDoorB13
import Derived.Test.YtpmedpdjglcdpaaGreatDoorB14
import Derived.Test.YtpmedpdjglcdpaaGreatDoorB15
import Derived.Test.YtpmedpdjglcdpaaGreatDoorB21
import Derived.Test.YtpmedpdjglcdpaaGreatDoorB23
import Derived.Test.YtpmedpdjglcdpaaGreatDoorB24
import Derived.Test.YtpmedpdjglcdpaaGreatDoorB25
namespace Go.Proofs.YtpmedpdjglcdpaaGreatDoor
section
open Go.RowKit Lz Tok Len Can Huf
theorem Tok.countsS_lt (L:List TokV)(q:Nat):(yG L).getD q 0≤L.length+1:=by
 rw[← cntS_end,List.getD_eq_getElem?_getD,List.getElem?_set]
 have h1:=cntS_le L 256
 have h2:=cntS_le L q
 rw[List.getD_eq_getElem?_getD]at h2
 split
 ·split
  ·show (cntS L).getD 256 0+1≤_
   omega
  ·exact Nat.zero_le _
 ·omega
theorem OwnB.away {w w':World}{base hi g:Nat}{ob:Option Nat}{v:Value}{l:List UInt8}(h:OwnB w base v l)(hhi:∀ k,v.ownBlock=some k→k<hi)(hM:Mod w w' g ob)(hg:g<base)(ho:∀ k,ob=some k→hi≤k):OwnB w' base v l:=by
 refine hM.own h (fun e=>by have:=(h.lt g e).1;omega) ?_
 cases hv:v.ownBlock with
 | none=>exact .inl rfl
 | some k =>
  refine .inr fun e=>?_
  have:=hhi k hv
  have:=ho k e.symm
  omega
theorem OwnB.at {w:World}{base n c:Nat}{A:Option Addr}{l:List UInt8}(h:OwnB w base (.slice A n c) l)(hn:n=l.length):Bytes w w.heap.size A n l:=by
 subst hn
 obtain⟨A7,c7,e7,_,_,h7⟩:=h.form
 simp only[Value.slice.injEq]at e7
 obtain⟨rfl,_,rfl⟩:=e7
 exact h7
theorem OwnB.atIn {w:World}{base hi n c:Nat}{A:Option Addr}{l:List UInt8}(h:OwnB w base (.slice A n c) l)(hn:n=l.length)(hhi:∀ k,Value.ownBlock (.slice A n c)=some k→k<hi):Bytes w hi A n l:=by
 obtain⟨h1,h2⟩:=h.at hn
 refine⟨h1,h2.imp id ?_⟩
 rintro⟨b,off,rfl,_,hc⟩
 exact⟨b,off,rfl,hhi b rfl,hc⟩
theorem Tok.bodyB_next (x y:List UInt8){L:List TokV}{i:Nat}(hi:i<L.length):zV x y (L.take (i+1))=zV x y (L.take i)++X3 x y (L.getD i default):=by
 rw[take_next hi]
 unfold zV
 rw[List.flatMap_append]
 simp
theorem Tok.tokB_lit {x y:List UInt8}{t:TokV}(h:fine x (zC t).1.sym=true)(h0:t.len=0):X3 x y t=putX x (zC t).1.sym:=by
 unfold X3 putX
 rw[if_pos h0,if_pos h,List.append_nil]
theorem Tok.tokB_match {x y:List UInt8}{t:TokV}{k v c z:Nat}(e:zC t=(⟨257+(k:Int),v,c,z⟩,0))(h:fine x (257+(k:Int))=true)(h2:fine y (c:Int)=true)(h0:t.len≠0):X3 x y t=putX x (257+(k:Int))++Bit.num v k++putX y (c:Int)++Bit.num z c:=by
 unfold X3 putX acR
 rw[if_neg h0,e]
 dsimp only
 rw[if_pos h,if_pos h2,show (257+(k:Int)-257).toNat=k by omega,Int.toNat_natCast,Int.toNat_natCast,Int.toNat_natCast]
 simp only[List.append_assoc]
theorem Tok.putX_le {l:List UInt8}(s:Int)(hr:right l=true):(putX l s).length≤15:=by
 unfold putX
 split
 ·rename_i h
  exact putB_le hr h
 ·simp
theorem Tok.put_num {x k:Nat}(hk:k≤64)(h:x<2 ^ k):Bit.putBits x (k:Int)=Bit.num x k:=by
 have:=(Bit.put_good (x:=x) (n:=(k:Int)) (decide_eq_true ⟨by omega,by omega,by rw[Int.toNat_natCast];exact h⟩)).2
 rwa [Int.toNat_natCast]at this
set_option maxHeartbeats 1000000 in
set_option maxRecDepth 100000 in
theorem jc (A:Option Addr)(n c:Nat)(L:List TokV)(w:World)(hn:n≤100000)(hT:ToksAt w w.heap.size A n L)(hLn:Y8 w):Calls Tryz.prog 86 #[.slice A n c] w (ac4 w (writeE L)):=by
 have C1:=UO A n c L w hn hT
 have hl:=hT.1
 subst hl
 by_cases h32:32768<L.length
 ·have HN:=hide (show writeE L=([],6) from if_pos h32)
  generalize writeE L=res at *
  have hI:(32768:Int)<(L.length:Int):=by omega
  clear h32 hT C1 hLn
  go_enter Tryz.func86,Tryz.ntmps86
  go_wp2
  go_ret2
  rw[HN.out]
  exact⟨_,[],rfl,OwnB.nil _ _,fun h=>absurd h (by simp),fun _=>rfl,Ext.refl _⟩
 have hI:¬ (32768:Int)<(L.length:Int):=by omega
 cases hall:L.all may with
 | false =>
  have HN:=hide (show writeE L=([],7) by unfold writeE;rw[if_neg h32,hall];rfl)
  have HA:=hide hall
  generalize writeE L=res at *
  clear h32 hT hLn hall
  go_enter Tryz.func86,Tryz.ntmps86
  go_wp2_with fail
  refine C1.mono ?_
  rintro e w1 ⟨hE1,hC⟩
  rw[HA.out,if_neg (by simp)]at hC
  subst hC
  clear C1
  go_wp2
  go_ret2
  rw[HN.out]
  exact⟨_,[],rfl,OwnB.nil _ _,fun h=>absurd h (by simp),fun _=>rfl,hE1⟩
 | true =>
  have HN:=hide (show writeE L=(vO L,0) by unfold writeE;rw[if_neg h32,if_pos hall])
  have HA:=hide hall
  generalize writeE L=res at *
  have HT:=hide hT
  have HLn:=hide hLn
  clear h32 hT hLn hall
  go_enter Tryz.func86,Tryz.ntmps86
  go_wp2_with fail
  refine C1.mono ?_
  rintro e w1 ⟨hE1,hC⟩
  rw[if_pos HA.out]at hC
  obtain⟨g1,g2,hne,rfl,hO1,hO2⟩:=hC
  have hEw:=zb w1 (.cells #[.slice none 0 0] 121)
  have hR0:=RefW.new w1
  have hEa:=hE1.trans hEw
  have hO1a:=hO1.ext hEw
  have HO2a:=hide (hO2.ext hEw)
  have hsz:(w1.alloc (.cells #[.slice none 0 0] 121)).heap.size=w1.heap.size+1:=by simp
  have hg:=hE1.le
  have hU1:=hO1a.at (by rw[yj]) (fun q=>by have:=countsS_lt L q;omega)
  have C2:=HLn.out (yG L) 15 (some ⟨g1,0,none⟩) 265 265 _ hEa (Nat.le_refl _) hU1 (by omega) (by omega)
  rw[j5 (by rw[yj];omega)]at C2
  change Calls _ _ _ _ (Zq _ (zF L,0)) at C2
  clear C1 hO1 hO2 hO1a hE1 hU1
  go_wp2_with fail
  generalize hgg:w1.heap.size=g at *
  generalize w1.alloc (.cells #[.slice none 0 0] 121)=wa at *
  refine C2.mono ?_
  rintro e w2 ⟨v1,rfl,hV1,hE2⟩
  rw[hsz]at hV1
  clear C2 hEw
  have hle2:=hE2.le
  have hEb:=hEa.trans hE2
  have hO2b:=HO2a.out.ext hE2
  have hR2:=hR0.ext hE2
  have hU2:=hO2b.at (by rw[zL]) (fun q=>by have:=cntF_le L q;omega)
  have C3:=HLn.out (zN L) 15 (some ⟨g2,0,none⟩) 12 12 _ hEb (Nat.le_refl _) hU2 (by omega) (by omega)
  rw[j5 (by rw[zL];omega)]at C3
  change Calls _ _ _ _ (Zq _ (zR L,0)) at C3
  clear hO2b hU2 HO2a HLn hR0
  dsimp only at hV1 ⊢
  go_wp2_with fail
  refine C3.mono ?_
  rintro e w3 ⟨v2,rfl,hV2,hE3⟩
  dsimp only at hV2 ⊢
  have hle3:=hE3.le
  have hEc:=hEb.trans hE3
  have hR3:=hR2.ext hE3
  have hV1hi:=fun k (hk:v1.ownBlock=some k)=>(hV1.lt k hk).2
  have hV2hi:=fun k (hk:v2.ownBlock=some k)=>(hV2.lt k hk).2
  have hV1c:=hV1.ext hE3
  obtain⟨Ab1,cb1,rfl,_,_,_⟩:=hV1c.form
  obtain⟨Ab2,cb2,rfl,_,_,_⟩:=hV2.form
  rw[vf]at hV1c hV1hi ⊢
  rw[vg]at hV2 hV2hi ⊢
  have hgw2:g<w2.heap.size:=by omega
  have hw23:w2.heap.size≤w3.heap.size:=hle3
  have C4:=jH hR3 (by simp) Ab1 265 cb1 (zF L) (fun W hM=>(hV1c.away hV1hi hM (by omega) (fun k hk=>by cases hk)).atIn (by rw[vf]) (fun k hk=>Nat.lt_of_lt_of_le (hV1hi k hk) hle3))
  rw[if_pos (zG L),zU (zG L)]at C4
  have HV1:=hide hV1c
  have HV2:=hide hV2
  have HI1:=hide hV1hi
  have HI2:=hide hV2hi
  have hWl1:=yP (zF L)
  have hWl2:=yP (zR L)
  rw[vf]at hWl1
  rw[vg]at hWl2
  clear hV1 hV1c hV2 hV1hi hV2hi hR2 hR3 C3
  go_wp2_with fail
  refine C4.mono ?_
  rintro e w4 ⟨rfl,ob4,hR4,hN4,hM4⟩
  have hob4:=hN4.le (Nat.le_refl _) (fun k hk=>by cases hk)
  have hV1d:=HV1.out.away HI1.out hM4 (by omega) (fun k hk=>by cases hk)
  have hV2d:=HV2.out.away HI2.out hM4 hgw2 (fun k hk=>by cases hk)
  have C5:=jH hR4 (by simp;omega) Ab2 12 cb2 (zR L) (fun W hM=>(hV2d.away HI2.out hM hgw2 hob4).atIn (by rw[vg]) (fun k hk=>Nat.lt_of_lt_of_le (HI2.out k hk) hM4.size))
  rw[if_pos (yJ L),zU (yJ L)]at C5
  have HV1d:=hide hV1d
  have HV2d:=hide hV2d
  clear hV1d hV2d C4 HV1 HV2 hR4
  go_wp2_with fail
  refine C5.mono ?_
  rintro e w5 ⟨rfl,ob5,hR5,hN5,hM5⟩
  have hM35:=hM4.trans hM5 hN4
  have hN35:=hN4.trans hM4.size hN5
  have hob5:=hN35.le (Nat.le_refl _) (fun k hk=>by cases hk)
  have hob5h:=fun k hk=>(hR5.own k hk).2
  have hV1e:=HV1d.out.away HI1.out hM5 (by omega) (fun k hk=>Nat.le_trans hw23 (hob4 k hk))
  have hV2e:=HV2d.out.away HI2.out hM5 hgw2 hob4
  have h35:=hM35.size
  have C6:=qW Ab1 265 cb1 (zF L) w5 (hV1e.at (by rw[vf]))
  unfold UE at C6
  rw[zU (zG L)]at C6
  have HV2e:=hide hV2e
  have HR5:=hide hR5
  have HM35:=hide hM35
  have HN35:=hide hN35
  clear hV1e hV2e C5 HV1d HV2d hR5 hM4 hM5 hN4 hN5 hob4 HI1 hM35 hN35
  go_wp2_with fail
  refine C6.mono ?_
  rintro e w6 ⟨vc,rfl,hvc,_,hE6⟩
  have hvc:=hvc (zG L)
  obtain⟨B1,d1,B2,d2,rfl,hvr⟩:=hvc
  have HCc:=hide (show RefCodR w6 w5.heap.size w6.heap.size (.agg #[.slice B1 (zF L).length d1,.slice B2 (zF L).length d2]) (zF L) from ⟨B1,d1,B2,d2,rfl,hvr⟩)
  clear hvr hvc C6
  rw[vf]at HCc ⊢
  have hE6a:=zb w6 (.cells #[.slice B1 265 d1,.slice B2 265 d2] 149)
  have HWc:=hide (Whole.new w6 149 #[.slice B1 265 d1,.slice B2 265 d2])
  have hs6:(w6.alloc (.cells #[.slice B1 265 d1,.slice B2 265 d2] 149)).heap.size=w6.heap.size+1:=by simp
  have hV2f:=(HV2e.out.ext hE6).ext hE6a
  have C7:=qW Ab2 12 cb2 (zR L) _ (hV2f.at (by rw[vg]))
  unfold UE at C7
  rw[zU (yJ L)]at C7
  have hle6:=hE6.le
  have hE56:=hE6.trans hE6a
  have HCc2:=hide (HCc.out.ext hE6a)
  clear hV2f HV2e HCc hE6a hE6
  go_wp2_with fail
  generalize w6.heap.size=H6 at *
  generalize w6.alloc (.cells #[.slice B1 265 d1,.slice B2 265 d2] 149)=w6a at *
  refine C7.mono ?_
  rintro e w7 ⟨vd,rfl,hvd,_,hE7⟩
  have hvd:=hvd (yJ L)
  rw[hs6]at hvd
  obtain⟨B3,d3,B4,d4,rfl,hvr⟩:=hvd
  have HCd:=hide (show RefCodR w7 (H6+1) w7.heap.size (.agg #[.slice B3 (zR L).length d3,.slice B4 (zR L).length d4]) (zR L) from ⟨B3,d3,B4,d4,rfl,hvr⟩)
  clear hvr hvd C7
  rw[vg]at HCd ⊢
  have hE7a:=zb w7 (.cells #[.slice B3 12 d3,.slice B4 12 d4] 149)
  have HWd:=hide (Whole.new w7 149 #[.slice B3 12 d3,.slice B4 12 d4])
  have hs7:(w7.alloc (.cells #[.slice B3 12 d3,.slice B4 12 d4] 149)).heap.size=w7.heap.size+1:=by simp
  have hle7:=hE7.le
  have hE58:=(hE56.trans hE7).trans hE7a
  have HCc3:=hide ((HCc2.out.ext hE7).ext hE7a)
  have HCd3:=hide (HCd.out.ext hE7a)
  have HWc3:=hide ((HWc.out.ext hE7).ext hE7a)
  have hR8:=HR5.out.ext hE58
  have hM38:=HM35.out.trans (Mod.ofExt (ob:=ob5) hE58) HN35.out
  clear HCc2 HCd HWc HR5 hE7a hE7 hE56
  go_wp2_with fail
  generalize w7.heap.size=H7 at *
  generalize w7.alloc (.cells #[.slice B3 12 d3,.slice B4 12 d4] 149)=w8 at *
  rw[List.nil_append,← List.map_append]at hR8
  have HR8:=hide hR8
  have hE8:Ext w w8:=Below.trans hEc (hM38.below (B:=w.heap.size) hEc.le hg (fun k hk=>by cases hk))
  have hH6:H6≠g:=by omega
  have hH7:H7≠g:=by omega
  have HAll:=hide (show ∀ W,Mod w8 W g ob5→RefCodR W w5.heap.size H6 (.agg #[.slice B1 265 d1,.slice B2 265 d2]) (zF L)∧RefCodR W (H6+1) H7 (.agg #[.slice B3 12 d3,.slice B4 12 d4]) (zR L)∧Whole W H6 149 #[.slice B1 265 d1,.slice B2 265 d2]∧Whole W H7 149 #[.slice B3 12 d3,.slice B4 12 d4]∧Ext w W from fun W hM =>
   ⟨HCc3.out.mod hM (.inl (by omega)) (fun k hk=>.inl (hob5h k hk)),HCd3.out.mod hM (.inl (by omega)) (fun k hk=>.inl (by have:=hob5h k hk;omega)),hM.whole HWc3.out hH6 (fun e=>by have:=hob5h H6 e;omega),hM.whole HWd.out hH7 (fun e=>by have:=hob5h H7 e;omega),
    Below.trans hE8 (hM.below (B:=w.heap.size) hE8.le hg (fun k hk=>by have:=hob5 k hk;omega))⟩)
  clear HCc3 HWc3 hR8 hM38 HWd HCd3 hEc hE8 hE58 hE3 hEb hE2 hEa HM35 HI2 hob5 hob5h HN35
  go_loopw [16] (fun x wr=>∃ (i:Nat) (ob:Option Nat),i≤L.length∧x=.int .i64 (i:Int)∧RefW wr g g ob ((wbits (zF L)++wbits (zR L)++zV (zF L) (zR L) (L.take i)).map yX)∧NewOb w8 ob5 ob∧Mod w8 wr g ob5∧(zV (zF L) (zR L) (L.take i)).length≤48*i) (fun x _=>L.length-(intOf x).toNat)
  case atStart=>exact⟨0,ob5,by omega,rfl,by simpa[zV] using HR8.out,.inl rfl,Mod.refl _ _ _,by simp[zV]⟩
  case round =>
   clear HR8
   obtain⟨i,ob,hi,rfl,hR,hN,hM,hlen⟩:=hrel
   by_cases hlt:i<L.length
   ·have hiI:(i:Int)<(L.length:Int):=by omega
    obtain⟨hCr,hDr,hWc,hWd,hEw⟩:=HAll.out wr hM
    have hMem:L.getD i default∈L:=by
     rw[List.getD_eq_getElem?_getD,List.getElem?_eq_getElem hlt]
     exact List.getElem_mem hlt
    have hmay:=List.all_eq_true.1 HA.out _ hMem
    have hfS:=JH hMem hmay
    have hfF:=VL hMem hmay
    have HBn:=hide (bodyB_next (zF L) (zR L) hlt)
    have CM:=fun W=>qR (L.getD i default) W
    unfold jA at CM
    have hToks:=HT.out.below hEw (Nat.le_refl _)
    rcases hToks.2 with h0 | ⟨b1,o1,rfl,hb1,hc⟩
    ·omega
    obtain⟨hAt,hOk⟩:=hc i hlt
    obtain⟨c0,c1,c2⟩:=hAt.cells
    clear hc hToks hAt hMem
    obtain⟨t,ht⟩:∃ t,t=L.getD i default:=⟨_,rfl⟩
    rw[← ht]at c0 c1 c2 hOk CM hmay hfS hfF HBn
    have HCell:=hide (show ∀ W,Ext w W→W.cell? ⟨b1,o1+i*3+1,none⟩=some (.int .i64 t.len) from fun W hW=>by
     have:=(HT.out.below hW (Nat.le_refl _)).2
     rcases this with h0 | ⟨b',o',e',_,hc'⟩
     ·omega
     simp only[Option.some.injEq,Addr.mk.injEq,and_true]at e'
     obtain⟨rfl,rfl⟩:=e'
     have:=(hc' i hlt).1
     rw[← ht]at this
     exact this.2.1)
    clear ht
    obtain⟨P,hP⟩:∃ P,P=wbits (zF L)++wbits (zR L)++zV (zF L) (zR L) (L.take i):=⟨_,rfl⟩
    have hPl:P.length≤2770+48*i:=by rw[hP];simp only[List.length_append];omega
    rw[← hP]at hR
    have HP:=hide hP
    have HN2:=hide hN
    have HM2:=hide hM
    have HRr:=hide hR
    have hobr:=fun k hk=>(hR.own k hk).2
    have hgr:=hR.lt
    clear hP hN hM hR
    by_cases h0:t.len=0
    ·have hsp:=xq hmay h0
     have HBt:=hide (tokB_lit (y:=zR L) hfS h0)
     rw[hsp]at CM HBt
     dsimp only at HBt
     unfold jx pcV at CM
     dsimp only at CM
     rw[h0]at c1 CM
     have HC0:=hide (show ∀ W,Ext w W→W.cell? ⟨b1,o1+i*3+1,none⟩=some (.int .i64 0) from fun W hW=>h0 ▸ HCell.out W hW)
     have h8:=UInt8.toNat_lt t.lit
     clear hsp hfS hfF hmay HCell h0 hOk
     generalize X3 (zF L) (zR L) t=T at *
     generalize t.lit.toNat=y at *
     generalize t.dist=td at *
     go_wp2_with fail
     refine (CM wr).mono ?_
     rintro e wa ⟨rfl,hEs⟩
     have hEp:=hEs.trans (zb wa (.cells #[.int .i64 (y:Int),.int .i64 0,.int .i64 0,.int .i64 0] 153))
     have hWcp:=hWc.ext hEp
     have q0:=hWcp.at 0 (u:=.slice B1 265 d1) rfl
     have q1:=hWcp.at 1 (u:=.slice B2 265 d2) rfl
     have CP:=x9 (hCr.ext hEp).cod (zG L) (HRr.out.ext hEp) (y:Int) (by omega)
     have HMp:=hide (HM2.out.trans (Mod.ofExt (ob:=ob) hEp) HN2.out)
     clear CM c0 c1 c2 hWc hWd hCr hDr hEs hWcp
     go_wp2_with fail
     refine CP.mono ?_
     rintro e wc ⟨rfl,obc,hRc,hNc,hMc⟩
     have hMw:=HMp.out.trans hMc HN2.out
     have hNw:=HN2.out.trans HMp.out.size hNc
     obtain⟨_,_,_,_,hEc⟩:=HAll.out wc hMw
     have f1:=HC0.out wc hEc
     have hxl:=putX_le (l:=zF L) (y:Int) (zG L)
     clear CP q0 q1
     go_wp2
     go_roundw
     case rel=>exact⟨i+1,obc,by omega,by go_num,(by rw[HBn.out,HBt.out,← List.append_assoc,← HP.out];exact hRc),hNw,hMw,by rw[HBn.out,HBt.out,List.length_append];omega⟩
     case measure=>simp[intOf];omega
    ·obtain⟨k,x,cn,y,hk,hx,hcn,hy,e1,e2,e3⟩:=xQ hmay h0
     have hfF:=hfF h0
     rw[e3]at hfS hfF
     dsimp only at hfS hfF
     have HBt:=hide (tokB_match (x:=zF L) (y:=zR L) e3 hfS hfF h0)
     have hlp:0<t.len:=by have:=(may_facts hmay h0).2.1;omega
     rw[e3]at CM
     unfold jx pcV at CM
     dsimp only at CM
     have hkp:=jo hk
     have hcp:=jo hcn
     have HYn:=hide (put_num (x:=y) (k:=cn) (by omega) hy)
     obtain⟨sy,hsy⟩:∃ s:Int,s=257+(k:Int):=⟨_,rfl⟩
     rw[← hsy]at CM HBt
     have hsk:sy-257=(k:Int):=by omega
     have HXn:=hide (show Bit.putBits x (sy-257)=Bit.num x k by rw[hsk];exact put_num (by omega) hx)
     have hs1:257≤sy:=by omega
     have hs2:sy≤264:=by omega
     have hx7:x<128:=by omega
     have hy7:y<2048:=by omega
     have hs3:sy-257≤7:=by omega
     clear e1 e2 e3 hsy hsk hx hy hkp hcp hfS hfF hmay h0 hOk
     generalize X3 (zF L) (zR L) t=T at *
     generalize hyy:t.lit.toNat=yl at *
     go_wp2_with fail
     refine (CM wr).mono ?_
     rintro e wa ⟨rfl,hEs⟩
     have hEp:=hEs.trans (zb wa (.cells #[.int .i64 sy,.int .i64 (x:Int),.int .i64 (cn:Int),.int .i64 (y:Int)] 153))
     have hWp:=Whole.new wa 153 #[.int .i64 sy,.int .i64 (x:Int),.int .i64 (cn:Int),.int .i64 (y:Int)]
     have hles:=hEs.le
     have HPc:=hide (fun W (hM:Mod (wa.alloc (.cells #[.int .i64 sy,.int .i64 (x:Int),.int .i64 (cn:Int),.int .i64 (y:Int)] 153)) W g ob)=>hM.whole hWp (by omega) (fun e=>by have:=hobr _ e;omega))
     have hWcp:=hWc.ext hEp
     have q0:=hWcp.at 0 (u:=.slice B1 265 d1) rfl
     have q1:=hWcp.at 1 (u:=.slice B2 265 d2) rfl
     have CP:=x9 (hCr.ext hEp).cod (zG L) (HRr.out.ext hEp) sy (by omega)
     have HMp:=hide (HM2.out.trans (Mod.ofExt (ob:=ob) hEp) HN2.out)
     have hxl:=putX_le (l:=zF L) sy (zG L)
     have hfl:=putX_le (l:=zR L) (cn:Int) (yJ L)
     have hnl1:=Bit.num_length x k
     have hnl2:=Bit.num_length y cn
     clear CM c0 c1 c2 hWc hWd hCr hDr hEs hWcp hWp
     go_wp2_with fail
     refine CP.mono ?_
     rintro e wc ⟨rfl,obc,hRc,hNc,hMc⟩
     obtain⟨_,_,_,_,hEwc⟩:=HAll.out wc (HMp.out.trans hMc HN2.out)
     have f1:=HCell.out wc hEwc
     have hPc:=HPc.out wc hMc
     have p0:=hPc.at 0 (u:=.int .i64 sy) rfl
     have p1:=hPc.at 1 (u:=.int .i64 (x:Int)) rfl
     have CP2:=xI hRc x (sy-257) (by omega) (by rw[List.length_map,List.length_append];omega)
     rw[HXn.out,← List.map_append]at CP2
     generalize Bit.putErr x (sy-257)=E2 at CP2
     clear CP q0 q1 hPc hEwc hRc
     go_wp2_with fail
     refine CP2.mono ?_
     rintro e wd ⟨rfl,obd,hRd,hNd,hMd⟩
     have hMpd:=hMc.trans hMd hNc
     have hNpd:=hNc.trans hMc.size hNd
     obtain⟨_,hDd,_,hWdd,_⟩:=HAll.out wd (HMp.out.trans hMpd HN2.out)
     have r0:=hWdd.at 0 (u:=.slice B3 12 d3) rfl
     have r1:=hWdd.at 1 (u:=.slice B4 12 d4) rfl
     have p2:=(HPc.out wd hMpd).at 2 (u:=.int .i64 (cn:Int)) rfl
     have CP3:=x9 hDd.cod (yJ L) hRd (cn:Int) (by simp only[List.length_append];omega)
     clear CP2 p0 p1 f1 hWdd hDd hRd hMd hNd hMc hNc
     go_wp2_with fail
     refine CP3.mono ?_
     rintro e we ⟨rfl,obe,hRe,hNe,hMe⟩
     have hMpe:=hMpd.trans hMe hNpd
     have hNpe:=hNpd.trans hMpd.size hNe
     have hPe:=HPc.out we hMpe
     have s2:=hPe.at 2 (u:=.int .i64 (cn:Int)) rfl
     have s3:=hPe.at 3 (u:=.int .i64 (y:Int)) rfl
     have CP4:=xI hRe y (cn:Int) (by omega) (by rw[List.length_map];simp only[List.length_append];omega)
     rw[HYn.out,← List.map_append]at CP4
     generalize Bit.putErr y (cn:Int)=E4 at CP4
     clear CP3 r0 r1 p2 hPe hRe hMpd hNpd hMe hNe
     go_wp2_with fail
     refine CP4.mono ?_
     rintro e wf ⟨rfl,obf,hRf,hNf,hMf⟩
     have hMpf:=hMpe.trans hMf hNpe
     have hNpf:=hNpe.trans hMpe.size hNf
     clear CP4 s2 s3
     go_wp2
     go_roundw
     case rel=>exact⟨i+1,obf,by omega,by go_num,(by rw[HBn.out,HBt.out,← List.append_assoc,← HP.out];simpa only[List.append_assoc] using hRf),HN2.out.trans HMp.out.size hNpf,HMp.out.trans hMpf HN2.out,by rw[HBn.out,HBt.out];simp only[List.length_append];omega⟩
     case measure=>simp[intOf];omega
   ·obtain rfl:L.length=i:=by omega
    rw[List.take_length]at hR hlen
    obtain⟨hCr,_,hWc,_,hEw⟩:=HAll.out wr hM
    have q0:=hWc.at 0 (u:=.slice B1 265 d1) rfl
    have q1:=hWc.at 1 (u:=.slice B2 265 d2) rfl
    have CP:=x9 hCr.cod (zG L) hR 256 (by simp only[List.length_append];omega)
    have hxl:=putX_le (l:=zF L) 256 (zG L)
    have HEnd:=hide (show putX (zF L) 256=XZ (zF L) 256 from if_pos (JG L))
    have HM2:=hide hM
    have HN2:=hide hN
    clear hR hWc hCr hM hN
    go_wp2_with fail
    refine CP.mono ?_
    rintro e wc ⟨rfl,obc,hRc,hNc,hMc⟩
    have hMw:=HM2.out.trans hMc HN2.out
    obtain⟨_,_,_,_,hEc⟩:=HAll.out wc hMw
    have CB:=qL hRc (by simp only[List.length_append];omega)
    clear CP q0 q1 hRc
    go_wp2_with fail
    refine CB.mono ?_
    rintro e wd ⟨l,hPk,v,rfl,hO,hE⟩
    go_wp2
    go_ret2
    rw[HN.out]
    refine⟨v,l,rfl,hO.mono hEc.le,fun _=>?_,fun h=>absurd rfl h,hEc.trans hE⟩
    rw[HEnd.out]at hPk
    unfold vO
    simpa only[List.append_assoc] using hPk
end
section
open Go.RowKit Lz Tok Len
theorem Tok.cnt_end {L:List TokV}(h:L.all may=true):(cntS L).set 256 1=yG L:=by
 have e:(cntS L).getD 256 0=0:=by
  have h0:L.countP (ZV 256)=0:=List.countP_eq_zero.2 fun t ht hs=>by
   have:=(Zu (List.all_eq_true.1 h t ht)).2.2.1
   exact this (of_decide_eq_true hs)
  simp[cntS,List.getD_eq_getElem?_getD,h0]
 rw[← cntS_end,e]
theorem Tok.split_kind {t:TokV}(h:may t=true):∃ (s:Nat) (x c y:Int),zC t=(⟨s,x,c,y⟩,0)∧s<265∧(t.len≠0→0≤c∧c<12∧257≤s)∧(t.len=0→s<257):=by
 by_cases h0:t.len=0
 ·have:=UInt8.toNat_lt t.lit
  exact⟨t.lit.toNat,0,0,0,xq h h0,by omega,fun e=>absurd h0 e,fun _=>by omega⟩
 ·obtain⟨k,x,c,y,hk,hx,hc,hy,e1,e2,e3⟩:=xQ h h0
  exact⟨257+k,x,c,y,by rw[e3];rfl,by omega,fun _=>⟨by omega,by omega,by omega⟩,fun e=>absurd e h0⟩
set_option maxHeartbeats 1000000 in
set_option maxRecDepth 100000 in
theorem aac (A:Option Addr)(n c:Nat)(L:List TokV)(w:World)(hn:n≤100000)(hT:ToksAt w w.heap.size A n L):Calls Tryz.prog 123 #[.slice A n c] w (aaN w L):=by
 have M1:=fun W=>qU W 265 (by omega)
 have M2:=fun W=>qU W 12 (by omega)
 have N1:=hide (fun W=>OwnU.new W 265 (by omega))
 have N2:=hide (fun W=>OwnU.new W 12 (by omega))
 simp only[Int.cast_ofNat_Int]at M1 M2
 generalize madeCells #[Value.int .u32 0] 265=Z1 at *
 generalize madeCells #[Value.int .u32 0] 12=Z2 at *
 have P1:=hide (show OwnU ((w.alloc (.cells Z1 72)).alloc (.cells Z2 72)).drew w.heap.size (.slice (some ⟨w.heap.size,0,none⟩) 265 265) (List.replicate 265 0)∧OwnU ((w.alloc (.cells Z1 72)).alloc (.cells Z2 72)).drew w.heap.size (.slice (some ⟨w.heap.size+1,0,none⟩) 12 12) (List.replicate 12 0)∧Ext w ((w.alloc (.cells Z1 72)).alloc (.cells Z2 72)).drew from by
  have a:=N1.out w
  have b:=N2.out (w.alloc (.cells Z1 72))
  rw[World.size_alloc]at b
  exact⟨(a.ext (zb _ _)).ext (Ext.refl _).drew,(b.base (by omega)).ext (Ext.refl _).drew,((zb w _).trans (zb _ _)).drew⟩)
 have P2:=hide (show OwnU ((w.alloc (.cells Z2 72)).alloc (.cells Z1 72)).drew w.heap.size (.slice (some ⟨w.heap.size+1,0,none⟩) 265 265) (List.replicate 265 0)∧OwnU ((w.alloc (.cells Z2 72)).alloc (.cells Z1 72)).drew w.heap.size (.slice (some ⟨w.heap.size,0,none⟩) 12 12) (List.replicate 12 0)∧Ext w ((w.alloc (.cells Z2 72)).alloc (.cells Z1 72)).drew from by
  have a:=N2.out w
  have b:=N1.out (w.alloc (.cells Z2 72))
  rw[World.size_alloc]at b
  exact⟨(b.base (by omega)).ext (Ext.refl _).drew,(a.ext (zb _ _)).ext (Ext.refl _).drew,((zb w _).trans (zb _ _)).drew⟩)
 have HT:=hide hT
 have hl:=hT.1
 subst hl
 clear hT N1 N2
 go_enter Tryz.func123,Tryz.ntmps123
 go_upto_region 1 with fail
 go_cut [5,6] (fun x y wx=>∃ g1 g2:Nat,g1≠g2∧x=.slice (some ⟨g1,0,none⟩) 265 265∧y=.slice (some ⟨g2,0,none⟩) 12 12∧OwnU wx w.heap.size x (List.replicate 265 0)∧OwnU wx w.heap.size y (List.replicate 12 0)∧Ext w wx)
 case first =>
  go_region
  ·go_wp2_with fail
   go_meet
   exact⟨w.heap.size,w.heap.size+1,by omega,rfl,rfl,P1.out⟩
  ·go_wp2_with fail
   go_meet
   exact⟨w.heap.size+1,w.heap.size,by omega,rfl,rfl,P2.out⟩
 case rest =>
  clear M1 M2 P1 P2
  obtain⟨g1,g2,hne,rfl,rfl,hO1,hO2,hE0⟩:=hcut
  have hw1:=(hO1.lt g1 rfl).1
  have hw2:=(hO2.lt g2 rfl).1
  rw[← cntS_nil]at hO1
  rw[← cntF_nil]at hO2
  go_wp2_with fail
  go_loopw [15] (fun x wr=>∃ i:Nat,i≤L.length∧x=.int .i64 (i:Int)∧(L.take i).all may=true∧OwnU wr w.heap.size (.slice (some ⟨g1,0,none⟩) 265 265) (cntS (L.take i))∧OwnU wr w.heap.size (.slice (some ⟨g2,0,none⟩) 12 12) (zN (L.take i))∧Ext w wr) (fun x _=>L.length-(intOf x).toNat)
  case atStart=>exact⟨0,by omega,rfl,rfl,hO1,hO2,hE0⟩
  case round =>
   clear hO1 hO2 hE0
   obtain⟨i,hi,rfl,hall,hO1,hO2,hE⟩:=hrel
   have HAll:=hide hall
   clear hall
   by_cases hlt:i<L.length
   ·have hiI:(i:Int)<(L.length:Int):=by omega
    have HNx:=hide (take_next hlt)
    have hcl1:=fun s=>cntS_le (L.take i) s
    have hcl2:=fun s=>cntF_le (L.take i) s
    have hti:(L.take i).length≤L.length:=by rw[List.length_take];omega
    have HS1:=hide (fun s (hs:(zC (L.getD i default)).1.sym=((s:Nat):Int))=>cntS_next hlt hs)
    have HS2:=hide (fun (h0:(L.getD i default).len≠0) s (hs:(zC (L.getD i default)).1.dist=((s:Nat):Int))=>cntF_next hlt h0 hs)
    have HS3:=hide (fun (h0:(L.getD i default).len=0)=>cntF_lit hlt h0)
    have hMem:L.getD i default∈L:=by
     rw[List.getD_eq_getElem?_getD,List.getElem?_eq_getElem hlt]
     exact List.getElem_mem hlt
    have HMem:=hide hMem
    have CM:=fun W=>Xz (L.getD i default) W
    unfold jA at CM
    have hToks:=HT.out.below hE (Nat.le_refl _)
    rcases hToks.2 with h0 | ⟨b1,o1,rfl,hb1,hc⟩
    ·omega
    obtain⟨hAt,hOk⟩:=hc i hlt
    obtain⟨c0,c1,c2⟩:=hAt.cells
    clear hc hToks hAt hMem
    obtain⟨t,ht⟩:∃ t,t=L.getD i default:=⟨_,rfl⟩
    rw[← ht]at c0 c1 c2 hOk CM HS1 HS2 HS3 HMem HNx
    clear ht
    have hET:=zb wr (.cells #[.int .u8 (t.lit.toNat:Int),.int .i64 t.len,.int .i64 t.dist] 157)
    have hWT:=Whole.new wr 157 #[.int .u8 (t.lit.toNat:Int),.int .i64 t.len,.int .i64 t.dist]
    go_wp2_with (refine wpList_load_row rfl 157 (.tmp 8) rfl _ rfl _ _ _ _ hWT Tryz.underlying157 rfl x8 ?_)
    refine (CM _).mono ?_
    rintro e w2 ⟨rfl,hE2⟩
    clear CM c0 c1 c2 hWT
    have hE3:=hET.trans hE2
    have hF2:=hE.trans hE3
    have hO1':=hO1.ext hE3
    have hO2':=hO2.ext hE3
    clear hO1 hO2 hE hE2 hE3 hET
    cases hmay:may t with
    | false =>
     rw[jn hmay]
     have HM:=hide hmay
     clear hmay
     unfold pcV
     dsimp only
     go_wp2
     go_ret3
     refine⟨hF2.trans (zb _ _),?_⟩
     rw[if_neg (fun hA=>by have:=List.all_eq_true.1 hA t HMem.out;rw[HM.out]at this;exact Bool.noConfusion this)]
     rfl
    | true =>
     obtain⟨sy,x,cd,y,hsp,hsy,hcd,hcl⟩:=split_kind hmay
     rw[hsp]at HS1 HS2 ⊢
     have HNA:=hide (show (L.take (i+1)).all may=true by rw[HNx.out,List.all_append,HAll.out];simp[hmay])
     have HS1':=hide (HS1.out sy rfl)
     unfold pcV
     dsimp only at HS2 ⊢
     have hEa:=zb w2 (.cells #[.int .i64 (sy:Int),.int .i64 x,.int .i64 cd,.int .i64 y] 153)
     have hWP:=Whole.new w2 153 #[.int .i64 (sy:Int),.int .i64 x,.int .i64 cd,.int .i64 y]
     have hO1a:=hO1'.ext hEa
     have hO2a:=hO2'.ext hEa
     obtain⟨k1,k2⟩:=hO1a.cell (i:=sy) (by rw[cntS_len];exact hsy) (by rw[cntS_len])
     have hv1:=hcl1 sy
     have hS1:=hO1a.set sy ((cntS (L.take i)).getD sy 0+1) (by rw[cntS_len])
     rw[HS1'.out,show (((cntS (L.take i)).getD sy 0+1:Nat):Int)=(((cntS (L.take i)).getD sy 0:Nat):Int)+1 from rfl]at hS1
     have HSet1:=hide hS1
     have hFa:=hF2.trans hEa
     have hg1:w2.heap.size≠g1:=by have:=(hO1'.lt g1 rfl).2;omega
     have p0:=hWP.at 0 (u:=.int .i64 (sy:Int)) rfl
     have hWP3:=hWP.far hg1 sy (.int .u32 ((((cntS (L.take i)).getD sy 0:Nat):Int)+1))
     have hyI:(sy:Int)<265:=by omega
     clear hS1 HS1 HS1' hO1a hO1' hO2' hsp hmay
     generalize (cntS (L.take i)).getD sy 0=cv at *
     have hO2b:=hO2a.far (b:=g1) (i:=sy) (u:=.int .u32 ((cv:Int)+1)) (Ne.symm hne)
     have hF3:=hFa.setCell (g:=g1) (i:=sy) hw1 (.int .u32 ((cv:Int)+1))
     have hcvI:(cv:Int)+1<4294967296:=by omega
     have CI:=fun W=>jb ⟨(sy:Int),x,cd,y⟩ W
     unfold pcV at CI
     dsimp only at CI
     have HO2:=hide hO2b
     have HF3:=hide hF3
     clear hO2a hO2b hWP hEa hF2 hFa hF3 hg1
     go_wp2_with (refine wpList_load_row rfl 153 (.tmp 9) rfl _ rfl _ _ _ _ hWP3 Tryz.underlying153 rfl yh ?_)
     refine (CI _).mono ?_
     rintro e w5 ⟨rfl,hE5⟩
     have hO1c:=HSet1.out.ext hE5
     have hO2c:=HO2.out.ext hE5
     have hF5:=HF3.out.trans hE5
     have hWP5:=hWP3.ext hE5
     clear CI p0 k1 k2 hWP3 HSet1 HO2 HF3 hE5
     by_cases h0:t.len=0
     ·have HS3':=hide (HS3.out h0)
      have hsm:=hcl h0
      have hsmb:decide (257≤(sy:Int))=false:=decide_eq_false (by omega)
      rw[hsmb]
      have HF5:=hide hF5
      have HO1:=hide hO1c
      have HO2:=hide hO2c
      clear hO1c hO2c hcl1 hcl2 h0 HS2 HS3 hcd hcl hsm hsmb hF5 hWP5 hv1 hti
      go_wp2
      go_roundw
      case rel=>exact⟨i+1,by omega,by go_num,HNA.out,HO1.out,by rw[HS3'.out];exact HO2.out,HF5.out⟩
      case measure=>simp[intOf];omega
     ·obtain⟨hc0,hc1,hsm⟩:=hcd h0
      have hsmb:decide (257≤(sy:Int))=true:=decide_eq_true (by omega)
      rw[hsmb]
      obtain⟨cn,rfl⟩:=Int.eq_ofNat_of_zero_le hc0
      have HS2':=hide (HS2.out h0 cn rfl)
      obtain⟨k3,k4⟩:=hO2c.cell (i:=cn) (by rw[zL];omega) (by rw[zL])
      have hv2:=hcl2 cn
      have hS2:=hO2c.set cn ((zN (L.take i)).getD cn 0+1) (by rw[zL])
      rw[HS2'.out,show (((zN (L.take i)).getD cn 0+1:Nat):Int)=(((zN (L.take i)).getD cn 0:Nat):Int)+1 from rfl]at hS2
      have HSet2:=hide hS2
      have p2:=hWP5.at 2 (u:=.int .i64 (cn:Int)) rfl
      clear hO2c hcl1 hcl2 h0 HS2 HS3 hcd hcl HS2' hS2 hWP5
      generalize (zN (L.take i)).getD cn 0=cw at *
      have hcwI:(cw:Int)+1<4294967296:=by omega
      have HSet3:=hide (hO1c.far (b:=g2) (i:=cn) (u:=.int .u32 ((cw:Int)+1)) hne)
      have HF6:=hide (hF5.setCell (g:=g2) (i:=cn) hw2 (.int .u32 ((cw:Int)+1)))
      clear hO1c hF5 hc0 hsm hsmb hv2 hv1 hti
      clear hw2
      go_wp2
      go_roundw
      case rel=>exact⟨i+1,by omega,by go_num,HNA.out,HSet3.out,HSet2.out,HF6.out⟩
      case measure=>simp[intOf];omega
   ·obtain rfl:L.length=i:=by omega
    rw[List.take_length]at hO1 hO2 HAll
    obtain⟨k1,k2⟩:=hO1.cell (i:=256) (by rw[cntS_len];omega) (by rw[cntS_len])
    have hS1:=hO1.set 256 1 (by rw[cntS_len])
    rw[cnt_end HAll.out]at hS1
    have HSet1:=hide hS1
    have HO2:=hide hO2
    clear hS1 hO1 hO2
    generalize (cntS L).getD 256 0=cv at *
    go_wp2
    go_ret3
    refine⟨hE.setCell hw1 _,?_⟩
    rw[if_pos HAll.out]
    exact⟨g1,g2,hne,rfl,HSet1.out,HO2.out.far (Ne.symm hne)⟩
end
end Go.Proofs.YtpmedpdjglcdpaaGreatDoor
