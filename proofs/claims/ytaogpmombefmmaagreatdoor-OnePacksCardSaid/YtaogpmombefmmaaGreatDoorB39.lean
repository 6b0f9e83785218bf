/- The program's Count of chapter 11. -/
import Derived.Test.YtaogpmombefmmaaGreatDoorB23
import Derived.Test.YtaogpmombefmmaaGreatDoorB38
namespace Go.Proofs.YtaogpmombefmmaaGreatDoor
section
open Go.RowKit Lz Tok Len
theorem Tok.cnt_end {L:List TokV}(h:L.all may=true):(cntS L).set 256 1=countsS L:=by
 have e:(cntS L).getD 256 0=0:=by
  have h0:L.countP (isSym 256)=0:=List.countP_eq_zero.2 fun t ht hs=>by
   have:=(sym_range (List.all_eq_true.1 h t ht)).2.2.1
   exact this (of_decide_eq_true hs)
  simp [cntS,List.getD_eq_getElem?_getD,h0]
 rw [← cntS_end,e]
theorem Tok.split_kind {t:TokV}(h:may t=true):∃ (s:Nat) (x c y:Int),splitE t=(⟨s,x,c,y⟩,0)∧s < 265∧(t.len≠0→0≤c∧c < 12∧257≤s)∧(t.len=0→s < 257):=by
 by_cases h0:t.len=0
 ·have:=UInt8.toNat_lt t.lit
  exact ⟨t.lit.toNat,0,0,0,split_lit h h0,by omega,fun e=>absurd h0 e,fun _=>by omega⟩
 ·obtain ⟨k,x,c,y,hk,hx,hc,hy,e1,e2,e3⟩:=split_match h h0
  exact ⟨257+k,x,c,y,by rw [e3];rfl,by omega,fun _=>⟨by omega,by omega,by omega⟩,fun e=>absurd e h0⟩
set_option maxHeartbeats 1000000 in
set_option maxRecDepth 100000 in
theorem tcount_any (A:Option Addr)(n c:Nat)(L:List TokV)(w:World)(hn:n≤100000)(hT:ToksAt w w.heap.size A n L):Calls Tryz.prog 67 #[.slice A n c] w (CountTo w L):=by
 have M1:=fun W=>make_u32 W 265 (by omega)
 have M2:=fun W=>make_u32 W 12 (by omega)
 have N1:=hide (fun W=>OwnU.new W 265 (by omega))
 have N2:=hide (fun W=>OwnU.new W 12 (by omega))
 simp only [Int.cast_ofNat_Int] at M1 M2
 generalize madeCells #[Value.int .u32 0] 265=Z1 at *
 generalize madeCells #[Value.int .u32 0] 12=Z2 at *
 have P1:=hide (show OwnU ((w.alloc (.cells Z1 53)).alloc (.cells Z2 53)).drew w.heap.size (.slice (some ⟨w.heap.size,0,none⟩) 265 265) (List.replicate 265 0)∧OwnU ((w.alloc (.cells Z1 53)).alloc (.cells Z2 53)).drew w.heap.size (.slice (some ⟨w.heap.size+1,0,none⟩) 12 12) (List.replicate 12 0)∧Ext w ((w.alloc (.cells Z1 53)).alloc (.cells Z2 53)).drew from by
  have a:=N1.out w
  have b:=N2.out (w.alloc (.cells Z1 53))
  rw [World.size_alloc] at b
  exact ⟨(a.ext (extNew _ _)).ext (Ext.refl _).drew,(b.base (by omega)).ext (Ext.refl _).drew,((extNew w _).trans (extNew _ _)).drew⟩)
 have P2:=hide (show OwnU ((w.alloc (.cells Z2 53)).alloc (.cells Z1 53)).drew w.heap.size (.slice (some ⟨w.heap.size+1,0,none⟩) 265 265) (List.replicate 265 0)∧OwnU ((w.alloc (.cells Z2 53)).alloc (.cells Z1 53)).drew w.heap.size (.slice (some ⟨w.heap.size,0,none⟩) 12 12) (List.replicate 12 0)∧Ext w ((w.alloc (.cells Z2 53)).alloc (.cells Z1 53)).drew from by
  have a:=N2.out w
  have b:=N1.out (w.alloc (.cells Z2 53))
  rw [World.size_alloc] at b
  exact ⟨(b.base (by omega)).ext (Ext.refl _).drew,(a.ext (extNew _ _)).ext (Ext.refl _).drew,((extNew w _).trans (extNew _ _)).drew⟩)
 have HT:=hide hT
 have hl:=hT.1
 subst hl
 clear hT N1 N2
 go_enter Tryz.func67,Tryz.ntmps67
 go_upto_region 1 with fail
 go_cut [5,6] (fun x y wx=>∃ g1 g2:Nat,g1≠g2∧x=.slice (some ⟨g1,0,none⟩) 265 265∧y=.slice (some ⟨g2,0,none⟩) 12 12∧OwnU wx w.heap.size x (List.replicate 265 0)∧OwnU wx w.heap.size y (List.replicate 12 0)∧Ext w wx)
 case first =>
  go_region
  ·go_wp2_with fail
   go_meet
   exact ⟨w.heap.size,w.heap.size+1,by omega,rfl,rfl,P1.out⟩
  ·go_wp2_with fail
   go_meet
   exact ⟨w.heap.size+1,w.heap.size,by omega,rfl,rfl,P2.out⟩
 case rest =>
  clear M1 M2 P1 P2
  obtain ⟨g1,g2,hne,rfl,rfl,hO1,hO2,hE0⟩:=hcut
  have hw1:=(hO1.lt g1 rfl).1
  have hw2:=(hO2.lt g2 rfl).1
  rw [← cntS_nil] at hO1
  rw [← cntF_nil] at hO2
  go_wp2_with fail
  go_loopw [15] (fun x wr=>∃ i:Nat,i≤L.length∧x=.int .i64 (i:Int)∧(L.take i).all may=true∧OwnU wr w.heap.size (.slice (some ⟨g1,0,none⟩) 265 265) (cntS (L.take i))∧OwnU wr w.heap.size (.slice (some ⟨g2,0,none⟩) 12 12) (countsF (L.take i))∧Ext w wr) (fun x _=>L.length-(intOf x).toNat)
  case atStart=>exact ⟨0,by omega,rfl,rfl,hO1,hO2,hE0⟩
  case round =>
   clear hO1 hO2 hE0
   obtain ⟨i,hi,rfl,hall,hO1,hO2,hE⟩:=hrel
   have HAll:=hide hall
   clear hall
   by_cases hlt:i < L.length
   ·have hiI:(i:Int) < (L.length:Int):=by omega
    have HNx:=hide (take_next hlt)
    have hcl1:=fun s=>cntS_le (L.take i) s
    have hcl2:=fun s=>cntF_le (L.take i) s
    have hti:(L.take i).length≤L.length:=by rw [List.length_take];omega
    have HS1:=hide (fun s (hs:(splitE (L.getD i default)).1.sym=((s:Nat):Int))=>cntS_next hlt hs)
    have HS2:=hide (fun (h0:(L.getD i default).len≠0) s (hs:(splitE (L.getD i default)).1.dist=((s:Nat):Int))=>cntF_next hlt h0 hs)
    have HS3:=hide (fun (h0:(L.getD i default).len=0)=>cntF_lit hlt h0)
    have hMem:L.getD i default∈L:=by
     rw [List.getD_eq_getElem?_getD,List.getElem?_eq_getElem hlt]
     exact List.getElem_mem hlt
    have HMem:=hide hMem
    have CM:=fun W=>tsplit_any (L.getD i default) W
    unfold tokV at CM
    have hToks:=HT.out.below hE (Nat.le_refl _)
    rcases hToks.2 with h0 | ⟨b1,o1,rfl,hb1,hc⟩
    ·omega
    obtain ⟨hAt,hOk⟩:=hc i hlt
    obtain ⟨c0,c1,c2⟩:=hAt.cells
    clear hc hToks hAt hMem
    obtain ⟨t,ht⟩:∃ t,t=L.getD i default:=⟨_,rfl⟩
    rw [← ht] at c0 c1 c2 hOk CM HS1 HS2 HS3 HMem HNx
    clear ht
    have hET:=extNew wr (.cells #[.int .u8 (t.lit.toNat:Int),.int .i64 t.len,.int .i64 t.dist] 103)
    have hWT:=Whole.new wr 103 #[.int .u8 (t.lit.toNat:Int),.int .i64 t.len,.int .i64 t.dist]
    go_wp2_with (refine wpList_load_row rfl 103 (.tmp 8) rfl _ rfl _ _ _ _ hWT Tryz.underlying103 rfl tk_info ?_)
    refine (CM _).mono ?_
    rintro e w2 ⟨rfl,hE2⟩
    clear CM c0 c1 c2 hWT
    have hE3:=hET.trans hE2
    have hF2:=hE.trans hE3
    have hO1':=hO1.ext hE3
    have hO2':=hO2.ext hE3
    clear hO1 hO2 hE hE2 hE3 hET
    cases hmay:may t with
    | false =>
     rw [split_bad hmay]
     have HM:=hide hmay
     clear hmay
     unfold pcV
     dsimp only
     go_wp2
     go_ret3
     refine ⟨hF2.trans (extNew _ _),?_⟩
     rw [if_neg (fun hA=>by have:=List.all_eq_true.1 hA t HMem.out;rw [HM.out] at this;exact Bool.noConfusion this)]
     rfl
    | true =>
     obtain ⟨sy,x,cd,y,hsp,hsy,hcd,hcl⟩:=split_kind hmay
     rw [hsp] at HS1 HS2 ⊢
     have HNA:=hide (show (L.take (i+1)).all may=true by rw [HNx.out,List.all_append,HAll.out];simp [hmay])
     have HS1':=hide (HS1.out sy rfl)
     unfold pcV
     dsimp only at HS2 ⊢
     have hEa:=extNew w2 (.cells #[.int .i64 (sy:Int),.int .i64 x,.int .i64 cd,.int .i64 y] 99)
     have hWP:=Whole.new w2 99 #[.int .i64 (sy:Int),.int .i64 x,.int .i64 cd,.int .i64 y]
     have hO1a:=hO1'.ext hEa
     have hO2a:=hO2'.ext hEa
     obtain ⟨k1,k2⟩:=hO1a.cell (i:=sy) (by rw [cntS_len];exact hsy) (by rw [cntS_len])
     have hv1:=hcl1 sy
     have hS1:=hO1a.set sy ((cntS (L.take i)).getD sy 0+1) (by rw [cntS_len])
     rw [HS1'.out,show (((cntS (L.take i)).getD sy 0+1:Nat):Int)=(((cntS (L.take i)).getD sy 0:Nat):Int)+1 from rfl] at hS1
     have HSet1:=hide hS1
     have hFa:=hF2.trans hEa
     have hg1:w2.heap.size≠g1:=by have:=(hO1'.lt g1 rfl).2;omega
     have p0:=hWP.at 0 (u:=.int .i64 (sy:Int)) rfl
     have hWP3:=hWP.far hg1 sy (.int .u32 ((((cntS (L.take i)).getD sy 0:Nat):Int)+1))
     have hyI:(sy:Int) < 265:=by omega
     clear hS1 HS1 HS1' hO1a hO1' hO2' hsp hmay
     generalize (cntS (L.take i)).getD sy 0=cv at *
     have hO2b:=hO2a.far (b:=g1) (i:=sy) (u:=.int .u32 ((cv:Int)+1)) (Ne.symm hne)
     have hF3:=hFa.setCell (g:=g1) (i:=sy) hw1 (.int .u32 ((cv:Int)+1))
     have hcvI:(cv:Int)+1 < 4294967296:=by omega
     have CI:=fun W=>isMatch_any ⟨(sy:Int),x,cd,y⟩ W
     unfold pcV at CI
     dsimp only at CI
     have HO2:=hide hO2b
     have HF3:=hide hF3
     clear hO2a hO2b hWP hEa hF2 hFa hF3 hg1
     go_wp2_with (refine wpList_load_row rfl 99 (.tmp 9) rfl _ rfl _ _ _ _ hWP3 Tryz.underlying99 rfl pc_info ?_)
     refine (CI _).mono ?_
     rintro e w5 ⟨rfl,hE5⟩
     have hO1c:=HSet1.out.ext hE5
     have hO2c:=HO2.out.ext hE5
     have hF5:=HF3.out.trans hE5
     have hWP5:=hWP3.ext hE5
     clear CI p0 k1 k2 hWP3 HSet1 HO2 HF3 hE5
     by_cases h0:t.len=0
     ·have HS3':=hide (HS3.out h0)
      have hsm:=hcl h0
      have hsmb:decide (257≤(sy:Int))=false:=decide_eq_false (by omega)
      rw [hsmb]
      have HF5:=hide hF5
      have HO1:=hide hO1c
      have HO2:=hide hO2c
      clear hO1c hO2c hcl1 hcl2 h0 HS2 HS3 hcd hcl hsm hsmb hF5 hWP5 hv1 hti
      go_wp2
      go_roundw
      case rel=>exact ⟨i+1,by omega,by go_num,HNA.out,HO1.out,by rw [HS3'.out];exact HO2.out,HF5.out⟩
      case measure=>simp [intOf];omega
     ·obtain ⟨hc0,hc1,hsm⟩:=hcd h0
      have hsmb:decide (257≤(sy:Int))=true:=decide_eq_true (by omega)
      rw [hsmb]
      obtain ⟨cn,rfl⟩:=Int.eq_ofNat_of_zero_le hc0
      have HS2':=hide (HS2.out h0 cn rfl)
      obtain ⟨k3,k4⟩:=hO2c.cell (i:=cn) (by rw [countsF_len];omega) (by rw [countsF_len])
      have hv2:=hcl2 cn
      have hS2:=hO2c.set cn ((countsF (L.take i)).getD cn 0+1) (by rw [countsF_len])
      rw [HS2'.out,show (((countsF (L.take i)).getD cn 0+1:Nat):Int)=(((countsF (L.take i)).getD cn 0:Nat):Int)+1 from rfl] at hS2
      have HSet2:=hide hS2
      have p2:=hWP5.at 2 (u:=.int .i64 (cn:Int)) rfl
      clear hO2c hcl1 hcl2 h0 HS2 HS3 hcd hcl HS2' hS2 hWP5
      generalize (countsF (L.take i)).getD cn 0=cw at *
      have hcwI:(cw:Int)+1 < 4294967296:=by omega
      have HSet3:=hide (hO1c.far (b:=g2) (i:=cn) (u:=.int .u32 ((cw:Int)+1)) hne)
      have HF6:=hide (hF5.setCell (g:=g2) (i:=cn) hw2 (.int .u32 ((cw:Int)+1)))
      clear hO1c hF5 hc0 hsm hsmb hv2 hv1 hti
      clear hw2
      go_wp2
      go_roundw
      case rel=>exact ⟨i+1,by omega,by go_num,HNA.out,HSet3.out,HSet2.out,HF6.out⟩
      case measure=>simp [intOf];omega
   ·obtain rfl:L.length=i:=by omega
    rw [List.take_length] at hO1 hO2 HAll
    obtain ⟨k1,k2⟩:=hO1.cell (i:=256) (by rw [cntS_len];omega) (by rw [cntS_len])
    have hS1:=hO1.set 256 1 (by rw [cntS_len])
    rw [cnt_end HAll.out] at hS1
    have HSet1:=hide hS1
    have HO2:=hide hO2
    clear hS1 hO1 hO2
    generalize (cntS L).getD 256 0=cv at *
    go_wp2
    go_ret3
    refine ⟨hE.setCell hw1 _,?_⟩
    rw [if_pos HAll.out]
    exact ⟨g1,g2,hne,rfl,HSet1.out,HO2.out.far (Ne.symm hne)⟩
end
end Go.Proofs.YtaogpmombefmmaaGreatDoor
