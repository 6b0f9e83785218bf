/- The document's Count of chapter 11. What the laws of chapter 11 ask of the program; the example; ToksSplits, ToksJoins. ToksJoins. -/
import Derived.Test.YtpmedpdjglcdpaaGreatDoorB12
import Derived.Test.YtpmedpdjglcdpaaGreatDoorB15
import Derived.Test.YtpmedpdjglcdpaaGreatDoorB22
import Derived.Deep.DeepCutAuto
import Derived.Deep.OwnRows
import Derived.BigQuiet
namespace Go.Proofs.YtpmedpdjglcdpaaGreatDoor
section
open Go.RowKit Lz Tok Len
theorem Tok.cnt_set {p:Nat→TokV→Bool}{m s:Nat}{L:List TokV}{t:TokV}(h:∀ q,q<m→p q t=decide (q=s)) :
  ((List.range m).map fun q=>L.countP (p q)).set s (((List.range m).map fun q=>L.countP (p q)).getD s 0+1)=(List.range m).map fun q=>(L++[t]).countP (p q):=by
 refine List.ext_getElem (by simp) fun i h1 h2=>?_
 simp only[List.length_set,List.length_map,List.length_range]at h1
 rw[List.getElem_set]
 simp only[List.getElem_map,List.getElem_range,List.countP_append,List.countP_singleton,h i h1]
 by_cases e:s=i
 ·subst e
  simp[List.getD_eq_getElem?_getD,h1]
 ·rw[if_neg e,if_neg (by simp;omega)]
  rfl
theorem Tok.cnt_same {p:Nat→TokV→Bool}{m:Nat}{L:List TokV}{t:TokV}(h:∀ q,q<m→p q t=false) :
  ((List.range m).map fun q=>(L++[t]).countP (p q))=(List.range m).map fun q=>L.countP (p q):=by
 refine List.ext_getElem (by simp) fun i h1 h2=>?_
 simp only[List.length_map,List.length_range]at h1
 simp[List.countP_append,h i h1]
def Tok.cntS (L:List TokV):List Nat:=(List.range 265).map fun q=>L.countP (ZV q)
theorem Tok.cntS_len (L:List TokV):(cntS L).length=265:=by simp[cntS]
theorem Tok.cnt_nil (p:Nat→TokV→Bool)(m:Nat):((List.range m).map fun q=>List.countP (p q) [])=List.replicate m 0:=by
 refine List.ext_getElem (by simp) fun i h1 h2=>?_
 simp
theorem Tok.cntS_nil:cntS []=List.replicate 265 0:=cnt_nil ZV 265
theorem Tok.cntF_nil:zN []=List.replicate 12 0:=cnt_nil Xb 12
theorem Tok.cntS_end (L:List TokV):(cntS L).set 256 ((cntS L).getD 256 0+1)=yG L:=by
 refine List.ext_getElem (by simp[cntS,yG]) fun i h1 h2=>?_
 rw[List.length_set,cntS_len]at h1
 rw[List.getElem_set]
 by_cases e:256=i
 ·subst e
  simp[cntS,yG,List.getD_eq_getElem?_getD]
 ·rw[if_neg e]
  simp[cntS,yG]
  omega
theorem Tok.cntS_le (L:List TokV)(q:Nat):(cntS L).getD q 0≤L.length:=by
 rw[List.getD_eq_getElem?_getD]
 rcases Nat.lt_or_ge q 265 with h|h
 ·simp[cntS,h]
  exact List.countP_le_length
 ·rw[List.getElem?_eq_none (by rw[cntS_len];exact h)]
  exact Nat.zero_le _
theorem Tok.cntF_le (L:List TokV)(q:Nat):(zN L).getD q 0≤L.length:=by
 rw[List.getD_eq_getElem?_getD]
 rcases Nat.lt_or_ge q 12 with h|h
 ·simp[zN,h]
  exact List.countP_le_length
 ·rw[List.getElem?_eq_none (by rw[zL];exact h)]
  exact Nat.zero_le _
theorem Tok.take_next {L:List TokV}{i:Nat}(hi:i<L.length):L.take (i+1)=L.take i++[L.getD i default]:=by
 rw[List.take_add_one,List.getD_eq_getElem?_getD,List.getElem?_eq_getElem hi]
 rfl
theorem Tok.cntS_next {L:List TokV}{i s:Nat}(hi:i<L.length)(hs:(zC (L.getD i default)).1.sym=(s:Int)):(cntS (L.take i)).set s ((cntS (L.take i)).getD s 0+1)=cntS (L.take (i+1)):=by
 rw[take_next hi]
 exact cnt_set (p:=ZV) fun q hq=>by unfold ZV;rw[hs];exact decide_eq_decide.2 ⟨fun h=>by omega,fun h=>by omega⟩
theorem Tok.cntF_next {L:List TokV}{i s:Nat}(hi:i<L.length)(h0:(L.getD i default).len≠0)(hs:(zC (L.getD i default)).1.dist=(s:Int)):(zN (L.take i)).set s ((zN (L.take i)).getD s 0+1)=zN (L.take (i+1)):=by
 rw[take_next hi]
 exact cnt_set (p:=Xb) fun q hq=>by unfold Xb;rw[hs];exact decide_eq_decide.2 ⟨fun h=>by omega,fun h=>⟨h0,by omega⟩⟩
theorem Tok.cntF_lit {L:List TokV}{i:Nat}(hi:i<L.length)(h0:(L.getD i default).len=0):zN (L.take (i+1))=zN (L.take i):=by
 rw[take_next hi]
 exact cnt_same (p:=Xb) fun q hq=>decide_eq_false fun h=>h.1 h0
theorem OwnU.new (w:World)(n:Nat)(hn:n≤1000):OwnU (w.alloc (.cells (madeCells #[.int .u32 0] n) 72)) w.heap.size (.slice (some ⟨w.heap.size,0,none⟩) n n) (List.replicate n 0):=by
 unfold OwnU World.ownsRow
 refine⟨by simp,.inr ⟨w.heap.size,n,madeCells #[.int .u32 0] n,by simp,Nat.le_refl _,heap_alloc_new w _,(by simp),by unfold maxLen;omega,by simp[size_madeCells],?_⟩⟩
 have e:(madeCells #[Value.int .u32 0] n).toList=(List.replicate n (0:Nat)).map acJ:=by
  have:madeCells #[Value.int .u32 0] n=((List.replicate n (0:Nat)).map acJ).toArray:=by
   apply Array.ext
   ·simp[size_madeCells]
   ·intro i h1 h2
    simp[madeCells,acJ,Nat.mod_one]
  rw[this]
 rw[e,List.take_of_length_le (by simp)]
theorem OwnU.base {w:World}{b b':Nat}{v:Value}{L:List Nat}(h:OwnU w b v L)(hb:b'≤b):OwnU w b' v L:=by
 refine⟨h.1,h.2.imp id ?_⟩
 rintro⟨g,cap,cur,e,hg,r⟩
 exact⟨g,cap,cur,e,by omega,r⟩
theorem OwnU.far {w:World}{base g b n c i:Nat}{u:Value}{L:List Nat}(h:OwnU w base (.slice (some ⟨g,0,none⟩) n c) L)(hg:g≠b):OwnU (w.setCell ⟨b,i,none⟩ u) base (.slice (some ⟨g,0,none⟩) n c) L :=
 World.ownsRow.kept h (zk w b i u) (.inr fun e=>hg (by simpa[Value.ownBlock] using e))
theorem Tok.split_form {t:TokV}(h:may t=true):∃ (s:Nat) (x c y:Int),zC t=(⟨s,x,c,y⟩,0)∧s<265∧(t.len≠0→0≤c∧c<12):=by
 by_cases h0:t.len=0
 ·have:=UInt8.toNat_lt t.lit
  exact⟨t.lit.toNat,0,0,0,xq h h0,by omega,fun e=>absurd h0 e⟩
 ·obtain⟨k,x,c,y,hk,hx,hc,hy,e1,e2,e3⟩:=xQ h h0
  exact⟨257+k,x,c,y,by rw[e3];rfl,by omega,fun _=>⟨by omega,by omega⟩⟩
theorem qU (W:World)(n:Nat)(hn:n≤1000):(Instr.makeSlice 141 (.int .i64 (n:Int)) (.int .i64 (n:Int))).run Tryz.prog W=.ok (.slice (some ⟨W.heap.size,0,none⟩) n n) (W.alloc (.cells (madeCells #[.int .u32 0] n) 72)) :=
 run_make_row' 141 72 (.int .u32 0) 4 Tryz.underlying141 acK rfl .i64 .i64 n (by omega) (by omega) W
def aaN (w:World)(L:List TokV)(e:Ending)(w':World):Prop:=Ext w w' ∧
 if L.all may then ∃ g1 g2:Nat,g1≠g2∧e=.returned (.tuple #[.slice (some ⟨g1,0,none⟩) 265 265,.slice (some ⟨g2,0,none⟩) 12 12,.int .i64 0])∧OwnU w' w.heap.size (.slice (some ⟨g1,0,none⟩) 265 265) (yG L)∧OwnU w' w.heap.size (.slice (some ⟨g2,0,none⟩) 12 12) (zN L)
 else e=.returned (.tuple #[.slice none 0 0,.slice none 0 0,.int .i64 7])
set_option maxHeartbeats 400000 in
set_option maxRecDepth 100000 in
theorem UO (A:Option Addr)(n c:Nat)(L:List TokV)(w:World)(hn:n≤100000)(hT:ToksAt w w.heap.size A n L):Calls Tryz.prog 116 #[.slice A n c] w (aaN w L):=by
 have M1:=fun W=>qU W 265 (by omega)
 have M2:=fun W=>qU W 12 (by omega)
 have N1:=hide (fun W=>OwnU.new W 265 (by omega))
 have N2:=hide (fun W=>OwnU.new W 12 (by omega))
 simp only[Int.cast_ofNat_Int]at M1 M2
 generalize madeCells #[Value.int .u32 0] 265=Z1 at *
 generalize madeCells #[Value.int .u32 0] 12=Z2 at *
 have P1:=hide (show OwnU ((w.alloc (.cells Z1 72)).alloc (.cells Z2 72)).drew w.heap.size (.slice (some ⟨w.heap.size,0,none⟩) 265 265) (List.replicate 265 0)∧OwnU ((w.alloc (.cells Z1 72)).alloc (.cells Z2 72)).drew w.heap.size (.slice (some ⟨w.heap.size+1,0,none⟩) 12 12) (List.replicate 12 0)∧Ext w ((w.alloc (.cells Z1 72)).alloc (.cells Z2 72)).drew from by
  have a:=N1.out w
  have b:=N2.out (w.alloc (.cells Z1 72))
  rw[World.size_alloc]at b
  exact⟨(a.ext (zb _ _)).ext (Ext.refl _).drew,(b.base (by omega)).ext (Ext.refl _).drew,((zb w _).trans (zb _ _)).drew⟩)
 have P2:=hide (show OwnU ((w.alloc (.cells Z2 72)).alloc (.cells Z1 72)).drew w.heap.size (.slice (some ⟨w.heap.size+1,0,none⟩) 265 265) (List.replicate 265 0)∧OwnU ((w.alloc (.cells Z2 72)).alloc (.cells Z1 72)).drew w.heap.size (.slice (some ⟨w.heap.size,0,none⟩) 12 12) (List.replicate 12 0)∧Ext w ((w.alloc (.cells Z2 72)).alloc (.cells Z1 72)).drew from by
  have a:=N2.out w
  have b:=N1.out (w.alloc (.cells Z2 72))
  rw[World.size_alloc]at b
  exact⟨(b.base (by omega)).ext (Ext.refl _).drew,(a.ext (zb _ _)).ext (Ext.refl _).drew,((zb w _).trans (zb _ _)).drew⟩)
 have HT:=hide hT
 have hl:=hT.1
 subst hl
 clear hT N1 N2
 go_enter Tryz.func116,Tryz.ntmps116
 go_upto_region 1 with fail
 go_cut [5,6] (fun x y wx=>∃ g1 g2:Nat,g1≠g2∧x=.slice (some ⟨g1,0,none⟩) 265 265∧y=.slice (some ⟨g2,0,none⟩) 12 12∧OwnU wx w.heap.size x (List.replicate 265 0)∧OwnU wx w.heap.size y (List.replicate 12 0)∧Ext w wx)
 case first =>
  go_region
  ·go_wp2_with fail
   go_meet
   exact⟨w.heap.size,w.heap.size+1,by omega,rfl,rfl,P1.out⟩
  ·go_wp2_with fail
   go_meet
   exact⟨w.heap.size+1,w.heap.size,by omega,rfl,rfl,P2.out⟩
 case rest =>
  clear M1 M2 P1 P2
  obtain⟨g1,g2,hne,rfl,rfl,hO1,hO2,hE0⟩:=hcut
  have hw1:=(hO1.lt g1 rfl).1
  have hw2:=(hO2.lt g2 rfl).1
  rw[← cntS_nil]at hO1
  rw[← cntF_nil]at hO2
  go_wp2_with fail
  go_loopw [7] (fun x wr=>∃ i:Nat,i≤L.length∧x=.int .i64 (i:Int)∧(L.take i).all may=true∧OwnU wr w.heap.size (.slice (some ⟨g1,0,none⟩) 265 265) (cntS (L.take i))∧OwnU wr w.heap.size (.slice (some ⟨g2,0,none⟩) 12 12) (zN (L.take i))∧Ext w wr) (fun x _=>L.length-(intOf x).toNat)
  case atStart=>exact⟨0,by omega,rfl,rfl,hO1,hO2,hE0⟩
  case round =>
   clear hO1 hO2 hE0
   obtain⟨i,hi,rfl,hall,hO1,hO2,hE⟩:=hrel
   have HAll:=hide hall
   clear hall
   by_cases hlt:i<L.length
   ·have hiI:(i:Int)<(L.length:Int):=by omega
    have HNx:=hide (take_next hlt)
    have hcl1:=fun s=>cntS_le (L.take i) s
    have hcl2:=fun s=>cntF_le (L.take i) s
    have hti:(L.take i).length≤L.length:=by rw[List.length_take];omega
    have HS1:=hide (fun s (hs:(zC (L.getD i default)).1.sym=((s:Nat):Int))=>cntS_next hlt hs)
    have HS2:=hide (fun (h0:(L.getD i default).len≠0) s (hs:(zC (L.getD i default)).1.dist=((s:Nat):Int))=>cntF_next hlt h0 hs)
    have HS3:=hide (fun (h0:(L.getD i default).len=0)=>cntF_lit hlt h0)
    have hMem:L.getD i default∈L:=by
     rw[List.getD_eq_getElem?_getD,List.getElem?_eq_getElem hlt]
     exact List.getElem_mem hlt
    have HMem:=hide hMem
    have CM:=fun W=>qR (L.getD i default) W
    unfold jA at CM
    have hToks:=HT.out.below hE (Nat.le_refl _)
    rcases hToks.2 with h0 | ⟨b1,o1,rfl,hb1,hc⟩
    ·omega
    obtain⟨hAt,hOk⟩:=hc i hlt
    obtain⟨c0,c1,c2⟩:=hAt.cells
    clear hc hToks hAt hMem
    obtain⟨t,ht⟩:∃ t,t=L.getD i default:=⟨_,rfl⟩
    rw[← ht]at c0 c1 c2 hOk CM HS1 HS2 HS3 HMem HNx
    have HCell:=hide (show ∀ W,Ext w W→W.cell? ⟨b1,o1+i*3+1,none⟩=some (.int .i64 t.len) from fun W hW=>by
     have:=(HT.out.below hW (Nat.le_refl _)).2
     rcases this with h0 | ⟨b',o',e',_,hc'⟩
     ·omega
     simp only[Option.some.injEq,Addr.mk.injEq,and_true]at e'
     obtain⟨rfl,rfl⟩:=e'
     have:=(hc' i hlt).1
     rw[← ht]at this
     exact this.2.1)
    clear ht
    have HLit:=hide (show t.len=0→may t=true→zC t=(⟨t.lit.toNat,0,0,0⟩,0) from fun a b=>xq b a)
    go_wp2_with fail
    refine (CM wr).mono ?_
    rintro e w2 ⟨rfl,hE2⟩
    clear CM c0 c1 c2
    have hF2:=hE.trans hE2
    have hO1':=hO1.ext hE2
    have hO2':=hO2.ext hE2
    clear hO1 hO2 hE hE2
    cases hmay:may t with
    | false =>
     rw[jn hmay]
     have HM:=hide hmay
     clear hmay
     unfold pcV
     dsimp only
     go_wp2
     go_ret3
     refine⟨hF2.trans (zb _ _),?_⟩
     rw[if_neg (fun hA=>by have:=List.all_eq_true.1 hA t HMem.out;rw[HM.out]at this;exact Bool.noConfusion this)]
     rfl
    | true =>
     obtain⟨sy,x,cd,y,hsp,hsy,hcd⟩:=split_form hmay
     rw[hsp]at HS1 HS2 ⊢
     have HNA:=hide (show (L.take (i+1)).all may=true by rw[HNx.out,List.all_append,HAll.out];simp[hmay])
     have HMay:=hide hmay
     have HS1':=hide (HS1.out sy rfl)
     unfold pcV
     dsimp only at HS2 ⊢
     have hEa:=zb w2 (.cells #[.int .i64 (sy:Int),.int .i64 x,.int .i64 cd,.int .i64 y] 153)
     have hO1a:=hO1'.ext hEa
     have hO2a:=hO2'.ext hEa
     obtain⟨k1,k2⟩:=hO1a.cell (i:=sy) (by rw[cntS_len];exact hsy) (by rw[cntS_len])
     have hv1:=hcl1 sy
     have hS1:=hO1a.set sy ((cntS (L.take i)).getD sy 0+1) (by rw[cntS_len])
     rw[HS1'.out,show (((cntS (L.take i)).getD sy 0+1:Nat):Int)=(((cntS (L.take i)).getD sy 0:Nat):Int)+1 from rfl]at hS1
     have HSet1:=hide hS1
     have hFa:=hF2.trans hEa
     have HG:=hide (hO1'.lt g1 rfl).2
     have hyI:(sy:Int)<265:=by omega
     clear hS1 HS1 HS1' hO1a hO1' hO2' hsp hmay
     generalize (cntS (L.take i)).getD sy 0=cv at *
     have hO2b:=hO2a.far (b:=g1) (i:=sy) (u:=.int .u32 ((cv:Int)+1)) (Ne.symm hne)
     have hF3:=hFa.setCell (g:=g1) (i:=sy) hw1 (.int .u32 ((cv:Int)+1))
     have d1:=HCell.out _ hF3
     have hcvI:(cv:Int)+1<4294967296:=by omega
     by_cases h0:t.len=0
     ·have HS3':=hide (HS3.out h0)
      rw[h0]at d1
      have HO2:=hide hO2b
      clear hO2a hO2b hcl1 hcl2 h0 HS2 HS3 HLit hcd HCell
      go_wp2
      go_roundw
      case rel=>exact⟨i+1,by omega,by go_num,HNA.out,HSet1.out,by rw[HS3'.out];exact HO2.out,hF3⟩
      case measure=>simp[intOf];omega
     ·obtain⟨hc0,hc1⟩:=hcd h0
      obtain⟨cn,rfl⟩:=Int.eq_ofNat_of_zero_le hc0
      have hlp:0<t.len:=by have:=(may_facts HMay.out h0).2.1;omega
      have HS2':=hide (HS2.out h0 cn rfl)
      obtain⟨k3,k4⟩:=hO2b.cell (i:=cn) (by rw[zL];omega) (by rw[zL])
      have hv2:=hcl2 cn
      have hS2:=hO2b.set cn ((zN (L.take i)).getD cn 0+1) (by rw[zL])
      rw[HS2'.out,show (((zN (L.take i)).getD cn 0+1:Nat):Int)=(((zN (L.take i)).getD cn 0:Nat):Int)+1 from rfl]at hS2
      have HSet2:=hide hS2
      clear hO2a hO2b hcl1 hcl2 h0 HS2 HS3 HLit hcd HCell HS2' hS2
      generalize (zN (L.take i)).getD cn 0=cw at *
      have hcwI:(cw:Int)+1<4294967296:=by omega
      have HSet3:=hide (HSet1.out.far (b:=g2) (i:=cn) (u:=.int .u32 ((cw:Int)+1)) hne)
      go_upto_region 9 with fail
      have hpc:(w2.alloc (.cells #[.int .i64 (sy:Int),.int .i64 x,.int .i64 (cn:Int),.int .i64 y] 153)).cell? ⟨w2.heap.size,2,none⟩=some (.int .i64 (cn:Int)):=(Whole.new w2 153 #[.int .i64 (sy:Int),.int .i64 x,.int .i64 (cn:Int),.int .i64 y]).at 2 rfl
      have hg1:w2.heap.size≠g1:=by have:=HG.out;omega
      have hp4:((w2.alloc (.cells #[.int .i64 (sy:Int),.int .i64 x,.int .i64 (cn:Int),.int .i64 y] 153)).setCell ⟨g1,sy,none⟩ (.int .u32 ((cv:Int)+1))).cell? ⟨w2.heap.size,2,none⟩=some (.int .i64 (cn:Int)):=((Whole.new w2 153 #[.int .i64 (sy:Int),.int .i64 x,.int .i64 (cn:Int),.int .i64 y]).far hg1 sy _).at 2 rfl
      clear hpc k1 k2 hg1 hc0 HG
      generalize (w2.alloc (.cells #[.int .i64 (sy:Int),.int .i64 x,.int .i64 (cn:Int),.int .i64 y] 153)).setCell ⟨g1,sy,none⟩ (.int .u32 ((cv:Int)+1))=W4 at *
      go_wp2
      go_roundw
      case rel=>exact⟨i+1,by omega,by go_num,HNA.out,HSet3.out,HSet2.out,hF3.setCell hw2 _⟩
      case measure=>simp[intOf];omega
   ·obtain rfl:L.length=i:=by omega
    rw[List.take_length]at hO1 hO2 HAll
    obtain⟨k1,k2⟩:=hO1.cell (i:=256) (by rw[cntS_len];omega) (by rw[cntS_len])
    have hv1:=cntS_le L 256
    have hS1:=hO1.set 256 ((cntS L).getD 256 0+1) (by rw[cntS_len])
    rw[cntS_end]at hS1
    have HSet1:=hide hS1
    have HO2:=hide hO2
    clear hS1 hO1 hO2
    generalize (cntS L).getD 256 0=cv at *
    have hcvI:(cv:Int)+1<4294967296:=by omega
    go_wp2
    go_ret3
    refine⟨hE.setCell hw1 _,?_⟩
    rw[if_pos HAll.out]
    exact⟨g1,g2,hne,rfl,HSet1.out,HO2.out.far (Ne.symm hne)⟩
end
end Go.Proofs.YtpmedpdjglcdpaaGreatDoor
