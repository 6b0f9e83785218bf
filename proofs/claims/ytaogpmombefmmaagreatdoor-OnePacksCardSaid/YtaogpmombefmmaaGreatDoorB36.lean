/- The program's lz.trail: of each place how far back the last one with the same three bytes is. -/
import Derived.Test.YtaogpmombefmmaaGreatDoorB20
import Derived.Test.YtaogpmombefmmaaGreatDoorB35
import Derived.Carry
namespace Go.Proofs.YtaogpmombefmmaaGreatDoor
section
open Go.RowKit Lz
def r16V (x:Nat):Value:=.int .u16 (x:Int)
def OwnR (w:World)(base:Nat)(v:Value)(L:List Nat):Prop:=w.ownsRow base 131 1 v L.length (L.map r16V)
theorem r16_info:(Tryz.prog.info? 131).map (fun i=>(i.zero,i.size,i.bytes))=some (some (.int .u16 0),1,2):=by kernel_rfl
section
variable {w w':World}{base g n c:Nat}{v:Value}{L:List Nat}
theorem OwnR.ext (h:OwnR w base v L)(hE:Ext w w'):OwnR w' base v L:=World.ownsRow.kept h (hE.grown none) (by cases hv:v.ownBlock <;> simp)
theorem OwnR.len (h:OwnR w base (.slice (some ⟨g,0,none⟩) n c) L):n=L.length:=by
 rcases h.2 with ⟨h',_⟩ | ⟨_,_,_,h',_⟩
 ·simp at h'
 ·simp only [Value.slice.injEq] at h';exact h'.2.1
theorem OwnR.lt (h:OwnR w base (.slice (some ⟨g,0,none⟩) n c) L):base≤g∧g < w.heap.size:=World.ownsRow.lt h g rfl
theorem OwnR.grown (h:OwnR w base (.slice (some ⟨g,0,none⟩) n c) L){m:Nat}(hg:w.grownBy w' (some m))(hne:g≠m):OwnR w' base (.slice (some ⟨g,0,none⟩) n c) L :=
 World.ownsRow.kept h hg (.inr (by simp [Value.ownBlock,hne]))
theorem OwnR.cell (h:OwnR w base (.slice (some ⟨g,0,none⟩) n c) L){i:Nat}(hi:i < L.length) :
  w.cell? ⟨g,i,none⟩=some (.int .u16 ((L.getD i 0:Nat):Int))∧w.frozen? ⟨g,i,none⟩=false:=by
 have hn:=h.len
 subst hn
 refine ⟨?_,World.ownsRow.frozenAt h i⟩
 rw [World.ownsRow.cellAt h i (by omega)]
 simp [r16V,hi]
theorem OwnR.set (h:OwnR w base (.slice (some ⟨g,0,none⟩) n c) L)(i x:Nat) :
  OwnR (w.setCell ⟨g,i,none⟩ (.int .u16 (x:Int))) base (.slice (some ⟨g,0,none⟩) n c) (L.set i x):=by
 have hn:=h.len
 subst hn
 have:=(World.ownsRow.stored h i (.int .u16 (x:Int))).1
 unfold OwnR
 rw [List.length_set,List.map_set]
 exact this
end
theorem wpList_makeR {ops:Array Oper}{rest:List Oper}{o:Oper}{a:Act}{Q:Exit→Act→World→Prop}{w:World}(hgd:o.guard=none)(x y:Operand)(ho:o.op=.makeSlice 93 x y){n:Nat}(hx:a.eval x=.int .i64 (n:Int))(hy:a.eval y=.int .i64 (n:Int))(hn:n≤1000000)
  (h:∀ w',OwnR w' w.heap.size (.slice (some ⟨w.heap.size,0,none⟩) n n) (List.replicate n 0)→Ext w w'→wpList Tryz.prog ops Q rest (a.put o.dst (.slice (some ⟨w.heap.size,0,none⟩) n n)) w'):wpList Tryz.prog ops Q (o :: rest) a w:=by
 obtain ⟨i,hi,hz,hsz,hby⟩:=info_parts r16_info
 refine wpList_make_full w hgd x y 93 ho w.heap.size 131 i _ 1 Tryz.underlying93 hi hz hsz .i64 .i64 _ _ n hx hy rfl rfl (by rw [hby];omega) (by unfold maxLen;omega) (Nat.le_refl _) ?_
 intro w' h1 h2
 refine h w' ?_ (Below.grown (Ext.refl w) h2 (Nat.le_refl _) fun k hk=>by cases hk)
 unfold OwnR
 have e:(madeCells (Value.int .u16 0).cells (n*1)).toList=(List.replicate n (0:Nat)).map r16V:=by
  have:madeCells (Value.int .u16 0).cells n=((List.replicate n (0:Nat)).map r16V).toArray:=by
   apply Array.ext
   ·simp [size_madeCells]
   ·intro i h1 h2
    simp [madeCells,Value.cells,r16V,Nat.mod_one]
  rw [Nat.mul_one,this]
 rw [e] at h1
 simpa using h1
theorem wpList_makeM {ops:Array Oper}{rest:List Oper}{o:Oper}{a:Act}{Q:Exit→Act→World→Prop}{w:World}(hgd:o.guard=none){t:TypeId}(ho:o.op=.makeMap t none)
  (h:wpList Tryz.prog ops Q rest (a.put o.dst (.map (some w.heap.size))) (w.alloc (.map #[] 0))):wpList Tryz.prog ops Q (o :: rest) a w:=by
 refine wpList_plain hgd fun _ hK=>?_
 unfold Oper.wp execOp
 simp only [ho,Instr.makeMap]
 exact hK _ _ h
theorem three_size:(Tryz.prog.info? 139).map (·.size)=some 3:=by kernel_rfl
def TrailTo (w:World)(b:List UInt8)(e:Ending)(w':World):Prop:=∃ g c2,e=.returned (.slice (some ⟨g,0,none⟩) b.length c2)∧w.heap.size≤g∧g < w'.heap.size∧TrailAt w' g b∧Ext w w'
set_option maxHeartbeats 4000000 in
set_option maxRecDepth 100000 in
theorem lzTrail_any (A:Option Addr)(n c:Nat)(b:List UInt8)(w:World)(hn:n≤100000)(hnc:n≤c)(h:Bytes w w.heap.size A n b):Calls Tryz.prog 73 #[.slice A n c] w (TrailTo w b):=by
 have hl:=h.1
 subst hl
 have hn1:b.length≤1000000:=by omega
 have HB:=hide h
 go_enter Tryz.func73,Tryz.ntmps73
 go_wp2_with (first
  | (at_make;refine wpList_makeR rfl (.tmp 10) (.tmp 10) rfl rfl rfl hn1 ?_;intro w1 hO1 hE1;have hO1':=hide hO1;have hE1':=hide hE1)
  | (refine wpList_makeM rfl rfl ?_;have hM2:=hide (MapF.made w1);have hE2:=hide (extNew w1 (.map #[] 0))))
 have hE3:=hide (hE1'.out.trans hE2.out)
 have hO3:=hide (hO1'.out.ext hE2.out)
 have hg1:w.heap.size < w1.heap.size:=(hO1'.out.lt).2
 clear hO1 hE1 hO1' hE1' hE2
 go_loopw [17] (fun x wr=>∃ i:Nat,(i+2≤b.length∨i=0)∧x=.int .i64 (i:Int)∧OwnR wr w.heap.size (.slice (some ⟨w.heap.size,0,none⟩) b.length b.length) (trailN b i)∧MapF wr w1.heap.size i (fun k=>lastOf b k i)∧Ext w wr) (fun x _=>b.length-(intOf x).toNat)
 case atStart=>exact ⟨0,.inr rfl,rfl,by rw [trail_zero];exact hO3.out,hM2.out,hE3.out⟩
 case round =>
  clear hE3 hO3 hM2
  obtain ⟨i,hi,rfl,hO,hM,hE⟩:=hrel
  by_cases hlt:i+3≤b.length
  ·have hltI:(i:Int) < (b.length:Int)-3+1:=by omega
   have hi1:i≤1000000:=by omega
   rcases (hE.bytes HB.out).2 with h0 | ⟨b1,o1,rfl,_,hc⟩
   ·omega
   have hcs:wr.rangeAt b1 (o1+i) [.int .u8 ((three b i).1.toNat:Int),.int .u8 ((three b i).2.1.toNat:Int),.int .u8 ((three b i).2.2.toNat:Int)]:=by
    intro j v hv
    match j,hv with
    | 0,hv=>rw [← hv];exact hc i (by omega)
    | 1,hv=>rw [← hv];exact hc (i+1) (by omega)
    | 2,hv=>rw [← hv];exact hc (i+2) (by omega)
    | j+3,hv=>simp at hv
   have r1:=fun W=>run_mid W (some ⟨b1,o1,none⟩) b.length c .i64 .i64 (i:Int) ((i:Int)+3) (by omega) (by omega) (by omega)
   rw [show ((i:Int)+3).toNat-(i:Int).toNat=3 by omega,Int.toNat_natCast,show cutAt (some ⟨b1,o1,none⟩) c i=some ⟨b1,o1+i,none⟩ by unfold cutAt;rw [if_neg (by omega)];simp [Addr.add]] at r1
   have hBn:=hide (show lastOf b (three b i) i=none→backAt b i=0 from back_none hlt)
   have hBs:=hide (show ∀ p,lastOf b (three b i) i=some p→p < i∧backAt b i=if i-p≤4095 then i-p else 0 from fun p hp=>⟨(lastOf_some hp).1,back_some hlt hp⟩)
   have hLst:=hide (show (fun k=>lastOf b k (i+1))=fun k=>if three b i=k then some i else lastOf b k i from rfl)
   have hSet:=hide (trail_set b i)
   have hSame:=hide (fun h=>trail_same (b:=b) (i:=i) h)
   have hTl:=trail_len b i
   obtain ⟨f,hf⟩:∃ f,f=fun k=>lastOf b k i:=⟨_,rfl⟩
   have hBn2:=hide (show f (three b i)=none→backAt b i=0 from fun h=>hBn.out (by rw [hf] at h;exact h))
   have hBs2:=hide (show ∀ p,f (three b i)=some p→p < i∧backAt b i=if i-p≤4095 then i-p else 0 from fun p h=>hBs.out p (by rw [hf] at h;exact h))
   have hLst2:=hide (show (fun k=>lastOf b k (i+1))=fun k=>if three b i=k then some i else f k from by rw [hf];exact hLst.out)
   rw [← hf] at hM
   clear hf hBn hBs hLst hc
   generalize three b i=k at *
   generalize backAt b i=bk at *
   generalize trailN b i=L at *
   obtain ⟨x,hx⟩:∃ x,x=k.1.toNat:=⟨_,rfl⟩
   obtain ⟨y,hy⟩:∃ y,y=k.2.1.toNat:=⟨_,rfl⟩
   obtain ⟨z,hz⟩:∃ z,z=k.2.2.toNat:=⟨_,rfl⟩
   have hE4:=extNew wr (.cells #[.int .u8 (k.1.toNat:Int),.int .u8 (k.2.1.toNat:Int),.int .u8 (k.2.2.toNat:Int)] 139)
   have hK:=Whole.new wr 139 #[.int .u8 (k.1.toNat:Int),.int .u8 (k.2.1.toNat:Int),.int .u8 (k.2.2.toNat:Int)]
   have hMk:=hM.ext hE4
   have hOk:=hO.ext hE4
   have hEk:=hE.trans hE4
   have hgm:w.heap.size≠w1.heap.size:=by omega
   have hs1:w.heap.size≤w1.heap.size:=by omega
   have hlm:=hM.lt
   clear hM hO hE hE4 hx hy hz x y z
   cases hfk:f k with
   | none =>
    have hbk:=hide (Eq.symm (hSame.out (hBn2.out hfk)))
    clear hBn2 hBs2 hSame hSet
    go_wp2_with (first
     | (refine wpList_arrAt rfl 139 (.tmp 24) rfl Tryz.underlying139 rfl (Nat.le_refl _) ?_)
     | (refine wpList_load_mid rfl 139 (.tmp 25) rfl b1 (o1+i) rfl _ _ hcs Tryz.underlying139 rfl three_size ?_)
     | (at_lookup;refine wpList_lookF rfl (.tmp 28) (.tmp 29) rfl rfl hMk k rfl ?_;intro cc hc0 hc1;have hcc:=hc0 hfk;subst hcc;clear hc0 hc1)
     | (at_mapUpdate;refine wpList_putF rfl (.tmp 47) (.tmp 48) (.tmp 49) rfl rfl hMk hi1 k rfl i hi1 rfl ?_;intro w5 hM5 hG5)
     | (refine wpList_load_row rfl 139 (.tmp 6) rfl _ rfl _ _ _ _ hK Tryz.underlying139 rfl three_size ?_))
    have hO5:=hOk.grown hG5 hgm
    have hE5:Ext w w5:=Below.grown hEk hG5 hEk.size (fun k hk=>by cases hk;omega)
    clear hG5
    go_roundw
    case rel=>exact ⟨i+1,.inl (by omega),by go_num,by rw [hbk.out];exact hO5,by rw [hLst2.out];exact hM5,hE5⟩
    case measure=>simp [intOf];omega
   | some p =>
    obtain ⟨hpi,hbp⟩:=hBs2.out p hfk
    by_cases h4:i-p≤4095
    ·rw [if_pos h4] at hbp
     have hipI:(i:Int)-(p:Int)=(bk:Int):=by omega
     have hbI:(bk:Int)≤4095:=by omega
     have hbk:=hide (Eq.symm hSet.out)
     obtain ⟨hcell,hfro⟩:=hOk.cell (i:=i) (by omega)
     have hOs:=hOk.set i bk
     have hgs:=grown_setCell (wr.alloc (.cells #[.int .u8 (k.1.toNat:Int),.int .u8 (k.2.1.toNat:Int),.int .u8 (k.2.2.toNat:Int)] 139)) w.heap.size i (.int .u16 (bk:Int))
     have hMs:=hMk.kept hgs (by simp;omega)
     have hEs:=Below.grown hEk hgs hEk.le (fun k hk=>by cases hk;omega)
     have hiL:i < b.length:=by omega
     clear hBn2 hBs2 hSame hSet hbp hgs
     go_wp2_with (first
      | (refine wpList_arrAt rfl 139 (.tmp 24) rfl Tryz.underlying139 rfl (Nat.le_refl _) ?_)
      | (refine wpList_load_mid rfl 139 (.tmp 25) rfl b1 (o1+i) rfl _ _ hcs Tryz.underlying139 rfl three_size ?_)
      | (at_lookup;refine wpList_lookF rfl (.tmp 28) (.tmp 29) rfl rfl hMk k rfl ?_;intro cc hc0 hc1;have hcc:=hc1 p hfk;subst hcc;clear hc0 hc1)
      | (at_mapUpdate;refine wpList_putF rfl (.tmp 47) (.tmp 48) (.tmp 49) rfl rfl hMs hi1 k rfl i hi1 rfl ?_;intro w5 hM5 hG5)
      | (refine wpList_load_row rfl 139 (.tmp 6) rfl _ rfl _ _ _ _ hK Tryz.underlying139 rfl three_size ?_))
     have hO5:=hOs.grown hG5 hgm
     have hE5:Ext w w5:=Below.grown hEs hG5 hEs.size (fun k hk=>by cases hk;omega)
     clear hG5
     go_roundw
     case rel=>exact ⟨i+1,.inl (by omega),by go_num,by rw [hbk.out];exact hO5,by rw [hLst2.out];exact hM5,hE5⟩
     case measure=>simp [intOf];omega
    ·rw [if_neg h4] at hbp
     have hipI:¬ (i:Int)-(p:Int)≤4095:=by omega
     have hbk:=hide (Eq.symm (hSame.out hbp))
     clear hBn2 hBs2 hSame hSet hbp
     go_wp2_with (first
      | (refine wpList_arrAt rfl 139 (.tmp 24) rfl Tryz.underlying139 rfl (Nat.le_refl _) ?_)
      | (refine wpList_load_mid rfl 139 (.tmp 25) rfl b1 (o1+i) rfl _ _ hcs Tryz.underlying139 rfl three_size ?_)
      | (at_lookup;refine wpList_lookF rfl (.tmp 28) (.tmp 29) rfl rfl hMk k rfl ?_;intro cc hc0 hc1;have hcc:=hc1 p hfk;subst hcc;clear hc0 hc1)
      | (at_mapUpdate;refine wpList_putF rfl (.tmp 47) (.tmp 48) (.tmp 49) rfl rfl hMk hi1 k rfl i hi1 rfl ?_;intro w5 hM5 hG5)
      | (refine wpList_load_row rfl 139 (.tmp 6) rfl _ rfl _ _ _ _ hK Tryz.underlying139 rfl three_size ?_))
     have hO5:=hOk.grown hG5 hgm
     have hE5:Ext w w5:=Below.grown hEk hG5 hEk.size (fun k hk=>by cases hk;omega)
     clear hG5
     go_roundw
     case rel=>exact ⟨i+1,.inl (by omega),by go_num,by rw [hbk.out];exact hO5,by rw [hLst2.out];exact hM5,hE5⟩
     case measure=>simp [intOf];omega
  ·have hltI:¬ (i:Int) < (b.length:Int)-3+1:=by omega
   have hAll:=hide (trail_all (b:=b) (i:=i) (by omega))
   have hlt2:=hO.lt.2
   have HO:=hide hO
   go_wp2
   go_ret
   refine ⟨_,_,rfl,Nat.le_refl _,hlt2,fun p hp=>?_,hE⟩
   have h1:=(HO.out.cell (i:=p) (by rw [trail_len];exact hp)).1
   rw [h1,hAll.out,List.getD_eq_getElem?_getD,List.getElem?_map,List.getElem?_range hp]
   rfl
end
end Go.Proofs.YtaogpmombefmmaaGreatDoor
