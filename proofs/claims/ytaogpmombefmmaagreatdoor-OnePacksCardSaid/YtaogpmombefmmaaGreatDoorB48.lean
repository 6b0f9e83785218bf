/- Contract of the program's pairsOf: each two items put together. -/
import Derived.Test.YtaogpmombefmmaaGreatDoorB46
import Derived.Test.YtaogpmombefmmaaGreatDoorB47
import Derived.Shelf.Abstract
namespace Go.Proofs.YtaogpmombefmmaaGreatDoor
section
open Go.RowKit Go.Shelf Len
attribute [local go_sem] Oper.semAt_some
theorem wpListIn_makePI {F:Fence}{n:Nat}{ops:Array Oper}{rest:List Oper}{o:Oper}{a:Act}{Q:Exit→Act→World→Prop}{w:World}(hgd:o.guard=none)(c:Operand)(ho:o.op=.makeSlice 162 (.const (.int .i64 0)) c){m:Nat}{C:Int}(hc:a.eval c=.int .i64 C)(hC:C=(m:Int))(hm:m≤1000)
  (h:∀ w',OwnPI w' w.heap.size (.slice (some ⟨w.heap.size,0,none⟩) 0 m) []→Ext w w'→w.heap.size < w'.heap.size→wpListIn F n Tryz.prog ops Q rest (a.put o.dst (.slice (some ⟨w.heap.size,0,none⟩) 0 m)) w'):wpListIn F n Tryz.prog ops Q (o :: rest) a w:=by
 obtain ⟨i,hi,hz,hsz,hby⟩:=info_parts pitem_info
 exact wpListIn_make_own w hgd (.const (.int .i64 0)) c 162 ho w.heap.size 157 i _ 2 Tryz.underlying162 hi hz hsz .i64 .i64 C m rfl hc hC (by rw [hby];omega) (by unfold maxLen;omega) (Nat.le_refl _) fun w' h1 h2=>h w' h1 (Below.grown (Ext.refl w) h2 (Nat.le_refl _) fun k hk=>by cases hk) (h1.lt _ rfl).2
set_option maxHeartbeats 1000000 in
theorem chunk_in (n:Nat)(A:Option Addr)(m c:Nat)(w:World) :
  CallsIn Fence.wide n Tryz.prog 125 #[.slice A m c,.int .i64 2] w fun e w'=>e=.returned (.func (.func 136) #[] #[.pointer (some ⟨w.heap.size,0,none⟩),.pointer (some ⟨w.heap.size+1,0,none⟩)])∧w'=(w.alloc (.cells #[.slice A m c] 162)).alloc (.cells #[.int .i64 2] 3):=by
 refine callsIn_of_wp Tryz.func125 rfl trivial ?_ rfl
 simp only [Tryz.ntmps125,List.size_toArray,List.length_cons,List.length_nil,Nat.reduceAdd,Nat.reduceSub,Array.replicate_succ,Array.replicate_zero,List.push_toArray,List.append_toArray,List.nil_append,List.cons_append]
 gi_wp2
 go_ret
 exact ⟨rfl,rfl⟩
structure PairsI (w:World)(s:Nat)(A:Option Addr)(len c:Nat)(L:List PI)(k:Nat)(W:World):Prop where
 ex:∃ v,Whole W s 162 #[v]∧OwnPI W w.heap.size v ((pairsP L).take k)∧∀ x,v.ownBlock=some x→x < s∨s+3≤x
 b1:Whole W (s+1) 162 #[.slice A len c]
 b2:Whole W (s+1+1) 3 #[.int .i64 2]
 ext:Ext w W
theorem OwnPI.turn {W W':World}{base:Nat}{v:Value}{L:List PI}{row:Option Nat}(h:OwnPI W base v L)(hg:W.grownBy W' row)(hr:∀ r,row=some r→∃ o:Obj,W.heap[r]?=some o∧o.isCells=false):OwnPI W' base v L :=
 h.kept hg (by
  rcases h.2 with ⟨rfl,_⟩ | ⟨g,cap,cur,rfl,_,hgg,_⟩
  ·exact .inl rfl
  ·refine .inr fun e=>?_
   obtain ⟨o,h1,h2⟩:=hr g e.symm
   rw [hgg] at h1
   cases h1
   cases h2)
theorem PairsI.own {w:World}{s:Nat}{A:Option Addr}{len c B:Nat}{L:List PI}(hB:w.heap.size≤B):OwnFrom B (PairsI w s A len c L):=fun k W W' row h hg hr=>by
 have hr2:=fun r e=>(hr r e).2
 obtain ⟨v,h1,h2,h3⟩:=h.ex
 exact ⟨⟨v,h1.turn hg hr2,h2.turn hg hr2,h3⟩,h.b1.turn hg hr2,h.b2.turn hg hr2,Below.grown h.ext hg h.ext.le fun r e=>Nat.le_trans hB (hr r e).1⟩
set_option maxHeartbeats 4000000 in
set_option maxRecDepth 100000 in
theorem pairsOf_any {L:List PI}{g off len c:Nat}{w:World}(hn:len≤1000)(hc:len≤c)(hcm:c≤maxLen)(h:PIAt w w.heap.size (some ⟨g,off,none⟩) len L)(hw:∀ i,i < len→(L.getD i (0,0)).1 < 9223372036854775808) :
  Calls Tryz.prog 118 #[.slice (some ⟨g,off,none⟩) len c] w fun e w'=>∃ v,e=.returned v∧OwnPI w' w.heap.size v (pairsP L)∧Ext w w':=by
 have HW:=hide hw
 have HA:=hide h
 have HC:=hide hcm
 clear h hw hcm
 refine (callsIn_wide (n:=10)).1 ?_
 refine callsIn_of_wp_marks Tryz.func118 rfl trivial ?_ rfl
 simp only [Tryz.ntmps118,List.size_toArray,List.length_cons,List.length_nil,Nat.reduceAdd,Nat.reduceSub,Array.replicate_succ,Array.replicate_zero,List.push_toArray,List.append_toArray,List.nil_append,List.cons_append]
 gi_wp2_with (refine wpListIn_makePI (m:=len / 2) rfl (.tmp 7) rfl rfl (by omega) (by omega) ?_;intro w1 hR1 hE1 hs1)
 refine ⟨trivial,(chunk_in _ _ _ _ _).mono ?_⟩
 rintro e w' ⟨rfl,rfl⟩
 gi_wp2
 have hI0:PairsI w w1.heap.size (some ⟨g,off,none⟩) len c L 0 (((w1.alloc (.cells #[.slice (some ⟨w.heap.size,0,none⟩) 0 (len / 2)] 162)).alloc (.cells #[.slice (some ⟨g,off,none⟩) len c] 162)).alloc (.cells #[.int .i64 2] 3)):=by
  refine ⟨⟨_,((Whole.new w1 _ _).alloc _).alloc _,((hR1.ext (extNew _ _)).ext (extNew _ _)).ext (extNew _ _),fun x hx=>.inl ?_⟩,?_,?_,((hE1.alloc _).alloc _).alloc _⟩
  ·simp only [Value.ownBlock,Option.some.injEq] at hx
   omega
  ·have:=(Whole.new (w1.alloc (.cells #[.slice (some ⟨w.heap.size,0,none⟩) 0 (len / 2)] 162)) 162 #[.slice (some ⟨g,off,none⟩) len c]).alloc (.cells #[.int .i64 2] 3)
   rwa [World.size_alloc] at this
  ·have:=Whole.new ((w1.alloc (.cells #[.slice (some ⟨w.heap.size,0,none⟩) 0 (len / 2)] 162)).alloc (.cells #[.slice (some ⟨g,off,none⟩) len c] 162)) 3 #[.int .i64 2]
   rwa [World.size_alloc,World.size_alloc] at this
 have hB3:w.heap.size≤(((w1.alloc (.cells #[.slice (some ⟨w.heap.size,0,none⟩) 0 (len / 2)] 162)).alloc (.cells #[.slice (some ⟨g,off,none⟩) len c] 162)).alloc (.cells #[.int .i64 2] 3)).heap.size:=hI0.ext.le
 have hs3:w1.heap.size+3≤(((w1.alloc (.cells #[.slice (some ⟨w.heap.size,0,none⟩) 0 (len / 2)] 162)).alloc (.cells #[.slice (some ⟨g,off,none⟩) len c] 162)).alloc (.cells #[.int .i64 2] 3)).heap.size:=by simp
 generalize ((w1.alloc (.cells #[.slice (some ⟨w.heap.size,0,none⟩) 0 (len / 2)] 162)).alloc (.cells #[.slice (some ⟨g,off,none⟩) len c] 162)).alloc (.cells #[.int .i64 2] 3)=w3 at hI0 hB3 hs3 ⊢
 have hsw:=hE1.le
 clear hR1 hE1
 generalize w1.heap.size=s at *
 refine wpIn_rangeOwn (gf:=136) (lb:=#[.pointer (some ⟨s+1,0,none⟩),.pointer (some ⟨s+1+1,0,none⟩)]) rfl (enters_of Tryz.func136 (by kernel_rfl) rfl) ((len+1) / 2)
  (fun k=>#[.slice (some ⟨g,off+2*k*2,none⟩) (chunkN len k) (chunkN len k)]) (fun _=>rfl) (PairsI w s (some ⟨g,off,none⟩) len c L) (PairsI.own hB3) hI0
  (chunk_gives (by omega) hn hc HC.out fun k W h=>⟨h.b1.at 0 (u:=.slice (some ⟨g,off,none⟩) len c) rfl,h.b2.at 0 (u:=.int .i64 2) rfl⟩)
  (fun k=>{ tmps:=#[.slice (some ⟨g,off,none⟩) len c,undef,.slice none 0 0,.pointer (some ⟨s,0,none⟩),.slice (some ⟨g,off+2*k*2,none⟩) (chunkN len k) (chunkN len k),.slice (some ⟨g,off,none⟩) len c,.int .i64 (len:Int),.int .i64 ((len:Int) / 2),.slice (some ⟨w.heap.size,0,none⟩) 0 (len / 2),.slice (some ⟨g,off,none⟩) len c,
   .func (.func 136) #[] #[.pointer (some ⟨s+1,0,none⟩),.pointer (some ⟨s+1+1,0,none⟩)],.slice (some ⟨g,off+2*k*2,none⟩) (chunkN len k) (chunkN len k),undef,undef,undef,undef,undef,undef,undef,undef,undef,undef,undef,undef,undef,undef,undef,undef,undef],defers:=[] }) ?assign ?body ?done
 case assign =>
  intro l k W K hK
  generalize chunkN len k=e at *
  gi_wp2
  exact hK
 case body =>
  intro l k W hI hk
  obtain ⟨v,h1,h2,h3⟩:=hI.ex
  have c1:=h1.at 0 (u:=v) rfl
  by_cases hk2:2*k+1 < len
  ·have he:chunkN len k=2:=if_pos hk2
   rw [he]
   have hcell:∀ i,i < len→w.cell? ⟨g,off+i*2,none⟩=some (.int .u64 ((L.getD i (0,0)).1:Int)):=fun i hi=>by
    rcases HA.out.2 with h0 | ⟨b,o,e,_,hc⟩
    ·omega
    ·simp only [Option.some.injEq,Addr.mk.injEq,and_true] at e
     obtain ⟨rfl,rfl⟩:=e
     exact (hc i hi).1
   have hgw:g < w.heap.size:=World.block_lt_of_cell? w _ (hcell (2*k) (by omega))
   have i1:=(hI.ext.cell (i:=off+2*k*2) hgw).trans (hcell (2*k) (by omega))
   have i2:=(hI.ext.cell (i:=off+(2*k+1)*2) hgw).trans (hcell (2*k+1) (by omega))
   rw [show off+(2*k+1)*2=off+2*k*2+2 by omega] at i2
   have b1:=HW.out (2*k) (by omega)
   have b2:=HW.out (2*k+1) (by omega)
   have hpg:=pairsP_get L k (by rw [HA.out.1];exact hk2)
   have ht:(pairsP L).take (k+1)=(pairsP L).take k++[((L.getD (2*k) (0,0)).1+(L.getD (2*k+1) (0,0)).1,300)]:=by
    have hl:k < (pairsP L).length:=by rw [pairsP_len,HA.out.1];omega
    rw [List.take_succ_eq_append_getElem hl,← hpg]
    congr 2
    simp [List.getD_eq_getElem?_getD,hl]
   generalize (L.getD (2*k) (0,0)).1=x at *
   generalize (L.getD (2*k+1) (0,0)).1=y at *
   have hwr:IntKind.u64.wrap ((x:Int)+(y:Int))=((x+y:Nat):Int):=by
    simp [IntKind.wrap,IntKind.bits,IntKind.signed]
    omega
   have hrl:((pairsP L).take k).length≤100000:=by rw [List.length_take];omega
   have HT:=hide ht
   have H3:=hide h3
   have H1:=hide h1
   have H2:=hide h2
   have HX:=hide hI
   have hlt:=h1.lt
   obtain ⟨Av,cv,rfl,_,_,_⟩:=h2.form
   clear ht hpg he h1 h2 h3 hcell
   generalize (pairsP L).take k=T at *
   have hIw:=hI.ext.le
   have hgW:g < W.heap.size:=by omega
   have hEd:Ext W (W.alloc (.cells #[.int .u64 ((x:Int)+(y:Int)),.int .i64 300] 157)).drew:=(extNew W _).drew
   have hsd:W.heap.size < (W.alloc (.cells #[.int .u64 ((x:Int)+(y:Int)),.int .i64 300] 157)).drew.heap.size:=by
    show W.heap.size < (W.alloc _).heap.size
    rw [World.size_alloc]
    omega
   have hKo:KeepsOthers W (W.alloc (.cells #[.int .u64 ((x:Int)+(y:Int)),.int .i64 300] 157)).drew:=(KeepsOthers.alloc W _).trans (KeepsOthers.of_grownBy (row:=none) ⟨rfl,rfl,rfl,Nat.le_refl _,fun _ _ _=>rfl⟩ (fun _ _ h=>by cases h))
   have hone0:PIAt (W.alloc (.cells #[.int .u64 ((x:Int)+(y:Int)),.int .i64 300] 157)) (W.alloc (.cells #[.int .u64 ((x:Int)+(y:Int)),.int .i64 300] 157)).heap.size (some ⟨W.heap.size,0,none⟩) 1 [(x+y,300)]:=PIAt.one W (x+y,300)
   have hone:=hone0.ext (Ext.refl _).drew
   clear hone0
   gi_wp2
   refine wpIn_region_T (fun X=>Ext W X) 12 14 #[false,false,false,false,false,false,false,false,false,false,false,false,false,false] (by kernel_rfl) (fun ⟨_,_,h⟩=>h) (by kernel_rfl) rfl rfl (Ext.refl W).drew ?_
   intro hS0
   refine wpAnyT_take 0 (some 15) (.slice Av T.length cv) _ rfl rfl rfl (by kernel_rfl) (fun _ _ _ h=>h) hS0 (by rfl) (fun X hX=>by have f1:=(hX.cell (i:=0) hlt).trans c1;go_simp) ?_
   simp only [sP]
   refine wpAnyT_take 1 (some 16) (.slice (some ⟨g,off+2*k*2,none⟩) 2 2) _ rfl rfl rfl (by kernel_rfl) (fun _ _ _ h=>h) hS0 (by rfl) (fun X hX=>by go_simp) ?_
   simp only [sP]
   refine wpAnyT_take 2 (some 17) (.pointer (some ⟨g,off+2*k*2,none⟩)) _ rfl rfl rfl (by kernel_rfl) (fun _ _ _ h=>h) hS0 (by rfl) (fun X hX=>by go_simp) ?_
   simp only [sP]
   refine wpAnyT_take 3 (some 18) (.pointer (some ⟨g,off+2*k*2,none⟩)) _ rfl rfl rfl (by kernel_rfl) (fun _ _ _ h=>h) hS0 (by rfl) (fun X hX=>by go_simp) ?_
   simp only [sP]
   refine wpAnyT_take 4 (some 19) (.int .u64 (x:Int)) _ rfl rfl rfl (by kernel_rfl) (fun _ _ _ h=>h) hS0 (by rfl) (fun X hX=>by have f1:=(hX.cell (i:=off+2*k*2) hgW).trans i1;go_simp) ?_
   simp only [sP]
   refine wpAnyT_take 5 (some 20) (.slice (some ⟨g,off+2*k*2,none⟩) 2 2) _ rfl rfl rfl (by kernel_rfl) (fun _ _ _ h=>h) hS0 (by rfl) (fun X hX=>by go_simp) ?_
   simp only [sP]
   refine wpAnyT_take 6 (some 21) (.pointer (some ⟨g,off+2*k*2+2,none⟩)) _ rfl rfl rfl (by kernel_rfl) (fun _ _ _ h=>h) hS0 (by rfl) (fun X hX=>by go_simp) ?_
   simp only [sP]
   refine wpAnyT_take 7 (some 22) (.pointer (some ⟨g,off+2*k*2+2,none⟩)) _ rfl rfl rfl (by kernel_rfl) (fun _ _ _ h=>h) hS0 (by rfl) (fun X hX=>by go_simp) ?_
   simp only [sP]
   refine wpAnyT_take 8 (some 23) (.int .u64 (y:Int)) _ rfl rfl rfl (by kernel_rfl) (fun _ _ _ h=>h) hS0 (by rfl) (fun X hX=>by have f1:=(hX.cell (i:=off+2*k*2+2) hgW).trans i2;go_simp) ?_
   simp only [sP]
   refine wpAnyT_take 9 (some 24) (.int .u64 ((x+y:Nat):Int)) _ rfl rfl rfl (by kernel_rfl) (fun _ _ _ h=>h) hS0 (by rfl) (fun X hX=>by go_simp) ?_
   simp only [sP]
   refine wpAnyT_take 10 (some 25) (.agg #[.int .u64 ((x+y:Nat):Int),.int .i64 ((300:Nat):Int)]) _ rfl rfl rfl (by kernel_rfl) (fun _ _ _ h=>h) hS0 (by rfl) (fun X hX=>by go_simp) ?_
   simp only [sP]
   refine wpAnyT_only 11 _ (by kernel_rfl) rfl rfl (by rfl) (fun K0 hK0=>?_)
   go_simp
   refine hK0 _ _ (fun _=>hEd) ?_
   clear hK0 K0
   generalize (W.alloc (.cells #[.int .u64 ((x:Int)+(y:Int)),.int .i64 300] 157)).drew=w5 at *
   refine wpAnyT_only 12 _ (by kernel_rfl) rfl rfl (by rfl) (fun K1 hK1=>?_)
   refine wp_appPI (v:=.slice Av T.length cv) (.tmp 15) (.tmp 26) rfl rfl (H2.out.ext hEd) rfl hone hrl (by omega) (Nat.le_trans hIw hEd.le) ?_
   intro v6 w6 hO6 hG6 hn6
   refine hK1 _ _ (fun h=>absurd h (by decide)) ?_
   clear hK1 K1
   simp only [Act.put,List.setIfInBounds_toArray]
   have hne:∀ j,s≤j→j < s+3→(Value.slice Av T.length cv).ownBlock≠some j:=fun j h1 h2 h3=>by
    have:=H3.out j h3
    omega
   have hs1w:s+1+1 < W.heap.size:=HX.out.b2.lt
   have hne6:∀ j,s≤j→j < s+3→v6.ownBlock≠some j:=fun j h1 h2 h3=>by
    rcases hn6 with e | e
    ·exact hne j h1 h2 (e ▸ h3)
    ·rw [e] at h3
     simp only [Option.some.injEq] at h3
     omega
   have hW6:=(H1.out.ext hEd).ownGrown hG6 (hne s (Nat.le_refl _) (by omega))
   have hA6:=(HX.out.b1.ext hEd).ownGrown hG6 (hne (s+1) (by omega) (by omega))
   have hB6:=(HX.out.b2.ext hEd).ownGrown hG6 (hne (s+1+1) (by omega) (by omega))
   have hX6:Ext w w6:=Below.grown (HX.out.ext.trans hEd) hG6 (HX.out.ext.trans hEd).le (fun r hr=>(H2.out.lt r hr).1)
   have hK6:=hKo.trans (KeepsOthers.of_grownBy hG6 (fun j o hj ho=>by
    rcases (H2.out.ext hEd).2 with ⟨h,_⟩ | ⟨g1,c1,u1,h,_,hg1,_⟩
    ·rw [h] at hj;cases hj
    ·rw [h] at hj
     simp only [Value.ownBlock,Option.some.injEq] at hj
     subst hj
     rw [hg1] at ho
     cases ho
     rfl))
   have d1:=hW6.at 0 (u:=.slice Av T.length cv) rfl
   have d2:=hW6.frozen 0
   have HO6:=hide hO6
   have HN6:=hide hne6
   clear hne hne6 hn6
   generalize T++[(x+y,300)]=T2 at *
   obtain ⟨A6,c6,rfl,_,_,_⟩:=hO6.form
   clear hO6
   refine wpAnyT_only 13 _ (by kernel_rfl) rfl rfl (by rfl) (fun K2 hK2=>?_)
   go_simp
   refine hK2 _ _ (fun h=>absurd h (by decide)) (wpAnyT_done (by kernel_rfl) ?_ _)
   clear hK2 K2
   have hG7:=grown_setCell w6 s 0 (.slice A6 T2.length c6)
   refine ⟨(hK6.trans (KeepsOthers.setCell _ _ _)).from _,?_⟩
   refine ⟨⟨_,hW6.set 0 _,by rw [HT.out];exact HO6.out.kept hG7 (.inr (HN6.out s (Nat.le_refl _) (by omega))),fun j hj=>?_⟩,hA6.far (by omega) _ _,hB6.far (by omega) _ _,hX6.setCell (by omega) _⟩
   rcases Nat.lt_or_ge j s with h | h
   ·exact .inl h
   ·refine .inr (Nat.le_of_not_lt fun h2=>HN6.out j h h2 hj)
  ·have he:chunkN len k=1:=if_neg hk2
   rw [he]
   have ht:(pairsP L).take (k+1)=(pairsP L).take k:=by
    rw [List.take_of_length_le (by rw [pairsP_len,HA.out.1];omega),List.take_of_length_le (by rw [pairsP_len,HA.out.1];omega)]
   have HI:=hide (show PairsI w s (some ⟨g,off,none⟩) len c L (k+1) W from ⟨⟨v,h1,by rw [ht];exact h2,h3⟩,hI.b1,hI.b2,hI.ext⟩)
   clear ht h1 h2 h3 he
   gi_wp2
   exact ⟨KeepsFrom.refl _ _,HI.out⟩
 case done =>
  intro D W hD hI hK
  obtain ⟨v,h1,h2,h3⟩:=hI.ex
  rw [List.take_of_length_le (by rw [pairsP_len,HA.out.1];omega)] at h2
  have c1:=h1.at 0 (u:=v) rfl
  have hX:=hI.ext
  have H2:=hide h2
  obtain ⟨Av,cv,rfl,_,_,_⟩:=h2.form
  clear h1 h3 h2
  gi_wp2
  refine ⟨by simp,.inl ⟨_,_,rfl,run_takeDeferred hK,?_⟩⟩
  have hG:=grownBy_putObj' W D (.deferred none)
  exact ⟨_,results_tmp rfl _ _ _,.slice Av _ cv,rfl,H2.out.turn hG (fun r e=>by cases e;exact ⟨_,hK,rfl⟩),Below.grown hX hG hX.le (fun r e=>by cases e;omega)⟩
end
end Go.Proofs.YtaogpmombefmmaaGreatDoor
