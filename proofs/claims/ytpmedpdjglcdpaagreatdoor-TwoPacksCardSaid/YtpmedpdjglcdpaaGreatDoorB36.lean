/- A loop over an iterator that is never left early: what comes in round k is known; the loop's own invariant tells how many rounds are over. The library's slices.Backward and slices.Chunk at rows of items: what comes, round by round. Contract -/
import Derived.Test.YtpmedpdjglcdpaaGreatDoorB02
import Derived.Test.YtpmedpdjglcdpaaGreatDoorB06
import Derived.Test.YtpmedpdjglcdpaaGreatDoorB18
import Derived.Test.YtpmedpdjglcdpaaGreatDoorB35
import Derived.RangeFuncNested
import Derived.RangeFuncBox
import Derived.RangeFuncLeaves
import Derived.OwnWalkIn
import Derived.TacticsInMore
import Derived.LoopNIn
import Derived.LoopIn
import Derived.Shelf.Abstract
namespace Go.Proofs.YtpmedpdjglcdpaaGreatDoor
section
open Go.RowKit
def Calm (J:Nat→World→Prop):Prop:=∀ k W W',J k W→W.grownBy W' none→J k W'
def UV (n:Nat)(P:Program)(g:Nat)(lb:Array Value)(encs:Nat→Array Value)(N:Nat)(I:Nat→World→Prop)(w:World):Prop :=
 ∀ (l:Nat) (J:Nat→World→Prop) (W:World),Ext w W→(∀ k W,J k W→I k W)→Calm J →
  (∀ k W,J k W→k<N→YieldAt Fence.wide (n-1) P l (encs k) W fun e W'=>e=.returned (.bool true)∧J (k+1) W')→J 0 W →
  CallsIn Fence.wide n P g (#[.func (.yield l) #[] #[]]++lb) W fun e W'=>(∃ v,e=.returned v)∧J N W'
def adb (B:Nat)(I:World→Prop)(W:World):Exit→Act→World→Prop
 | .normal,_,W'=>KeepsFrom B W W'∧I W'
 | _,_,_=>False
theorem vR {P:Program}{g:Operand}{ps:Array Tmp}{assign body:Code}{Q:Exit→Act→World→Prop}{a:Act}{w:World}{n:Nat}
  {gf:Nat} {lb:Array Value} (hg:a.eval g=.func (.func gf) #[] lb) (eg:∀ args w,(callFunc gf args).run P w=.ok (.enter gf args) w)
  (N:Nat) (encs:Nat→Array Value) (hps:∀ k,(encs k).size=ps.size) (I:Nat→World→Prop) (hI:OwnFrom w.heap.size I) (h0:I 0 w) (hseq:UV (n-1) P gf lb encs N I w) (a₁:Nat→Act)
  (hassign:∀ (l k:Nat) (W:World) (K:Act→World→Prop),K (a₁ k) W →
   assign.wpIn (Fence.wide.inRound l) (n-1-1) P (Exit.then K (fun _ _ _=>False)) { tmps:=(ps.zip (encs k)).foldl (fun t (p,v)=>t.setIfInBounds p v) a.tmps,defers:=[] } W)
  (hbody:∀ (l k:Nat) (W:World),I k W→k<N→body.wpIn (Fence.wide.inRound l) (n-1-1) P (adb w.heap.size (I (k+1)) W) (a₁ k) W)
  (hdone:∀ (D:Nat) (W:World),w.heap.size≤D→I N W→W.heap[D]?=some (.deferred (some []))→Q .normal { a with defers:={ target:=.collected D,args:=#[] } :: a.defers } W) :
  (Code.rangeFunc g ps assign body).wpIn Fence.wide n P Q a w:=by
 refine wpIn_rangeFunc ?_
 intro fn hfn
 obtain⟨rec,hrec⟩:∃ rec:LoopState→Loop,rec=fun st=>{ state:=st,pending:=none,fn,tmps:=a.tmps,params:=ps,assign,body,defers:=w.heap.size }:=⟨_,rfl⟩
 have hs1:((w.alloc (.deferred (some []))).alloc (.loop (rec .ready))).heap.size=w.heap.size+2:=by simp
 have hL:((w.alloc (.deferred (some []))).alloc (.loop (rec .ready))).heap[w.heap.size+1]?=some (.loop (rec .ready)):=by
  have:=World.alloc_heap_new (w.alloc (.deferred (some []))) (.loop (rec .ready))
  rwa [World.size_alloc]at this
 have hD:((w.alloc (.deferred (some []))).alloc (.loop (rec .ready))).heap[w.heap.size]?=some (.deferred (some [])):=(Below.heap_alloc _ _ _ (by simp)).trans (World.alloc_heap_new w _)
 have hI1:I 0 ((w.alloc (.deferred (some []))).alloc (.loop (rec .ready))):=hI.alloc _ (hI.alloc _ h0)
 have hE1:Ext w ((w.alloc (.deferred (some []))).alloc (.loop (rec .ready))):=(zb w _).alloc _
 refine⟨w.heap.size+1,[{ target:=.collected w.heap.size,args:=#[] }],(w.alloc (.deferred (some []))).alloc (.loop (rec .ready)),{ target:=.fn (.func gf) lb,args:=#[.func (.yield (w.heap.size+1)) #[] #[]] },(w.alloc (.deferred (some []))).alloc (.loop (rec .ready)),gf,
  #[.func (.yield (w.heap.size+1)) #[] #[]]++lb,(w.alloc (.deferred (some []))).alloc (.loop (rec .ready)),?_,?_,fun _ _=>trivial,?_,(fun h=>by cases h),?_⟩
 ·rw[hrec]
  exact run_enterLoop_outer _ _ _ _ _
 ·simp only[resolve,hg]
  simp[go_sem]
 ·simp[invoke,go_sem,eg]
 ·generalize (w.alloc (.deferred (some []))).alloc (.loop (rec .ready))=W1 at hs1 hL hD hI1 hE1
  refine (hseq (w.heap.size+1) (fun k W=>I k W∧W.heap[w.heap.size+1]?=some (.loop (rec .ready))∧W.heap[w.heap.size]?=some (.deferred (some []))) W1 hE1 (fun _ _ h=>h.1)
   (fun k A B ⟨h1,h2,h3⟩ hG=>⟨hI k A B none h1 hG (fun r e=>by cases e),(hG.block _ (Array.getElem?_eq_some_iff.1 h2).1 (by simp)).trans h2,(hG.block _ (Array.getElem?_eq_some_iff.1 h3).1 (by simp)).trans h3⟩) ?_ ⟨hI1,hL,hD⟩).mono ?_
  ·rintro k W ⟨hi,hl,hd⟩ hk
   have hlt:w.heap.size+1<W.heap.size:=(Array.getElem?_eq_some_iff.1 hl).1
   have hy:=run_yield (P:=P) (args:=encs k) hl (by rw[hrec];exact hps k)
   rw[hrec]at hy
   have hb:=hbody (w.heap.size+1) k _ (hI.putObj (.loop { rec .ready with state:=.busy }) hi (by omega) hl rfl) hk
   refine⟨fn,_,assign,body,hy,roundIn_of_wpIn hfn (hassign _ k W _ ⟨_,run_beginRound hl (by rw[hrec]),wpIn_mono hb ?_⟩)⟩
   have hl2:(W.putObj (w.heap.size+1) (.loop { rec .ready with state:=.busy })).heap[w.heap.size+1]?=some (.loop { rec .ready with state:=.busy }):=World.putObj_heap_same hlt
   have hd2:(W.putObj (w.heap.size+1) (.loop { rec .ready with state:=.busy })).heap[w.heap.size]?=some (.deferred (some [])):=(World.putObj_heap_other (by omega)).trans hd
   intro e a3 W3 hp
   cases e with
   | normal =>
    obtain⟨hk3,hi3⟩:=hp
    have hl3:=hk3.same _ _ (by omega) hl2 rfl
    have hd3:=hk3.same _ _ (Nat.le_refl _) hd2 rfl
    have hr:=run_endRound (P:=P) none hl3
    refine⟨_,_,hr,rfl,hI.putObj _ hi3 (by omega) hl3 rfl,?_,(World.putObj_heap_other (by omega)).trans hd3⟩
    rw[World.putObj_heap_same (Array.getElem?_eq_some_iff.1 hl3).1,hrec]
    rfl
   | ret=>exact hp.elim
   | exit id=>exact hp.elim
   | goto t=>exact hp.elim
   | panic ch=>exact hp.elim
   | outgrown=>exact hp.elim
  ·rintro e W2 ⟨⟨v,rfl⟩,hi,hl,hd⟩
   refine⟨none,_,?_,hdone _ _ (Nat.le_refl _) (hI.putObj (.loop { rec .ready with state:=.exhausted }) hi (by omega) hl rfl) ((World.putObj_heap_other (by omega)).trans hd)⟩
   have:=run_endLoop (P:=P) hl (by rw[hrec];simp)
   rw[hrec]at this ⊢
   exact this
theorem VW {P:Program}{o:Oper}{a:Act}{w:World}{K:Act→World→Prop}{Q:Exit→Act→World→Prop}(l n:Nat)(hd:∀ c,o.op≠.defer c)(h:o.wp P a w K Q):o.wpIn (Fence.wide.inRound l) n P a w K Q:=by
 refine⟨fun _ _=>trivial,?_⟩
 rw[Oper.semAt_plain (Fence.wide.inRound l) a.eval o hd]
 unfold Oper.wp at h
 generalize (execOp a.eval o).run P w=r at *
 cases r with
 | ok x w' =>
  cases x with
  | value v=>exact h
  | skip=>exact h
  | defer d=>exact h
  | enter f args=>exact⟨(fun h=>by cases h),CallsIn.inRound l (callsIn_wide.2 h)⟩
  | row row args =>
   refine⟨(fun h=>by cases h),fun c cs _=>?_⟩
   obtain⟨v,w2,h1,h2⟩:=h c cs
   exact⟨v,w2,h1,(stepsIn_wide (P:=P)).2 h2⟩
  | _=>exact h.elim
 | halt x w'=>cases x<;>first | exact h | exact h.elim
def UW (ops:Array Oper):Bool:=ops.all fun o=>match o.op with
 | .defer _=>false
 | _=>true
theorem aag {ops:Array Oper}(h:UW ops=true){i:Nat}{o:Oper}(hi:ops[i]?=some o):∀ c,o.op≠.defer c:=by
 intro c hc
 have hm:o∈ops:=Array.mem_of_getElem? hi
 have:=Array.all_eq_true_iff_forall_mem.1 h o hm
 rw[hc]at this
 cases this
theorem qY {P:Program}{ops:Array Oper}{Q:Exit→Act→World→Prop}(l n:Nat)(hd:UW ops=true)(hQ:¬ LetsOut Q):∀ (is:List Nat) (a:Act) (w:World),wpOps P ops Q is a w→wpOpsIn (Fence.wide.inRound l) n P ops Q is a w
 | [],_,_,h=>h
 | i::is,a,w,h=>by
  unfold wpOps at h
  unfold wpOpsIn
  cases hi:ops[i]? with
  | none =>
   rw[hi]at h
   exact qY l n hd hQ is a w h
  | some o =>
   rw[hi]at h
   simp only at h ⊢
   split
   ·rename_i hw
    rw[if_pos hw]at h
    rcases h with h|h
    ·exact VW l n (aag hd hi) (Oper.wp_mono (fun a w=>qY l n hd hQ is a w) h)
    ·exact absurd h.2 hQ
   ·rename_i hw
    rw[if_neg hw]at h
    exact⟨fun _ _=>trivial,qY l n hd hQ is _ w h⟩
theorem jK {P:Program}{ops:Array Oper}{Q:Exit→Act→World→Prop}{l k:Nat}{id:Nat}{a:Act}{w:World}(S:World→Prop)(n m:Nat)(listed:Array Bool)(hd:UW ops=true)(hQ:¬ LetsOut Q)(hm:P.follows .mixedOrders=true)(hm':ops.size=m)(hl:Array.replicate m false=listed)(hS:S w.drew)
  (h:S w.drew→yR P .any ops Q S n m listed a w.drew):(Code.region id ops true).wpIn (Fence.wide.inRound l) k P Q a w :=
 wpIn_region_draw fun t=>by
  simp only[Region.schedule,hm,Bool.true_or,if_true]
  refine qY l k hd hQ _ _ _ (wpAny_sound ops.size t _ a _ ?_)
  rw[hm',hl]
  exact qb _ _ _ _ (h hS)
end
section
open Go.RowKit Len
attribute [local go_sem] Oper.semAt_some
theorem adc (W:World)(b o n c:Nat)(l h:Nat)(h1:l<h)(h2:h≤c) :
  (Instr.slice 234 (.slice (some ⟨b,o,none⟩) n c) (some (.int .i64 (l:Int))) (some (.int .i64 (h:Int))) (some (.int .i64 (h:Int)))).run Tryz.prog W=.ok (.slice (some ⟨b,o+l*2,none⟩) (h-l) (h-l)) W:=by
 rw[run_slice_lhm (P:=Tryz.prog) (w:=W) 234 (some ⟨b,o,none⟩) n c (by kernel_rfl) .i64 .i64 .i64 (l:Int) (h:Int) (h:Int) (by omega) (by omega) (by omega) (by omega)]
 have hs:(sizeOf (Tryz.prog.elem 234)).run Tryz.prog W=.ok 2 W:=by kernel_rfl
 rw[hs]
 simp[Result.andThen,sliced,show ¬ h=l by omega,Addr.add]
set_option maxHeartbeats 2000000 in
set_option maxRecDepth 100000 in
theorem XF {n B g N c:Nat}{VA:Nat→Option Addr}{VN VC:Nat→Nat}{I:Nat→World→Prop}{w:World}(hn:2≤n)(hN:N≤1000)
  (hI:∀ k W,I k W→W.cell? ⟨B,0,none⟩=some (.slice (some ⟨g,0,none⟩) N c)∧∀ i,i<N→W.cell? ⟨g,i,none⟩=some (.slice (VA i) (VN i) (VC i))) :
  UV n Tryz.prog 215 #[.pointer (some ⟨B,0,none⟩)] (fun k=>#[.int .i64 ((N-1-k:Nat):Int),.slice (VA (N-1-k)) (VN (N-1-k)) (VC (N-1-k))]) N I w:=by
 intro l J W hE hJI hC hY h0
 have hb:=(hI 0 W (hJI 0 W h0)).1
 have HI:=hide (fun k W h=>hI k W (hJI k W h))
 have HY:=hide hY
 clear hI hY hC hJI
 refine callsIn_of_wp Tryz.func215 rfl trivial ?_ rfl
 simp only[Tryz.ntmps215,List.size_toArray,List.length_cons,List.length_nil,Nat.reduceAdd,Nat.reduceSub,Array.replicate_succ,Array.replicate_zero,List.push_toArray,List.append_toArray,List.nil_append,List.cons_append]
 gi_wp2
 gi_loopw [3] (fun i wr=>∃ (k:Nat) (z:Int),k≤N∧i=.int .i64 z∧z+k+1=N∧J k wr) (fun i _=>(intOf i+1).toNat)
 case atStart=>exact⟨0,(N:Int)-1,by omega,rfl,by omega,h0⟩
 case round =>
  obtain⟨k,z,hk,rfl,hz,hJ⟩:=hrel
  by_cases hkn:k<N
  ·obtain⟨h1,h2⟩:=HI.out k wr hJ
   obtain⟨fn,tmps,assign,body,hy,hR⟩:=HY.out k wr hJ hkn
   obtain⟨m,hm⟩:∃ m,m=N-1-k:=⟨_,rfl⟩
   rw[← hm]at hy
   have h3:=h2 m (by omega)
   have hz2:z=(m:Int):=by omega
   subst hz2
   have HM:=hide hm
   have HZ:=hide hz
   have hmN:m<N:=by omega
   clear h2 hm hz
   generalize VA m=a1 at *
   generalize VN m=a2 at *
   generalize VC m=a3 at *
   gi_wp2
   refine⟨fun _=>by omega,hR.mono ?_⟩
   rintro e W3 ⟨rfl,hJ3⟩
   gi_wp2
   go_roundw
   case rel=>exact⟨k+1,(m:Int)-1,by omega,by first | rfl | go_num,by have:=HZ.out;omega,hJ3⟩
   case measure=>simp[intOf]
  ·obtain rfl:N=k:=by omega
   have hz2:z=-1:=by omega
   subst hz2
   clear hz
   gi_wp2
   go_end0
   exact⟨⟨_,rfl⟩,hJ⟩
def xM (len k:Nat):Nat:=if 2*k+1<len then 2 else 1
set_option maxHeartbeats 2000000 in
set_option maxRecDepth 100000 in
theorem J9 {n B1 B2 g off len c:Nat}{I:Nat→World→Prop}{w:World}(hn:2≤n)(hN:len≤1000)(hc:len≤c)(_hcm:c≤maxLen)
  (hI:∀ k W,I k W→W.cell? ⟨B1,0,none⟩=some (.slice (some ⟨g,off,none⟩) len c)∧W.cell? ⟨B2,0,none⟩=some (.int .i64 2)) :
  UV n Tryz.prog 227 #[.pointer (some ⟨B1,0,none⟩),.pointer (some ⟨B2,0,none⟩)] (fun k=>#[.slice (some ⟨g,off+2*k*2,none⟩) (xM len k) (xM len k)]) ((len+1) / 2) I w:=by
 unfold maxLen at _hcm
 intro l J W hE hJI hC hY h0
 have HI:=hide (fun k W h=>hI k W (hJI k W h))
 have HY:=hide hY
 have HC:=hide hC
 clear hI hY hC hJI
 refine callsIn_of_wp Tryz.func227 rfl trivial ?_ rfl
 simp only[Tryz.ntmps227,List.size_toArray,List.length_cons,List.length_nil,Nat.reduceAdd,Nat.reduceSub,Array.replicate_succ,Array.replicate_zero,List.push_toArray,List.append_toArray,List.nil_append,List.cons_append]
 gi_wp2
 gi_loopw [4] (fun i wr=>∃ (k p:Nat),i=.int .i64 (p:Int)∧p=2*k∧2*k≤len+1∧J k wr) (fun i _=>len+2-(intOf i).toNat)
 case atStart=>exact⟨0,0,rfl,rfl,by omega,h0⟩
 case round =>
  obtain⟨k,p,rfl,hp,hk,hJ⟩:=hrel
  have HP:=hide hp
  obtain⟨b1,b2⟩:=HI.out k wr hJ
  by_cases hkn:p<len
  ·have hYk:=fun W hJ=>HY.out k W hJ (by omega)
   rw[← hp]at hYk
   obtain⟨q,hq⟩:∃ q,q=len-p:=⟨_,rfl⟩
   obtain⟨e,he⟩:∃ e,e=xM len k:=⟨_,rfl⟩
   have hRC:=fun W=>JP W (some ⟨g,off,none⟩) len c .i64 (p:Int) (by omega) (by omega)
   simp only[Int.toNat_natCast]at hRC
   rw[← hq]at hRC
   generalize zQ (some ⟨g,off,none⟩) (c*2) (p*2)=A3 at hRC
   generalize c-p=d at hRC
   have HRC:=hide hRC
   have he2:e=if 2≤q then 2 else 1:=by
    rw[he]
    unfold xM
    have:=HP.out
    by_cases h:2*k+1<len
    ·rw[if_pos h,if_pos (by omega)]
    ·rw[if_neg h,if_neg (by omega)]
   have HMin:=hide (show (if (q:Int)<2 then (q:Int) else 2)=(e:Int) by
    rw[he2]
    by_cases h:2≤q
    ·rw[if_neg (by omega),if_pos h];rfl
    ·rw[if_pos (by omega),if_neg h];omega)
   have heq:1≤e∧p+e≤len:=by
    rw[he2]
    split<;>omega
   obtain⟨he1,hpe⟩:=heq
   rw[← he]at hYk
   have HYk:=hide hYk
   clear hYk
   have hRM:∀ W,(Instr.slice 234 (.slice (some ⟨g,off,none⟩) len c) (some (.int .i64 (p:Int))) (some (.int .i64 ((p:Int)+(e:Int)))) (some (.int .i64 ((p:Int)+(e:Int))))).run Tryz.prog W=.ok (.slice (some ⟨g,off+p*2,none⟩) e e) W:=fun W=>by
    have:=adc W g off len c p (p+e) (by omega) (by omega)
    rw[Int.natCast_add,Nat.add_sub_cancel_left]at this
    exact this
   have HRM:=hide hRM
   clear hRM
   clear hRC he he2 hq hp
   obtain⟨wa,rfl⟩:∃ W,W=wr:=⟨_,rfl⟩
   gi_wp2
   refine wpIn_wide.2 ?_
   refine zq (fun W=>W.cell? ⟨B1,0,none⟩=some (.slice (some ⟨g,off,none⟩) len c)∧W.cell? ⟨B2,0,none⟩=some (.int .i64 2)) 6 7 #[false,false,false,false,false,false,false] (by kernel_rfl) rfl rfl ⟨b1,b2⟩ ?_
   intro hS0
   refine za 0 (some 13) (.int .i64 2) _ rfl rfl rfl (by kernel_rfl) (fun _ _ _ h=>h) hS0 (by rfl) (fun W hX=>by obtain⟨f1,f2⟩:=hX;go_simp) ?_
   simp only[sP]
   refine za 1 (some 14) (.slice (some ⟨g,off,none⟩) len c) _ rfl rfl rfl (by kernel_rfl) (fun _ _ _ h=>h) hS0 (by rfl) (fun W hX=>by obtain⟨f1,f2⟩:=hX;go_simp) ?_
   simp only[sP]
   refine za 2 (some 15) (.int .i64 (p:Int)) _ rfl rfl rfl (by kernel_rfl) (fun _ _ _ h=>h) hS0 (by rfl) (fun W hX=>by go_simp) ?_
   simp only[sP]
   refine za 3 (some 16) (.slice A3 q d) _ rfl rfl rfl (by kernel_rfl) (fun _ _ _ h=>h) hS0 (by rfl) (fun W hX=>by have hr:=HRC.out W;go_simp) ?_
   simp only[sP]
   refine za 4 (some 17) (.int .i64 (q:Int)) _ rfl rfl rfl (by kernel_rfl) (fun _ _ _ h=>h) hS0 (by rfl) (fun W hX=>by go_simp) ?_
   simp only[sP]
   refine za 5 (some 18) (.int .i64 (e:Int)) _ rfl rfl rfl (by kernel_rfl) (fun _ _ _ h=>h) hS0 (by rfl) (fun W hX=>by go_simp;first | exact HMin.out | (have h:=HMin.out;split at h<;>omega)) ?_
   simp only[sP]
   refine zc 6 _ (by kernel_rfl) rfl rfl (by rfl) (fun K1 hK1=>?_)
   go_simp
   refine hK1 _ _ (fun h=>absurd h (by decide)) (zj (by kernel_rfl) ?_ _)
   clear hK1 K1
   have hJ3:=HC.out k wa wa.drew hJ ⟨rfl,rfl,rfl,Nat.le_refl _,fun _ _ _=>rfl⟩
   obtain⟨d1,d2⟩:=hS0
   generalize wa.drew=w3 at hJ3 d1 d2 ⊢
   obtain⟨fn,tmps,assign,body,hy,hR⟩:=HYk.out w3 hJ3
   have hRM:=HRM.out
   clear hJ b1 b2
   gi_wp2
   refine⟨fun _=>by omega,hR.mono ?_⟩
   rintro e4 W4 ⟨rfl,hJ4⟩
   obtain⟨f1,f2⟩:=HI.out (k+1) W4 hJ4
   gi_wp2
   go_roundw
   case rel=>exact⟨k+1,p+2,by go_num,by have:=HP.out;omega,by have:=HP.out;omega,hJ4⟩
   case measure=>simp[intOf];omega
  ·have hpI:¬ (p:Int)<(len:Int):=by omega
   have hkk:k=(len+1) / 2:=by omega
   rw[hkk]at hJ
   clear hp
   gi_wp2
   go_end0
   exact⟨⟨_,rfl⟩,hJ⟩
end
section
open Go.RowKit Go.Shelf Len
attribute [local go_sem] Oper.semAt_some
theorem Yj {F:Fence}{n:Nat}{ops:Array Oper}{rest:List Oper}{o:Oper}{a:Act}{Q:Exit→Act→World→Prop}{w:World}(hgd:o.guard=none)(c:Operand)(ho:o.op=.makeSlice 234 (.const (.int .i64 0)) c){m:Nat}{C:Int}(hc:a.eval c=.int .i64 C)(hC:C=(m:Int))(hm:m≤1000)
  (h:∀ w',OwnPI w' w.heap.size (.slice (some ⟨w.heap.size,0,none⟩) 0 m) []→Ext w w'→w.heap.size<w'.heap.size→wpListIn F n Tryz.prog ops Q rest (a.put o.dst (.slice (some ⟨w.heap.size,0,none⟩) 0 m)) w'):wpListIn F n Tryz.prog ops Q (o::rest) a w:=by
 obtain⟨i,hi,hz,hsz,hby⟩:=info_parts ux
 exact wpListIn_make_own w hgd (.const (.int .i64 0)) c 234 ho w.heap.size 230 i _ 2 Tryz.underlying234 hi hz hsz .i64 .i64 C m rfl hc hC (by rw[hby];omega) (by unfold maxLen;omega) (Nat.le_refl _) fun w' h1 h2=>h w' h1 (Below.grown (Ext.refl w) h2 (Nat.le_refl _) fun k hk=>by cases hk) (h1.lt _ rfl).2
set_option maxHeartbeats 1000000 in
theorem ade (n:Nat)(A:Option Addr)(m c:Nat)(w:World) :
  CallsIn Fence.wide n Tryz.prog 216 #[.slice A m c,.int .i64 2] w fun e w'=>e=.returned (.func (.func 227) #[] #[.pointer (some ⟨w.heap.size,0,none⟩),.pointer (some ⟨w.heap.size+1,0,none⟩)])∧w'=(w.alloc (.cells #[.slice A m c] 234)).alloc (.cells #[.int .i64 2] 3):=by
 refine callsIn_of_wp Tryz.func216 rfl trivial ?_ rfl
 simp only[Tryz.ntmps216,List.size_toArray,List.length_cons,List.length_nil,Nat.reduceAdd,Nat.reduceSub,Array.replicate_succ,Array.replicate_zero,List.push_toArray,List.append_toArray,List.nil_append,List.cons_append]
 gi_wp2
 go_ret
 exact⟨rfl,rfl⟩
structure PairsI (w:World)(s:Nat)(A:Option Addr)(len c:Nat)(L:List PI)(k:Nat)(W:World):Prop where
 ex:∃ v,Whole W s 234 #[v]∧OwnPI W w.heap.size v ((zX L).take k)∧∀ x,v.ownBlock=some x→x<s∨s+3≤x
 b1:Whole W (s+1) 234 #[.slice A len c]
 b2:Whole W (s+1+1) 3 #[.int .i64 2]
 ext:Ext w W
theorem OwnPI.turn {W W':World}{base:Nat}{v:Value}{L:List PI}{row:Option Nat}(h:OwnPI W base v L)(hg:W.grownBy W' row)(hr:∀ r,row=some r→∃ o:Obj,W.heap[r]?=some o∧o.isCells=false):OwnPI W' base v L :=
 h.kept hg (by
  rcases h.2 with ⟨rfl,_⟩ | ⟨g,cap,cur,rfl,_,hgg,_⟩
  ·exact .inl rfl
  ·refine .inr fun e=>?_
   obtain⟨o,h1,h2⟩:=hr g e.symm
   rw[hgg]at h1
   cases h1
   cases h2)
theorem PairsI.own {w:World}{s:Nat}{A:Option Addr}{len c B:Nat}{L:List PI}(hB:w.heap.size≤B):OwnFrom B (PairsI w s A len c L):=fun k W W' row h hg hr=>by
 have hr2:=fun r e=>(hr r e).2
 obtain⟨v,h1,h2,h3⟩:=h.ex
 exact⟨⟨v,h1.turn hg hr2,h2.turn hg hr2,h3⟩,h.b1.turn hg hr2,h.b2.turn hg hr2,Below.grown h.ext hg h.ext.le fun r e=>Nat.le_trans hB (hr r e).1⟩
set_option maxHeartbeats 4000000 in
set_option maxRecDepth 100000 in
theorem Qa {L:List PI}{g off len c:Nat}{w:World}(hn:len≤1000)(hc:len≤c)(hcm:c≤maxLen)(h:PIAt w w.heap.size (some ⟨g,off,none⟩) len L)(hw:∀ i,i<len→(L.getD i (0,0)).1<9223372036854775808) :
  Calls Tryz.prog 208 #[.slice (some ⟨g,off,none⟩) len c] w fun e w'=>∃ v,e=.returned v∧OwnPI w' w.heap.size v (zX L)∧Ext w w':=by
 have HW:=hide hw
 have HA:=hide h
 have HC:=hide hcm
 clear h hw hcm
 refine (callsIn_wide (n:=10)).1 ?_
 refine callsIn_of_wp_marks Tryz.func208 rfl trivial ?_ rfl
 simp only[Tryz.ntmps208,List.size_toArray,List.length_cons,List.length_nil,Nat.reduceAdd,Nat.reduceSub,Array.replicate_succ,Array.replicate_zero,List.push_toArray,List.append_toArray,List.nil_append,List.cons_append]
 gi_wp2_with (refine Yj (m:=len / 2) rfl (.tmp 7) rfl rfl (by omega) (by omega) ?_;intro w1 hR1 hE1 hs1)
 refine⟨trivial,(ade _ _ _ _ _).mono ?_⟩
 rintro e w' ⟨rfl,rfl⟩
 gi_wp2
 have hI0:PairsI w w1.heap.size (some ⟨g,off,none⟩) len c L 0 (((w1.alloc (.cells #[.slice (some ⟨w.heap.size,0,none⟩) 0 (len / 2)] 234)).alloc (.cells #[.slice (some ⟨g,off,none⟩) len c] 234)).alloc (.cells #[.int .i64 2] 3)):=by
  refine⟨⟨_,((Whole.new w1 _ _).alloc _).alloc _,((hR1.ext (zb _ _)).ext (zb _ _)).ext (zb _ _),fun x hx=>.inl ?_⟩,?_,?_,((hE1.alloc _).alloc _).alloc _⟩
  ·simp only[Value.ownBlock,Option.some.injEq]at hx
   omega
  ·have:=(Whole.new (w1.alloc (.cells #[.slice (some ⟨w.heap.size,0,none⟩) 0 (len / 2)] 234)) 234 #[.slice (some ⟨g,off,none⟩) len c]).alloc (.cells #[.int .i64 2] 3)
   rwa [World.size_alloc]at this
  ·have:=Whole.new ((w1.alloc (.cells #[.slice (some ⟨w.heap.size,0,none⟩) 0 (len / 2)] 234)).alloc (.cells #[.slice (some ⟨g,off,none⟩) len c] 234)) 3 #[.int .i64 2]
   rwa [World.size_alloc,World.size_alloc]at this
 have hB3:w.heap.size≤(((w1.alloc (.cells #[.slice (some ⟨w.heap.size,0,none⟩) 0 (len / 2)] 234)).alloc (.cells #[.slice (some ⟨g,off,none⟩) len c] 234)).alloc (.cells #[.int .i64 2] 3)).heap.size:=hI0.ext.le
 have hs3:w1.heap.size+3≤(((w1.alloc (.cells #[.slice (some ⟨w.heap.size,0,none⟩) 0 (len / 2)] 234)).alloc (.cells #[.slice (some ⟨g,off,none⟩) len c] 234)).alloc (.cells #[.int .i64 2] 3)).heap.size:=by simp
 generalize ((w1.alloc (.cells #[.slice (some ⟨w.heap.size,0,none⟩) 0 (len / 2)] 234)).alloc (.cells #[.slice (some ⟨g,off,none⟩) len c] 234)).alloc (.cells #[.int .i64 2] 3)=w3 at hI0 hB3 hs3 ⊢
 have hsw:=hE1.le
 clear hR1 hE1
 generalize w1.heap.size=s at *
 refine vR (gf:=227) (lb:=#[.pointer (some ⟨s+1,0,none⟩),.pointer (some ⟨s+1+1,0,none⟩)]) rfl (enters_of Tryz.func227 (by kernel_rfl) rfl) ((len+1) / 2)
  (fun k=>#[.slice (some ⟨g,off+2*k*2,none⟩) (xM len k) (xM len k)]) (fun _=>rfl) (PairsI w s (some ⟨g,off,none⟩) len c L) (PairsI.own hB3) hI0
  (J9 (by omega) hn hc HC.out fun k W h=>⟨h.b1.at 0 (u:=.slice (some ⟨g,off,none⟩) len c) rfl,h.b2.at 0 (u:=.int .i64 2) rfl⟩)
  (fun k=>{ tmps:=#[.slice (some ⟨g,off,none⟩) len c,undef,.slice none 0 0,.pointer (some ⟨s,0,none⟩),.slice (some ⟨g,off+2*k*2,none⟩) (xM len k) (xM len k),.slice (some ⟨g,off,none⟩) len c,.int .i64 (len:Int),.int .i64 ((len:Int) / 2),.slice (some ⟨w.heap.size,0,none⟩) 0 (len / 2),.slice (some ⟨g,off,none⟩) len c,
   .func (.func 227) #[] #[.pointer (some ⟨s+1,0,none⟩),.pointer (some ⟨s+1+1,0,none⟩)],.slice (some ⟨g,off+2*k*2,none⟩) (xM len k) (xM len k),undef,undef,undef,undef,undef,undef,undef,undef,undef,undef,undef,undef,undef,undef,undef,undef,undef],defers:=[] }) ?assign ?body ?done
 case assign =>
  intro l k W K hK
  generalize xM len k=e at *
  gi_wp2
  exact hK
 case body =>
  intro l k W hI hk
  obtain⟨v,h1,h2,h3⟩:=hI.ex
  have c1:=h1.at 0 (u:=v) rfl
  by_cases hk2:2*k+1<len
  ·have he:xM len k=2:=if_pos hk2
   rw[he]
   have hcell:∀ i,i<len→w.cell? ⟨g,off+i*2,none⟩=some (.int .u64 ((L.getD i (0,0)).1:Int)):=fun i hi=>by
    rcases HA.out.2 with h0 | ⟨b,o,e,_,hc⟩
    ·omega
    ·simp only[Option.some.injEq,Addr.mk.injEq,and_true]at e
     obtain⟨rfl,rfl⟩:=e
     exact (hc i hi).1
   have hgw:g<w.heap.size:=World.block_lt_of_cell? w _ (hcell (2*k) (by omega))
   have i1:=(hI.ext.cell (i:=off+2*k*2) hgw).trans (hcell (2*k) (by omega))
   have i2:=(hI.ext.cell (i:=off+(2*k+1)*2) hgw).trans (hcell (2*k+1) (by omega))
   rw[show off+(2*k+1)*2=off+2*k*2+2 by omega]at i2
   have b1:=HW.out (2*k) (by omega)
   have b2:=HW.out (2*k+1) (by omega)
   have hpg:=YP L k (by rw[HA.out.1];exact hk2)
   have ht:(zX L).take (k+1)=(zX L).take k++[((L.getD (2*k) (0,0)).1+(L.getD (2*k+1) (0,0)).1,300)]:=by
    have hl:k<(zX L).length:=by rw[xk,HA.out.1];omega
    rw[List.take_succ_eq_append_getElem hl,← hpg]
    congr 2
    simp[List.getD_eq_getElem?_getD,hl]
   generalize (L.getD (2*k) (0,0)).1=x at *
   generalize (L.getD (2*k+1) (0,0)).1=y at *
   have hwr:IntKind.u64.wrap ((x:Int)+(y:Int))=((x+y:Nat):Int):=by
    simp[IntKind.wrap,IntKind.bits,IntKind.signed]
    omega
   have hrl:((zX L).take k).length≤100000:=by rw[List.length_take];omega
   have HT:=hide ht
   have H3:=hide h3
   have H1:=hide h1
   have H2:=hide h2
   have HX:=hide hI
   have hlt:=h1.lt
   obtain⟨Av,cv,rfl,_,_,_⟩:=h2.form
   clear ht hpg he h1 h2 h3 hcell
   generalize (zX L).take k=T at *
   have hIw:=hI.ext.le
   have hgW:g<W.heap.size:=by omega
   have hEd:Ext W (W.alloc (.cells #[.int .u64 ((x:Int)+(y:Int)),.int .i64 300] 230)).drew:=(zb W _).drew
   have hsd:W.heap.size<(W.alloc (.cells #[.int .u64 ((x:Int)+(y:Int)),.int .i64 300] 230)).drew.heap.size:=by
    show W.heap.size<(W.alloc _).heap.size
    rw[World.size_alloc]
    omega
   have hKo:KeepsOthers W (W.alloc (.cells #[.int .u64 ((x:Int)+(y:Int)),.int .i64 300] 230)).drew:=(KeepsOthers.alloc W _).trans (KeepsOthers.of_grownBy (row:=none) ⟨rfl,rfl,rfl,Nat.le_refl _,fun _ _ _=>rfl⟩ (fun _ _ h=>by cases h))
   have hone0:PIAt (W.alloc (.cells #[.int .u64 ((x:Int)+(y:Int)),.int .i64 300] 230)) (W.alloc (.cells #[.int .u64 ((x:Int)+(y:Int)),.int .i64 300] 230)).heap.size (some ⟨W.heap.size,0,none⟩) 1 [(x+y,300)]:=PIAt.one W (x+y,300)
   have hone:=hone0.ext (Ext.refl _).drew
   clear hone0
   gi_wp2
   refine jK (fun X=>Ext W X) 12 14 #[false,false,false,false,false,false,false,false,false,false,false,false,false,false] (by kernel_rfl) (fun ⟨_,_,h⟩=>h) (by kernel_rfl) rfl rfl (Ext.refl W).drew ?_
   intro hS0
   refine za 0 (some 15) (.slice Av T.length cv) _ rfl rfl rfl (by kernel_rfl) (fun _ _ _ h=>h) hS0 (by rfl) (fun X hX=>by have f1:=(hX.cell (i:=0) hlt).trans c1;go_simp) ?_
   simp only[sP]
   refine za 1 (some 16) (.slice (some ⟨g,off+2*k*2,none⟩) 2 2) _ rfl rfl rfl (by kernel_rfl) (fun _ _ _ h=>h) hS0 (by rfl) (fun X hX=>by go_simp) ?_
   simp only[sP]
   refine za 2 (some 17) (.pointer (some ⟨g,off+2*k*2,none⟩)) _ rfl rfl rfl (by kernel_rfl) (fun _ _ _ h=>h) hS0 (by rfl) (fun X hX=>by go_simp) ?_
   simp only[sP]
   refine za 3 (some 18) (.pointer (some ⟨g,off+2*k*2,none⟩)) _ rfl rfl rfl (by kernel_rfl) (fun _ _ _ h=>h) hS0 (by rfl) (fun X hX=>by go_simp) ?_
   simp only[sP]
   refine za 4 (some 19) (.int .u64 (x:Int)) _ rfl rfl rfl (by kernel_rfl) (fun _ _ _ h=>h) hS0 (by rfl) (fun X hX=>by have f1:=(hX.cell (i:=off+2*k*2) hgW).trans i1;go_simp) ?_
   simp only[sP]
   refine za 5 (some 20) (.slice (some ⟨g,off+2*k*2,none⟩) 2 2) _ rfl rfl rfl (by kernel_rfl) (fun _ _ _ h=>h) hS0 (by rfl) (fun X hX=>by go_simp) ?_
   simp only[sP]
   refine za 6 (some 21) (.pointer (some ⟨g,off+2*k*2+2,none⟩)) _ rfl rfl rfl (by kernel_rfl) (fun _ _ _ h=>h) hS0 (by rfl) (fun X hX=>by go_simp) ?_
   simp only[sP]
   refine za 7 (some 22) (.pointer (some ⟨g,off+2*k*2+2,none⟩)) _ rfl rfl rfl (by kernel_rfl) (fun _ _ _ h=>h) hS0 (by rfl) (fun X hX=>by go_simp) ?_
   simp only[sP]
   refine za 8 (some 23) (.int .u64 (y:Int)) _ rfl rfl rfl (by kernel_rfl) (fun _ _ _ h=>h) hS0 (by rfl) (fun X hX=>by have f1:=(hX.cell (i:=off+2*k*2+2) hgW).trans i2;go_simp) ?_
   simp only[sP]
   refine za 9 (some 24) (.int .u64 ((x+y:Nat):Int)) _ rfl rfl rfl (by kernel_rfl) (fun _ _ _ h=>h) hS0 (by rfl) (fun X hX=>by go_simp) ?_
   simp only[sP]
   refine za 10 (some 25) (.agg #[.int .u64 ((x+y:Nat):Int),.int .i64 ((300:Nat):Int)]) _ rfl rfl rfl (by kernel_rfl) (fun _ _ _ h=>h) hS0 (by rfl) (fun X hX=>by go_simp) ?_
   simp only[sP]
   refine zc 11 _ (by kernel_rfl) rfl rfl (by rfl) (fun K0 hK0=>?_)
   go_simp
   refine hK0 _ _ (fun _=>hEd) ?_
   clear hK0 K0
   generalize (W.alloc (.cells #[.int .u64 ((x:Int)+(y:Int)),.int .i64 300] 230)).drew=w5 at *
   refine zc 12 _ (by kernel_rfl) rfl rfl (by rfl) (fun K1 hK1=>?_)
   refine JO (v:=.slice Av T.length cv) (.tmp 15) (.tmp 26) rfl rfl (H2.out.ext hEd) rfl hone hrl (by omega) (Nat.le_trans hIw hEd.le) ?_
   intro v6 w6 hO6 hG6 hn6
   refine hK1 _ _ (fun h=>absurd h (by decide)) ?_
   clear hK1 K1
   simp only[Act.put,List.setIfInBounds_toArray]
   have hne:∀ j,s≤j→j<s+3→(Value.slice Av T.length cv).ownBlock≠some j:=fun j h1 h2 h3=>by
    have:=H3.out j h3
    omega
   have hs1w:s+1+1<W.heap.size:=HX.out.b2.lt
   have hne6:∀ j,s≤j→j<s+3→v6.ownBlock≠some j:=fun j h1 h2 h3=>by
    rcases hn6 with e|e
    ·exact hne j h1 h2 (e ▸ h3)
    ·rw[e]at h3
     simp only[Option.some.injEq]at h3
     omega
   have hW6:=(H1.out.ext hEd).ownGrown hG6 (hne s (Nat.le_refl _) (by omega))
   have hA6:=(HX.out.b1.ext hEd).ownGrown hG6 (hne (s+1) (by omega) (by omega))
   have hB6:=(HX.out.b2.ext hEd).ownGrown hG6 (hne (s+1+1) (by omega) (by omega))
   have hX6:Ext w w6:=Below.grown (HX.out.ext.trans hEd) hG6 (HX.out.ext.trans hEd).le (fun r hr=>(H2.out.lt r hr).1)
   have hK6:=hKo.trans (KeepsOthers.of_grownBy hG6 (fun j o hj ho=>by
    rcases (H2.out.ext hEd).2 with ⟨h,_⟩ | ⟨g1,c1,u1,h,_,hg1,_⟩
    ·rw[h]at hj;cases hj
    ·rw[h]at hj
     simp only[Value.ownBlock,Option.some.injEq]at hj
     subst hj
     rw[hg1]at ho
     cases ho
     rfl))
   have d1:=hW6.at 0 (u:=.slice Av T.length cv) rfl
   have d2:=hW6.frozen 0
   have HO6:=hide hO6
   have HN6:=hide hne6
   clear hne hne6 hn6
   generalize T++[(x+y,300)]=T2 at *
   obtain⟨A6,c6,rfl,_,_,_⟩:=hO6.form
   clear hO6
   refine zc 13 _ (by kernel_rfl) rfl rfl (by rfl) (fun K2 hK2=>?_)
   go_simp
   refine hK2 _ _ (fun h=>absurd h (by decide)) (zj (by kernel_rfl) ?_ _)
   clear hK2 K2
   have hG7:=zk w6 s 0 (.slice A6 T2.length c6)
   refine⟨(hK6.trans (KeepsOthers.setCell _ _ _)).from _,?_⟩
   refine⟨⟨_,hW6.set 0 _,by rw[HT.out];exact HO6.out.kept hG7 (.inr (HN6.out s (Nat.le_refl _) (by omega))),fun j hj=>?_⟩,hA6.far (by omega) _ _,hB6.far (by omega) _ _,hX6.setCell (by omega) _⟩
   rcases Nat.lt_or_ge j s with h|h
   ·exact .inl h
   ·refine .inr (Nat.le_of_not_lt fun h2=>HN6.out j h h2 hj)
  ·have he:xM len k=1:=if_neg hk2
   rw[he]
   have ht:(zX L).take (k+1)=(zX L).take k:=by
    rw[List.take_of_length_le (by rw[xk,HA.out.1];omega),List.take_of_length_le (by rw[xk,HA.out.1];omega)]
   have HI:=hide (show PairsI w s (some ⟨g,off,none⟩) len c L (k+1) W from ⟨⟨v,h1,by rw[ht];exact h2,h3⟩,hI.b1,hI.b2,hI.ext⟩)
   clear ht h1 h2 h3 he
   gi_wp2
   exact⟨KeepsFrom.refl _ _,HI.out⟩
 case done =>
  intro D W hD hI hK
  obtain⟨v,h1,h2,h3⟩:=hI.ex
  rw[List.take_of_length_le (by rw[xk,HA.out.1];omega)]at h2
  have c1:=h1.at 0 (u:=v) rfl
  have hX:=hI.ext
  have H2:=hide h2
  obtain⟨Av,cv,rfl,_,_,_⟩:=h2.form
  clear h1 h3 h2
  gi_wp2
  refine⟨by simp,.inl ⟨_,_,rfl,run_takeDeferred hK,?_⟩⟩
  have hG:=grownBy_putObj' W D (.deferred none)
  exact⟨_,results_tmp rfl _ _ _,.slice Av _ cv,rfl,H2.out.turn hG (fun r e=>by cases e;exact⟨_,hK,rfl⟩),Below.grown hX hG hX.le (fun r e=>by cases e;omega)⟩
end
section
open Go.RowKit Dic
attribute [local go_sem] Oper.semAt_some
def qZ (A:Option Addr)(p:Nat):Option Addr:=A.map fun a=>⟨a.block,a.off+p,none⟩
theorem abP (W:World)(b o n c:Nat)(l h:Nat)(h1:l<h)(h2:h≤c) :
  (Instr.slice 66 (.slice (some ⟨b,o,none⟩) n c) (some (.int .i64 (l:Int))) (some (.int .i64 (h:Int))) (some (.int .i64 (h:Int)))).run Tryz.prog W=.ok (.slice (some ⟨b,o+l,none⟩) (h-l) (h-l)) W:=by
 rw[run_slice_lhm (P:=Tryz.prog) (w:=W) 66 (some ⟨b,o,none⟩) n c (by kernel_rfl) .i64 .i64 .i64 (l:Int) (h:Int) (h:Int) (by omega) (by omega) (by omega) (by omega)]
 have hs:(sizeOf (Tryz.prog.elem 66)).run Tryz.prog W=.ok 1 W:=by kernel_rfl
 rw[hs]
 simp[Result.andThen,sliced,show ¬ h=l by omega,Addr.add]
def xl (sz len k:Nat):Nat:=min sz (len-k*sz)
set_option maxHeartbeats 1000000 in
theorem aah (n:Nat)(A:Option Addr)(m c sz:Nat)(hs:1≤sz)(w:World) :
  CallsIn Fence.wide n Tryz.prog 102 #[.slice A m c,.int .i64 (sz:Int)] w fun e w'=>e=.returned (.func (.func 133) #[] #[.pointer (some ⟨w.heap.size,0,none⟩),.pointer (some ⟨w.heap.size+1,0,none⟩)])∧w'=(w.alloc (.cells #[.slice A m c] 66)).alloc (.cells #[.int .i64 (sz:Int)] 3):=by
 have hsI:¬ (sz:Int)<1:=by omega
 refine callsIn_of_wp Tryz.func102 rfl trivial ?_ rfl
 simp only[Tryz.ntmps102,List.size_toArray,List.length_cons,List.length_nil,Nat.reduceAdd,Nat.reduceSub,Array.replicate_succ,Array.replicate_zero,List.push_toArray,List.append_toArray,List.nil_append,List.cons_append]
 gi_wp2
 go_ret
 exact⟨rfl,rfl⟩
set_option maxHeartbeats 2000000 in
set_option maxRecDepth 100000 in
theorem Vc {n B1 B2 g off len c sz:Nat}{A:Option Addr}{I:Nat→World→Prop}{w:World}(hn:2≤n)(hN:len≤1000000)(hc:len≤c)(_hcm:c≤maxLen)(hs:1≤sz)(hs2:sz≤64)(hA:len=0∨A=some ⟨g,off,none⟩)
  (hI:∀ k W,I k W→W.cell? ⟨B1,0,none⟩=some (.slice A len c)∧W.cell? ⟨B2,0,none⟩=some (.int .i64 (sz:Int))) :
  UV n Tryz.prog 133 #[.pointer (some ⟨B1,0,none⟩),.pointer (some ⟨B2,0,none⟩)] (fun k=>#[.slice (qZ A (k*sz)) (xl sz len k) (xl sz len k)]) (yN sz len) I w:=by
 unfold maxLen at _hcm
 intro l J W hE hJI hC hY h0
 have HI:=hide (fun k W h=>hI k W (hJI k W h))
 have HY:=hide hY
 have HC:=hide hC
 clear hI hY hC hJI
 refine callsIn_of_wp Tryz.func133 rfl trivial ?_ rfl
 simp only[Tryz.ntmps133,List.size_toArray,List.length_cons,List.length_nil,Nat.reduceAdd,Nat.reduceSub,Array.replicate_succ,Array.replicate_zero,List.push_toArray,List.append_toArray,List.nil_append,List.cons_append]
 gi_wp2
 gi_loopw [4] (fun i wr=>∃ (k p:Nat),i=.int .i64 (p:Int)∧p=k*sz∧k≤yN sz len∧J k wr) (fun i _=>len+64-(intOf i).toNat)
 case atStart=>exact⟨0,0,rfl,by simp,Nat.zero_le _,h0⟩
 case round =>
  obtain⟨k,p,rfl,hp,hk,hJ⟩:=hrel
  have HP:=hide hp
  obtain⟨b1,b2⟩:=HI.out k wr hJ
  by_cases hkn:p<len
  ·have hkN:k<yN sz len:=qn hs (by rw[← hp];exact hkn)
   have hYk:=fun W hJ=>HY.out k W hJ hkN
   rcases hA with h|h
   ·omega
   subst h
   have hpA:qZ (some ⟨g,off,none⟩) p=some ⟨g,off+p,none⟩:=rfl
   rw[← hp,hpA]at hYk
   obtain⟨q,hq⟩:∃ q,q=len-p:=⟨_,rfl⟩
   obtain⟨e,he⟩:∃ e,e=xl sz len k:=⟨_,rfl⟩
   have hRC:=fun W=>jl W (some ⟨g,off,none⟩) len c .i64 (p:Int) (by omega) (by omega)
   simp only[Int.toNat_natCast]at hRC
   rw[← hq]at hRC
   generalize zQ (some ⟨g,off,none⟩) c p=A3 at hRC
   generalize c-p=d at hRC
   have HRC:=hide hRC
   have he2:e=min sz q:=by rw[he,hq,hp];rfl
   have HMin:=hide (show (if (q:Int)<(sz:Int) then (q:Int) else (sz:Int))=(e:Int) by
    rw[he2]
    by_cases h:(q:Int)<(sz:Int)
    ·rw[if_pos h];omega
    ·rw[if_neg h];omega)
   have heq:1≤e∧p+e≤len:=by omega
   obtain⟨he1,hpe⟩:=heq
   rw[← he]at hYk
   have HYk:=hide hYk
   clear hYk
   have hRM:∀ W,(Instr.slice 66 (.slice (some ⟨g,off,none⟩) len c) (some (.int .i64 (p:Int))) (some (.int .i64 ((p:Int)+(e:Int)))) (some (.int .i64 ((p:Int)+(e:Int))))).run Tryz.prog W=.ok (.slice (some ⟨g,off+p,none⟩) e e) W:=fun W=>by
    have:=abP W g off len c p (p+e) (by omega) (by omega)
    rw[Int.natCast_add,Nat.add_sub_cancel_left]at this
    exact this
   have HRM:=hide hRM
   clear hRM
   clear hRC he he2 hq hp
   obtain⟨wa,rfl⟩:∃ W,W=wr:=⟨_,rfl⟩
   gi_wp2
   refine wpIn_wide.2 ?_
   refine zq (fun W=>W.cell? ⟨B1,0,none⟩=some (.slice (some ⟨g,off,none⟩) len c)∧W.cell? ⟨B2,0,none⟩=some (.int .i64 (sz:Int))) 6 7 #[false,false,false,false,false,false,false] (by kernel_rfl) rfl rfl ⟨b1,b2⟩ ?_
   intro hS0
   refine za 0 (some 13) (.int .i64 (sz:Int)) _ rfl rfl rfl (by kernel_rfl) (fun _ _ _ h=>h) hS0 (by rfl) (fun W hX=>by obtain⟨f1,f2⟩:=hX;go_simp) ?_
   simp only[sP]
   refine za 1 (some 14) (.slice (some ⟨g,off,none⟩) len c) _ rfl rfl rfl (by kernel_rfl) (fun _ _ _ h=>h) hS0 (by rfl) (fun W hX=>by obtain⟨f1,f2⟩:=hX;go_simp) ?_
   simp only[sP]
   refine za 2 (some 15) (.int .i64 (p:Int)) _ rfl rfl rfl (by kernel_rfl) (fun _ _ _ h=>h) hS0 (by rfl) (fun W hX=>by go_simp) ?_
   simp only[sP]
   refine za 3 (some 16) (.slice A3 q d) _ rfl rfl rfl (by kernel_rfl) (fun _ _ _ h=>h) hS0 (by rfl) (fun W hX=>by have hr:=HRC.out W;go_simp) ?_
   simp only[sP]
   refine za 4 (some 17) (.int .i64 (q:Int)) _ rfl rfl rfl (by kernel_rfl) (fun _ _ _ h=>h) hS0 (by rfl) (fun W hX=>by go_simp) ?_
   simp only[sP]
   refine za 5 (some 18) (.int .i64 (e:Int)) _ rfl rfl rfl (by kernel_rfl) (fun _ _ _ h=>h) hS0 (by rfl) (fun W hX=>by go_simp;first | exact HMin.out | (have h:=HMin.out;split at h<;>omega)) ?_
   simp only[sP]
   refine zc 6 _ (by kernel_rfl) rfl rfl (by rfl) (fun K1 hK1=>?_)
   go_simp
   refine hK1 _ _ (fun h=>absurd h (by decide)) (zj (by kernel_rfl) ?_ _)
   clear hK1 K1
   have hJ3:=HC.out k wa wa.drew hJ ⟨rfl,rfl,rfl,Nat.le_refl _,fun _ _ _=>rfl⟩
   obtain⟨d1,d2⟩:=hS0
   generalize wa.drew=w3 at hJ3 d1 d2 ⊢
   obtain⟨fn,tmps,assign,body,hy,hR⟩:=HYk.out w3 hJ3
   have hRM:=HRM.out
   clear hJ b1 b2
   gi_wp2
   refine⟨fun _=>by omega,hR.mono ?_⟩
   rintro e4 W4 ⟨rfl,hJ4⟩
   obtain⟨f1,f2⟩:=HI.out (k+1) W4 hJ4
   gi_wp2
   go_roundw
   case rel=>exact⟨k+1,p+sz,by go_num,by rw[HP.out,Nat.add_mul,Nat.one_mul],hkN,hJ4⟩
   case measure=>simp[intOf];omega
  ·have hpI:¬ (p:Int)<(len:Int):=by omega
   have hkk:k=yN sz len:=by
    rcases Nat.lt_or_ge k (yN sz len) with h|h
    ·have:=YH hs h
     omega
    ·omega
   rw[hkk]at hJ
   clear hp
   gi_wp2
   go_end0
   exact⟨⟨_,rfl⟩,hJ⟩
end
end Go.Proofs.YtpmedpdjglcdpaaGreatDoor
