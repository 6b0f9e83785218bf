/- The library's slices.Backward and slices.Chunk at rows of items: what comes, round by round. -/
import Derived.Test.YtaogpmombefmmaaGreatDoorB40
import Derived.Test.YtaogpmombefmmaaGreatDoorB45
namespace Go.Proofs.YtaogpmombefmmaaGreatDoor
section
open Go.RowKit Len
attribute [local go_sem] Oper.semAt_some
theorem run_midP (W:World)(b o n c:Nat)(l h:Nat)(h1:l < h)(h2:h≤c) :
  (Instr.slice 162 (.slice (some ⟨b,o,none⟩) n c) (some (.int .i64 (l:Int))) (some (.int .i64 (h:Int))) (some (.int .i64 (h:Int)))).run Tryz.prog W=.ok (.slice (some ⟨b,o+l*2,none⟩) (h-l) (h-l)) W:=by
 rw [run_slice_lhm (P:=Tryz.prog) (w:=W) 162 (some ⟨b,o,none⟩) n c (by kernel_rfl) .i64 .i64 .i64 (l:Int) (h:Int) (h:Int) (by omega) (by omega) (by omega) (by omega)]
 have hs:(sizeOf (Tryz.prog.elem 162)).run Tryz.prog W=.ok 2 W:=by kernel_rfl
 rw [hs]
 simp [Result.andThen,sliced,show ¬ h=l by omega,Addr.add]
set_option maxHeartbeats 2000000 in
set_option maxRecDepth 100000 in
theorem backward_gives {n B g N c:Nat}{VA:Nat→Option Addr}{VN VC:Nat→Nat}{I:Nat→World→Prop}{w:World}(hn:2≤n)(hN:N≤1000)
  (hI:∀ k W,I k W→W.cell? ⟨B,0,none⟩=some (.slice (some ⟨g,0,none⟩) N c)∧∀ i,i < N→W.cell? ⟨g,i,none⟩=some (.slice (VA i) (VN i) (VC i))) :
  RGives n Tryz.prog 124 #[.pointer (some ⟨B,0,none⟩)] (fun k=>#[.int .i64 ((N-1-k:Nat):Int),.slice (VA (N-1-k)) (VN (N-1-k)) (VC (N-1-k))]) N I w:=by
 intro l J W hE hJI hC hY h0
 have hb:=(hI 0 W (hJI 0 W h0)).1
 have HI:=hide (fun k W h=>hI k W (hJI k W h))
 have HY:=hide hY
 clear hI hY hC hJI
 refine callsIn_of_wp Tryz.func124 rfl trivial ?_ rfl
 simp only [Tryz.ntmps124,List.size_toArray,List.length_cons,List.length_nil,Nat.reduceAdd,Nat.reduceSub,Array.replicate_succ,Array.replicate_zero,List.push_toArray,List.append_toArray,List.nil_append,List.cons_append]
 gi_wp2
 gi_loopw [3] (fun i wr=>∃ (k:Nat) (z:Int),k≤N∧i=.int .i64 z∧z+k+1=N∧J k wr) (fun i _=>(intOf i+1).toNat)
 case atStart=>exact ⟨0,(N:Int)-1,by omega,rfl,by omega,h0⟩
 case round =>
  obtain ⟨k,z,hk,rfl,hz,hJ⟩:=hrel
  by_cases hkn:k < N
  ·obtain ⟨h1,h2⟩:=HI.out k wr hJ
   obtain ⟨fn,tmps,assign,body,hy,hR⟩:=HY.out k wr hJ hkn
   obtain ⟨m,hm⟩:∃ m,m=N-1-k:=⟨_,rfl⟩
   rw [← hm] at hy
   have h3:=h2 m (by omega)
   have hz2:z=(m:Int):=by omega
   subst hz2
   have HM:=hide hm
   have HZ:=hide hz
   have hmN:m < N:=by omega
   clear h2 hm hz
   generalize VA m=a1 at *
   generalize VN m=a2 at *
   generalize VC m=a3 at *
   gi_wp2
   refine ⟨fun _=>by omega,hR.mono ?_⟩
   rintro e W3 ⟨rfl,hJ3⟩
   gi_wp2
   go_roundw
   case rel=>exact ⟨k+1,(m:Int)-1,by omega,by first | rfl | go_num,by have:=HZ.out;omega,hJ3⟩
   case measure=>simp [intOf]
  ·obtain rfl:N=k:=by omega
   have hz2:z=-1:=by omega
   subst hz2
   clear hz
   gi_wp2
   go_end0
   exact ⟨⟨_,rfl⟩,hJ⟩
def chunkN (len k:Nat):Nat:=if 2*k+1 < len then 2 else 1
set_option maxHeartbeats 2000000 in
set_option maxRecDepth 100000 in
theorem chunk_gives {n B1 B2 g off len c:Nat}{I:Nat→World→Prop}{w:World}(hn:2≤n)(hN:len≤1000)(hc:len≤c)(_hcm:c≤maxLen)
  (hI:∀ k W,I k W→W.cell? ⟨B1,0,none⟩=some (.slice (some ⟨g,off,none⟩) len c)∧W.cell? ⟨B2,0,none⟩=some (.int .i64 2)) :
  RGives n Tryz.prog 136 #[.pointer (some ⟨B1,0,none⟩),.pointer (some ⟨B2,0,none⟩)] (fun k=>#[.slice (some ⟨g,off+2*k*2,none⟩) (chunkN len k) (chunkN len k)]) ((len+1) / 2) I w:=by
 unfold maxLen at _hcm
 intro l J W hE hJI hC hY h0
 have HI:=hide (fun k W h=>hI k W (hJI k W h))
 have HY:=hide hY
 have HC:=hide hC
 clear hI hY hC hJI
 refine callsIn_of_wp Tryz.func136 rfl trivial ?_ rfl
 simp only [Tryz.ntmps136,List.size_toArray,List.length_cons,List.length_nil,Nat.reduceAdd,Nat.reduceSub,Array.replicate_succ,Array.replicate_zero,List.push_toArray,List.append_toArray,List.nil_append,List.cons_append]
 gi_wp2
 gi_loopw [4] (fun i wr=>∃ (k p:Nat),i=.int .i64 (p:Int)∧p=2*k∧2*k≤len+1∧J k wr) (fun i _=>len+2-(intOf i).toNat)
 case atStart=>exact ⟨0,0,rfl,rfl,by omega,h0⟩
 case round =>
  obtain ⟨k,p,rfl,hp,hk,hJ⟩:=hrel
  have HP:=hide hp
  obtain ⟨b1,b2⟩:=HI.out k wr hJ
  by_cases hkn:p < len
  ·have hYk:=fun W hJ=>HY.out k W hJ (by omega)
   rw [← hp] at hYk
   obtain ⟨q,hq⟩:∃ q,q=len-p:=⟨_,rfl⟩
   obtain ⟨e,he⟩:∃ e,e=chunkN len k:=⟨_,rfl⟩
   have hRC:=fun W=>run_cutP W (some ⟨g,off,none⟩) len c .i64 (p:Int) (by omega) (by omega)
   simp only [Int.toNat_natCast] at hRC
   rw [← hq] at hRC
   generalize cutAt (some ⟨g,off,none⟩) (c*2) (p*2)=A3 at hRC
   generalize c-p=d at hRC
   have HRC:=hide hRC
   have he2:e=if 2≤q then 2 else 1:=by
    rw [he]
    unfold chunkN
    have:=HP.out
    by_cases h:2*k+1 < len
    ·rw [if_pos h,if_pos (by omega)]
    ·rw [if_neg h,if_neg (by omega)]
   have HMin:=hide (show (if (q:Int) < 2 then (q:Int) else 2)=(e:Int) by
    rw [he2]
    by_cases h:2≤q
    ·rw [if_neg (by omega),if_pos h];rfl
    ·rw [if_pos (by omega),if_neg h];omega)
   have heq:1≤e∧p+e≤len:=by
    rw [he2]
    split <;> omega
   obtain ⟨he1,hpe⟩:=heq
   rw [← he] at hYk
   have HYk:=hide hYk
   clear hYk
   have hRM:∀ W,(Instr.slice 162 (.slice (some ⟨g,off,none⟩) len c) (some (.int .i64 (p:Int))) (some (.int .i64 ((p:Int)+(e:Int)))) (some (.int .i64 ((p:Int)+(e:Int))))).run Tryz.prog W=.ok (.slice (some ⟨g,off+p*2,none⟩) e e) W:=fun W=>by
    have:=run_midP W g off len c p (p+e) (by omega) (by omega)
    rw [Int.natCast_add,Nat.add_sub_cancel_left] at this
    exact this
   have HRM:=hide hRM
   clear hRM
   clear hRC he he2 hq hp
   obtain ⟨wa,rfl⟩:∃ W,W=wr:=⟨_,rfl⟩
   gi_wp2
   refine wpIn_wide.2 ?_
   refine wp_region_T (fun W=>W.cell? ⟨B1,0,none⟩=some (.slice (some ⟨g,off,none⟩) len c)∧W.cell? ⟨B2,0,none⟩=some (.int .i64 2)) 6 7 #[false,false,false,false,false,false,false] (by kernel_rfl) rfl rfl ⟨b1,b2⟩ ?_
   intro hS0
   refine wpAnyT_take 0 (some 13) (.int .i64 2) _ rfl rfl rfl (by kernel_rfl) (fun _ _ _ h=>h) hS0 (by rfl) (fun W hX=>by obtain ⟨f1,f2⟩:=hX;go_simp) ?_
   simp only [sP]
   refine wpAnyT_take 1 (some 14) (.slice (some ⟨g,off,none⟩) len c) _ rfl rfl rfl (by kernel_rfl) (fun _ _ _ h=>h) hS0 (by rfl) (fun W hX=>by obtain ⟨f1,f2⟩:=hX;go_simp) ?_
   simp only [sP]
   refine wpAnyT_take 2 (some 15) (.int .i64 (p:Int)) _ rfl rfl rfl (by kernel_rfl) (fun _ _ _ h=>h) hS0 (by rfl) (fun W hX=>by go_simp) ?_
   simp only [sP]
   refine wpAnyT_take 3 (some 16) (.slice A3 q d) _ rfl rfl rfl (by kernel_rfl) (fun _ _ _ h=>h) hS0 (by rfl) (fun W hX=>by have hr:=HRC.out W;go_simp) ?_
   simp only [sP]
   refine wpAnyT_take 4 (some 17) (.int .i64 (q:Int)) _ rfl rfl rfl (by kernel_rfl) (fun _ _ _ h=>h) hS0 (by rfl) (fun W hX=>by go_simp) ?_
   simp only [sP]
   refine wpAnyT_take 5 (some 18) (.int .i64 (e:Int)) _ rfl rfl rfl (by kernel_rfl) (fun _ _ _ h=>h) hS0 (by rfl) (fun W hX=>by go_simp;first | exact HMin.out | (have h:=HMin.out;split at h <;> omega)) ?_
   simp only [sP]
   refine wpAnyT_only 6 _ (by kernel_rfl) rfl rfl (by rfl) (fun K1 hK1=>?_)
   go_simp
   refine hK1 _ _ (fun h=>absurd h (by decide)) (wpAnyT_done (by kernel_rfl) ?_ _)
   clear hK1 K1
   have hJ3:=HC.out k wa wa.drew hJ ⟨rfl,rfl,rfl,Nat.le_refl _,fun _ _ _=>rfl⟩
   obtain ⟨d1,d2⟩:=hS0
   generalize wa.drew=w3 at hJ3 d1 d2 ⊢
   obtain ⟨fn,tmps,assign,body,hy,hR⟩:=HYk.out w3 hJ3
   have hRM:=HRM.out
   clear hJ b1 b2
   gi_wp2
   refine ⟨fun _=>by omega,hR.mono ?_⟩
   rintro e4 W4 ⟨rfl,hJ4⟩
   obtain ⟨f1,f2⟩:=HI.out (k+1) W4 hJ4
   gi_wp2
   go_roundw
   case rel=>exact ⟨k+1,p+2,by go_num,by have:=HP.out;omega,by have:=HP.out;omega,hJ4⟩
   case measure=>simp [intOf];omega
  ·have hpI:¬ (p:Int) < (len:Int):=by omega
   have hkk:k=(len+1) / 2:=by omega
   rw [hkk] at hJ
   clear hp
   gi_wp2
   go_end0
   exact ⟨⟨_,rfl⟩,hJ⟩
end
end Go.Proofs.YtaogpmombefmmaaGreatDoor
