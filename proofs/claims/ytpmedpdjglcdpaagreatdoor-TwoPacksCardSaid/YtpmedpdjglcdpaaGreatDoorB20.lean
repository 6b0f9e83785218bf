/- The document's functions of chapter 18: Build. Laws of chapter 18: PostBuilds. Laws of chapter 18: PostHas. Laws of chapter 18: PostBack. The program's partsOf. The bits of a row as the program writes them. The program's Write of chapter 13. -/
import Derived.Test.YtpmedpdjglcdpaaGreatDoorB02
import Derived.Test.YtpmedpdjglcdpaaGreatDoorB06
import Derived.Test.YtpmedpdjglcdpaaGreatDoorB09
import Derived.Test.YtpmedpdjglcdpaaGreatDoorB10
import Derived.Test.YtpmedpdjglcdpaaGreatDoorB13
import Derived.Test.YtpmedpdjglcdpaaGreatDoorB14
import Derived.Test.YtpmedpdjglcdpaaGreatDoorB15
import Derived.Test.YtpmedpdjglcdpaaGreatDoorB18
import Derived.Test.YtpmedpdjglcdpaaGreatDoorB19
namespace Go.Proofs.YtpmedpdjglcdpaaGreatDoor
section
open Go.RowKit Pst Wrd
theorem abC {o:Oper}{a:Act}{w:World}{Q:Exit→Act→World→Prop}{K:Act→World→Prop}(ty:TypeId)(x y:Operand)(ho:o.op=.store ty x y)
  {g i:Nat} {t:TypeId} {cs:Array Value} (cs':Array Value) {u:Value} (hx:a.eval x=.pointer (some ⟨g,i,none⟩)) (hy:a.eval y=u) (hw:Whole w g t cs) (hi:i<cs.size)
  (hs:(Tryz.prog.info? ty).map (·.size)=some 1) (h1:u.oneCell'=true) (hcells:u.cells=#[u]) (hcs:cs.setIfInBounds i u=cs')
  (h:∀ w',Whole w' g t cs'→w.grownBy w' (some g)→K (a.put o.dst undef) w'):o.wp Tryz.prog a w K Q:=by
 subst hcs
 have hst:=run_storeCells_at Tryz.prog g i t [u] 0 cs w hw (by simp;omega) (fun x hx=>by simp at hx;subst hx;exact h1)
 unfold Oper.wp execOp
 cases hq:Tryz.prog.info? ty with
 | none=>simp[hq]at hs
 | some d =>
  have hs':d.size=1:=by simpa[hq] using hs
  have hr:(storeVar ty ⟨g,i,none⟩ u).run Tryz.prog w=.ok () (w.setRow g (cs.toList.take (i+0)++[u]++cs.toList.drop (i+0+[u].length)).toArray):=by
   simp only[storeVar,sizeOf,typeInfo,hcells]
   simpa[hq,hs'] using hst
  simp only[ho,hx,hy,Instr.storeAt,Instr.sureAddr,Sem.run_bind,Sem.run_pure,Result.andThen_ok,hr]
  refine h _ ?_ ⟨rfl,rfl,rfl,by simp,fun k _ hk=>setRow_other w g k _ (fun e=>hk (by simp[e]))⟩
  have e:(cs.toList.take (i+0)++[u]++cs.toList.drop (i+0+[u].length)).toArray=cs.setIfInBounds i u:=by
   apply Array.ext'
   rw[Array.toList_setIfInBounds,List.set_eq_take_append_cons_drop,if_pos (by simpa using hi)]
   simp
  rw[e]
  exact setRow_heap w g cs _ _ _ hw
theorem TextsAt.keptX {w w':World}{A:Option Addr}{n g:Nat}{L:List (List UInt8)}{a1 a2:Option Addr}{n1 c1 n2 c2:Nat}(h:TextsAt w w.heap.size A n L)(hW:Whole w g 69 #[.slice a1 n1 c1,.slice a2 n2 c2])(hG:w.grownBy w' (some g)):TextsAt w' w'.heap.size A n L:=by
 refine⟨h.1,h.2.imp_right fun ⟨b,off,e,hb,hc⟩=>⟨b,off,e,Nat.lt_of_lt_of_le hb hG.size,fun i hi=>?_⟩⟩
 have h1:=hc i hi
 have hbg:b≠g:=fun e=>by
  subst e
  rw[hW.cell]at h1
  match off+i,h1 with
  | 0,h1=>simp at h1
  | 1,h1=>simp at h1
  | k+2,h1=>simp at h1
 have h2:w'.heap[b]?=w.heap[b]?:=hG.block b hb (by simpa using hbg)
 rw[← h1]
 unfold World.cell?
 simp only[h2]
theorem TextsAt.keptXB {w w':World}{A:Option Addr}{n g B:Nat}{L:List (List UInt8)}{a1 a2:Option Addr}{n1 c1 n2 c2:Nat}(h:TextsAt w B A n L)(hB:B≤w.heap.size)(hW:Whole w g 69 #[.slice a1 n1 c1,.slice a2 n2 c2])(hG:w.grownBy w' (some g)):TextsAt w' B A n L:=by
 refine⟨h.1,h.2.imp_right fun ⟨b,off,e,hb,hc⟩=>⟨b,off,e,hb,fun i hi=>?_⟩⟩
 have h1:=hc i hi
 have hbg:b≠g:=fun e=>by
  subst e
  rw[hW.cell]at h1
  match off+i,h1 with
  | 0,h1=>simp at h1
  | 1,h1=>simp at h1
  | k+2,h1=>simp at h1
 have h2:w'.heap[b]?=w.heap[b]?:=hG.block b (by omega) (by simpa using hbg)
 rw[← h1]
 unfold World.cell?
 simp only[h2]
theorem TextsAt.up {w:World}{A:Option Addr}{n B B':Nat}{L:List (List UInt8)}(h:TextsAt w B A n L)(hB:B≤B'):TextsAt w B' A n L:=⟨h.1,h.2.imp_right fun ⟨b,off,e,hb,hc⟩=>⟨b,off,e,Nat.lt_of_lt_of_le hb hB,hc⟩⟩
theorem Yv:(Tryz.prog.info? 69).map (·.size)=some 2:=by kernel_rfl
theorem qe {fn:Func}{p:Tmp}(h:fn.results=#[.cell p 69])(tmps:Array Value){w:World}{g:Nat}{cs:Array Value}(hp:tmps.getD p undef=.pointer (some ⟨g,0,none⟩))
  (hW:Whole w g 69 cs) (hs:cs.size=2):(results fn tmps).run Tryz.prog w=.ok (.agg cs) w:=by
 have hp':tmps[p]?.getD undef=.pointer (some ⟨g,0,none⟩):=by simpa using hp
 have hl:=run_loadVar_row (P:=Tryz.prog) w g 69 69 cs (0,0) _ hW Tryz.underlying69 rfl (by rw[hs];exact Yv)
 simp[results,h,hp',asAddr,hl]
theorem Q5 (a b:Option Addr)(n c m d:Nat):(#[.slice a n c,.slice b m d]:Array Value).all (·.oneCell')=true:=by
 first | (simp;done) | (simp;exact⟨rfl,rfl⟩) | (simp[Value.oneCell'])
theorem Pst.gather_take {l:List Rc}{i:Nat}(h:i<l.length):gather (l.take (i+1))=(zl (l.getD i default)).foldl zM (gather (l.take i)):=by
 have e:l.take (i+1)=l.take i++[l.getD i default]:=by
  rw[List.take_add_one,List.getElem?_eq_getElem h,List.getD_eq_getElem?_getD,List.getElem?_eq_getElem h]
  rfl
 unfold gather yU
 rw[e,List.foldl_append]
 rfl
set_option maxHeartbeats 4000000 in
set_option maxRecDepth 100000 in
theorem Xv (A:Option Addr)(n c:Nat)(l:List Rc)(w:World)(h:RcsAt w w.heap.size A n l)(hw:Rcs.weightE l≤20000) :
  Calls Tryz.prog 39 #[.slice A n c] w (Yu w (buildE l)):=by
 have hl:=h.1
 have HA:=hide h
 have HCT:=hide (fun (i:Nat) (hi:i<n) (W:World)=>Y4 ((l.getD i default).time:Int) ((l.getD i default).lv.toNat:Int) (l.getD i default).src (l.getD i default).text W (by
   have hmem:l.getD i default∈l:=by rw[List.getD_eq_getElem?_getD,List.getElem?_eq_getElem (by omega)];exact List.getElem_mem _
   have:=Rcs.weight_mem hmem
   omega) (by
   have hmem:l.getD i default∈l:=by rw[List.getD_eq_getElem?_getD,List.getElem?_eq_getElem (by omega)];exact List.getElem_mem _
   have:=Rcs.weight_mem hmem
   omega))
 unfold vN at HCT
 have HGt:=hide (show ∀ i,i<n→gather (l.take (i+1))=(zl (l.getD i default)).foldl zM (gather (l.take i)) from fun i hi=>gather_take (by omega))
 have HG0:=hide (show gather (l.take 0)=[] by rfl)
 have HGn:=hide (show gather (l.take n)=gather l by rw[List.take_of_length_le (by omega)])
 have HGl:=hide (show ∀ i,(gather (l.take i)).length≤20000 from fun i=>by have h1:=j7 (l.take i);have h2:=Rcs.weight_take l i;omega)
 have HTl:=hide (show ∀ i,i<n→(zl (l.getD i default)).length≤20000 from fun i hi=>by
   have hmem:l.getD i default∈l:=by rw[List.getD_eq_getElem?_getD,List.getElem?_eq_getElem (by omega)];exact List.getElem_mem _
   have:=Rcs.weight_mem hmem
   have:=jv (l.getD i default)
   omega)
 obtain⟨w1,hw1⟩:∃ w1,w1=w.alloc (.cells #[.slice none 0 0,.slice none 0 0] 69):=⟨_,rfl⟩
 obtain⟨w2,hw2⟩:∃ w2,w2=w1.alloc (.cells #[.slice none 0 0,.slice none 0 0] 69):=⟨_,rfl⟩
 have hE1:Ext w w1:=by rw[hw1];exact zb w _
 have hE2:Ext w1 w2:=by rw[hw2];exact zb w1 _
 have HE2:=hide (hE1.trans hE2)
 have hsz:w1.heap.size=w.heap.size+1:=by rw[hw1];simp
 have hWr:Whole w2 w.heap.size 69 #[.slice none 0 0,.slice none 0 0]:=by
  have:Whole w1 w.heap.size 69 #[.slice none 0 0,.slice none 0 0]:=by rw[hw1];exact Whole.new w _ _
  exact this.ext hE2
 have hWx:Whole w2 (w.heap.size+1) 69 #[.slice none 0 0,.slice none 0 0]:=by rw[← hsz,hw2];exact Whole.new w1 _ _
 have HWr:=hide hWr
 have HWx:=hide hWx
 rw[hw1]at hw2
 have HWl:=hide hw
 have hn9:n≤20000:=by have:=Rcs.weight_len l;omega
 clear h hl hE1 hE2 hWr hWx hsz hw1 hw
 go_enter Tryz.func39,Tryz.ntmps39
 go_wp2
 rw[← hw2]
 clear hw2
 obtain⟨gx,hgx⟩:∃ gx,gx=w.heap.size+1:=⟨_,rfl⟩
 rw[← hgx]at HWx ⊢
 have HGx:=hide hgx
 clear hgx
 go_loopw [4] (fun y wr=>∃ (i k ck:Nat) (Ak:Option Addr),i≤n∧y=.int .i64 (i:Int)∧k≤ck∧ck≤maxLen∧TextsAt wr wr.heap.size Ak k (gather (l.take i))∧Whole wr gx 69 #[.slice Ak k ck,.slice none 0 0]∧Whole wr w.heap.size 69 #[.slice none 0 0,.slice none 0 0]∧Ext w wr) (fun y _=>n-(intOf y).toNat)
 case atStart=>exact⟨0,0,0,none,by omega,rfl,by omega,by unfold maxLen;omega,⟨by rw[HG0.out];rfl,.inl rfl⟩,HWx.out,HWr.out,HE2.out⟩
 case round =>
  obtain⟨i,k,ck,Ak,hi,rfl,hk1,hk2,hT,hX,hR,hE⟩:=hrel
  have HK:=hide (And.intro hk1 hk2)
  have HT:=hide hT
  have HX:=hide hX
  have HR:=hide hR
  have HE:=hide hE
  clear hk1 hk2 hT hX hR hE
  by_cases hlt:i<n
  ·have hiI:(i:Int)<(n:Int):=by omega
   rcases (HA.out.later HE.out).2.1 with hn0 | ⟨b1,o1,rfl,_,hc1⟩
   ·omega
   obtain⟨e0,e1,e2,e3⟩:=hc1 i hlt
   have C:=HCT.out i hlt wr
   have HGi:=hide (HGt.out i hlt)
   have HTi:=hide (HTl.out i hlt)
   have HPl:=hide (show ∀ q,(((zl (l.getD i default)).take q).foldl zM (gather (l.take i))).length≤40000 from fun q=>by
    have h1:=xS ((zl (l.getD i default)).take q) (gather (l.take i))
    have h2:=HGl.out i
    have h3:=HTi.out
    rw[List.length_take]at h1
    omega)
   have HPt:=hide (fun (q:Nat) (hq:q<(zl (l.getD i default)).length)=>puts_at (out:=gather (l.take i)) hq)
   generalize hts:zl (l.getD i default)=ts at *
   have hts':xh (l.getD i default).text (l.getD i default).src=ts:=hts
   unfold QN at C
   rw[hts']at C
   generalize hP:gather (l.take i)=P at *
   clear hc1 hts hts'
   go_wp2_with fail
   refine C.mono ?_
   rintro e w4 ⟨A4,c4,rfl,-,-,q4,hE4⟩
   obtain⟨m,hm⟩:∃ m,m=ts.length:=⟨_,rfl⟩
   rw[← hm]at q4 HTi ⊢
   have hm2:=HTi.out
   have HM:=hide hm
   have HQ4:=hide q4
   have HT4:=hide (HT.out.later hE4)
   have HX4:=hide (HX.out.ext hE4)
   have HR4:=hide (HR.out.ext hE4)
   have HE4:=hide (HE.out.trans hE4)
   clear C q4 hE4 e0 e1 e2 e3 hm hP
   go_wp2
   go_loopw [6] (fun y wk=>∃ (q k ck:Nat) (Ak:Option Addr),q≤m∧y=.int .i64 (q:Int)∧k≤ck∧ck≤maxLen∧TextsAt wk wk.heap.size Ak k ((ts.take q).foldl zM P)∧TextsAt wk wk.heap.size A4 m ts∧Whole wk gx 69 #[.slice Ak k ck,.slice none 0 0]∧Whole wk w.heap.size 69 #[.slice none 0 0,.slice none 0 0]∧Ext w wk) (fun y _=>m-(intOf y).toNat)
   case atStart=>exact⟨0,k,ck,Ak,by omega,rfl,HK.out.1,HK.out.2,HT4.out,HQ4.out,HX4.out,HR4.out,HE4.out⟩
   case round =>
    clear HK HT HX HR HE HT4 HX4 HR4 HE4 HQ4
    obtain⟨q,k,ck,Ak,hq,rfl,hk1,hk2,hT,hQ,hX,hR,hE⟩:=hrel
    have HT:=hide hT
    have HQ:=hide hQ
    have HR:=hide hR
    have HE:=hide hE
    have hkl:k≤40000:=by have:=hT.1;have h2:=HPl.out q;omega
    by_cases hlt2:q<m
    ·have hqI:(q:Int)<(m:Int):=by omega
     rcases hQ.2 with hm0 | ⟨b4,o4,rfl,hb4,hc4⟩
     ·omega
     have HStr:=hide (show ∀ W,Ext wr W→W.cell? ⟨b4,o4+q,none⟩=some (.string ⟨(ts.getD q []).toArray⟩) from fun W hW=>(hW.cell hb4).trans (hc4 q hlt2))
     have CP:=fun W (hW:Ext wr W)=>ut Ak k ck _ (ts.getD q []) W (HT.out.later hW) hk1 hk2 (by omega)
     unfold vN at CP
     rw[← HPt.out q (by rw[← HM.out];exact hlt2)]at CP
     obtain⟨s,hs⟩:∃ s,s=ts.getD q []:=⟨_,rfl⟩
     rw[← hs]at CP HStr
     clear hT hQ hR hE hs hc4
     obtain⟨wa,rfl⟩:∃ W,W=wr:=⟨_,rfl⟩
     go_wp2_with fail
     refine zq (fun W=>Ext wa W) 8 9 #[false,false,false,false,false,false,false,false,false] (by kernel_rfl) rfl rfl (Ext.refl wa).drew ?_
     intro hS0
     refine za 0 (some 28) (.pointer (some ⟨gx,0,none⟩)) _ rfl rfl rfl (by kernel_rfl) (fun _ _ _ h=>h) hS0 (by rfl) (fun W hX0=>by go_simp) ?_
     simp only[sP]
     refine za 1 (some 29) (.slice Ak k ck) _ rfl rfl rfl (by kernel_rfl) (fun _ _ _ h=>h) hS0 (by rfl) (fun W hX0=>by have s0:=(hX.ext hX0).at 0 (u:=.slice Ak k ck) rfl;go_simp) ?_
     simp only[sP]
     refine za 2 (some 30) (.slice (some ⟨b4,o4,none⟩) m c4) _ rfl rfl rfl (by kernel_rfl) (fun _ _ _ h=>h) hS0 (by rfl) (fun W hX0=>by go_simp) ?_
     simp only[sP]
     refine za 3 (some 31) (.int .i64 (q:Int)) _ rfl rfl rfl (by kernel_rfl) (fun _ _ _ h=>h) hS0 (by rfl) (fun W hX0=>by go_simp) ?_
     simp only[sP]
     refine za 4 (some 32) (.pointer (some ⟨b4,o4+q,none⟩)) _ rfl rfl rfl (by kernel_rfl) (fun _ _ _ h=>h) hS0 (by rfl) (fun W hX0=>by go_simp) ?_
     simp only[sP]
     refine za 5 (some 33) (.string ⟨s.toArray⟩) _ rfl rfl rfl (by kernel_rfl) (fun _ _ _ h=>h) hS0 (by rfl) (fun W hX0=>by have s0:=HStr.out W hX0;go_simp) ?_
     simp only[sP]
     refine zc 6 _ (by kernel_rfl) rfl rfl (by rfl) (fun K0 hK0=>?_)
     go_simp
     go_at_call 66
     refine (CP _ hS0).mono ?_
     rintro e wc ⟨Ac,cc,rfl,hc5,hc6,q5,hC⟩
     have hXc:=hS0.trans hC
     generalize hkc:List.length (List.foldl zM P (List.take (q+1) ts))=kc at *
     refine hK0 _ _ (fun _=>hXc) ?_
     clear hK0 K0
     refine zc 7 _ (by kernel_rfl) rfl rfl (by rfl) (fun K2 hK2=>?_)
     go_simp
     refine hK2 _ _ (fun _=>hXc) ?_
     clear hK2 K2
     refine zc 8 _ (by kernel_rfl) rfl rfl (by rfl) (fun K1 hK1=>?_)
     refine abC 66 (.tmp 35) (.tmp 34) rfl #[.slice Ac kc cc,.slice none 0 0] rfl rfl (hX.ext hXc) (by simp) (by kernel_rfl) rfl rfl rfl ?_
     intro w9 hW9 hG9
     refine hK1 _ _ (fun h=>absurd h (by decide)) (zj (by kernel_rfl) ?_ _)
     clear hK1 K1
     have hF9:Ext w w9:=Below.grown (HE.out.trans hXc) hG9 (HE.out.trans hXc).le (fun j hj=>by cases hj;have:=HGx.out;omega)
     have hT9:=q5.keptX (hX.ext hXc) hG9
     have hQ9:=(HQ.out.later hXc).keptX (hX.ext hXc) hG9
     have hR9:=(HR.out.ext hXc).grown hG9 (by have:=HGx.out;omega)
     go_wp2
     go_roundw
     case rel=>exact⟨q+1,kc,cc,Ac,by omega,by go_num,hc5,hc6,hT9,hQ9,hW9,hR9,hF9⟩
     case measure=>have:=HTi.out;simp[intOf];omega
    ·have hqI:¬ (q:Int)<(m:Int):=by omega
     obtain rfl:m=q:=by omega
     have hTe:List.foldl zM P (List.take m ts)=gather (List.take (i+1) l):=by rw[HGi.out,List.take_of_length_le (by rw[← HM.out];omega)]
     rw[hTe]at hT
     go_wp2
     go_roundw
     case rel=>exact⟨i+1,k,ck,Ak,by omega,by go_num,hk1,hk2,hT,hX,HR.out,HE.out⟩
     case measure=>simp[intOf];omega
  ·have hiI:¬ (i:Int)<(n:Int):=by omega
   obtain rfl:n=i:=by omega
   have hTn:=HT.out
   rw[HGn.out]at hTn
   have HTn:=hide hTn
   have hkn:k≤20000:=by have h1:=hTn.1;have h2:=HGl.out n;rw[HGn.out]at h2;omega
   have HIds:=hide (fun (i:Nat) (hi:i<n) (s:List UInt8)=>show y9 (l.take (i+1)) s=y9 (l.take i) s++if s∈zl (l.getD i default) then [(i:Int)] else [] from by
    have h1:=acT (l.take i) (l.getD i default) s
    rw[List.length_take,Nat.min_eq_left (by have:=HA.out.1;omega)]at h1
    rw[← h1]
    congr 1
    rw[List.take_add_one,List.getElem?_eq_getElem (by have:=HA.out.1;omega),List.getD_eq_getElem?_getD,List.getElem?_eq_getElem (by have:=HA.out.1;omega)]
    rfl)
   have HIdn:=hide (fun (s:List UInt8)=>show y9 (l.take n) s=y9 l s by rw[List.take_of_length_le (by have:=HA.out.1;omega)])
   have HIl:=hide (fun (i:Nat) (s:List UInt8) (hi:i≤n)=>show (y9 (l.take i) s).length≤20000 by
    have h1:∀ (l:List Rc) (k:Nat),(vv s k l).length≤l.length:=fun l=>by
     induction l with
     | nil=>intro k;simp[vv]
     | cons a t ih =>
      intro k
      have:=ih (k+1)
      rw[vv]
      split<;>simp<;>omega
    have h2:=h1 (l.take i) 0
    rw[List.length_take]at h2
    unfold y9
    omega)
   have HMp:=hide (fun (j:Nat) (hj:j<k)=>show ((gather l).take (j+1)).map (y9 l)=((gather l).take j).map (y9 l)++[y9 l ((gather l).getD j [])] by
    rw[take_tx (by have:=hTn.1;omega),List.map_append]
    rfl)
   have HMa:=hide (show (gather l).take k=gather l from List.take_of_length_le (by have:=hTn.1;omega))
   obtain⟨T,hT⟩:∃ T,T=gather l:=⟨_,rfl⟩
   rw[← hT]at hTn HTn HMp HMa
   have HTd:=hide hT
   obtain⟨wt,rfl⟩:∃ W,W=wr:=⟨_,rfl⟩
   have hgt:=HX.out.lt
   have hwt:=HE.out.le
   clear hTn HT hT HGt HG0 HGn HGl HTl HWx HWr HE2
   go_wp2
   go_loopw [7] (fun y wr=>∃ (j:Nat) (lv:Value),j≤k∧y=.int .i64 (j:Int)∧OwnLs wr wt.heap.size lv ((T.take j).map (y9 l))∧TextsAt wr wt.heap.size Ak k T∧wt.heap.size≤wr.heap.size∧Whole wr gx 69 #[.slice Ak k ck,lv]∧Whole wr w.heap.size 69 #[.slice none 0 0,.slice none 0 0]∧Ext w wr) (fun y _=>k-(intOf y).toNat)
   case atStart=>exact⟨0,.slice none 0 0,by omega,rfl,OwnLs.nil _ _,HTn.out,Nat.le_refl _,HX.out,HR.out,HE.out⟩
   case round =>
    clear HTn HX HR HE
    obtain⟨j,lv,hj,rfl,hLs,hT,hsz,hX,hR,hE⟩:=hrel
    obtain⟨Al,cl,hlv,hcl1,hcl2,-⟩:=hLs.form
    rw[List.length_map,List.length_take,Nat.min_eq_left (by have:=hT.1;omega)]at hlv hcl1
    subst hlv
    have HLs:=hide hLs
    have HT:=hide hT
    have HX:=hide hX
    have HR:=hide hR
    have HE:=hide hE
    have HSz:=hide hsz
    by_cases hlt:j<k
    ·have hjI:(j:Int)<(k:Int):=by omega
     obtain⟨wo,rfl⟩:∃ W,W=wr:=⟨_,rfl⟩
     rcases hT.2 with h0 | ⟨bt,ot,rfl,hbt,hct⟩
     ·omega
     have HStr:=hide (show ∀ W,Ext wo W→W.cell? ⟨bt,ot+j,none⟩=some (.string ⟨(T.getD j []).toArray⟩) from fun W hW=>(hW.cell (by omega)).trans (hct j hlt))
     have HMj:=hide (HMp.out j hlt)
     obtain⟨s,hs⟩:∃ s,s=T.getD j []:=⟨_,rfl⟩
     rw[← hs]at HStr HMj
     have d0:=HX.out.at 0 (u:=.slice (some ⟨bt,ot,none⟩) k ck) rfl
     clear hT hX hR hE hLs hsz hct hs
     go_wp2
     clear d0
     go_loopw [9,8] (fun y v wk=>∃ i:Nat,i≤n∧y=.int .i64 (i:Int)∧OwnI wk wo.heap.size v (y9 (l.take i) s)∧Ext wo wk) (fun y _ _=>n-(intOf y).toNat)
     case atStart=>exact⟨0,by omega,rfl,OwnI.nil _ _,Ext.refl _⟩
     case round =>
      obtain⟨i,hi,rfl,hO,hEk⟩:=hrel
      have HO:=hide hO
      have HEk:=hide hEk
      have HXk:=hide (HX.out.ext hEk)
      clear hO hEk
      by_cases hlt2:i<n
      ·have hiI:(i:Int)<(n:Int):=by omega
       obtain⟨wi,rfl⟩:∃ W,W=wr:=⟨_,rfl⟩
       rcases (HA.out.later (HE.out.trans HEk.out)).2.1 with hn0 | ⟨b1,o1,rfl,hb1,hc1⟩
       ·omega
       have HRec:=hide (show ∀ W,Ext wi W→RcAt W b1 (o1+i*4) (l.getD i default) from fun W hW=>(hc1 i hlt2).below hW hb1)
       have C:=fun W=>HCT.out i hlt2 W
       have HIi:=hide (HIds.out i hlt2 s)
       have hil:=HIl.out i s hi
       have hts:xh (l.getD i default).text (l.getD i default).src=zl (l.getD i default):=rfl
       rw[hts]at C
       have hfew:(zl (l.getD i default)).length≤1000000:=by
        have hmem:l.getD i default∈l:=by rw[List.getD_eq_getElem?_getD,List.getElem?_eq_getElem (by have:=HA.out.1;omega)];exact List.getElem_mem _
        have h1:=Rcs.weight_mem hmem
        have h2:=jv (l.getD i default)
        have h3:=HWl.out
        omega
       generalize zl (l.getD i default)=ts at *
       have CH:=fun (A':Option Addr) (c':Nat) (W:World) (h1:TextsAt W W.heap.size A' ts.length ts)=>Ut A' ts.length c' ts s W h1 hfew
       unfold QN at C
       generalize l.getD i default=r at *
       obtain⟨rt,rl,rs,rg⟩:=r
       dsimp only at C
       clear hc1 hts
       go_wp2_with fail
       refine zq (fun W=>Ext wi W) 10 11 #[false,false,false,false,false,false,false,false,false,false,false] (by kernel_rfl) rfl rfl (Ext.refl wi).drew ?_
       intro hS0
       refine za 0 (some 49) (.slice (some ⟨b1,o1,none⟩) n c) _ rfl rfl rfl (by kernel_rfl) (fun _ _ _ h=>h) hS0 (by rfl) (fun W hX0=>by go_simp) ?_
       simp only[sP]
       refine za 1 (some 50) (.int .i64 (i:Int)) _ rfl rfl rfl (by kernel_rfl) (fun _ _ _ h=>h) hS0 (by rfl) (fun W hX0=>by go_simp) ?_
       simp only[sP]
       refine za 2 (some 51) (.pointer (some ⟨b1,o1+i*4,none⟩)) _ rfl rfl rfl (by kernel_rfl) (fun _ _ _ h=>h) hS0 (by rfl) (fun W hX0=>by go_simp) ?_
       simp only[sP]
       refine za 3 (some 52) (.agg #[.int .u64 (rt:Int),.int .u8 (rl.toNat:Int),.string ⟨rs.toArray⟩,.string ⟨rg.toArray⟩]) _ rfl rfl rfl (by kernel_rfl) (fun _ _ _ h=>h) hS0 (by rfl) (fun W hX0=>by obtain⟨s0,s1,s2,s3⟩:=HRec.out W hX0;dsimp only at s0 s1 s2 s3;go_simp) ?_
       simp only[sP]
       refine za 5 (some 54) (.pointer (some ⟨gx,0,none⟩)) _ rfl rfl rfl (by kernel_rfl) (fun _ _ _ h=>h) hS0 (by rfl) (fun W hX0=>by go_simp) ?_
       simp only[sP]
       refine za 6 (some 55) (.slice (some ⟨bt,ot,none⟩) k ck) _ rfl rfl rfl (by kernel_rfl) (fun _ _ _ h=>h) hS0 (by rfl) (fun W hX0=>by have s0:=(HXk.out.ext hX0).at 0 (u:=.slice (some ⟨bt,ot,none⟩) k ck) rfl;go_simp) ?_
       simp only[sP]
       refine za 7 (some 56) (.int .i64 (j:Int)) _ rfl rfl rfl (by kernel_rfl) (fun _ _ _ h=>h) hS0 (by rfl) (fun W hX0=>by go_simp) ?_
       simp only[sP]
       refine za 8 (some 57) (.pointer (some ⟨bt,ot+j,none⟩)) _ rfl rfl rfl (by kernel_rfl) (fun _ _ _ h=>h) hS0 (by rfl) (fun W hX0=>by go_simp) ?_
       simp only[sP]
       refine za 9 (some 58) (.string ⟨s.toArray⟩) _ rfl rfl rfl (by kernel_rfl) (fun _ _ _ h=>h) hS0 (by rfl) (fun W hX0=>by have s0:=HStr.out W (HEk.out.trans hX0);go_simp) ?_
       simp only[sP]
       refine zc 4 _ (by kernel_rfl) rfl rfl (by rfl) (fun K0 hK0=>?_)
       go_simp
       go_at_call 65
       refine (C _).mono ?_
       rintro e wc ⟨A4,c4,rfl,-,-,q4,hC⟩
       have hXc:=hS0.trans hC
       have CHs:=CH A4 c4 wc q4
       obtain⟨m,hm⟩:∃ m,m=ts.length:=⟨_,rfl⟩
       rw[← hm]at CHs ⊢
       refine hK0 _ _ (fun _=>hXc) ?_
       clear hK0 K0 hm
       refine zc 10 _ (by kernel_rfl) rfl rfl (by rfl) (fun K1 hK1=>?_)
       go_simp
       go_at_call 67
       refine CHs.mono ?_
       rintro e wd ⟨rfl,rfl⟩
       refine hK1 _ _ (fun h=>absurd h (by decide)) (zj (by kernel_rfl) ?_ _)
       clear hK1 K1 CHs
       generalize hb:decide (s∈ts)=bb at *
       cases bb with
       | true =>
        have hin:s∈ts:=of_decide_eq_true hb
        rw[if_pos hin]at HIi
        clear hb hin
        go_wp2_with (at_builtin;refine ub rfl (.tmp 60) (.tmp 62) rfl rfl (i:Int) ((HO.out.ext hXc).ext (zb wc _)) rfl (by omega) (by have:=(HEk.out.trans hXc).le;omega) ?_;intro v9 w9 hO9 hG9;rw[← HIi.out]at hO9;have HO9:=hide hO9;have HE9:=hide (show Ext wo w9 from Below.grown ((HEk.out.trans hXc).trans (zb wc _)) hG9 ((HEk.out.trans hXc).trans (zb wc _)).le (fun k hk=>(HO.out.lt k hk).1));clear hO9 hG9)
        go_roundw
        case rel=>exact⟨i+1,by omega,by go_num,HO9.out,HE9.out⟩
        case measure=>simp[intOf];omega
       | false =>
        have hin:¬ s∈ts:=of_decide_eq_false hb
        rw[if_neg hin,List.append_nil]at HIi
        have hO2:=HO.out.ext hXc
        rw[← HIi.out]at hO2
        have HO2:=hide hO2
        clear hb hin hO2
        go_wp2
        go_roundw
        case rel=>exact⟨i+1,by omega,by go_num,HO2.out,HEk.out.trans hXc⟩
        case measure=>simp[intOf];omega
      ·have hiI:¬ (i:Int)<(n:Int):=by omega
       obtain rfl:n=i:=by omega
       rw[HIdn.out s]at HO
       have d0:=HXk.out.at 0 (u:=.slice (some ⟨bt,ot,none⟩) k ck) rfl
       have d1:=HXk.out.at 1 (u:=.slice Al j cl) rfl
       obtain⟨wi,rfl⟩:∃ W,W=wr:=⟨_,rfl⟩
       have hO8:=HO.out
       obtain⟨A8,c8,hv8,-,-,-⟩:=hO8.form2
       subst hv8
       clear hO8
       have hne:(Value.slice Al j cl).ownBlock≠some gx:=fun e=>by have:=(HLs.out.lt _ e).1;omega
       have hlm:((T.take j).map (y9 l)).length≤1000000:=by rw[List.length_map,List.length_take];omega
       go_wp2_with (first
        | (at_builtin;refine qP rfl (.tmp 65) (.tmp 67) rfl rfl (HLs.out.ext HEk.out) (HO.out.lower (by have:=HSz.out;omega)) rfl hlm (by have:=HSz.out;have:=HEk.out.le;omega) ?_;intro v6 w6 hL6 hG6 _;rw[← HMj.out]at hL6;obtain⟨A6,c6,hv6,-,-,-⟩:=hL6.form;rw[List.length_map,List.length_take,Nat.min_eq_left (by have:=HT.out.1;omega)]at hv6;subst hv6;have HL6:=hide hL6;have HG6:=hide hG6;have HX6:=hide ((HXk.out.ext (zb wi _)).ownGrown hG6 hne);clear hL6 hG6 d0 d1)
        | (refine yb rfl 67 (.tmp 69) (.tmp 68) rfl #[.slice (some ⟨bt,ot,none⟩) k ck,.slice A6 (j+1) c6] rfl rfl HX6.out (by simp) (by kernel_rfl) rfl rfl rfl ?_;intro w7 hW7 hG7;have HW7:=hide hW7;have HG7:=hide hG7;clear hW7 hG7))
       have hF6:=(HEk.out.trans (zb wi (.cells #[.slice A8 (y9 l s).length c8] 48)))
       have hle6:=hF6.le
       have hB6:Below wt.heap.size wo w6:=Below.grown (Below.mono hF6 HSz.out) HG6.out (by have:=HSz.out;omega) (fun k hk=>(HLs.out.lt k hk).1)
       have hT7:=(HT.out.below hB6 (Nat.le_refl _)).keptXB (by have:=HSz.out;have:=hB6.size;omega) HX6.out HG7.out
       have hL7:=HL6.out.kept HX6.out (by decide) (by decide) HG7.out
       have hR7:=((HR.out.ext hF6).ownGrown HG6.out (fun e=>by have:=(HLs.out.lt _ e).1;have:=HGx.out;omega)).grown HG7.out (by have:=HGx.out;omega)
       have hE6:Ext w w6:=Below.grown (HE.out.trans hF6) HG6.out (HE.out.trans hF6).le (fun k hk=>by have:=(HLs.out.lt k hk).1;omega)
       have hE7:Ext w w7:=Below.grown hE6 HG7.out hE6.le (fun k hk=>by cases hk;have:=HGx.out;omega)
       have hs7:wt.heap.size≤w7.heap.size:=by have:=HSz.out;have:=hB6.size;have:=HG7.out.size;omega
       go_wp2
       go_roundw
       case rel=>exact⟨j+1,_,by omega,by go_num,hL7,hT7,hs7,HW7.out,hR7,hE7⟩
       case measure=>simp[intOf];omega
    ·have hjI:¬ (j:Int)<(k:Int):=by omega
     obtain rfl:k=j:=by omega
     rw[HMa.out]at HLs
     have d0:=HX.out.at 0 (u:=.slice Ak k ck) rfl
     have d1:=HX.out.at 1 (u:=.slice Al k cl) rfl
     clear hT hX hR hE hLs hsz
     go_wp2_with (refine zh rfl 69 (.tmp 2) (.tmp 70) rfl rfl rfl HR.out rfl Yv (Q5 _ _ _ _ _ _) ?_;intro w6 hW6 hG6 _)
     have hT6:TextsAt w6 w6.heap.size Ak k T:=(HT.out.keptXB HSz.out HR.out hG6).up (by have:=HSz.out;have:=hG6.size;omega)
     obtain⟨Az,cz,hz,z1,z2,z3⟩:=(HLs.out.kept HR.out (by decide) (by decide) hG6).form
     injection hz with q1 q2 q3
     subst q1 q3
     rw[← q2]at z1 z3
     refine bodyPost_ret (qe rfl _ rfl hW6 rfl) rfl ⟨⟨Ak,k,ck,Al,k,cl,buildE l⟩,rfl,rfl,⟨⟨HK.out.1,HK.out.2,?_⟩,z1,z2,?_⟩,Below.grown HE.out hG6 HE.out.le (fun k hk=>by cases hk;omega)⟩
     ·show TextsAt w6 w6.heap.size Ak k (gather l)
      rw[← HTd.out]
      exact hT6
     ·show ILists w6 w6.heap.size Al k ((gather l).map (y9 l))
      rw[← HTd.out]
      exact z3
end
section
open Go.RowKit Pst Wrd
theorem Pst.ids_len (l:List Rc)(s:List UInt8):(y9 l s).length≤l.length:=by
 have h1:∀ (l:List Rc) (k:Nat),(vv s k l).length≤l.length:=fun l=>by
  induction l with
  | nil=>intro k;simp[vv]
  | cons a t ih =>
   intro k
   have:=ih (k+1)
   rw[vv]
   split<;>simp<;>omega
 exact h1 l 0
end
section
open Go.RowKit Pst
theorem Pst.row_hundred {bound:Int}{l:List Int}(hb:0≤bound∧bound≤20000)(h:zT bound l=true)(hn:l.length≤100):(Ef.rowB bound l).length≤220:=by
 have hw:=(row_small hb h (by omega)).1
 have hne:0<l.length:=by
  unfold zT at h
  rw[Bool.and_eq_true]at h
  exact List.length_pos_iff.2 (of_decide_eq_true h.1)
 have h1:=Ef.short (bound:=bound) (ids:=l) (by rw[hw]) hne (by omega)
 rw[hw]at h1
 have h2:=Ef.widE_le (bound:=bound) (n:=l.length) hb.2
 have h3:l.length*(Ef.widE bound l.length+3)≤100*17:=Nat.mul_le_mul hn (by omega)
 dsimp only at h1
 omega
theorem Pst.rows_most {bound:Int}{k:Nat}{U:List (List Int)}(h:∀ l,l∈U→(Ef.rowB bound l).length≤k):(U.flatMap (Ef.rowB bound)).length≤k*U.length:=by
 induction U with
 | nil=>simp
 | cons a t ih =>
  have h1:=h a (by simp)
  have h2:=ih fun l hl=>h l (by simp[hl])
  rw[List.flatMap_cons,List.length_append,List.length_cons,Nat.mul_add,Nat.mul_one]
  omega
end
section
open Go.RowKit Num Ef
theorem uy:(Tryz.prog.info? 177).map (·.size)=some 3:=by kernel_rfl
theorem VQ (k:Int)(A1:Option Addr)(n1 c1:Nat)(A2:Option Addr)(n2 c2:Nat):(#[.int .i64 k,.slice A1 n1 c1,.slice A2 n2 c2]:Array Value).all (·.oneCell')=true:=by
 simp
 exact⟨rfl,rfl,rfl⟩
def adO (w:World)(k:Nat)(ids:List Int)(e:Ending)(w':World):Prop :=
 ∃ A1 c1 A2 c2,e=.returned (Q0 k A1 ids.length c1 A2 ids.length c2)∧PartsV w' w'.heap.size k A1 ids.length A2 ids.length ids∧Ext w w'
theorem Ef.cut_bits (y k:Nat)(hk:k≤14)(hy:y≤1000000):IntKind.i64.wrap (2 ^ k)=((2 ^ k:Nat):Int)∧IntKind.i64.wrap (((2 ^ k:Nat):Int)-1)=((2 ^ k:Nat):Int)-1∧1≤2 ^ k∧2 ^ k≤16384∧bits .and .i64 (y:Int) (((2 ^ k:Nat):Int)-1)=((y % 2 ^ k:Nat):Int)∧(y:Int) / 2 ^ k=((y / 2 ^ k:Nat):Int)∧y / 2 ^ k≤1000000:=by
 have hpw:(2:Nat) ^ k≤2 ^ 14:=Nat.pow_le_pow_right (by omega) hk
 have h1:1≤2 ^ k:=Nat.pow_pos (by omega)
 have e:(((2 ^ k:Nat):Int)-1)=((2 ^ k-1:Nat):Int):=by omega
 refine⟨by rw[IntWalk.i64_left];exact Xg (by omega),by rw[IntKind.wrap_i64];omega,h1,by omega,?_,?_,Nat.le_trans (Nat.div_le_self _ _) hy⟩
 ·have h2:y<4611686018427387904:=by omega
  have h3:2 ^ k-1<4611686018427387904:=by omega
  rw[e,JL y (2 ^ k-1) h2 h3,Nat.and_two_pow_sub_one_eq_mod]
 ·simp only[Int.natCast_ediv,Int.natCast_pow];rfl
set_option maxHeartbeats 2000000 in
set_option maxRecDepth 10000 in
theorem JU (A:Option Addr)(c:Nat)(ids:List Int)(bd:Nat)(w0:World)(h:IntsAt w0 w0.heap.size A ids.length ids)(hb:bd≤20000)(hn:ids.length≤20000)(hr:row (bd:Int) ids=true) :
  Calls Tryz.prog 137 #[.int .i64 (bd:Int),.slice A ids.length c] w0 (adO w0 (widE (bd:Int) ids.length) ids):=by
 have CL:=fun W=>abv bd ids.length W hb hn
 have hk14:=widE_le (bound:=(bd:Int)) (n:=ids.length) (by omega)
 have HRow:=hide (fun (i:Nat) (hi:i<ids.length)=>uv hr hi)
 have HA:=hide h
 clear hr h
 generalize widE (bd:Int) ids.length=k at *
 obtain⟨n,hnn⟩:∃ n,n=ids.length:=⟨_,rfl⟩
 rw[← hnn]at CL HRow HA hn ⊢
 have HNn:=hide hnn
 clear hnn
 have hE1:=hide (zb w0 (.cells #[.int .i64 0,.slice none 0 0,.slice none 0 0] 177))
 have hR1:=hide (Whole.new w0 177 #[.int .i64 0,.slice none 0 0,.slice none 0 0])
 go_enter Tryz.func137,Tryz.ntmps137
 go_wp2_with fail
 refine (CL _).mono ?_
 rintro e w2 ⟨rfl,hQ2⟩
 have hE2:=hE1.out.trans hQ2.ext
 have hR2:=hR1.out.ext hQ2.ext
 have hRlt:=hR2.lt
 clear CL hQ2 hE1 hR1
 obtain⟨g,hg⟩:∃ g,g=w2.heap.size:=⟨_,rfl⟩
 obtain⟨R,hRR⟩:∃ R,R=w0.heap.size:=⟨_,rfl⟩
 have hE4:=hE2.trans (zb w2 (.cells #[.int .i64 0,.slice none 0 0,.slice none 0 0] 177))
 have hW4:=Whole.new w2 177 #[.int .i64 0,.slice none 0 0,.slice none 0 0]
 have hR4:=hR2.ext (zb w2 (.cells #[.int .i64 0,.slice none 0 0,.slice none 0 0] 177))
 have HG:=hide hg
 have HRR:=hide hRR
 rw[← hg]at hW4 hRlt
 rw[← hRR]at hR4 hRlt
 have hRw:w0.heap.size≤R:=by omega
 have hgw:w0.heap.size≤g:=by omega
 clear hR2 hE2 hg hRR
 go_wp2_with (refine zh rfl 177 (.tmp 5) (.tmp 12) rfl (by rw[HG.out];rfl) rfl hW4 rfl uy (VQ ..) ?_;intro w5 hW5 hG5 hS5;clear hS5)
 rw[← HG.out,← HRR.out]
 have hR5:=hR4.grown hG5 (by omega)
 have hE5:Ext w0 w5:=Below.grown hE4 hG5 hE4.le (fun k hk=>by cases hk;omega)
 clear hW4 hG5 hR4 hE4
 go_loopw [15] (fun x wr=>∃ i A1 c1 A2 c2 L H,i≤n∧x=.int .i64 ((i:Nat):Int)∧Whole wr g 177 #[.int .i64 (k:Int),.slice A1 L.length c1,.slice A2 H.length c2]∧TwoI wr (g+1) (.slice A1 L.length c1) (.slice A2 H.length c2) L H∧Ef.Parts k (ids.take i) L H∧L.length=i∧Whole wr R 177 #[.int .i64 0,.slice none 0 0,.slice none 0 0]∧Ext w0 wr) (fun x _=>n-(intOf x).toNat)
 case atStart=>exact⟨0,none,0,none,0,[],[],by omega,rfl,hW5,TwoI.nil _ _,by rw[List.take_zero];exact Ef.Parts.nil hk14 _,rfl,hR5,hE5⟩
 case round =>
  clear hW5 hR5 hE5
  obtain⟨i,A1,c1,A2,c2,L,H,hi,rfl,hW,hT,hP,hL,hR,hE⟩:=hrel
  have HP:=hide hP
  have HLen:=hide (show L.length≤20000∧H.length≤20000 by
   have h1:=hP.2.1
   rw[List.length_take]at h1
   omega)
  have HL:=hide hL
  clear hP hL
  by_cases hlt:i<n
  ·have hiI:(i:Int)<(n:Int):=by omega
   rcases (HA.out.later hE).2 with hn0 | ⟨b1,o1,rfl,_,hc1⟩
   ·omega
   have e1:=hc1 i hlt
   obtain⟨hy0,hyb,-⟩:=HRow.out i hlt
   obtain⟨y,hy⟩:=Int.eq_ofNat_of_zero_le hy0
   rw[hy]at e1 hyb
   have HY:=hide hy
   have hym:y≤1000000:=by omega
   obtain⟨hpw,hpm,hp1,hp2,hand,hshr,hhm⟩:=cut_bits y k hk14 hym
   have HX:=hide (Nat.mod_lt y (show 0<2 ^ k by omega))
   have HI:=hide (adM y k)
   have HM:=hide hhm
   clear hc1 hy0 hy hhm
   obtain⟨p,hp⟩:∃ p,p=2 ^ k:=⟨_,rfl⟩
   obtain⟨x,hx⟩:∃ x,x=y % 2 ^ k:=⟨_,rfl⟩
   obtain⟨h,hh⟩:∃ h,h=y / 2 ^ k:=⟨_,rfl⟩
   rw[← hx]at HX HI hand
   rw[← hh]at HI HM hshr
   rw[← hp]at hpw hpm hp1 hp2 hand
   clear hp hx hh hyb
   go_wp2_with fail
   refine zq (fun W=>Whole W g 177 #[.int .i64 (k:Int),.slice A1 L.length c1,.slice A2 H.length c2]) 9 12 #[false,false,false,false,false,false,false,false,false,false,false,false] (by kernel_rfl) rfl rfl hW ?_
   intro hS0
   refine za 0 (some 19) (.pointer (some ⟨g,1,none⟩)) _ rfl rfl rfl (by kernel_rfl) (fun _ _ _ h=>h) hS0 (by rfl) (fun W hX=>by have s0:=hX.at 0 (u:=.int .i64 (k:Int)) rfl;have s1:=hX.at 1 (u:=.slice A1 L.length c1) rfl;have s2:=hX.at 2 (u:=.slice A2 H.length c2) rfl;go_simp) ?_
   simp only[sP]
   refine za 1 (some 20) (.slice A1 L.length c1) _ rfl rfl rfl (by kernel_rfl) (fun _ _ _ h=>h) hS0 (by rfl) (fun W hX=>by have s0:=hX.at 0 (u:=.int .i64 (k:Int)) rfl;have s1:=hX.at 1 (u:=.slice A1 L.length c1) rfl;have s2:=hX.at 2 (u:=.slice A2 H.length c2) rfl;go_simp) ?_
   simp only[sP]
   refine za 2 (some 21) (.int .i64 (y:Int)) _ rfl rfl rfl (by kernel_rfl) (fun _ _ _ h=>h) hS0 (by rfl) (fun W hX=>by have s0:=hX.at 0 (u:=.int .i64 (k:Int)) rfl;have s1:=hX.at 1 (u:=.slice A1 L.length c1) rfl;have s2:=hX.at 2 (u:=.slice A2 H.length c2) rfl;go_simp) ?_
   simp only[sP]
   refine za 3 (some 22) (.pointer (some ⟨g,0,none⟩)) _ rfl rfl rfl (by kernel_rfl) (fun _ _ _ h=>h) hS0 (by rfl) (fun W hX=>by have s0:=hX.at 0 (u:=.int .i64 (k:Int)) rfl;have s1:=hX.at 1 (u:=.slice A1 L.length c1) rfl;have s2:=hX.at 2 (u:=.slice A2 H.length c2) rfl;go_simp) ?_
   simp only[sP]
   refine za 4 (some 23) (.int .i64 (k:Int)) _ rfl rfl rfl (by kernel_rfl) (fun _ _ _ h=>h) hS0 (by rfl) (fun W hX=>by have s0:=hX.at 0 (u:=.int .i64 (k:Int)) rfl;have s1:=hX.at 1 (u:=.slice A1 L.length c1) rfl;have s2:=hX.at 2 (u:=.slice A2 H.length c2) rfl;go_simp) ?_
   simp only[sP]
   refine za 5 (some 24) (.int .i64 (p:Int)) _ rfl rfl rfl (by kernel_rfl) (fun _ _ _ h=>h) hS0 (by rfl) (fun W hX=>by have s0:=hX.at 0 (u:=.int .i64 (k:Int)) rfl;have s1:=hX.at 1 (u:=.slice A1 L.length c1) rfl;have s2:=hX.at 2 (u:=.slice A2 H.length c2) rfl;go_simp) ?_
   simp only[sP]
   refine za 6 (some 25) (.int .i64 ((p:Int)-1)) _ rfl rfl rfl (by kernel_rfl) (fun _ _ _ h=>h) hS0 (by rfl) (fun W hX=>by have s0:=hX.at 0 (u:=.int .i64 (k:Int)) rfl;have s1:=hX.at 1 (u:=.slice A1 L.length c1) rfl;have s2:=hX.at 2 (u:=.slice A2 H.length c2) rfl;go_simp) ?_
   simp only[sP]
   refine za 7 (some 26) (.int .i64 (x:Int)) _ rfl rfl rfl (by kernel_rfl) (fun _ _ _ h=>h) hS0 (by rfl) (fun W hX=>by have s0:=hX.at 0 (u:=.int .i64 (k:Int)) rfl;have s1:=hX.at 1 (u:=.slice A1 L.length c1) rfl;have s2:=hX.at 2 (u:=.slice A2 H.length c2) rfl;go_simp) ?_
   simp only[sP]
   have hT0:=hT.ext (Ext.refl wr).drew
   have hR0:=hR.ext (Ext.refl wr).drew
   have hE0:=hE.trans (Ext.refl wr).drew
   generalize World.drew wr=wd at *
   refine zc 8 _ (by kernel_rfl) rfl rfl (by rfl) (fun K0 hK0=>?_)
   go_simp
   have hEb:=zb wd (.cells #[.int .i64 (x:Int)] 3)
   have hcb:=(Whole.new wd 3 #[.int .i64 (x:Int)]).at 0 (u:=.int .i64 (x:Int)) rfl
   have hSb:=hS0.ext hEb
   have hTb:=hT0.ext hEb
   have hRb:=hR0.ext hEb
   have hE1:=hE0.trans hEb
   generalize wd.alloc (.cells #[.int .i64 (x:Int)] 3)=wb at *
   generalize wd.heap.size=gb at *
   refine hK0 _ _ (fun _=>hSb) ?_
   clear hK0 K0
   refine zc 9 _ (by kernel_rfl) rfl rfl (by rfl) (fun K1 hK1=>?_)
   refine vG (.tmp 20) (.tmp 27) rfl rfl hTb.one rfl hcb (by have:=HLen.out;omega) (by have:=hSb.lt;omega) ?_
   intro vn wa hO hG hN
   obtain⟨L2,hn⟩:∃ Z,Z=L++[(x:Int)]:=⟨_,rfl⟩
   rw[← hn]at hO
   have HN5:=hide hn
   clear hn
   have hWa:=hSb.ownGrown hG (hTb.ne1 (by omega))
   have hTa:=hTb.grow hO hG hN
   have hRa:=hRb.ownGrown hG (fun e=>by have:=hTb.one.lt R e;omega)
   have hEa:Ext w0 wa:=Below.grown hE1 hG hE1.le (fun k hk=>by have:=hTb.one.lt k hk;omega)
   obtain⟨A3,c3,hvn,hcn,-⟩:=hO.form
   subst hvn
   clear hO hG hN hTb hSb hRb hE1 hEb hcb hT0 hR0 hE0
   refine hK1 _ _ (fun h=>absurd h (by decide)) ?_
   clear hK1 K1
   simp only[Act.put,List.setIfInBounds_toArray]
   refine zc 10 _ (by kernel_rfl) rfl rfl (by rfl) (fun K2 hK2=>?_)
   go_simp
   refine hK2 _ _ (fun h=>absurd h (by decide)) ?_
   clear hK2 K2
   refine zc 11 _ (by kernel_rfl) rfl rfl (by rfl) (fun K3 hK3=>?_)
   refine vH 48 (.tmp 29) (.tmp 28) rfl #[.int .i64 (k:Int),.slice A3 L2.length c3,.slice A2 H.length c2] rfl rfl hWa (by simp) (by kernel_rfl) rfl rfl rfl ?_
   intro w6 hWs hGs
   have hTs:=hTa.below hGs (by omega)
   have hRs:=hRa.grown hGs (by omega)
   have hEs:Ext w0 w6:=Below.grown hEa hGs hEa.le (fun k hk=>by cases hk;omega)
   refine hK3 _ _ (fun h=>absurd h (by decide)) (zj (by kernel_rfl) ?_ _)
   clear hK3 K3 hWa hTa hRa hEa hGs hW hT hR hE hS0 hcn
   simp only[Act.put]
   have hW:=hWs
   have hT:=hTs
   have hR:=hRs
   have hE:=hEs
   clear hWs hTs hRs hEs
   go_wp2_with fail
   refine zq (fun W=>Whole W g 177 #[.int .i64 (k:Int),.slice A3 L2.length c3,.slice A2 H.length c2]) 7 10 #[false,false,false,false,false,false,false,false,false,false] (by kernel_rfl) rfl rfl hW ?_
   intro hS0
   refine za 0 (some 30) (.pointer (some ⟨g,2,none⟩)) _ rfl rfl rfl (by kernel_rfl) (fun _ _ _ h=>h) hS0 (by rfl) (fun W hX=>by have s0:=hX.at 0 (u:=.int .i64 (k:Int)) rfl;have s1:=hX.at 1 (u:=.slice A3 L2.length c3) rfl;have s2:=hX.at 2 (u:=.slice A2 H.length c2) rfl;go_simp) ?_
   simp only[sP]
   refine za 1 (some 31) (.slice A2 H.length c2) _ rfl rfl rfl (by kernel_rfl) (fun _ _ _ h=>h) hS0 (by rfl) (fun W hX=>by have s0:=hX.at 0 (u:=.int .i64 (k:Int)) rfl;have s1:=hX.at 1 (u:=.slice A3 L2.length c3) rfl;have s2:=hX.at 2 (u:=.slice A2 H.length c2) rfl;go_simp) ?_
   simp only[sP]
   refine za 2 (some 32) (.int .i64 (y:Int)) _ rfl rfl rfl (by kernel_rfl) (fun _ _ _ h=>h) hS0 (by rfl) (fun W hX=>by have s0:=hX.at 0 (u:=.int .i64 (k:Int)) rfl;have s1:=hX.at 1 (u:=.slice A3 L2.length c3) rfl;have s2:=hX.at 2 (u:=.slice A2 H.length c2) rfl;go_simp) ?_
   simp only[sP]
   refine za 3 (some 33) (.pointer (some ⟨g,0,none⟩)) _ rfl rfl rfl (by kernel_rfl) (fun _ _ _ h=>h) hS0 (by rfl) (fun W hX=>by have s0:=hX.at 0 (u:=.int .i64 (k:Int)) rfl;have s1:=hX.at 1 (u:=.slice A3 L2.length c3) rfl;have s2:=hX.at 2 (u:=.slice A2 H.length c2) rfl;go_simp) ?_
   simp only[sP]
   refine za 4 (some 34) (.int .i64 (k:Int)) _ rfl rfl rfl (by kernel_rfl) (fun _ _ _ h=>h) hS0 (by rfl) (fun W hX=>by have s0:=hX.at 0 (u:=.int .i64 (k:Int)) rfl;have s1:=hX.at 1 (u:=.slice A3 L2.length c3) rfl;have s2:=hX.at 2 (u:=.slice A2 H.length c2) rfl;go_simp) ?_
   simp only[sP]
   refine za 5 (some 35) (.int .i64 (h:Int)) _ rfl rfl rfl (by kernel_rfl) (fun _ _ _ h=>h) hS0 (by rfl) (fun W hX=>by have s0:=hX.at 0 (u:=.int .i64 (k:Int)) rfl;have s1:=hX.at 1 (u:=.slice A3 L2.length c3) rfl;have s2:=hX.at 2 (u:=.slice A2 H.length c2) rfl;go_simp) ?_
   simp only[sP]
   have hT0:=hT.ext (Ext.refl w6).drew
   have hR0:=hR.ext (Ext.refl w6).drew
   have hE0:=hE.trans (Ext.refl w6).drew
   generalize World.drew w6=wd at *
   refine zc 6 _ (by kernel_rfl) rfl rfl (by rfl) (fun K0 hK0=>?_)
   go_simp
   have hEb:=zb wd (.cells #[.int .i64 (h:Int)] 3)
   have hcb:=(Whole.new wd 3 #[.int .i64 (h:Int)]).at 0 (u:=.int .i64 (h:Int)) rfl
   have hSb:=hS0.ext hEb
   have hTb:=hT0.ext hEb
   have hRb:=hR0.ext hEb
   have hE1:=hE0.trans hEb
   generalize wd.alloc (.cells #[.int .i64 (h:Int)] 3)=wb at *
   generalize wd.heap.size=gb at *
   refine hK0 _ _ (fun _=>hSb) ?_
   clear hK0 K0
   refine zc 7 _ (by kernel_rfl) rfl rfl (by rfl) (fun K1 hK1=>?_)
   refine vG (.tmp 31) (.tmp 36) rfl rfl hTb.two rfl hcb (by have:=HLen.out;omega) (by have:=hSb.lt;omega) ?_
   intro vn wa hO hG hN
   obtain⟨H2,hn⟩:∃ Z,Z=H++[(h:Int)]:=⟨_,rfl⟩
   rw[← hn]at hO
   have HN6:=hide hn
   clear hn
   have hWa:=hSb.ownGrown hG (hTb.ne2 (by omega))
   have hTa:=(hTb.flip.grow hO hG hN).flip
   have hRa:=hRb.ownGrown hG (fun e=>by have:=hTb.two.lt R e;omega)
   have hEa:Ext w0 wa:=Below.grown hE1 hG hE1.le (fun k hk=>by have:=hTb.two.lt k hk;omega)
   obtain⟨A4,c4,hvn,hcn,-⟩:=hO.form
   subst hvn
   clear hO hG hN hTb hSb hRb hE1 hEb hcb hT0 hR0 hE0
   refine hK1 _ _ (fun h=>absurd h (by decide)) ?_
   clear hK1 K1
   simp only[Act.put,List.setIfInBounds_toArray]
   refine zc 8 _ (by kernel_rfl) rfl rfl (by rfl) (fun K2 hK2=>?_)
   go_simp
   refine hK2 _ _ (fun h=>absurd h (by decide)) ?_
   clear hK2 K2
   refine zc 9 _ (by kernel_rfl) rfl rfl (by rfl) (fun K3 hK3=>?_)
   refine vH 48 (.tmp 38) (.tmp 37) rfl #[.int .i64 (k:Int),.slice A3 L2.length c3,.slice A4 H2.length c4] rfl rfl hWa (by simp) (by kernel_rfl) rfl rfl rfl ?_
   intro w7 hWs hGs
   have hTs:=hTa.below hGs (by omega)
   have hRs:=hRa.grown hGs (by omega)
   have hEs:Ext w0 w7:=Below.grown hEa hGs hEa.le (fun k hk=>by cases hk;omega)
   refine hK3 _ _ (fun h=>absurd h (by decide)) (zj (by kernel_rfl) ?_ _)
   clear hK3 K3 hWa hTa hRa hEa hGs hW hT hR hE hS0 hcn
   simp only[Act.put]
   have hW:=hWs
   have hT:=hTs
   have hR:=hRs
   have hE:=hEs
   clear hWs hTs hRs hEs
   have HParts:=hide (show Ef.Parts k (ids.take (i+1)) L2 H2 by
    have h1:=HP.out.more (h:=h) (x:=x) (by rw[HL.out,List.length_take];have:=HNn.out;omega) HX.out HM.out
    rw[HN5.out,HN6.out]
    have e:ids.take i++[((h*2 ^ k+x:Nat):Int)]=ids.take (i+1):=by
     rw[List.take_add_one,HI.out,← HY.out,List.getD_eq_getElem?_getD,List.getElem?_eq_getElem (by have:=HNn.out;omega)]
     rfl
    rw[← e]
    exact h1)
   have HLen2:=hide (show L2.length=i+1 by rw[HN5.out,List.length_append,HL.out];rfl)
   clear HN5 HN6 hand hshr hpw hpm hp1 hp2 hym
   go_wp2
   go_roundw
   case rel=>exact⟨i+1,A3,c3,A4,c4,L2,H2,by omega,by go_num,hW,hT,HParts.out,HLen2.out,hR,hE⟩
   case measure=>simp[intOf];omega
  ·obtain rfl:n=i:=by omega
   have HL2:=hide (show L.length=n∧H.length=n by
    have h1:=HP.out.2.1
    rw[List.length_take]at h1
    have:=HNn.out
    exact⟨HL.out,by omega⟩)
   have HPa:=hide (show Ef.Parts k ids L H by
    have:=HP.out
    rwa [List.take_of_length_le (by rw[HNn.out];exact Nat.le_refl _)]at this)
   have HT:=hide hT
   clear hT HP HL
   go_wp2_with (first | (refine wpList_load_row rfl 177 (.tmp 5) rfl _ rfl _ _ _ _ hW Tryz.underlying177 rfl uy ?_) | (refine zh rfl 177 (.tmp 4) (.tmp 40) rfl rfl rfl hR rfl uy (VQ ..) ?_;intro w9 hW9 hG9 hS9;clear hS9))
   simp only[sP]
   refine bodyPost_ret (results_cell_row rfl _ _ _ _ _ _ _ rfl hW9 Tryz.underlying177 rfl uy) rfl ?_
   have hT9:=HT.out.below hG9 (by omega)
   have h1:=hT9.one.at
   have h2:=hT9.two.at
   rw[HL2.out.1]at h1
   rw[HL2.out.2]at h2
   refine⟨A1,c1,A2,c2,?_,⟨⟨L,H,?_,?_,HPa.out⟩⟩,Below.grown hE hG9 hE.le (fun k hk=>by cases hk;omega)⟩
   ·rw[← HNn.out,HL2.out.1,HL2.out.2];rfl
   ·rw[← HNn.out];exact h1
   ·rw[← HNn.out];exact h2
end
section
open Go.RowKit Num Ef
theorem Ef.parts_are {k:Nat}{ids L H:List Int}{bound:Int}(hP:Ef.Parts k ids L H)(hr:row bound ids=true)(hb:bound≤20000){i:Nat}(hi':i<ids.length) :
  ∃ h x:Nat,H.getD i 0=(h:Int)∧L.getD i 0=(x:Int)∧x<2 ^ k∧(ids.getD i 0).toNat % 2 ^ k=x∧hi k ids i=h∧was k ids i≤h∧h≤20000∧(ids.getD i 0).toNat / 2 ^ k=h:=by
 obtain⟨h,x,e1,e2,hx,_,e3⟩:=hP.2.2.2 i hi'
 have hw:=QW (w:=k) hr hi'
 have hlt:=(uv hr hi').2.1
 have e4:(ids.getD i 0).toNat=h*2 ^ k+x:=by rw[e3];exact Int.toNat_natCast _
 have d1:(h*2 ^ k+x) / 2 ^ k=h:=by rw[Nat.mul_comm,Nat.mul_add_div (Nat.pow_pos (by omega)),Nat.div_eq_of_lt hx,Nat.add_zero]
 have d2:(h*2 ^ k+x) % 2 ^ k=x:=by rw[Nat.mul_comm,Nat.mul_add_mod,Nat.mod_eq_of_lt hx]
 have e5:hi k ids i=h:=by unfold hi;rw[e4,d1]
 rw[e5]at hw
 have hle:h≤h*2 ^ k:=Nat.le_mul_of_pos_right _ (Nat.pow_pos (by omega))
 exact⟨h,x,e1,e2,hx,by rw[e4,d2],e5,hw,by omega,by rw[e4,d1]⟩
theorem Ef.was_le_20000 {k:Nat}{ids:List Int}{bound:Int}(hr:row bound ids=true)(hb:bound≤20000){i:Nat}(hi':i≤ids.length):was k ids i≤20000:=by
 unfold was hi
 split
 ·omega
 ·have:=(uv hr (i:=i-1) (by omega)).2.1
  exact Nat.le_trans (Nat.div_le_self _ _) (by omega)
set_option maxHeartbeats 2000000 in
set_option maxRecDepth 10000 in
theorem JV {k:Nat}{A1:Option Addr}{c1:Nat}{A2:Option Addr}{c2:Nat}{ids:List Int}{bound:Int}(w:World)(h:PartsV w w.heap.size k A1 ids.length A2 ids.length ids)(hn:ids.length≤20000)(hr:row bound ids=true)(hb:bound≤20000) :
  Calls Tryz.prog 138 #[Q0 k A1 ids.length c1 A2 ids.length c2] w (zt w (Bit.pack (xW k ids))):=by
 obtain⟨L,H,h1,h2,hP⟩:=h.ex
 have hk14:=hP.1
 have HAt:=hide (fun (i:Nat) (hi':i<ids.length)=>parts_are hP hr hb hi')
 have HWas:=hide (fun (i:Nat) (hi':i≤ids.length)=>was_le_20000 (k:=k) hr hb hi')
 have HLow:=hide (show ∀ i,i≤ids.length→(y7 k ids i).length≤300000 from fun i hi'=>by
  rw[vV]
  exact Nat.le_trans (Nat.mul_le_mul (show i≤20000 by omega) hk14) (by omega))
 have HHigh:=hide (show ∀ i,i≤ids.length→(y8 k ids i).length≤40000 from fun i hi'=>by
  rw[vu hr i hi']
  have:=HWas.out i hi'
  omega)
 have HB:=hide (show y7 k ids ids.length++y8 k ids ids.length=xW k ids from rfl)
 have H1:=hide h1
 have H2:=hide h2
 unfold Q0
 generalize xW k ids=BE at *
 generalize ids.length=n at *
 clear h h1 h2 hP hr hb
 obtain⟨gb,hgb⟩:∃ g,g=w.heap.size:=⟨_,rfl⟩
 have hWb:=Whole.new w 177 #[.int .i64 (k:Int),.slice A1 n c1,.slice A2 n c2]
 have hEb:=zb w (.cells #[.int .i64 (k:Int),.slice A1 n c1,.slice A2 n c2] 177)
 obtain⟨w1,hw1⟩:∃ W,W=w.alloc (.cells #[.int .i64 (k:Int),.slice A1 n c1,.slice A2 n c2] 177):=⟨_,rfl⟩
 obtain⟨g,hg⟩:∃ g,g=w1.heap.size:=⟨_,rfl⟩
 have hWr:=Wrt.new w1
 have hE2:=zb w1 (.cells #[.slice none 0 0,.int .i64 0] 168)
 obtain⟨w2,hw2⟩:∃ W,W=w1.alloc (.cells #[.slice none 0 0,.int .i64 0] 168):=⟨_,rfl⟩
 rw[← hw1]at hWb hEb
 rw[← hw2]at hE2 hWr
 rw[← hgb]at hWb
 have hgl:=hWb.lt
 have hW2:=hWb.ext hE2
 have hE:=hEb.trans hE2
 rw[← hg]at hWr hgl
 have hs2:=hE2.le
 rw[← hg]at hs2
 have p1:=hW2.at 1 (u:=.slice A1 n c1) rfl
 have HE:=hide hE
 have HW:=hide hW2
 have HWr:=hide hWr
 have HG1:=hide hgb
 have hgw:w.heap.size<g:=by omega
 have HW1:=hide hw1
 have HW2:=hide hw2
 have HG:=hide hg
 clear hEb hE2 hWb hE hW2 hWr hgb hw1 hw2 hg
 go_enter Tryz.func138,Tryz.ntmps138
 go_wp2_with fail
 rw[← HW1.out,← HW2.out,← HG1.out,show gb+1=g by rw[HG.out,HW1.out,HG1.out];simp]
 have HExt:=hide (show ∀ W,Below g w2 W→Ext w W from fun W hB=>Below.trans HE.out (Below.mono hB (Nat.le_of_lt hgw)))
 clear HW1 HW2 HG p1
 go_loopw [12] (fun x wr=>∃ (i:Nat) (ob:Option Nat),i≤n∧x=.int .i64 (i:Int)∧Wrt wr g g ob (y7 k ids i)∧Below g w2 wr) (fun x _=>n-(intOf x).toNat)
 case atStart=>exact⟨0,none,by omega,rfl,HWr.out,Below.refl _ _⟩
 case round =>
  clear HWr
  obtain⟨i,ob,hi,rfl,hR,hM⟩:=hrel
  have hWw:=HW.out.below hM hgl
  by_cases hlt:i<n
  ·have hiI:(i:Int)<(n:Int):=by omega
   rcases (H1.out.later (HExt.out wr hM)).2 with h9 | ⟨b1,o1,rfl,_,hc1⟩
   ·omega
   have e1:=hc1 i hlt
   obtain⟨h,x,_,hx,hxk,hmod,-⟩:=HAt.out i hlt
   rw[hx]at e1
   have p0:=hWw.at 0 (u:=.int .i64 (k:Int)) rfl
   have C4:=jq hR x (k:Int) (by have:=HLow.out i hi;omega)
   have hx14:x<16384:=Nat.lt_of_lt_of_le hxk (Nat.le_trans (Nat.pow_le_pow_right (by omega) hk14) (by decide))
   rw[Ef.put_num (by omega) hxk,show y7 k ids i++Bit.num x k=y7 k ids (i+1) by rw[lowTo_succ,hmod]]at C4
   have hxu:IntKind.u64.wrap (x:Int)=(x:Int):=by rw[IntKind.wrap_u64];omega
   generalize Bit.putErr x (k:Int)=E2 at C4
   have HR:=hide hR
   have HM:=hide hM
   clear hc1 hx hxk hmod hR hM hWw
   go_wp2_with fail
   refine C4.mono ?_
   rintro e wc ⟨rfl,obc,hRc,-,hMc⟩
   have hBc:Below g w2 wc:=Below.trans HM.out (hMc.below (B:=g) (Nat.le_of_lt HR.out.lt) (Nat.le_refl _) (fun k hk=>(HR.out.ob k hk).1))
   clear C4 p0 e1
   go_wp2
   go_roundw
   case rel=>exact⟨i+1,obc,by omega,by go_num,hRc,hBc⟩
   case measure=>simp[intOf];omega
  ·obtain rfl:n=i:=by omega
   have p2:=hWw.at 2 (u:=.slice A2 n c2) rfl
   have HRn:=hide hR
   have HMn:=hide hM
   clear hR hM hWw
   go_wp2
   go_loopw [6,25] (fun x y wr=>∃ (i:Nat) (ob:Option Nat),i≤n∧x=.int .i64 (was k ids i:Int)∧y=.int .i64 (i:Int)∧Wrt wr g g ob (y7 k ids n++y8 k ids i)∧Below g w2 wr) (fun _ y _=>n-(intOf y).toNat)
   case atStart=>exact⟨0,ob,by omega,rfl,rfl,by simpa[y8] using HRn.out,HMn.out⟩
   case round =>
    clear HRn HMn p2
    obtain⟨i,ob,hi,rfl,rfl,hR,hM⟩:=hrel
    by_cases hlt:i<n
    ·have hiI:(i:Int)<(n:Int):=by omega
     rcases (H2.out.later (HExt.out _ hM)).2 with h9 | ⟨b1,o1,rfl,_,hc1⟩
     ·omega
     have e1:=hc1 i hlt
     obtain⟨h,x,hh,_,_,_,hhi,hwas,hh2,hdiv⟩:=HAt.out i hlt
     rw[hh]at e1
     have HS:=hide (highTo_succ k ids i)
     have HWs:=hide (show was k ids (i+1)=h by rw[was_succ,hdiv])
     rw[hhi]at HS
     obtain⟨a,ha⟩:∃ a,a=was k ids i:=⟨_,rfl⟩
     rw[← ha]at hwas HS ⊢
     have hdI:(h:Int)-(a:Int)=((h-a:Nat):Int):=by omega
     have C4:=abm hR ((h-a:Nat):Int) (by rw[List.length_append];have:=HLow.out n (Nat.le_refl _);have:=HHigh.out i hi;omega)
     rw[Ef.un_num (by omega),List.append_assoc,← HS.out]at C4
     generalize Bit.unaryErr ((h-a:Nat):Int)=E2 at C4
     have hd2:h-a≤h:=by omega
     generalize h-a=d at *
     have HR:=hide hR
     have HM:=hide hM
     have HCell:=hide (show ∀ W,Below g w2 W→W.cell? ⟨b1,o1+i,none⟩=some (.int .i64 (h:Int)) from fun W hW=>by
      rcases (H2.out.later (HExt.out W hW)).2 with h9 | ⟨b',o',e',_,hc'⟩
      ·omega
      ·simp only[Option.some.injEq,Addr.mk.injEq,and_true]at e'
       obtain⟨rfl,rfl⟩:=e'
       rw[← hh]
       exact hc' i hlt)
     clear hc1 hh hhi ha hdiv hR hM HS
     go_wp2_with fail
     refine C4.mono ?_
     rintro e wc ⟨rfl,obc,hRc,-,hMc⟩
     have hBc:Below g w2 wc:=Below.trans HM.out (hMc.below (B:=g) (Nat.le_of_lt HR.out.lt) (Nat.le_refl _) (fun k hk=>(HR.out.ob k hk).1))
     have f1:=HCell.out wc hBc
     clear C4 e1
     go_wp2
     go_roundw
     case rel=>exact⟨i+1,obc,by omega,by rw[HWs.out],by go_num,hRc,hBc⟩
     case measure=>simp[intOf];omega
    ·obtain rfl:n=i:=by omega
     rw[HB.out]at hR
     have C5:=Y5 hR (by rw[← HB.out,List.length_append];have:=HLow.out n (Nat.le_refl _);have:=HHigh.out n (Nat.le_refl _);omega)
     have HEr:=hide (HExt.out _ hM)
     clear hR hM
     go_wp2_with fail
     refine C5.mono ?_
     rintro e wb ⟨l,hPk,vb,rfl,hOb,hEb⟩
     have HPk:=hide hPk
     have HOb:=hide hOb
     have HEb:=hide hEb
     clear C5 hPk hOb hEb
     go_wp2
     go_ret
     exact⟨vb,rfl,by rw[← HPk.out.is];exact HOb.out.mono HEr.out.le,HEr.out.trans HEb.out⟩
end
section
open Go.RowKit Num Ef
theorem abD (w:World){n1 n2 c1 c2:Nat}{A1 A2:Option Addr}{l1 l2:List UInt8}(t:TypeId)(m1:n1≤maxLen)(m2:n2≤maxLen)(b1:Bytes w w.heap.size A1 n1 l1)(b2:Bytes w w.heap.size A2 n2 l2) :
  _root_.Go.Proofs.YtpmedpdjglcdpaaGreatDoor.Parts (w.alloc (.cells #[.slice A1 n1 c1,.slice A2 n2 c2] t)) (w.alloc (.cells #[.slice A1 n1 c1,.slice A2 n2 c2] t)).heap.size (some ⟨w.heap.size,0,none⟩) 2 [l1,l2]:=by
 have hE:=zb w (.cells #[.slice A1 n1 c1,.slice A2 n2 c2] t)
 have hW:=Whole.new w t #[.slice A1 n1 c1,.slice A2 n2 c2]
 refine⟨rfl,.inr ⟨w.heap.size,0,rfl,by simp,fun i hi=>?_⟩⟩
 rcases (by omega:i=0∨i=1) with rfl|rfl
 ·exact⟨A1,n1,c1,hW.at 0 rfl,m1,hE.bytes b1⟩
 ·exact⟨A2,n2,c2,hW.at 1 rfl,m2,hE.bytes b2⟩
theorem Ef.bitsE_len {k:Nat}{ids:List Int}{bound:Int}(hk:k≤14)(hn:ids.length≤20000)(hr:row bound ids=true)(hb:bound≤20000):(Bit.pack (xW k ids)).length≤100000:=by
 have h1:(y7 k ids ids.length).length≤280000:=by
  rw[vV]
  exact Nat.le_trans (Nat.mul_le_mul hn hk) (by omega)
 have h2:=vu (w:=k) hr ids.length (Nat.le_refl _)
 have h3:=was_le_20000 (k:=k) hr hb (Nat.le_refl ids.length)
 have h4:=Bit.pack_len (xW k ids)
 unfold xW at h4 ⊢
 rw[List.length_append]at h4
 omega
set_option maxHeartbeats 2000000 in
set_option maxRecDepth 10000 in
theorem UL (w:World):acW w:=by
 intro bound ids A n c w1 _ h64 hnc hcm hn h
 have hl:=h.1
 subst hl
 have CM:=fun W=>abu bound W
 by_cases hbd:0≤bound∧bound≤20000
 case neg =>
  have HN:=hide (show writeE bound ids=([],13) by unfold writeE;rw[if_neg (fun h=>hbd h.1)])
  rw[decide_eq_false hbd]at CM
  rw[HN.out]
  clear h hbd h64 HN
  go_enter Tryz.func104,Tryz.ntmps104
  go_wp2_with fail
  refine (CM _).mono ?_
  rintro e w2 ⟨rfl,rfl⟩
  clear CM
  go_wp2
  go_ret2
  exact⟨_,rfl,OwnB.nil _ _,Ext.refl _⟩
 rw[decide_eq_true hbd]at CM
 have CR:=JM A ids.length c ids bound w1 h (by omega)
 cases hr:row bound ids with
 | false =>
  have HN:=hide (show writeE bound ids=([],13) by unfold writeE;rw[hr,if_neg (by simp)])
  rw[HN.out]
  rw[hr]at CR
  clear h hbd h64 HN hr
  go_enter Tryz.func104,Tryz.ntmps104
  go_wp2_with fail
  refine (CM _).mono ?_
  rintro e w2 ⟨rfl,rfl⟩
  clear CM
  go_wp2_with fail
  refine CR.mono ?_
  rintro e w2 ⟨rfl,rfl⟩
  clear CR
  go_wp2
  go_ret2
  exact⟨_,rfl,OwnB.nil _ _,Ext.refl _⟩
 | true =>
  have HN:=hide (show writeE bound ids=(rowB bound ids,0) by unfold writeE;rw[if_pos ⟨hbd,hr⟩])
  rw[HN.out]
  rw[hr]at CR
  have HR:=hide hr
  have HBd:=hide hbd
  have HA:=hide h
  obtain⟨bd,rfl⟩:=Int.eq_ofNat_of_zero_le hbd.1
  have hb2:bd≤20000:=by have:=hbd.2;omega
  have hk14:=widE_le (bound:=(bd:Int)) (n:=ids.length) (by omega)
  have HRow:=hide (show rowB (bd:Int) ids=[Num.enc ids.length,Bit.pack (xW (widE (bd:Int) ids.length) ids)].flatten by
   unfold rowB
   by_cases hz:ids.length=0
   ·rw[if_pos hz]
    have:ids=[]:=List.length_eq_zero_iff.1 hz
    subst this
    have h0:Bit.pack []=[]:=List.length_eq_zero_iff.1 (by rw[Bit.pack_len];rfl)
    simp[xW,y7,y8,h0]
   ·rw[if_neg hz];simp)
  have HLen:=hide (bitsE_len (k:=widE (bd:Int) ids.length) hk14 hn hr (by omega))
  have hew:=enc_len ids.length
  have C1:=zS ids.length w1 (by omega)
  have C2:=fun W (hE:Ext w1 W)=>JU A c ids bd W (HA.out.later hE) hb2 hn HR.out
  have hwl:IntKind.u64.wrap (ids.length:Int)=(ids.length:Int):=by rw[IntKind.wrap_u64];omega
  rw[HRow.out]
  clear hbd h HN h64 HRow hr
  generalize widE (bd:Int) ids.length=k at *
  generalize hnn:ids.length=n at *
  have HNn:=hide hnn
  clear hnn
  go_enter Tryz.func104,Tryz.ntmps104
  go_wp2_with fail
  refine (CM _).mono ?_
  rintro e w2 ⟨rfl,rfl⟩
  clear CM
  go_wp2_with fail
  refine CR.mono ?_
  rintro e w2 ⟨rfl,rfl⟩
  clear CR
  go_wp2_with fail
  refine C1.mono ?_
  rintro e w3 ⟨v3,rfl,hV3,hE3⟩
  clear C1
  go_wp2_with fail
  refine (C2 _ hE3).mono ?_
  rintro e w4 ⟨B1,d1,B2,d2,rfl,hPV,hE4⟩
  rw[HNn.out]at hPV ⊢
  have C3:=JV (c1:=d1) (c2:=d2) w4 (ids:=ids) (k:=k) (A1:=B1) (A2:=B2) (by rw[HNn.out];exact hPV) (by rw[HNn.out];exact hn) HR.out (by omega)
  rw[HNn.out]at C3
  have hV4:=hV3.ext hE4
  have hF4:=hE3.trans hE4
  clear C2 hPV hV3 hE3 hE4
  go_wp2_with fail
  refine C3.mono ?_
  rintro e w5 ⟨v5,rfl,hV5,hE5⟩
  obtain⟨A3,c3,rfl,-,hm3,hb3⟩:=(hV4.ext hE5).form
  obtain⟨A5,c5,rfl,-,hm5,hb5⟩:=hV5.form
  have hP6:=abD w5 (c1:=c3) (c2:=c5) 29 (by unfold maxLen;omega) (by unfold maxLen;have:=HLen.out;omega) hb3 hb5
  have hE6:=zb w5 (.cells #[.slice A3 (enc n).length c3,.slice A5 (Bit.pack (xW k ids)).length c5] 29)
  have C6:=yS _ 2 [enc n,Bit.pack (xW k ids)] _ hP6 (by simp) (by simp;have:=HLen.out;omega)
  have hF6:=hide ((hF4.trans hE5).trans hE6)
  generalize (Bit.pack (xW k ids))=PK at *
  clear C3 hb3 hb5 hV4 hV5 hF4 hE5 hE6 hP6
  go_wp2_with fail
  refine C6.mono ?_
  rintro e w7 ⟨v7,rfl,hV7,hE7⟩
  clear C6
  go_wp2
  go_ret2
  exact⟨_,rfl,hV7.mono hF6.out.le,hF6.out.trans hE7⟩
end
end Go.Proofs.YtpmedpdjglcdpaaGreatDoor
