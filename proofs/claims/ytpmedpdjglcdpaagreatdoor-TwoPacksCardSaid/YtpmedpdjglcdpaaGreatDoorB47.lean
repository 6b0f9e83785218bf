/- The program's Write of chapter 16. -/
import Derived.Test.YtpmedpdjglcdpaaGreatDoorB06
import Derived.Test.YtpmedpdjglcdpaaGreatDoorB35
import Derived.Test.YtpmedpdjglcdpaaGreatDoorB36
import Derived.Test.YtpmedpdjglcdpaaGreatDoorB46
namespace Go.Proofs.YtpmedpdjglcdpaaGreatDoor
section
open Go.RowKit Num Wrd Dic
attribute [local go_sem] Oper.semAt_some
theorem Three.turned {W W':World}{base:Nat}{u v x:Value}{U V X:List UInt8}{row:Option Nat}(h:Three W base u U v V x X)(hg:W.grownBy W' row)(hr:∀ r,row=some r→∃ o:Obj,W.heap[r]?=some o∧o.isCells=false):Three W' base u U v V x X :=
 ⟨h.1.turn hg hr,h.2.1.turn hg hr,h.2.2.1.turn hg hr,h.2.2.2⟩
theorem TextsAt.part {W:World}{B n sz p:Nat}{A:Option Addr}{L:List (List UInt8)}(h:TextsAt W B A n L)(hp:p<n):TextsAt W B (qZ A p) (min sz (n-p)) ((L.drop p).take sz):=by
 have hl:=h.1
 rcases h.2 with h0 | ⟨b,o,rfl,hb,hc⟩
 ·omega
 ·refine⟨by rw[List.length_take,List.length_drop];omega,.inr ⟨b,o+p,rfl,hb,fun i hi=>?_⟩⟩
  rw[Nat.add_assoc,hc (p+i) (by omega)]
  simp[List.getD_eq_getElem?_getD,show i<sz by omega]
theorem KeepsOthers.ofExt {W W':World}(hE:Ext W W'):KeepsOthers W W':=KeepsOthers.of_grownBy (row:=none) ⟨hE.os,hE.tape,hE.output,hE.le,fun k hk _=>hE.block k hk⟩ (fun _ _ h=>by cases h)
theorem KeepsOthers.ofWhole {W W':World}{g:Nat}{t:TypeId}{cs:Array Value}(h:Whole W g t cs)(hG:W.grownBy W' (some g)):KeepsOthers W W':=KeepsOthers.of_grownBy hG (fun j o hj ho=>by
 simp only[Option.some.injEq]at hj
 subst hj
 unfold Whole at h
 rw[h]at ho
 cases ho
 rfl)
theorem KeepsOthers.ofOwn {W W':World}{base:Nat}{v:Value}{l:List UInt8}(h:OwnB W base v l)(hG:W.grownBy W' v.ownBlock):KeepsOthers W W':=KeepsOthers.of_grownBy hG (fun j o hj ho=>by
 rcases h.2 with ⟨rfl,_⟩ | ⟨g1,c1,u1,rfl,_,hg1,_⟩
 ·cases hj
 ·simp only[Value.ownBlock,Option.some.injEq]at hj
  subst hj
  rw[hg1]at ho
  cases ho
  rfl)
theorem Three.put {W W':World}{base g:Nat}{u v x:Value}{U V X:List UInt8}{t:TypeId}{cs:Array Value}(h:Three W base u U v V x X)(hw:Whole W g t cs)(ht:t≠5)(hG:W.grownBy W' (some g)):Three W' base u U v V x X :=
 ⟨World.ownsRow.kept h.1 hG (.inr (h.1.notKind hw ht)),World.ownsRow.kept h.2.1 hG (.inr (h.2.1.notKind hw ht)),World.ownsRow.kept h.2.2.1 hG (.inr (h.2.2.1.notKind hw ht)),h.2.2.2⟩
theorem Yl {ops:Array Oper}{rest:List Oper}{o:Oper}{a:Act}{Q:Exit→Act→World→Prop}{w:World}{base:Nat}{v:Value}{l:List UInt8}(L N:Nat)(hgd:o.guard=none)(s x:Operand)(ho:o.op=.call { callee:=.builtin .append,args:=#[s,x],argTypes:=#[29,29] })(hs:a.eval s=v)(hown:OwnB w base v l)
  {A:Option Addr} {m c:Nat} {k:List UInt8} (hx:a.eval x=.slice A m c) (hb:Bytes w w.heap.size A m k) (hlen:l.length+m≤140737488355328) (hbase:base≤w.heap.size)
  (h:∀ v' w',OwnB w' base v' (l++k)→w.grownBy w' v.ownBlock→NewOb w v.ownBlock v'.ownBlock→wpListIn (Fence.wide.inRound L) N Tryz.prog ops Q rest (a.put o.dst v') w'):wpListIn (Fence.wide.inRound L) N Tryz.prog ops Q (o::rest) a w :=
 wpListIn_plain hgd fun _ hK=>VW L N (fun c hc=>by rw[ho]at hc;cases hc) (qx s x ho hs hown hx hb hlen hbase fun v' w' h2 h3 h4=>hK _ _ (h v' w' h2 h3 h4))
theorem adm {W0 w W W':World}{s:Nat}{v1 v2 x v' c1 c2:Value}{H B P:List UInt8}(h:Three W w.heap.size v1 H v2 B x P)(h1:Whole W s 29 #[v1])(h2:Whole W (s+1) 29 #[v2])(b1:Whole W (s+1+1) 66 #[c1])(b2:Whole W (s+1+1+1) 3 #[c2])(hE:Ext w W)(hK:KeepsOthers W0 W)
  (hO:OwnB W' w.heap.size v' (B++P)) (hG:W.grownBy W' v2.ownBlock) (hN:NewOb W v2.ownBlock v'.ownBlock) :
  Three W' w.heap.size v1 H v' (B++P) x P∧Whole W' s 29 #[v1]∧Whole W' (s+1) 29 #[v2]∧Whole W' (s+1+1) 66 #[c1]∧Whole W' (s+1+1+1) 3 #[c2]∧Ext w W'∧KeepsOthers W0 W' :=
 ⟨(h.flip.grow hO hG hN).flip,h1.ownGrown hG (h.2.1.notKind h1 (by decide)),h2.ownGrown hG (h.2.1.notKind h2 (by decide)),b1.ownGrown hG (h.2.1.notKind b1 (by decide)),b2.ownGrown hG (h.2.1.notKind b2 (by decide)),
  Below.grown hE hG hE.le (fun k hk=>(h.2.1.lt k hk).1),hK.trans (KeepsOthers.ofOwn h.2.1 hG)⟩
structure WrtI (w:World)(s:Nat)(A:Option Addr)(n c sz:Nat)(L:List (List UInt8))(T1 T2:List UInt8)(k:Nat)(W:World):Prop where
 ex:∃ v1 v2 H B,Whole W s 29 #[v1]∧Whole W (s+1) 29 #[v2]∧Three W w.heap.size v1 H v2 B (.slice none 0 0) []∧T1=H++zP (zy sz L (k*sz))∧T2=B++zV (zy sz L (k*sz))
 b1:Whole W (s+1+1) 66 #[.slice A n c]
 b2:Whole W (s+1+1+1) 3 #[.int .i64 (sz:Int)]
 ext:Ext w W
theorem WrtI.own {w:World}{s:Nat}{A:Option Addr}{n c sz B:Nat}{L:List (List UInt8)}{T1 T2:List UInt8}(hB:w.heap.size≤B):OwnFrom B (WrtI w s A n c sz L T1 T2):=fun k W W' row h hg hr=>by
 have hr2:=fun r e=>(hr r e).2
 obtain⟨v1,v2,H,B,h1,h2,h3,h4⟩:=h.ex
 exact⟨⟨v1,v2,H,B,h1.turn hg hr2,h2.turn hg hr2,h3.turned hg hr2,h4⟩,h.b1.turn hg hr2,h.b2.turn hg hr2,Below.grown h.ext hg h.ext.le fun r e=>Nat.le_trans hB (hr r e).1⟩
set_option maxHeartbeats 4000000 in
set_option maxRecDepth 100000 in
theorem XQ (A:Option Addr)(n c sz:Nat)(L:List (List UInt8))(w:World)(h:TextsAt w w.heap.size A n L)(hn:n≤10000)(hnc:n≤c)(hc:c≤maxLen)(hm:mayD L=true)(hs1:1≤sz)(hs2:sz≤64) :
  Calls Tryz.prog 75 #[.int .i64 (sz:Int),.slice A n c] w (zB w (dictB sz L) 0):=by
 have hl:=h.1
 have hfit:=fun s hs=>((may_facts hm).2.1 s hs).2
 have hT:=YG hs1 hs2 hfit
 rw[hl]at hT
 obtain⟨hT1,hT2,-⟩:=hT
 have CS:=fun W=>ZE (sz:Int) W
 rw[show sizeD (sz:Int)=true from decide_eq_true (by omega)]at CS
 have CR:=fun W (hW:Ext w W)=>XP A n c L W (h.later hW) (by omega) (fun s hs=>by have:=hfit s hs;omega)
 rw[hm]at CR
 have CN:=fun W=>zS n W (by omega)
 have hwn:=wrap_u64 (n:=n) (by omega)
 have HD:=hide (show dictB sz L=(enc n++zP (zy sz L 0))++zV (zy sz L 0) by unfold dictB;rw[hl,vM])
 rw[vM]at hT1 hT2
 obtain⟨T1,hT1e⟩:∃ T,T=enc n++zP (zy sz L 0):=⟨_,rfl⟩
 obtain⟨T2,hT2e⟩:∃ T,T=zV (zy sz L 0):=⟨_,rfl⟩
 rw[← hT1e,← hT2e]at HD
 rw[← hT1e]at hT1
 rw[← hT2e]at hT2
 have HT1:=hide hT1
 have HT2:=hide hT2
 have HE1:=hide hT1e
 have HE2:=hide hT2e
 have HA:=hide h
 have HF:=hide hfit
 have HC:=hide hc
 have HLn:=hide hl
 have HNC:=hide hnc
 clear hT1 hT2 hT1e hT2e h hm hfit hl hc hnc
 refine (callsIn_wide (n:=10)).1 ?_
 refine callsIn_of_wp_marks Tryz.func75 rfl trivial ?_ rfl
 simp only[Tryz.ntmps75,List.size_toArray,List.length_cons,List.length_nil,Nat.reduceAdd,Nat.reduceSub,Array.replicate_succ,Array.replicate_zero,List.push_toArray,List.append_toArray,List.nil_append,List.cons_append]
 gi_wp2
 refine⟨trivial,(callsIn_wide.2 (CS w)).mono ?_⟩
 rintro e w' ⟨rfl,rfl⟩
 gi_wp2
 refine⟨trivial,(callsIn_wide.2 (CR w (Ext.refl w))).mono ?_⟩
 rintro e w' ⟨rfl,rfl⟩
 clear CS CR
 gi_wp2
 refine⟨trivial,(callsIn_wide.2 (CN w)).mono ?_⟩
 rintro e w1 ⟨v1,rfl,hO1,hE1⟩
 clear CN
 have HO1:=hide hO1
 have HX1:=hide hE1
 obtain⟨A1,c1,hv1,-,-,-⟩:=hO1.form
 obtain⟨m1,hm1⟩:∃ m,m=(enc n).length:=⟨_,rfl⟩
 rw[← hm1]at hv1
 clear hO1 hE1 hm1
 subst hv1
 gi_wp2
 refine⟨trivial,(aah _ _ _ _ _ hs1 _).mono ?_⟩
 rintro e w' ⟨rfl,rfl⟩
 gi_wp2
 have hI0:WrtI w w1.heap.size A n c sz L T1 T2 0 ((((w1.alloc (.cells #[.slice A1 m1 c1] 29)).alloc (.cells #[.slice none 0 0] 29)).alloc (.cells #[.slice A n c] 66)).alloc (.cells #[.int .i64 (sz:Int)] 3)):=by
  have hE4:=(((zb w1 (.cells #[.slice A1 m1 c1] 29)).alloc (.cells #[.slice none 0 0] 29)).alloc (.cells #[.slice A n c] 66)).alloc (.cells #[.int .i64 (sz:Int)] 3)
  refine⟨⟨_,.slice none 0 0,enc n,[],(((Whole.new w1 _ _).alloc _).alloc _).alloc _,?_,⟨HO1.out.ext hE4,OwnB.nil _ _,OwnB.nil _ _,Ap.nil _,Ap.nil _,Ap.nil _⟩,by rw[Nat.zero_mul];exact HE1.out,by rw[Nat.zero_mul];exact HE2.out⟩,?_,?_,HX1.out.trans hE4⟩
  ·have:=((Whole.new (w1.alloc (.cells #[.slice A1 m1 c1] 29)) 29 #[.slice none 0 0]).alloc (.cells #[.slice A n c] 66)).alloc (.cells #[.int .i64 (sz:Int)] 3)
   rwa [World.size_alloc]at this
  ·have:=(Whole.new ((w1.alloc (.cells #[.slice A1 m1 c1] 29)).alloc (.cells #[.slice none 0 0] 29)) 66 #[.slice A n c]).alloc (.cells #[.int .i64 (sz:Int)] 3)
   rwa [World.size_alloc,World.size_alloc]at this
  ·have:=Whole.new (((w1.alloc (.cells #[.slice A1 m1 c1] 29)).alloc (.cells #[.slice none 0 0] 29)).alloc (.cells #[.slice A n c] 66)) 3 #[.int .i64 (sz:Int)]
   rwa [World.size_alloc,World.size_alloc,World.size_alloc]at this
 have hB3:=hI0.ext.le
 have hsw:=HX1.out.le
 clear HO1
 generalize (((w1.alloc (.cells #[.slice A1 m1 c1] 29)).alloc (.cells #[.slice none 0 0] 29)).alloc (.cells #[.slice A n c] 66)).alloc (.cells #[.int .i64 (sz:Int)] 3)=w3 at hI0 hB3 ⊢
 have hs4:w1.heap.size+4≤w3.heap.size:=hI0.b2.lt
 generalize w1.heap.size=s at *
 have hAf:n=0∨∃ g o,A=some ⟨g,o,none⟩:=by
  rcases HA.out.2 with h0 | ⟨b,o,e,_⟩
  ·exact .inl h0
  ·exact .inr ⟨b,o,e⟩
 obtain⟨g,off,hgo⟩:∃ g off,n=0∨A=some ⟨g,off,none⟩:=by
  rcases hAf with h0 | ⟨b,o,e⟩
  ·exact⟨0,0,.inl h0⟩
  ·exact⟨b,o,.inr e⟩
 have HGO:=hide hgo
 clear hAf hgo
 refine vR (gf:=133) (lb:=#[.pointer (some ⟨s+1+1,0,none⟩),.pointer (some ⟨s+1+1+1,0,none⟩)]) rfl (jT Tryz.func133 (by kernel_rfl) rfl) (yN sz n)
  (fun k=>#[.slice (qZ A (k*sz)) (xl sz n k) (xl sz n k)]) (fun _=>rfl) (WrtI w s A n c sz L T1 T2) (WrtI.own hB3) hI0
  (Vc (by omega) (by omega) HNC.out HC.out hs1 hs2 HGO.out fun k W h=>⟨h.b1.at 0 (u:=.slice A n c) rfl,h.b2.at 0 (u:=.int .i64 (sz:Int)) rfl⟩)
  (fun k=>{ tmps:=#[.int .i64 (sz:Int),.slice A n c,undef,undef,.slice none 0 0,.int .i64 0,.pointer (some ⟨s,0,none⟩),.pointer (some ⟨s+1,0,none⟩),.slice (qZ A (k*sz)) (xl sz n k) (xl sz n k),undef,.int .i64 (sz:Int),.bool true,.bool false,.bool false,.slice A n c,.bool true,.bool false,.bool false,.slice A n c,.int .i64 (n:Int),.int .u64 (n:Int),.slice A1 m1 c1,.slice A n c,.int .i64 (sz:Int),.func (.func 133) #[] #[.pointer (some ⟨s+1+1,0,none⟩),.pointer (some ⟨s+1+1+1,0,none⟩)],.slice (qZ A (k*sz)) (xl sz n k) (xl sz n k),undef,undef,undef,undef,undef,undef,undef,undef,undef,undef,undef,undef,undef,undef,undef],defers:=[] }) ?assign ?body ?done
 case assign =>
  intro l k W K hK
  generalize xl sz n k=e at *
  generalize qZ A (k*sz)=A4 at *
  gi_wp2
  exact hK
 case body =>
  intro l k W hI hk
  obtain⟨v1,v2,H,B,h1,h2,h3,e1,e2⟩:=hI.ex
  obtain⟨p,hp⟩:∃ p,p=k*sz:=⟨_,rfl⟩
  have hpn:p<n:=by rw[hp];exact YH hs1 hk
  obtain⟨m,hm⟩:∃ m,xl sz n k=m+1:=⟨xl sz n k-1,by unfold xl;rw[← hp];omega⟩
  have hm64:m≤64:=by unfold xl at hm;omega
  have hpart:=(HA.out.later hI.ext).part (sz:=sz) hpn
  have hmc:min sz (n-p)=m+1:=by rw[← hm];unfold xl;rw[hp]
  rw[hmc]at hpart
  rw[← hp,qm hs1 (by rw[HLn.out];exact hpn)]at e1 e2
  have hfit:∀ s,s∈(L.drop p).take sz→s.length≤25:=fun s hs=>HF.out s (List.mem_of_mem_drop (List.mem_of_mem_take hs))
  have CB:=Ql (qZ A p) m (m+1) _ W hpart hm64 (Nat.le_refl _) hfit
  have HPl:=hide (Vr hs1 hs2 HF.out p)
  have HK1:=hide (show (k+1)*sz=p+sz by rw[hp,Nat.add_mul,Nat.one_mul])
  obtain⟨P,hP⟩:∃ P,P=yp ((L.drop p).take sz):=⟨_,rfl⟩
  rw[← hP]at CB HPl
  have HQ1:=hide (show T1=(H++enc P.length)++zP (zy sz L (p+sz)) by rw[e1,hP];simp[zP])
  have HQ2:=hide (show T2=(B++P)++zV (zy sz L (p+sz)) by rw[e2,hP];simp[zV])
  have HHl:=hide (show H.length≤200000 by have h1:=HT1.out;rw[HQ1.out,List.length_append,List.length_append]at h1;omega)
  have HBl:=hide (show B.length≤100000000 by have h1:=HT2.out;rw[HQ2.out,List.length_append,List.length_append]at h1;omega)
  rw[hm,← hp]
  have HW1:=hide h1
  have HW2:=hide h2
  have H3:=hide h3
  have HX:=hide hI
  have hbI:=hI.ext.le
  clear hP e1 e2 hmc hpart hfit hm hp h1 h2 h3 hI
  generalize qZ A p=A4 at *
  have hcast:((m+1:Nat):Int)=(m:Int)+1:=by omega
  gi_wp2
  refine⟨trivial,(CallsIn.inRound l (callsIn_wide.2 CB)).mono ?_⟩
  rintro e w4 ⟨v4,rfl,hO4,hE4⟩
  obtain⟨A5,c5,hv5,-,-,-⟩:=hO4.form
  obtain⟨q,hq⟩:∃ q,q=P.length:=⟨_,rfl⟩
  rw[← hq]at hv5 HPl HQ1
  subst hv5
  have hq2:q≤2000:=HPl.out
  have H34:=hide (H3.out.fresh hE4 hO4 hbI)
  obtain⟨A6,c6,hv6,-,-,-⟩:=H3.out.1.form
  obtain⟨A7,c7,hv7,-,-,-⟩:=H3.out.2.1.form
  obtain⟨m6,hm6⟩:∃ m,m=H.length:=⟨_,rfl⟩
  obtain⟨m7,hm7⟩:∃ m,m=B.length:=⟨_,rfl⟩
  rw[← hm6]at hv6
  rw[← hm7]at hv7
  subst hv6 hv7
  have HW14:=hide (HW1.out.ext hE4)
  have HW24:=hide (HW2.out.ext hE4)
  have HXE:=hide hE4
  have HX4:=hide (HX.out.ext.trans hE4)
  have hlt:=HW14.out.lt
  have cs1:=HW14.out.at 0 (u:=.slice A6 m6 c6) rfl
  have hwq:=wrap_u64 (n:=q) (by omega)
  have CQ:=fun X=>zS q X (by omega)
  have HQe:=hide hq
  clear CB hO4 hE4 hm6 hm7 hcast hwn hq
  gi_wp2
  refine jK (fun X=>Ext w4 X) 5 7 #[false,false,false,false,false,false,false] (by kernel_rfl) (fun ⟨_,_,h⟩=>h) (by kernel_rfl) rfl rfl (Ext.refl w4).drew ?_
  intro hS0
  refine za 0 (some 28) (.slice A6 m6 c6) _ rfl rfl rfl (by kernel_rfl) (fun _ _ _ h=>h) hS0 (by rfl) (fun X hX=>by have f1:=(hX.cell (i:=0) hlt).trans cs1;go_simp) ?_
  simp only[sP]
  refine za 1 (some 29) (.slice A5 q c5) _ rfl rfl rfl (by kernel_rfl) (fun _ _ _ h=>h) hS0 (by rfl) (fun X hX=>by go_simp) ?_
  simp only[sP]
  refine za 2 (some 30) (.int .i64 (q:Int)) _ rfl rfl rfl (by kernel_rfl) (fun _ _ _ h=>h) hS0 (by rfl) (fun X hX=>by go_simp) ?_
  simp only[sP]
  refine za 3 (some 31) (.int .u64 (q:Int)) _ rfl rfl rfl (by kernel_rfl) (fun _ _ _ h=>h) hS0 (by rfl) (fun X hX=>by go_simp) ?_
  simp only[sP]
  refine zc 4 _ (by kernel_rfl) rfl rfl (by rfl) (fun K0 hK0=>?_)
  go_simp
  refine (CQ w4.drew).mono ?_
  rintro e w5 ⟨v5,rfl,hO5,hE5⟩
  have hE45:Ext w4 w5:=(Ext.refl w4).drew.trans hE5
  refine hK0 _ _ (fun _=>hE45) ?_
  clear hK0 K0 CQ hS0
  have HE5:=hide (HX4.out.trans hE45)
  have H35:=hide (H34.out.ext hE45)
  have hW15:=HW14.out.ext hE45
  have hW25:=HW24.out.ext hE45
  have hb15:=(HX.out.b1.ext HXE.out).ext hE45
  have hb25:=(HX.out.b2.ext HXE.out).ext hE45
  have hK5:=(KeepsOthers.ofExt HXE.out).trans (KeepsOthers.ofExt hE45)
  obtain⟨Aq,cq,hvq,-,-,bq⟩:=hO5.form
  obtain⟨mq,hmq⟩:∃ m,m=(enc q).length:=⟨_,rfl⟩
  rw[← hmq]at hvq bq
  subst hvq
  have HQ5:=hide bq
  have HM5:=hide (show mq≤10 by rw[hmq];exact enc_len q)
  clear hO5 hE5 hE45 bq hmq
  refine zc 5 _ (by kernel_rfl) rfl rfl (by rfl) (fun K1 hK1=>?_)
  refine qx (v:=.slice A6 m6 c6) (.tmp 28) (.tmp 32) rfl rfl H35.out.1 rfl HQ5.out (by have:=HHl.out;have:=HM5.out;omega) HE5.out.le ?_
  intro v6 w6 hO6 hG6 hN6
  refine hK1 _ _ (fun h=>absurd h (by decide)) ?_
  clear hK1 K1
  simp only[Act.put,List.setIfInBounds_toArray]
  have hn1:=H35.out.1.notKind hW15 (by decide)
  have hn2:=H35.out.1.notKind hW25 (by decide)
  have hn3:=H35.out.1.notKind hb15 (by decide)
  have hn4:=H35.out.1.notKind hb25 (by decide)
  have H36:=hide (H35.out.grow hO6 hG6 hN6)
  have hW16:=hW15.ownGrown hG6 hn1
  have hW26:=hW25.ownGrown hG6 hn2
  have hb16:=hb15.ownGrown hG6 hn3
  have hb26:=hb25.ownGrown hG6 hn4
  have HE6:=hide (show Ext w w6 from Below.grown HE5.out hG6 HE5.out.le (fun k hk=>(H35.out.1.lt k hk).1))
  have hK6:=hK5.trans (KeepsOthers.ofOwn H35.out.1 hG6)
  obtain⟨G,hG⟩:∃ G,G=H++enc q:=⟨_,rfl⟩
  rw[← hG]at hO6 H36 HQ1
  obtain⟨Ag,cg,hvg,-,-,-⟩:=hO6.form
  obtain⟨mg,hmg⟩:∃ m,m=G.length:=⟨_,rfl⟩
  rw[← hmg]at hvg
  subst hvg
  clear hO6 hG6 hN6 hn1 hn2 hn3 hn4 hW15 hW25 hb15 hb25 hK5 hmg hG
  refine zc 6 _ (by kernel_rfl) rfl rfl (by rfl) (fun K2 hK2=>?_)
  refine vH 29 (.tmp 6) (.tmp 33) rfl #[.slice Ag mg cg] rfl rfl hW16 (by simp) (by kernel_rfl) rfl rfl rfl ?_
  intro w7 hW17 hG7
  refine hK2 _ _ (fun h=>absurd h (by decide)) (zj (by kernel_rfl) ?_ _)
  clear hK2 K2
  have H37:=hide (H36.out.put hW16 (by decide) hG7)
  have hW27:=hW26.grown hG7 (by omega)
  have hb17:=hb16.grown hG7 (by omega)
  have hb27:=hb26.grown hG7 (by omega)
  have HE7:=hide (show Ext w w7 from Below.grown HE6.out hG7 HE6.out.le (fun k hk=>by cases hk;exact hsw))
  have hK7:=hK6.trans (KeepsOthers.ofWhole hW16 hG7)
  clear hW16 hW26 hb16 hb26 hG7 hK6 H36
  have cs2:=hW27.at 0 (u:=.slice A7 m7 c7) rfl
  have HP7:=hide H37.out.2.2.1.bytesOf
  gi_wp2_with (first | (refine Yl l _ rfl (.tmp 34) (.tmp 35) rfl rfl H37.out.2.1 rfl HP7.out (by have:=HBl.out;omega) HE7.out.le ?_;intro v8 w8 hO8 hG8 hN8;have HK:=hide (adm H37.out hW17 hW27 hb17 hb27 HE7.out hK7 hO8 hG8 hN8);obtain⟨Ah,ch,hvh,-,-,-⟩:=hO8.form;obtain⟨G2,hG2⟩:∃ G,G=B++P:=⟨_,rfl⟩;rw[← hG2]at hvh HK HQ2;obtain⟨mh,hmh⟩:∃ m,m=G2.length:=⟨_,rfl⟩;rw[← hmh]at hvh;subst hvh;have cs8:=HK.out.2.2.1.at 0 (u:=.slice A7 m7 c7) rfl;have fs8:=HK.out.2.2.1.frozen 0;clear hO8 hG8 hN8 hW17 hW27 hb17 hb27 hK7 cs2 hG2 hmh) | fail)
  obtain⟨hT8,hW18,hW28,hb18,hb28,hE8,hK8⟩:=HK.out
  have hG9:=zk w8 (s+1) 0 (.slice Ah mh ch)
  have hW29:=hW28.set 0 (.slice Ah mh ch)
  refine⟨(hK8.trans (KeepsOthers.ofWhole hW28 hG9)).from _,⟨_,_,G,G2,hW18.grown hG9 (by omega),hW29,(hT8.put hW28 (by decide) hG9).drop,by rw[HK1.out];exact HQ1.out,by rw[HK1.out];exact HQ2.out⟩,hb18.grown hG9 (by omega),hb28.grown hG9 (by omega),Below.grown hE8 hG9 hE8.le (fun k hk=>by cases hk;omega)⟩
 case done =>
  intro D W hD hI hK
  obtain⟨v1,v2,H,B,h1,h2,h3,e1,e2⟩:=hI.ex
  have hz:zy sz L (yN sz n*sz)=[]:=ZL (by
   rw[HLn.out]
   rcases Nat.lt_or_ge (yN sz n*sz) n with h|h
   ·have:=qn hs1 h
    omega
   ·exact h)
  rw[hz]at e1 e2
  have e1:T1=H:=by rw[e1];simp[zP]
  have e2:T2=B:=by rw[e2];simp[zV]
  subst e1 e2
  have H3:=hide h3
  have HX:=hide hI.ext
  obtain⟨A6,c6,hv6,-,hc6,-⟩:=h3.1.form
  obtain⟨A7,c7,hv7,-,hc7,-⟩:=h3.2.1.form
  obtain⟨m6,hm6⟩:∃ m,m=T1.length:=⟨_,rfl⟩
  obtain⟨m7,hm7⟩:∃ m,m=T2.length:=⟨_,rfl⟩
  rw[← hm6]at hv6
  rw[← hm7]at hv7
  subst hv6 hv7
  have cs1:=h1.at 0 (u:=.slice A6 m6 c6) rfl
  have cs2:=h2.at 0 (u:=.slice A7 m7 c7) rfl
  have hPa:Parts (W.alloc (.cells #[.slice A6 m6 c6,.slice A7 m7 c7] 29)) (W.alloc (.cells #[.slice A6 m6 c6,.slice A7 m7 c7] 29)).heap.size (some ⟨W.heap.size,0,none⟩) [T1,T2].length [T1,T2]:=by
   have hE:=zb W (.cells #[.slice A6 m6 c6,.slice A7 m7 c7] 29)
   refine⟨rfl,.inr ⟨W.heap.size,0,rfl,by simp,fun i hi=>?_⟩⟩
   match i,hi with
   | 0,_=>exact⟨A6,m6,c6,zA W _ _ _ 0,by have:=H3.out.1.len_le;omega,hE.bytes H3.out.1.bytesOf⟩
   | 1,_=>exact⟨A7,m7,c7,zA W _ _ _ 1,by have:=H3.out.2.1.len_le;omega,hE.bytes H3.out.2.1.bytesOf⟩
  have CA:=yS (some ⟨W.heap.size,0,none⟩) 2 [T1,T2] _ hPa (by simp) (by have h1:=HT1.out;have h2:=HT2.out;simp;omega)
  have hEA:=hide (zb W (.cells #[.slice A6 m6 c6,.slice A7 m7 c7] 29))
  clear h3 h1 h2 hI hz hm6 hm7 hPa
  gi_wp2
  refine⟨trivial,(callsIn_wide.2 CA).mono ?_⟩
  rintro e w5 ⟨v5,rfl,hO5,hE5⟩
  have hX5:=hEA.out.trans hE5
  have hK5:w5.heap[D]?=some (.deferred (some [])):=(hX5.block D (Array.getElem?_eq_some_iff.1 hK).1).trans hK
  have HX5:=hide (HX.out.trans hX5)
  have HO5:=hide (hO5.mono (show w.heap.size≤(W.alloc (.cells #[.slice A6 m6 c6,.slice A7 m7 c7] 29)).heap.size by have:=HX.out.le;have:=hEA.out.le;omega))
  clear hO5 hE5 hX5 CA
  gi_wp2
  refine⟨by simp,.inl ⟨_,_,rfl,run_takeDeferred hK5,?_⟩⟩
  have hG:=grownBy_putObj' w5 D (.deferred none)
  refine⟨_,results_tmp2 rfl _ _ _,v5,rfl,?_,Below.grown HX5.out hG HX5.out.le (fun r e=>by cases e;omega)⟩
  rw[HD.out]
  have:=HO5.out.turn hG (fun r e=>by cases e;exact⟨_,hK5,rfl⟩)
  simpa using this
set_option maxHeartbeats 1000000 in
set_option maxRecDepth 100000 in
theorem XR (A:Option Addr)(n c:Nat)(size:Int)(w:World)(hs:sizeD size=false) :
  Calls Tryz.prog 75 #[.int .i64 size,.slice A n c] w (zB w [] 13):=by
 have CS:=fun W=>ZE size W
 rw[hs]at CS
 clear hs
 go_enter Tryz.func75,Tryz.ntmps75
 go_wp2_with fail
 refine (CS w).mono ?_
 rintro e w' ⟨rfl,rfl⟩
 clear CS
 go_wp2
 go_ret2
 exact⟨_,rfl,OwnB.nil _ _,Ext.refl _⟩
set_option maxHeartbeats 1000000 in
set_option maxRecDepth 100000 in
theorem Vk (A:Option Addr)(n c:Nat)(size:Int)(L:List (List UInt8))(w:World)(h:TextsAt w w.heap.size A n L)(hn:n≤10000)(hl:∀ s,s∈L→s.length≤1000)(hs:sizeD size=true)(hm:mayD L=false) :
  Calls Tryz.prog 75 #[.int .i64 size,.slice A n c] w (zB w [] 13):=by
 have CS:=fun W=>ZE size W
 rw[hs]at CS
 have CR:=XP A n c L w h (by omega) (fun s hs=>by have:=hl s hs;omega)
 rw[hm]at CR
 clear hs hm h hl
 go_enter Tryz.func75,Tryz.ntmps75
 go_wp2_with fail
 refine (CS w).mono ?_
 rintro e w' ⟨rfl,rfl⟩
 go_wp2_with fail
 refine CR.mono ?_
 rintro e w' ⟨rfl,rfl⟩
 clear CS CR
 go_wp2
 go_ret2
 exact⟨_,rfl,OwnB.nil _ _,Ext.refl _⟩
theorem aaq (size:Int)(L:List (List UInt8))(A:Option Addr)(n c:Nat)(w:World)(hnc:n≤c)(hc:c≤maxLen)(hn:n≤10000)(hl:∀ s,s∈L→s.length≤1000)(h:TextsAt w w.heap.size A n L) :
  Calls Tryz.prog 75 #[.int .i64 size,.slice A n c] w (zB w (writeE size L).1 (writeE size L).2):=by
 cases hs:sizeD size with
 | false =>
  have hs1:=of_decide_eq_false hs
  rw[show writeE size L=([],13) by unfold writeE;rw[if_pos (by omega)]]
  exact XR A n c size w hs
 | true =>
  have hs1:=of_decide_eq_true hs
  cases hm:mayD L with
  | false =>
   rw[show writeE size L=([],13) by unfold writeE;rw[if_pos (.inr (.inr hm))]]
   exact Vk A n c size L w h hn hl hs hm
  | true =>
   obtain⟨sz,rfl⟩:∃ sz:Nat,size=(sz:Int):=⟨size.toNat,by omega⟩
   rw[show writeE (sz:Int) L=(dictB sz L,0) by unfold writeE;rw[if_neg (by rw[hm];rintro (h | h | h)<;>first | omega | cases h),Int.toNat_natCast]]
   exact XQ A n c sz L w h hn hnc hc hm (by omega) (by omega)
end
end Go.Proofs.YtpmedpdjglcdpaaGreatDoor
