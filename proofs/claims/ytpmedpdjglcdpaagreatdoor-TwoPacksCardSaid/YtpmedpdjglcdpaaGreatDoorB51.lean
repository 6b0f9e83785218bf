/- Chapter 20: the program's end of a body: the directory's chunk, and how long that is. Chapter 22: the program's head of an archive as bytes. -/
import Derived.Test.YtpmedpdjglcdpaaGreatDoorB03
import Derived.Test.YtpmedpdjglcdpaaGreatDoorB06
import Derived.Test.YtpmedpdjglcdpaaGreatDoorB18
import Derived.Test.YtpmedpdjglcdpaaGreatDoorB23
import Derived.Test.YtpmedpdjglcdpaaGreatDoorB30
import Derived.Test.YtpmedpdjglcdpaaGreatDoorB48
import Derived.Test.YtpmedpdjglcdpaaGreatDoorB50
namespace Go.Proofs.YtpmedpdjglcdpaaGreatDoor
section
open Go.RowKit Bdy
def Bdy.dirP (gs:List Nat)(ps:List (List UInt8))(n m:Nat):List UInt8:=Num.enc (yc gs n)++Num.enc n++pairsTo gs ps n++restTo ps n (m-n)
def Bdy.endB (D:List UInt8):List UInt8:=Crc.put D++Num.fixBytes (Crc.put D).length 4
theorem Bdy.dirP_len (gs:List Nat)(ps:List (List UInt8)){n m:Nat}(hnm:n<m)(hmm:m≤1000):(dirP gs ps n m).length≤40000:=by
 have h1:=Num.enc_len (yc gs n)
 have h2:=Num.enc_len n
 have h3:=pairs_most gs ps n
 have h4:=rest_len ps n (m-n)
 unfold dirP
 simp only[List.length_append]
 omega
theorem Crc.put_four (l:List UInt8):(Crc.put l).length=l.length+4:=by unfold Crc.put;simp[Crc.tail]
theorem Bdy.fix4 {x:Nat}(h:x<1000000):Num.fixErr x 4=0∧(Num.fixBytes x 4).length=4:=by
 have hc:(1:Int)≤4∧(4:Int)≤8∧x<256 ^ (4:Int).toNat:=⟨by omega,by omega,Nat.lt_of_lt_of_le h (by decide)⟩
 unfold Num.fixErr Num.fixBytes
 rw[if_pos hc,if_pos hc]
 exact⟨rfl,by simp[Num.fix]⟩
set_option maxHeartbeats 4000000 in
set_option maxRecDepth 100000 in
theorem ab1 {w:World}{A1 A2:Option Addr}{n c1 m c2:Nat}{gs:List Nat}{ps:List (List UInt8)}(h1:IntsAt w w.heap.size A1 n (yF gs n))(k1:n≤c1∧c1≤maxLen)(h2:IntsAt w w.heap.size A2 m (longs ps))(k2:m≤c2∧c2≤maxLen)(ht:Tab w)
  (hl:gs.length=n) (hm:ps.length=m) (hnm:n<m) (hmm:m≤1000) (hs:yc gs gs.length≤100000) (hps:∀ s,s∈ps→s.length≤1000000) :
  Calls Tryz.prog 29 #[.agg #[.slice A1 n c1,.slice A2 m c2]] w (zB w (endB (dirP gs ps n m)) 0):=by
 obtain⟨w1,hw1⟩:∃ w1,w1=w.alloc (.cells #[.slice A1 n c1,.slice A2 m c2] 59):=⟨_,rfl⟩
 have hE1:Ext w w1:=by rw[hw1];exact zb w _
 have hD:DirAt w1 w.heap.size (yF gs n) (longs ps):=by
  refine⟨A1,c1,A2,c2,?_,by rw[vw];exact k1,by rw[vh,hm];exact k2,by rw[vw];exact h1.later hE1,by rw[vh,hm];exact h2.later hE1⟩
  rw[vw,vh,hm,hw1]
  exact Whole.new w _ _
 have CB:=aar hD hl hm hnm hmm hs hps
 have HT:=hide (And.intro ht ht.pos)
 have hDl:=dirP_len gs ps hnm hmm
 change Calls _ _ _ _ (zt w1 (dirP gs ps n m)) at CB
 generalize dirP gs ps n m=D at *
 have CP:=fun W (hE:Ext w W) A c (hb:Bytes W W.heap.size A D.length D)=>xj A D.length c D W (by omega) (hE.tab HT.out.1 HT.out.2) (by have:=HT.out.2;have:=hE.le;omega) hb
 have hPl:=Crc.put_four D
 unfold endB
 generalize Crc.put D=P at *
 have HPl:=hide (show P.length≤50000 by omega)
 obtain⟨f1,f2⟩:=fix4 (x:=P.length) (by omega)
 have CF:=fun W=>Ul P.length 4 W (by omega)
 unfold zB zt at *
 rw[f1]at CF
 generalize Num.fixBytes P.length 4=F at *
 have HFl:=hide f2
 obtain⟨k,hk⟩:∃ k,k=P.length:=⟨_,rfl⟩
 rw[← hk]at CF
 have HK:=hide hk
 have hk9:(k:Int)≤50000:=by have:=HPl.out;omega
 have hk0:(0:Int)≤(k:Int):=by omega
 have HE1:=hide hE1
 clear h1 k1 h2 k2 ht hl hm hs hps hE1 hD hDl hPl f1 f2 hk
 go_enter Tryz.func29,Tryz.ntmps29
 go_wp2_with fail
 rw[← hw1]
 clear hw1
 refine CB.mono ?_
 rintro e w2 ⟨v2,rfl,hO2,hE2⟩
 obtain⟨A2',c2',rfl,-,-,hb2⟩:=hO2.form
 have hF2:=HE1.out.trans hE2
 have CP2:=CP w2 hF2 A2' c2' hb2
 clear CB CP hO2 hE2
 go_wp2_with fail
 refine CP2.mono ?_
 rintro e w3 ⟨v3,rfl,hO3,hE3⟩
 obtain⟨A3,c3,rfl,-,-,hb3⟩:=hO3.form
 have hF3:=hF2.trans hE3
 rw[← HK.out]at hb3 ⊢
 have CF3:=CF w3
 clear CP2 hO3 hE3 hb2 hF2 CF
 go_wp2_with fail
 refine CF3.mono ?_
 rintro e w4 ⟨v4,rfl,hO4,hE4⟩
 obtain⟨A4,c4,rfl,-,-,hb4⟩:=hO4.form
 have hF4:=hF3.trans hE4
 rw[HFl.out]at hb4 ⊢
 have hP4:=jy w4 (c1:=c3) (c2:=c4) 29 (hE4.bytes hb3) hb4 (by unfold maxLen;omega) (by unfold maxLen;omega)
 have CA:=yS _ 2 [P,F] _ hP4 (by simp) (by have:=HFl.out;have:=HPl.out;simp;omega)
 have hF5:=hF4.trans (zb w4 (.cells #[.slice A3 k c3,.slice A4 4 c4] 29))
 have hfl:[P,F].flatten=P++F:=by simp
 unfold zt at CA
 rw[hfl]at CA
 clear CF3 hO4 hE4 hb3 hb4 hP4 hfl hF3 hF4
 go_wp2_with fail
 refine CA.mono ?_
 rintro e w6 ⟨v6,rfl,hO6,hE6⟩
 have hF6:=hF5.trans hE6
 have hO7:=hO6.mono hF5.le
 clear CA hO6 hE6
 go_wp2
 go_ret2
 exact⟨_,rfl,hO7,hF6⟩
end
section
open Go.RowKit Tp Opt
theorem XS (x:Nat)(w:World)(hx:x≤1000000000):Calls Tryz.prog 33 #[.int .i64 (x:Int)] w (zt w (Num.enc x)):=by
 have C:=zS x w (by omega)
 have hw:IntKind.u64.wrap (x:Int)=(x:Int):=by rw[IntKind.wrap_u64];omega
 unfold zt at C ⊢
 go_enter Tryz.func33,Tryz.ntmps33
 go_wp2_with fail
 try rw[hw]
 refine C.mono ?_
 rintro e w2 ⟨v2,rfl,hO2,hE2⟩
 go_wp2
 go_ret
 exact⟨_,rfl,hO2,hE2⟩
theorem U6 (p:Bool)(w:World):Calls Tryz.prog 34 #[.bool p] w fun e w'=>e=.returned (.int .u8 ((Arc.flagB p).toNat:Int))∧Ext w w':=by
 cases p
 ·go_enter Tryz.func34,Tryz.ntmps34
  go_wp2
  go_ret
  exact⟨rfl,Ext.refl _⟩
 ·go_enter Tryz.func34,Tryz.ntmps34
  go_wp2
  go_ret
  exact⟨rfl,Ext.refl _⟩
theorem V5 (w:World){A1 A2 A3 A4:Option Addr}{n1 c1 n2 c2 n3 c3 n4 c4:Nat}{a b c d:List UInt8}(t:TypeId)(h1:Bytes w w.heap.size A1 n1 a)(h2:Bytes w w.heap.size A2 n2 b)(h3:Bytes w w.heap.size A3 n3 c)(h4:Bytes w w.heap.size A4 n4 d)
  (m1:n1≤maxLen) (m2:n2≤maxLen) (m3:n3≤maxLen) (m4:n4≤maxLen) :
  Parts (w.alloc (.cells #[.slice A1 n1 c1,.slice A2 n2 c2,.slice A3 n3 c3,.slice A4 n4 c4] t)) (w.alloc (.cells #[.slice A1 n1 c1,.slice A2 n2 c2,.slice A3 n3 c3,.slice A4 n4 c4] t)).heap.size (some ⟨w.heap.size,0,none⟩) 4 [a,b,c,d]:=by
 have hE:=zb w (.cells #[.slice A1 n1 c1,.slice A2 n2 c2,.slice A3 n3 c3,.slice A4 n4 c4] t)
 refine⟨rfl,.inr ⟨w.heap.size,0,rfl,by simp,fun i hi=>?_⟩⟩
 match i,hi with
 | 0,_=>exact⟨A1,n1,c1,zA _ _ _ _ _,m1,hE.bytes h1⟩
 | 1,_=>exact⟨A2,n2,c2,zA _ _ _ _ _,m2,hE.bytes h2⟩
 | 2,_=>exact⟨A3,n3,c3,zA _ _ _ _ _,m3,hE.bytes h3⟩
 | 3,_=>exact⟨A4,n4,c4,zA _ _ _ _ _,m4,hE.bytes h4⟩
set_option maxHeartbeats 8000000 in
set_option maxRecDepth 100000 in
theorem Qo (b g:Nat)(p:Bool)(d y c:Int)(w:World)(hb:b≤1000000)(hg:g≤1000000)(ht:Tab w) :
  Calls Tryz.prog 15 #[.agg (zJ (b:Int) p (g:Int) d y c)] w (zB w (vz b (Arc.flagB p) g) 0):=by
 have CM:=fun W=>ab0 2 W (by omega)
 rw[show UInt8.ofNat (2:Int).toNat=2 from rfl]at CM
 have CP:=fun W=>U6 p W
 have CB:=fun W=>XS b W (by omega)
 have CG:=fun W=>XS g W (by omega)
 unfold zt at CB CG
 have HL:=hide (And.intro (Num.enc_len b) (Num.enc_len g))
 have HH:=hide (show zP b (Arc.flagB p) g=[[70,73,82,75,2],Num.enc b,[Arc.flagB p],Num.enc g].flatten by unfold zP;simp)
 have hhl:=ZB b (Arc.flagB p) g
 have HT:=hide (And.intro ht ht.pos)
 have HX:=hide (show vz b (Arc.flagB p) g=Crc.put (zP b (Arc.flagB p) g) from rfl)
 rw[HX.out]
 clear HX
 generalize zP b (Arc.flagB p) g=H at *
 have CQ:=fun W (hE:Ext w W) A c (hb:Bytes W W.heap.size A H.length H)=>xj A H.length c H W (by omega) (hE.tab HT.out.1 HT.out.2) (by have:=HT.out.2;have:=hE.le;omega) hb
 generalize Crc.put H=Z at *
 unfold zt at CQ
 unfold zB
 clear hhl ht
 generalize Arc.flagB p=f at *
 generalize Num.enc b=EB at *
 generalize Num.enc g=EG at *
 unfold zJ at *
 obtain⟨w1,hw1⟩:∃ w1,w1=w.alloc (.cells #[.int .i64 (b:Int),.bool p,.int .i64 (g:Int),.int .i64 d,.int .i64 y,.int .i64 c] 23):=⟨_,rfl⟩
 have HE1:=hide (show Ext w w1 by rw[hw1];exact zb w _)
 have HW1:=hide (show Whole w1 w.heap.size 23 #[.int .i64 (b:Int),.bool p,.int .i64 (g:Int),.int .i64 d,.int .i64 y,.int .i64 c] by rw[hw1];exact Whole.new w _ _)
 go_enter Tryz.func15,Tryz.ntmps15
 go_wp2_with fail
 rw[← hw1]
 clear hw1
 refine (CM _).mono ?_
 rintro e w2 ⟨⟨v2,rfl,hO2⟩,hE2⟩
 obtain⟨A2,c2,rfl,-,hm2,hb2⟩:=hO2.form
 have HE2:=hide (HE1.out.trans hE2)
 have HW:=hide (HW1.out.ext hE2)
 clear hE2 hO2 HW1 CM
 dsimp only[List.length_cons,List.length_nil]at hb2 hm2 ⊢
 go_wp2_with fail
 refine zq (fun W=>Ext w2 W) 13 16 #[false,false,false,false,false,false,false,false,false,false,false,false,false,false,false,false] (by kernel_rfl) rfl rfl (Ext.refl w2).drew ?_
 intro hS0
 refine za 0 (some 13) (.slice A2 5 c2) _ rfl rfl rfl (by kernel_rfl) (fun _ _ _ h=>h) hS0 (by rfl) (fun W hX=>by go_simp) ?_
 simp only[sP]
 refine za 1 (some 14) (.pointer (some ⟨w.heap.size,0,none⟩)) _ rfl rfl rfl (by kernel_rfl) (fun _ _ _ h=>h) hS0 (by rfl) (fun W hX=>by go_simp) ?_
 simp only[sP]
 refine za 2 (some 15) (.int .i64 (b:Int)) _ rfl rfl rfl (by kernel_rfl) (fun _ _ _ h=>h) hS0 (by rfl) (fun W hX=>by have s0:=(HW.out.ext hX).at 0 (u:=.int .i64 (b:Int)) rfl;go_simp) ?_
 simp only[sP]
 refine za 4 (some 17) (.pointer (some ⟨w.heap.size,1,none⟩)) _ rfl rfl rfl (by kernel_rfl) (fun _ _ _ h=>h) hS0 (by rfl) (fun W hX=>by go_simp) ?_
 simp only[sP]
 refine za 5 (some 18) (.bool p) _ rfl rfl rfl (by kernel_rfl) (fun _ _ _ h=>h) hS0 (by rfl) (fun W hX=>by have s0:=(HW.out.ext hX).at 1 (u:=.bool p) rfl;go_simp) ?_
 simp only[sP]
 refine za 8 (some 21) (.pointer (some ⟨w.heap.size,2,none⟩)) _ rfl rfl rfl (by kernel_rfl) (fun _ _ _ h=>h) hS0 (by rfl) (fun W hX=>by go_simp) ?_
 simp only[sP]
 refine za 9 (some 22) (.int .i64 (g:Int)) _ rfl rfl rfl (by kernel_rfl) (fun _ _ _ h=>h) hS0 (by rfl) (fun W hX=>by have s0:=(HW.out.ext hX).at 2 (u:=.int .i64 (g:Int)) rfl;go_simp) ?_
 simp only[sP]
 refine zc 3 _ (by kernel_rfl) rfl rfl (by rfl) (fun K0 hK0=>?_)
 go_simp
 go_at_call 33
 refine (CB _).mono ?_
 rintro e w3 ⟨v3,rfl,hO3,hE3⟩
 obtain⟨A3,c3,rfl,-,hm3,hb3⟩:=hO3.form
 have hS3:=hS0.trans hE3
 refine hK0 _ _ (fun _=>hS3) ?_
 clear hK0 K0
 refine zc 6 _ (by kernel_rfl) rfl rfl (by rfl) (fun K1 hK1=>?_)
 go_simp
 go_at_call 34
 refine (CP _).mono ?_
 rintro e w4 ⟨rfl,hE4⟩
 have hS4:=hS3.trans hE4
 refine hK1 _ _ (fun _=>hS4) ?_
 clear hK1 K1
 refine qc 7 10 #[true,true,true,true,true,true,true,true,true,true,false,false,false,false,false,false] #[true,true,true,true,true,true,true,false,true,true,true,false,false,false,false,false] (by kernel_rfl) rfl rfl rfl rfl (by rfl) (by rfl) (fun K3 hK3=>?_) (fun K3 hK3=>?_)
 ·go_simp
  have hS5:=hS4.trans (zb w4 (.cells #[.int .u8 (f.toNat:Int)] 5))
  have hf5:=zr w4 [f] #[.int .u8 (f.toNat:Int)] 5 (0,0) rfl 1 rfl
  refine hK3 _ _ (fun _=>hS5) ?_
  clear hK3 K3
  obtain⟨w5,hw5⟩:∃ W,W=w4.alloc (.cells #[.int .u8 (f.toNat:Int)] 5):=⟨_,rfl⟩
  have hE5:Ext w4 w5:=by rw[hw5];exact zb _ _
  rw[← hw5]at hS5 hf5 ⊢
  clear hw5
  refine zc 10 _ (by kernel_rfl) rfl rfl (by rfl) (fun K4 hK4=>?_)
  go_simp
  go_at_call 33
  refine (CG _).mono ?_
  rintro e w6 ⟨v6,rfl,hO6,hE6⟩
  obtain⟨A6,c6,rfl,-,hm6,hb6⟩:=hO6.form
  have hS6:=hS5.trans hE6
  refine hK4 _ _ (fun _=>hS6) ?_
  clear hK4 K4
  refine zc 11 _ (by kernel_rfl) rfl rfl (by rfl) (fun K6 hK6=>?_)
  go_simp
  have hP:=V5 w6 (c1:=c2) (c2:=c3) (c3:=1) (c4:=c6) 29 ((((hS3.trans hE4).trans hE5).trans hE6).bytes hb2) (((hE4.trans hE5).trans hE6).bytes hb3) (hE6.bytes hf5) hb6 (by unfold maxLen;omega) (by have:=HL.out;unfold maxLen;omega) (by unfold maxLen;omega) (by have:=HL.out;unfold maxLen;omega)
  have CA:=yS _ 4 [[70,73,82,75,2],EB,[f],EG] _ hP (by simp) (by have:=HL.out;simp only[List.flatten_cons,List.flatten_nil,List.length_append,List.length_cons,List.length_nil];omega)
  have hS9:=hS6.trans (zb w6 (.cells #[.slice A2 5 c2,.slice A3 EB.length c3,.slice (some ⟨w4.heap.size,0,none⟩) 1 1,.slice A6 EG.length c6] 29))
  unfold zt at CA
  rw[← HH.out]at CA
  clear hP
  refine hK6 _ _ (fun _=>hS9) ?_
  clear hK6 K6
  refine zc 12 _ (by kernel_rfl) rfl rfl (by rfl) (fun K7 hK7=>?_)
  go_simp
  go_at_call 16
  refine CA.mono ?_
  rintro e w10 ⟨v10,rfl,hO10,hE10⟩
  obtain⟨A10,c10,rfl,-,-,hb10⟩:=hO10.form
  have hS10:=hS9.trans hE10
  have CP10:=CQ w10 (HE2.out.trans hS10) A10 c10 hb10
  refine hK7 _ _ (fun _=>hS10) ?_
  clear hK7 K7
  refine zc 13 _ (by kernel_rfl) rfl rfl (by rfl) (fun K8 hK8=>?_)
  go_simp
  go_at_call 32
  refine CP10.mono ?_
  rintro e w11 ⟨v11,rfl,hO11,hE11⟩
  have hF11:=HE2.out.trans (hS10.trans hE11)
  have hO12:=hO11.mono (HE2.out.trans hS10).le
  refine hK8 _ _ (fun h=>absurd h (by decide)) ?_
  clear hK8 K8
  refine zc 14 _ (by kernel_rfl) rfl rfl (by rfl) (fun K9 hK9=>?_)
  go_simp
  refine hK9 _ _ (fun h=>absurd h (by decide)) ?_
  clear hK9 K9
  refine zc 15 _ (by kernel_rfl) rfl rfl (by rfl) (fun K10 hK10=>?_)
  go_simp
  refine hK10 _ _ (fun h=>absurd h (by decide)) (zj (by kernel_rfl) ?_ _)
  clear hK10 K10
  go_wp2
  go_ret2
  exact⟨_,rfl,hO12,hF11⟩
 ·go_simp
  go_at_call 33
  refine (CG _).mono ?_
  rintro e w6 ⟨v6,rfl,hO6,hE6⟩
  obtain⟨A6,c6,rfl,-,hm6,hb6⟩:=hO6.form
  have hS6:=hS4.trans hE6
  refine hK3 _ _ (fun _=>hS6) ?_
  clear hK3 K3
  refine zc 7 _ (by kernel_rfl) rfl rfl (by rfl) (fun K4 hK4=>?_)
  go_simp
  have hS5:=hS6.trans (zb w6 (.cells #[.int .u8 (f.toNat:Int)] 5))
  have hf5:=zr w6 [f] #[.int .u8 (f.toNat:Int)] 5 (0,0) rfl 1 rfl
  refine hK4 _ _ (fun _=>hS5) ?_
  clear hK4 K4
  obtain⟨w5,hw5⟩:∃ W,W=w6.alloc (.cells #[.int .u8 (f.toNat:Int)] 5):=⟨_,rfl⟩
  have hE5:Ext w6 w5:=by rw[hw5];exact zb _ _
  rw[← hw5]at hS5 hf5 ⊢
  clear hw5
  refine zc 11 _ (by kernel_rfl) rfl rfl (by rfl) (fun K6 hK6=>?_)
  go_simp
  have hP:=V5 w5 (c1:=c2) (c2:=c3) (c3:=1) (c4:=c6) 29 ((((hS3.trans hE4).trans hE6).trans hE5).bytes hb2) (((hE4.trans hE6).trans hE5).bytes hb3) hf5 (hE5.bytes hb6) (by unfold maxLen;omega) (by have:=HL.out;unfold maxLen;omega) (by unfold maxLen;omega) (by have:=HL.out;unfold maxLen;omega)
  have CA:=yS _ 4 [[70,73,82,75,2],EB,[f],EG] _ hP (by simp) (by have:=HL.out;simp only[List.flatten_cons,List.flatten_nil,List.length_append,List.length_cons,List.length_nil];omega)
  have hS9:=hS5.trans (zb w5 (.cells #[.slice A2 5 c2,.slice A3 EB.length c3,.slice (some ⟨w6.heap.size,0,none⟩) 1 1,.slice A6 EG.length c6] 29))
  unfold zt at CA
  rw[← HH.out]at CA
  clear hP
  refine hK6 _ _ (fun _=>hS9) ?_
  clear hK6 K6
  refine zc 12 _ (by kernel_rfl) rfl rfl (by rfl) (fun K7 hK7=>?_)
  go_simp
  go_at_call 16
  refine CA.mono ?_
  rintro e w10 ⟨v10,rfl,hO10,hE10⟩
  obtain⟨A10,c10,rfl,-,-,hb10⟩:=hO10.form
  have hS10:=hS9.trans hE10
  have CP10:=CQ w10 (HE2.out.trans hS10) A10 c10 hb10
  refine hK7 _ _ (fun _=>hS10) ?_
  clear hK7 K7
  refine zc 13 _ (by kernel_rfl) rfl rfl (by rfl) (fun K8 hK8=>?_)
  go_simp
  go_at_call 32
  refine CP10.mono ?_
  rintro e w11 ⟨v11,rfl,hO11,hE11⟩
  have hF11:=HE2.out.trans (hS10.trans hE11)
  have hO12:=hO11.mono (HE2.out.trans hS10).le
  refine hK8 _ _ (fun h=>absurd h (by decide)) ?_
  clear hK8 K8
  refine zc 14 _ (by kernel_rfl) rfl rfl (by rfl) (fun K9 hK9=>?_)
  go_simp
  refine hK9 _ _ (fun h=>absurd h (by decide)) ?_
  clear hK9 K9
  refine zc 15 _ (by kernel_rfl) rfl rfl (by rfl) (fun K10 hK10=>?_)
  go_simp
  refine hK10 _ _ (fun h=>absurd h (by decide)) (zj (by kernel_rfl) ?_ _)
  clear hK10 K10
  go_wp2
  go_ret2
  exact⟨_,rfl,hO12,hF11⟩
end
end Go.Proofs.YtpmedpdjglcdpaaGreatDoor
