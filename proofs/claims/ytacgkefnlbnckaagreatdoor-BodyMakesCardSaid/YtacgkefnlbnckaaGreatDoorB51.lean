/- Chapter 20: the program's end of a body: the directory's chunk, and how long that is. -/
import Derived.Test.YtacgkefnlbnckaaGreatDoorB03
import Derived.Test.YtacgkefnlbnckaaGreatDoorB06
import Derived.Test.YtacgkefnlbnckaaGreatDoorB29
import Derived.Test.YtacgkefnlbnckaaGreatDoorB49
namespace Go.Proofs.YtacgkefnlbnckaaGreatDoor
section
open Go.RowKit Bdy
def Bdy.dirP (gs:List Nat)(ps:List (List UInt8))(n m:Nat):List UInt8:=Num.enc (upTo gs n)++Num.enc n++pairsTo gs ps n++restTo ps n (m-n)
def Bdy.endB (D:List UInt8):List UInt8:=Crc.put D++Num.fixBytes (Crc.put D).length 4
theorem Bdy.dirP_len (gs:List Nat)(ps:List (List UInt8)){n m:Nat}(hnm:n < m)(hmm:m≤1000):(dirP gs ps n m).length≤40000:=by
 have h1:=Num.enc_len (upTo gs n)
 have h2:=Num.enc_len n
 have h3:=pairs_most gs ps n
 have h4:=rest_len ps n (m-n)
 unfold dirP
 simp only [List.length_append]
 omega
theorem Crc.put_four (l:List UInt8):(Crc.put l).length=l.length+4:=by unfold Crc.put;simp [Crc.tail]
theorem Bdy.fix4 {x:Nat}(h:x < 1000000):Num.fixErr x 4=0∧(Num.fixBytes x 4).length=4:=by
 have hc:(1:Int)≤4∧(4:Int)≤8∧x < 256 ^ (4:Int).toNat:=⟨by omega,by omega,Nat.lt_of_lt_of_le h (by decide)⟩
 unfold Num.fixErr Num.fixBytes
 rw [if_pos hc,if_pos hc]
 exact ⟨rfl,by simp [Num.fix]⟩
set_option maxHeartbeats 4000000 in
set_option maxRecDepth 100000 in
theorem endOf_any {w:World}{A1 A2:Option Addr}{n c1 m c2:Nat}{gs:List Nat}{ps:List (List UInt8)}(h1:IntsAt w w.heap.size A1 n (endsTo gs n))(k1:n≤c1∧c1≤maxLen)(h2:IntsAt w w.heap.size A2 m (longs ps))(k2:m≤c2∧c2≤maxLen)(ht:Tab w)
  (hl:gs.length=n) (hm:ps.length=m) (hnm:n < m) (hmm:m≤1000) (hs:upTo gs gs.length≤100000) (hps:∀ s,s∈ps→s.length≤1000000) :
  Calls Tryz.prog 16 #[.agg #[.slice A1 n c1,.slice A2 m c2]] w (MadeE w (endB (dirP gs ps n m)) 0):=by
 obtain ⟨w1,hw1⟩:∃ w1,w1=w.alloc (.cells #[.slice A1 n c1,.slice A2 m c2] 49):=⟨_,rfl⟩
 have hE1:Ext w w1:=by rw [hw1];exact extNew w _
 have hD:DirAt w1 w.heap.size (endsTo gs n) (longs ps):=by
  refine ⟨A1,c1,A2,c2,?_,by rw [ends_len];exact k1,by rw [longs_len,hm];exact k2,by rw [ends_len];exact h1.later hE1,by rw [longs_len,hm];exact h2.later hE1⟩
  rw [ends_len,longs_len,hm,hw1]
  exact Whole.new w _ _
 have CB:=dBytes_any hD hl hm hnm hmm hs hps
 have HT:=hide (And.intro ht ht.pos)
 have hDl:=dirP_len gs ps hnm hmm
 change Calls _ _ _ _ (MadeB w1 (dirP gs ps n m)) at CB
 generalize dirP gs ps n m=D at *
 have CP:=fun W (hE:Ext w W) A c (hb:Bytes W W.heap.size A D.length D)=>crcPut_any A D.length c D W (by omega) (hE.tab HT.out.1 HT.out.2) (by have:=HT.out.2;have:=hE.le;omega) hb
 have hPl:=Crc.put_four D
 unfold endB
 generalize Crc.put D=P at *
 have HPl:=hide (show P.length≤50000 by omega)
 obtain ⟨f1,f2⟩:=fix4 (x:=P.length) (by omega)
 have CF:=fun W=>ownFixed_any P.length 4 W (by omega)
 unfold MadeE MadeB at *
 rw [f1] at CF
 generalize Num.fixBytes P.length 4=F at *
 have HFl:=hide f2
 obtain ⟨k,hk⟩:∃ k,k=P.length:=⟨_,rfl⟩
 rw [← hk] at CF
 have HK:=hide hk
 have hk9:(k:Int)≤50000:=by have:=HPl.out;omega
 have hk0:(0:Int)≤(k:Int):=by omega
 have HE1:=hide hE1
 clear h1 k1 h2 k2 ht hl hm hs hps hE1 hD hDl hPl f1 f2 hk
 go_enter Tryz.func16,Tryz.ntmps16
 go_wp2_with fail
 rw [← hw1]
 clear hw1
 refine CB.mono ?_
 rintro e w2 ⟨v2,rfl,hO2,hE2⟩
 obtain ⟨A2',c2',rfl,-,-,hb2⟩:=hO2.form
 have hF2:=HE1.out.trans hE2
 have CP2:=CP w2 hF2 A2' c2' hb2
 clear CB CP hO2 hE2
 go_wp2_with fail
 refine CP2.mono ?_
 rintro e w3 ⟨v3,rfl,hO3,hE3⟩
 obtain ⟨A3,c3,rfl,-,-,hb3⟩:=hO3.form
 have hF3:=hF2.trans hE3
 rw [← HK.out] at hb3 ⊢
 have CF3:=CF w3
 clear CP2 hO3 hE3 hb2 hF2 CF
 go_wp2_with fail
 refine CF3.mono ?_
 rintro e w4 ⟨v4,rfl,hO4,hE4⟩
 obtain ⟨A4,c4,rfl,-,-,hb4⟩:=hO4.form
 have hF4:=hF3.trans hE4
 rw [HFl.out] at hb4 ⊢
 have hP4:=parts2New w4 (c1:=c3) (c2:=c4) 29 (hE4.bytes hb3) hb4 (by unfold maxLen;omega) (by unfold maxLen;omega)
 have CA:=all_any _ 2 [P,F] _ hP4 (by simp) (by have:=HFl.out;have:=HPl.out;simp;omega)
 have hF5:=hF4.trans (extNew w4 (.cells #[.slice A3 k c3,.slice A4 4 c4] 29))
 have hfl:[P,F].flatten=P++F:=by simp
 unfold MadeB at CA
 rw [hfl] at CA
 clear CF3 hO4 hE4 hb3 hb4 hP4 hfl hF3 hF4
 go_wp2_with fail
 refine CA.mono ?_
 rintro e w6 ⟨v6,rfl,hO6,hE6⟩
 have hF6:=hF5.trans hE6
 have hO7:=hO6.mono hF5.le
 clear CA hO6 hE6
 go_wp2
 go_ret2
 exact ⟨_,rfl,hO7,hF6⟩
end
end Go.Proofs.YtacgkefnlbnckaaGreatDoor
