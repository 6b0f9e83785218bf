/- Laws of chapter 18: PostMay. Chapter 20: the program's directory under way: add, directoryOf. Chapter 20: the program's directoryOf. Chapter 20: the program's counts of a directory, and a number's bytes. Chapter 20: the program's directory as bytes. -/
import Derived.Test.YtpmedpdjglcdpaaGreatDoorB02
import Derived.Test.YtpmedpdjglcdpaaGreatDoorB06
import Derived.Test.YtpmedpdjglcdpaaGreatDoorB15
import Derived.Test.YtpmedpdjglcdpaaGreatDoorB18
import Derived.Test.YtpmedpdjglcdpaaGreatDoorB20
import Derived.Test.YtpmedpdjglcdpaaGreatDoorB23
import Derived.Deep.DeepCutAuto
namespace Go.Proofs.YtpmedpdjglcdpaaGreatDoor
section
open Go.RowKit Bdy
structure DirUp (w:World)(g base:Nat)(E L:List Int):Prop where
 has:∃ A1 c1 A2 c2,Whole w g 59 #[.slice A1 E.length c1,.slice A2 L.length c2]∧TwoI w base (.slice A1 E.length c1) (.slice A2 L.length c2) E L
theorem DirUp.at {w:World}{g base:Nat}{E L:List Int}(h:DirUp w g base E L):DirAt w g E L:=by
 obtain⟨A1,c1,A2,c2,hW,hT⟩:=h.has
 obtain⟨B1,d1,e1,h1,h2,h3⟩:=hT.one.form2
 obtain⟨B2,d2,e2,k1,k2,k3⟩:=hT.two.form2
 injection e1 with p1 _ p2
 injection e2 with q1 _ q2
 subst p1 p2 q1 q2
 exact⟨_,_,_,_,hW,⟨h1,h2⟩,⟨k1,k2⟩,h3,k3⟩
set_option maxHeartbeats 4000000 in
set_option maxRecDepth 100000 in
theorem adn {w:World}{g base:Nat}{E L:List Int}(x:Int)(h:DirUp w g base E L)(hg:g<base)(hB:base≤w.heap.size)(hn:E.length≤100000)
  (h1:-1000000≤firstE E E.length∧firstE E E.length≤1000000) (h2:0≤x∧x≤1000000) :
  Calls Tryz.prog 54 #[.pointer (some ⟨g,0,none⟩),.int .i64 x] w fun e w'=>e=.returned (.tuple #[])∧DirUp w' g base (E++[firstE E E.length+x]) L∧Below g w w':=by
 have C:=fun W (hE:Ext w W)=>qT (h.at.ext hE) (by omega)
 obtain⟨A1,c1,A2,c2,hW,hT⟩:=h.has
 have HW:=hide hW
 have HT:=hide hT
 have HGl:=hide hg
 have HBs:=hide hB
 have HLn:=hide (show E.length≤1000000 by omega)
 have HNe:=hide (hT.ne1 hg)
 generalize firstE E E.length=y at *
 have HWr:=hide (show IntKind.i64.wrap (y+x)=y+x by rw[IntKind.wrap_i64];omega)
 obtain⟨n1,hn1⟩:∃ n,n=E.length:=⟨_,rfl⟩
 obtain⟨n2,hn2⟩:∃ n,n=L.length:=⟨_,rfl⟩
 rw[← hn1,← hn2]at HW HT
 rw[← hn1]at HNe
 have HN1:=hide hn1
 have HN2:=hide hn2
 clear h hW hT hg hB hn h1 h2 hn1 hn2
 go_enter Tryz.func54,Tryz.ntmps54
 go_wp2_with fail
 refine zq (fun W=>Ext w W) 10 14 #[false,false,false,false,false,false,false,false,false,false,false,false,false,false] (by kernel_rfl) rfl rfl (Ext.refl w).drew ?_
 intro hS0
 refine yk 0 (some 4) (.pointer (some ⟨g,0,none⟩)) _ rfl rfl rfl (by kernel_rfl) (fun _ _ _ h=>h) (fun _=>hS0) (by rfl) (fun W=>by go_simp) ?_
 simp only[sP]
 refine za 1 (some 5) (.pointer (some ⟨g,0,none⟩)) _ rfl rfl rfl (by kernel_rfl) (fun _ _ _ h=>h) hS0 (by rfl) (fun W hX=>by go_simp) ?_
 simp only[sP]
 refine za 2 (some 6) (.pointer (some ⟨g,0,none⟩)) _ rfl rfl rfl (by kernel_rfl) (fun _ _ _ h=>h) hS0 (by rfl) (fun W hX=>by go_simp) ?_
 simp only[sP]
 refine za 3 (some 7) (.pointer (some ⟨g,0,none⟩)) _ rfl rfl rfl (by kernel_rfl) (fun _ _ _ h=>h) hS0 (by rfl) (fun W hX=>by go_simp) ?_
 simp only[sP]
 refine za 4 (some 8) (.slice A1 n1 c1) _ rfl rfl rfl (by kernel_rfl) (fun _ _ _ h=>h) hS0 (by rfl) (fun W hX=>by have s0:=(HW.out.ext hX).at 0 (u:=.slice A1 n1 c1) rfl;go_simp) ?_
 simp only[sP]
 refine za 5 (some 9) (.pointer (some ⟨g,0,none⟩)) _ rfl rfl rfl (by kernel_rfl) (fun _ _ _ h=>h) hS0 (by rfl) (fun W hX=>by go_simp) ?_
 simp only[sP]
 refine za 7 (some 11) (.int .i64 x) _ rfl rfl rfl (by kernel_rfl) (fun _ _ _ h=>h) hS0 (by rfl) (fun W hX=>by go_simp) ?_
 simp only[sP]
 refine zc 6 _ (by kernel_rfl) rfl rfl (by rfl) (fun K0 hK0=>?_)
 go_simp
 go_at_call 82
 refine (C _ hS0).mono ?_
 rintro e w2 ⟨rfl,rfl⟩
 refine hK0 _ _ (fun _=>hS0) ?_
 clear hK0 K0
 refine zc 8 _ (by kernel_rfl) rfl rfl (by rfl) (fun K1 hK1=>?_)
 go_simp
 rw[HWr.out]
 refine hK1 _ _ (fun _=>hS0) ?_
 clear hK1 K1
 refine zc 9 _ (by kernel_rfl) rfl rfl (by rfl) (fun K2 hK2=>?_)
 go_simp
 have hS1:=hS0.alloc (.cells #[.int .i64 (y+x)] 3)
 have hcb:(w.drew.alloc (.cells #[.int .i64 (y+x)] 3)).cell? ⟨w.drew.heap.size,0,none⟩=some (.int .i64 (y+x)):=zA w.drew #[.int .i64 (y+x)] 3 (0,0) 0
 refine hK2 _ _ (fun _=>hS1) ?_
 clear hK2 K2
 refine zc 10 _ (by kernel_rfl) rfl rfl (by rfl) (fun K3 hK3=>?_)
 refine vG (.tmp 8) (.tmp 13) rfl rfl (HT.out.ext hS1).one rfl hcb HLn.out (Nat.le_trans HBs.out hS1.le) ?_
 intro v3 w3 hO3 hG3 hN3
 have hW3:=(HW.out.ext hS1).ownGrown hG3 HNe.out
 obtain⟨A3,c3,hv3,hc3,hm3,-⟩:=hO3.form2
 have hT3:=(HT.out.ext hS1).grow hO3 hG3 hN3
 have hB3:Below g w _:=Below.grown (Below.mono hS1 (Nat.le_of_lt HW.out.lt)) hG3 (Nat.le_trans (Nat.le_of_lt HW.out.lt) hS1.le) (fun k hk=>by have:=(HT.out.one.lt k hk).1;have:=HGl.out;omega)
 clear hO3 hG3 hN3
 subst hv3
 change K3 (Act.put _ (some 14) _) _
 refine hK3 _ _ (fun h=>absurd h (by decide)) ?_
 clear hK3 K3
 refine zc 11 _ (by kernel_rfl) rfl rfl (by rfl) (fun K4 hK4=>?_)
 go_simp
 refine hK4 _ _ (fun h=>absurd h (by decide)) ?_
 clear hK4 K4
 refine zc 12 _ (by kernel_rfl) rfl rfl (by rfl) (fun K5 hK5=>?_)
 go_simp
 refine hK5 _ _ (fun h=>absurd h (by decide)) ?_
 clear hK5 K5
 refine zc 13 _ (by kernel_rfl) rfl rfl (by rfl) (fun K6 hK6=>?_)
 refine vH 48 (.tmp 16) (.tmp 14) rfl #[.slice A3 (E.length+1) c3,.slice A2 n2 c2] rfl rfl hW3 (by simp) (by kernel_rfl) rfl rfl rfl ?_
 intro w4 hW4 hG4
 refine hK6 _ _ (fun h=>absurd h (by decide)) (zj (by kernel_rfl) ?_ _)
 clear hK6 K6
 go_wp2
 go_end0
 refine⟨rfl,⟨A3,c3,A2,c2,by rw[← HN2.out,List.length_append];exact hW4,?_⟩,Below.grown hB3 hG4 (Nat.le_trans (Nat.le_of_lt HW.out.lt) (Below.size hB3)) (fun k hk=>by cases hk;omega)⟩
 rw[← HN2.out]
 exact hT3.below hG4 HGl.out
end
section
open Go.RowKit Bdy
theorem Qm:(Tryz.prog.info? 59).map (·.size)=some 2:=by kernel_rfl
theorem adT (a b:Option Addr)(n c m d:Nat):(#[.slice a n c,.slice b m d]:Array Value).all (·.oneCell')=true:=by
 first | (simp;done) | (simp;exact⟨rfl,rfl⟩) | (simp[Value.oneCell'])
theorem Bdy.ends_first (gs:List Nat)(j:Nat):firstE (yF gs j) j=((yc gs j:Nat):Int):=by
 unfold firstE
 split
 ·rename_i h
  subst h
  rw[jw]
  rfl
 ·rw[Xi gs (by omega),show j-1+1=j by omega]
def adX (w:World)(E L:List Int)(e:Ending)(w':World):Prop:=∃ A1 c1 A2 c2,e=.returned (.agg #[.slice A1 E.length c1,.slice A2 L.length c2])∧(E.length≤c1∧c1≤maxLen)∧(L.length≤c2∧c2≤maxLen)∧IntsAt w' w'.heap.size A1 E.length E∧IntsAt w' w'.heap.size A2 L.length L∧Ext w w'
set_option maxHeartbeats 4000000 in
set_option maxRecDepth 100000 in
theorem abX (A Ap:Option Addr)(n c np cp:Nat)(gs:List Nat)(ps:List (List UInt8))(w:World)(h:IntsAt w w.heap.size A n (gs.map fun (k:Nat)=>(k:Int)))(hn:n≤1000)(hs:yc gs gs.length≤100000)(hp:Parts w w.heap.size Ap np ps)(hnp:np≤1000) :
  Calls Tryz.prog 30 #[.slice A n c,.slice Ap np cp] w (adX w (yF gs n) (longs ps)):=by
 have hgl:gs.length=n:=by have:=h.1;simpa using this
 have HUp:=hide (show ∀ j,j<n→gs.getD j 0≤100000∧yc gs j+gs.getD j 0≤100000∧yc gs (j+1)=yc gs j+gs.getD j 0 from fun j hj=>by
  have h1:=xK (gs:=gs) (j:=j) (by omega)
  have h2:=vW gs (i:=j+1) (j:=gs.length) (by omega)
  omega)
 have HG:=hide (show ∀ j,j<n→(gs.map fun (k:Nat)=>(k:Int)).getD j 0=((gs.getD j 0:Nat):Int) from fun j hj=>by simp[show j<gs.length by omega])
 have HI:=hide h
 have HP:=hide hp
 have HEl:=hide (vw gs)
 have HEn:=hide (abx gs)
 have HEf:=hide (ends_first gs)
 have HLn:=hide (fun j (hj:j<ps.length)=>Q1 ps hj)
 have HLt:=hide (show longs (ps.take np)=longs ps by rw[List.take_of_length_le (by have:=hp.1;omega)])
 have HLl:=hide (show ∀ j,j≤np→(longs (ps.take j)).length=j from fun j hj=>by rw[vh,List.length_take];have:=hp.1;omega)
 have HL0:=hide (show longs (ps.take 0)=[] from rfl)
 have HE0:=hide (show yF gs 0=[] from rfl)
 obtain⟨w1,hw1⟩:∃ w1,w1=w.alloc (.cells #[.slice none 0 0,.slice none 0 0] 59):=⟨_,rfl⟩
 obtain⟨w2,hw2⟩:∃ w2,w2=w1.alloc (.cells #[.slice none 0 0,.slice none 0 0] 59):=⟨_,rfl⟩
 have hE1:Ext w w1:=by rw[hw1];exact zb w _
 have hE2:Ext w1 w2:=by rw[hw2];exact zb w1 _
 have HE2:=hide (hE1.trans hE2)
 have hs1:w1.heap.size=w.heap.size+1:=by rw[hw1];simp
 have hs2:w2.heap.size=w1.heap.size+1:=by rw[hw2];simp
 have HWr:=hide (show Whole w2 w.heap.size 59 #[.slice none 0 0,.slice none 0 0] from by
  have:Whole w1 w.heap.size 59 #[.slice none 0 0,.slice none 0 0]:=by rw[hw1];exact Whole.new w _ _
  exact this.ext hE2)
 have HWd:=hide (show DirUp w2 (w.heap.size+1) (w.heap.size+2) [] [] from by
  refine⟨none,0,none,0,?_,TwoI.nil _ _⟩
  rw[← hs1,hw2]
  exact Whole.new w1 _ _)
 rw[hw1]at hw2
 obtain⟨g,hg⟩:∃ g,g=w.heap.size+1:=⟨_,rfl⟩
 obtain⟨base,hb⟩:∃ b,b=w.heap.size+2:=⟨_,rfl⟩
 rw[← hg,← hb]at HWd
 have HGb:=hide (show g=w.heap.size+1∧base=g+1∧base=w2.heap.size from ⟨hg,by omega,by omega⟩)
 clear h hp hs hE1 hE2 hs1 hs2 hw1 hb
 go_enter Tryz.func30,Tryz.ntmps30
 go_wp2
 rw[← hw2,← hg]
 clear hw2 hg
 go_loopw [12] (fun y wr=>∃ j:Nat,j≤n∧y=.int .i64 (j:Int)∧DirUp wr g base (yF gs j) []∧Below g w2 wr∧base≤wr.heap.size) (fun y _=>n-(intOf y).toNat)
 case atStart=>exact⟨0,by omega,rfl,by rw[HE0.out];exact HWd.out,Below.refl _ _,by have:=HGb.out;omega⟩
 case round =>
  obtain⟨j,hj,rfl,hD,hBl,hBs⟩:=hrel
  have HD:=hide hD
  have HBl:=hide hBl
  have HBs:=hide hBs
  clear hD hBl hBs HWd
  by_cases hlt:j<n
  ·have hjI:(j:Int)<(n:Int):=by omega
   obtain⟨b,off,rfl,hc,hbl⟩:=HI.out.cellB hlt
   rw[HG.out j hlt]at hc
   have hc2:wr.cell? ⟨b,off+j,none⟩=some (.int .i64 ((gs.getD j 0:Nat):Int)):=(HBl.out.cell (p:=⟨b,off+j,none⟩) (by have:=HGb.out;show b<g;omega)).trans ((HE2.out.cell hbl).trans hc)
   obtain⟨u1,u2,u3⟩:=HUp.out j hlt
   have C:=adn (w:=wr) ((gs.getD j 0:Nat):Int) HD.out (by have:=HGb.out;omega) HBs.out (by rw[HEl.out];omega) (by rw[HEl.out,HEf.out];omega) (by omega)
   rw[HEl.out,HEf.out]at C
   have HN:=hide (show yF gs (j+1)=yF gs j++[((yc gs j:Nat):Int)+((gs.getD j 0:Nat):Int)] from by rw[HEn.out,u3];simp)
   generalize gs.getD j 0=x at *
   clear hc u1 u2 u3
   go_wp2_with fail
   refine C.mono ?_
   rintro e w5 ⟨rfl,hD5,hB5⟩
   have hs5:=Below.size hB5
   go_wp2
   go_roundw
   case rel=>exact⟨j+1,by omega,by go_num,by rw[HN.out];exact hD5,HBl.out.trans hB5,by have:=HBs.out;omega⟩
   case measure=>simp[intOf];omega
  ·have hjI:¬ (j:Int)<(n:Int):=by omega
   obtain rfl:n=j:=by omega
   go_wp2
   go_loopw [21] (fun y wr=>∃ i:Nat,i≤np∧y=.int .i64 (i:Int)∧DirUp wr g base (yF gs n) (longs (ps.take i))∧Below g w2 wr∧base≤wr.heap.size) (fun y _=>np-(intOf y).toNat)
   case atStart=>exact⟨0,by omega,rfl,by rw[HL0.out];exact HD.out,HBl.out,HBs.out⟩
   case round =>
    clear HD HBl HBs
    obtain⟨i,hi,rfl,hD,hBl,hBs⟩:=hrel
    obtain⟨A1,c1,A2,c2,hW,hT⟩:=hD.has
    rw[HEl.out,HLl.out i hi]at hW hT
    have HW:=hide hW
    have HT:=hide hT
    have HBl:=hide hBl
    have HBs:=hide hBs
    have hgw:=hW.lt
    clear hD hW hT hBl hBs
    by_cases hlt2:i<np
    ·have hiI:(i:Int)<(np:Int):=by omega
     rcases HP.out.2 with h0 | ⟨bp,op,rfl,hbp,hcs⟩
     ·omega
     obtain⟨A',k,c',hc1,hk,hrow⟩:=hcs i hlt2
     have hkl:=hrow.1
     have hc2:wr.cell? ⟨bp,op+i,none⟩=some (.slice A' k c'):=(HBl.out.cell (p:=⟨bp,op+i,none⟩) (by have:=HGb.out;show bp<g;omega)).trans ((HE2.out.cell hbp).trans hc1)
     have d1:=HW.out.at 1 (u:=.slice A2 i c2) rfl
     have HN:=hide (HLn.out i (by have:=HP.out.1;omega))
     rw[hkl]at HN
     have hEa:=zb wr (.cells #[.int .i64 (k:Int)] 3)
     have hcb:(wr.alloc (.cells #[.int .i64 (k:Int)] 3)).cell? ⟨wr.heap.size,0,none⟩=some (.int .i64 (k:Int)):=zA wr #[.int .i64 (k:Int)] 3 (0,0) 0
     have hlen:(longs (ps.take i)).length≤1000000:=by rw[HLl.out i hi];omega
     have hbb:base≤(wr.alloc (.cells #[.int .i64 (k:Int)] 3)).heap.size:=Nat.le_trans HBs.out hEa.le
     have HLi:=hide (HLl.out i hi)
     clear hc1 hrow hkl hcs
     go_wp2_with (at_builtin;refine qy rfl (.tmp 26) (.tmp 29) rfl rfl (HT.out.ext hEa).two rfl hcb hlen hbb ?_;intro v3 w3 hO3 hG3 hN3;have hW3:=(HW.out.ext hEa).ownGrown hG3 ((HT.out.ext hEa).ne2 (by have:=HGb.out;omega));have hT3:=((HT.out.ext hEa).flip.grow hO3 hG3 hN3).flip;have hB3:Below g w2 w3:=Below.grown (HBl.out.trans (Below.mono hEa (Nat.le_of_lt hgw))) hG3 (by have:=HGb.out;omega) (fun q hq=>by have:=(HT.out.two.lt q hq).1;have:=HGb.out;omega);have hs3:=hG3.size;obtain⟨A3,c3,hv3,hc3,hm3,-⟩:=hO3.form2;rw[List.length_append,HLi.out,List.length_singleton]at hv3;subst hv3;have e1:=hW3.at 1 (u:=.slice A2 i c2) rfl;have f1:=hW3.frozen 1;clear hO3 hN3 hG3 d1 hcb)
     have hW4:Whole (w3.setCell ⟨g,1,none⟩ (.slice A3 (i+1) c3)) g 59 #[.slice A1 n c1,.slice A3 (i+1) c3]:=hW3.set 1 _
     have hT4:=hT3.below (zk w3 g 1 (.slice A3 (i+1) c3)) (by have:=HGb.out;omega)
     have hB4:Below g w2 (w3.setCell ⟨g,1,none⟩ (.slice A3 (i+1) c3)):=Below.grown hB3 (zk w3 g 1 _) (by have:=HGb.out;have:=Below.size hB3;omega) (fun q hq=>by cases hq;omega)
     go_roundw
     case rel =>
      refine⟨i+1,by omega,by go_num,⟨A1,c1,A3,c3,?_,?_⟩,hB4,by have:=HBs.out;simp at hbb hs3 ⊢;omega⟩
      ·rw[HEl.out,HLl.out (i+1) (by omega)];exact hW4
      ·rw[HEl.out,HLl.out (i+1) (by omega),HN.out];exact hT4
     case measure=>simp[intOf];omega
    ·have hiI:¬ (i:Int)<(np:Int):=by omega
     obtain rfl:np=i:=by omega
     rw[HLt.out]at HT
     have d0:=HW.out.at 0 (u:=.slice A1 n c1) rfl
     have d1:=HW.out.at 1 (u:=.slice A2 np c2) rfl
     have hR:Whole wr w.heap.size 59 #[.slice none 0 0,.slice none 0 0]:=HWr.out.below HBl.out (by have:=HGb.out;omega)
     go_wp2_with (refine zh rfl 59 (.tmp 4) (.tmp 33) rfl rfl rfl hR rfl Qm (adT _ _ _ _ _ _) ?_;intro w6 hW6 hG6 _)
     have hT6:=HT.out.below hG6 (by have:=HGb.out;omega)
     have hE6:Ext w w6:=Below.grown (Below.trans HE2.out (Below.mono (B':=w.heap.size) HBl.out (by have:=HGb.out;omega))) hG6 (by have:=HGb.out;have:=HBs.out;omega) (fun q hq=>by cases hq;exact Nat.le_refl _)
     have hLl:=HLl.out np (Nat.le_refl _)
     rw[HLt.out]at hLl
     obtain⟨B1,k1,e1,p1,p2,p3⟩:=hT6.one.form2
     obtain⟨B2,k2,e2,q1,q2,q3⟩:=hT6.two.form2
     injection e1 with x1 _ x2
     injection e2 with y1 _ y2
     subst x1 x2 y1 y2
     refine bodyPost_ret (results_cell_row rfl _ _ _ _ _ _ _ rfl hW6 Tryz.underlying59 rfl Qm) rfl ⟨_,_,_,_,by rw[HEl.out,hLl],⟨p1,p2⟩,⟨q1,q2⟩,p3,q3,hE6⟩
end
section
open Go.RowKit Bdy
theorem Bdy.set_zero (L:List Int){j n:Nat}(hl:L.length=n)(hj:j<n):(L.take j++List.replicate (n-j) 0).set j (L.getD j 0)=L.take (j+1)++List.replicate (n-(j+1)) 0:=by
 have e1:n-j=(n-(j+1))+1:=by omega
 have e2:L.take (j+1)=L.take j++[L.getD j 0]:=by
  rw[List.take_succ_eq_append_getElem (by omega),List.getD_eq_getElem?_getD,List.getElem?_eq_getElem (by omega)]
  rfl
 rw[e1,List.replicate_succ,e2,List.append_assoc,List.singleton_append]
 have e3:(L.take j).length=j:=by rw[List.length_take];omega
 rw[List.set_append_right _ _ (by omega),e3,Nat.sub_self,List.set_cons_zero]
def V4 (w:World)(n:Nat)(L:List Int)(e:Ending)(w':World):Prop:=∃ A c,e=.returned (.slice A n c)∧OwnI w' w.heap.size (.slice A n c) L∧Ext w w'
theorem OwnI.keptB {w w':World}{b1 b2:Nat}{u v:Value}{L:List Int}{l:List UInt8}(h:OwnI w b1 u L)(k:OwnB w b2 v l)(hG:w.grownBy w' v.ownBlock):OwnI w' b1 u L:=World.ownsRow.kept h hG (xe h k (by decide))
set_option maxHeartbeats 4000000 in
set_option maxRecDepth 100000 in
theorem Qn {w:World}{g n:Nat}{gs:List Nat}{L:List Int}(h:DirAt w g (yF gs n) L)(hl:gs.length=n)(hn:n≤1000)(hs:yc gs gs.length≤100000) :
  Calls Tryz.prog 83 #[.pointer (some ⟨g,0,none⟩)] w (V4 w n (gs.map fun (k:Nat)=>(k:Int))):=by
 have HUp:=hide (show ∀ j,j<n→yc gs (j+1)≤100000∧yc gs j≤100000∧((yc gs (j+1):Nat):Int)-((yc gs j:Nat):Int)=(gs.map fun (k:Nat)=>(k:Int)).getD j 0 from fun j hj=>by
  have h1:=xK (gs:=gs) (j:=j) (by omega)
  have h2:=vW gs (i:=j+1) (j:=gs.length) (by omega)
  have h3:(gs.map fun (k:Nat)=>(k:Int)).getD j 0=((gs.getD j 0:Nat):Int):=by simp[show j<gs.length by omega]
  rw[h3]
  omega)
 have HEl:=hide (vw gs n)
 have HEf:=hide (show ∀ j,j<n→firstE (yF gs n) j=((yc gs j:Nat):Int) from fun j hj=>by
  unfold firstE
  split
  ·rename_i h
   subst h
   rw[jw]
   rfl
  ·rw[Xi gs (by omega),show j-1+1=j by omega])
 have HEg:=hide (show ∀ j,j<n→(yF gs n).getD j 0=((yc gs (j+1):Nat):Int) from fun j hj=>Xi gs hj)
 have C:=fun W (hE:Ext w W) j (hj:j<n)=>Q9 (h.ext hE) j (by rw[HEl.out];exact hj) (by rw[HEl.out];omega) (by rw[HEf.out j hj];have:=HUp.out j hj;omega) (by rw[HEg.out j hj];have:=HUp.out j hj;omega)
 obtain⟨L0,hL0⟩:∃ X,X=gs.map fun (k:Nat)=>(k:Int):=⟨_,rfl⟩
 have hL0l:L0.length=n:=by rw[hL0,List.length_map,hl]
 have HLl:=hide hL0l
 have HZ:=hide (fun j (hj:j<n)=>set_zero L0 hL0l hj)
 rw[← hL0]at HUp ⊢
 obtain⟨A1,c1,A2,c2,hW,-,-,-,-⟩:=h
 have s0:=hW.at 0 (u:=.slice A1 (yF gs n).length c1) rfl
 rw[HEl.out]at s0
 have hr0:L0.take 0++List.replicate (n-0) 0=List.replicate n 0:=by simp
 have hre:L0.take n++List.replicate (n-n) 0=L0:=by rw[List.take_of_length_le (by omega)];simp
 have HR0:=hide hr0
 have HRe:=hide hre
 clear hW hL0 hs hl hL0l hr0 hre
 go_enter Tryz.func83,Tryz.ntmps83
 go_wp2_with (refine Uk rfl (.tmp 9) (.tmp 9) rfl rfl rfl (by omega) ?_;intro w2 hO2 hE2)
 rw[← HR0.out]at hO2
 go_loopw [13] (fun y wr=>∃ j:Nat,j≤n∧y=.int .i64 (j:Int)∧OwnI wr w.heap.size (.slice (some ⟨w.heap.size,0,none⟩) n n) (L0.take j++List.replicate (n-j) 0)∧Ext w wr) (fun y _=>n-(intOf y).toNat)
 case atStart=>exact⟨0,by omega,rfl,hO2,hE2⟩
 case round =>
  clear hO2 hE2 s0
  obtain⟨j,hj,rfl,hO,hE⟩:=hrel
  by_cases hlt:j<n
  ·have hjI:(j:Int)<(n:Int):=by omega
   have CC:=C wr hE j hlt
   obtain⟨-,-,u3⟩:=HUp.out j hlt
   rw[HEg.out j hlt,HEf.out j hlt,u3]at CC
   have HZj:=hide (HZ.out j hlt)
   have hlen:j<(L0.take j++List.replicate (n-j) (0:Int)).length:=by rw[List.length_append,List.length_take,List.length_replicate,HLl.out];omega
   generalize L0.getD j 0=x at *
   have HO:=hide hO
   have HE:=hide hE
   have HLen:=hide hlen
   clear C u3 hO hE hlen
   go_wp2_with (go_at_call 114;refine CC.mono ?_;rintro e w5 ⟨rfl,hE5⟩;obtain⟨k1,k2⟩:=(HO.out.ext hE5).cell HLen.out)
   have hO6:=(HO.out.ext hE5).put j x
   rw[HZj.out]at hO6
   have hE6:Ext w (w5.setCell ⟨w.heap.size,j,none⟩ (.int .i64 x)):=Below.grown (HE.out.trans hE5) (zk w5 w.heap.size j _) (HE.out.trans hE5).le (fun q hq=>by cases hq;exact Nat.le_refl _)
   go_roundw
   case rel=>exact⟨j+1,by omega,by go_num,hO6,hE6⟩
   case measure=>simp[intOf];omega
  ·have hjI:¬ (j:Int)<(n:Int):=by omega
   obtain rfl:n=j:=by omega
   rw[HRe.out]at hO
   go_wp2
   go_ret
   exact⟨_,_,rfl,hO,hE⟩
theorem vY (x:Nat)(w:World)(hx:x≤1000000000):Calls Tryz.prog 81 #[.int .i64 (x:Int)] w (zt w (Num.enc x)):=by
 have C:=zS x w (by omega)
 have hw:IntKind.u64.wrap (x:Int)=(x:Int):=by rw[IntKind.wrap_u64];omega
 unfold zt at C ⊢
 go_enter Tryz.func81,Tryz.ntmps81
 go_wp2_with fail
 try rw[hw]
 refine C.mono ?_
 rintro e w2 ⟨v2,rfl,hO2,hE2⟩
 go_wp2
 go_ret
 exact⟨_,rfl,hO2,hE2⟩
theorem jy (w:World){A1 A2:Option Addr}{n1 c1 n2 c2:Nat}{a b:List UInt8}(t:TypeId)(h1:Bytes w w.heap.size A1 n1 a)(h2:Bytes w w.heap.size A2 n2 b)(m1:n1≤maxLen)(m2:n2≤maxLen) :
  Parts (w.alloc (.cells #[.slice A1 n1 c1,.slice A2 n2 c2] t)) (w.alloc (.cells #[.slice A1 n1 c1,.slice A2 n2 c2] t)).heap.size (some ⟨w.heap.size,0,none⟩) 2 [a,b]:=by
 have hE:=zb w (.cells #[.slice A1 n1 c1,.slice A2 n2 c2] t)
 refine⟨rfl,.inr ⟨w.heap.size,0,rfl,by simp,fun i hi=>?_⟩⟩
 match i,hi with
 | 0,_=>exact⟨A1,n1,c1,zA _ _ _ _ _,m1,hE.bytes h1⟩
 | 1,_=>exact⟨A2,n2,c2,zA _ _ _ _ _,m2,hE.bytes h2⟩
end
section
open Go.RowKit Bdy
theorem abY (W:World)(a:Option Addr)(n c:Nat)(k:IntKind)(l:Int)(h0:0≤l)(h1:l≤n) :
  (Instr.slice 48 (.slice a n c) (some (.int k l)) none none).run Tryz.prog W=.ok (.slice (zQ a c l.toNat) (n-l.toNat) (c-l.toNat)) W:=by
 rw[run_slice_l (P:=Tryz.prog) (w:=W) 48 a n c (by kernel_rfl) k l h0 h1]
 have hs:(sizeOf (Tryz.prog.elem 48)).run Tryz.prog W=.ok 1 W:=by kernel_rfl
 rw[hs]
 simp[Result.andThen,sliced,zQ]
def Bdy.restTo (ps:List (List UInt8))(n i:Nat):List UInt8:=(List.range i).flatMap fun k=>Num.enc (ps.getD (n+k) []).length
theorem Bdy.rest_next (ps:List (List UInt8))(n i:Nat):restTo ps n (i+1)=restTo ps n i++Num.enc (ps.getD (n+i) []).length:=by
 unfold restTo
 rw[List.range_succ,List.flatMap_append]
 simp
theorem Bdy.rest_len (ps:List (List UInt8))(n:Nat):∀ i,(restTo ps n i).length≤10*i
 | 0=>by simp[restTo]
 | i+1=>by
  have h1:=rest_len ps n i
  have h2:=Num.enc_len (ps.getD (n+i) []).length
  rw[rest_next,List.length_append]
  omega
theorem Bdy.pairs_most (gs:List Nat)(fs:List (List UInt8)):∀ j,(pairsTo gs fs j).length≤20*j
 | 0=>by simp[pairsTo]
 | j+1=>by
  have h1:=pairs_most gs fs j
  have h2:=Num.enc_len (gs.getD j 0)
  have h3:=Num.enc_len (fs.getD j []).length
  rw[pairs_next,List.length_append,List.length_append]
  omega
set_option maxHeartbeats 8000000 in
set_option maxRecDepth 100000 in
theorem aar {w:World}{g n m:Nat}{gs:List Nat}{ps:List (List UInt8)}(h:DirAt w g (yF gs n) (longs ps))(hl:gs.length=n)(hm:ps.length=m)(hnm:n<m)(hmm:m≤1000)(hs:yc gs gs.length≤100000)(hps:∀ s,s∈ps→s.length≤1000000) :
  Calls Tryz.prog 52 #[.pointer (some ⟨g,0,none⟩)] w (zt w (Num.enc (yc gs n)++Num.enc n++pairsTo gs ps n++restTo ps n (m-n))):=by
 have hEl:=vw gs n
 have hLl:=vh ps
 have CC:=fun W (hE:Ext w W)=>Qn (h.ext hE) hl (by omega) hs
 have CR:=fun W (hE:Ext w W)=>qT (h.ext hE) (by rw[hEl];omega)
 rw[hEl,ends_first]at CR
 have HSz:=hide (show ∀ i,i<m→(ps.getD i []).length≤1000000 from fun i hi=>hps _ (by rw[List.getD_eq_getElem?_getD,List.getElem?_eq_getElem (by omega)];exact List.getElem_mem _))
 have HGz:=hide (show ∀ j,j<n→gs.getD j 0≤100000∧(gs.map fun (k:Nat)=>(k:Int)).getD j 0=((gs.getD j 0:Nat):Int) from fun j hj=>⟨by
  have h1:=xK (gs:=gs) (j:=j) (by omega)
  have h2:=vW gs (i:=j+1) (j:=gs.length) (by omega)
  omega,by simp[show j<gs.length by omega]⟩)
 have HLg:=hide (show ∀ i,i<m→(longs ps).getD i 0=(((ps.getD i []).length:Nat):Int) from fun i hi=>aby ps (by omega))
 have HLc:=hide (show (gs.map fun (k:Nat)=>(k:Int)).length=n by rw[List.length_map,hl])
 generalize hL0:(gs.map fun (k:Nat)=>(k:Int))=L0 at *
 obtain⟨A1,c1,A2,c2,hW,-,⟨hc2,-⟩,-,hI⟩:=h
 rw[hEl,hLl,hm]at hW
 rw[hLl,hm]at hI
 rw[hLl,hm]at hc2
 obtain⟨b,off,rfl,-,hbl⟩:=hI.cellB (i:=0) (by omega)
 have HCl:=hide (show ∀ i,i<m→∀ W,Ext w W→W.cell? ⟨b,off+i,none⟩=some (.int .i64 (((ps.getD i []).length:Nat):Int)) from fun i hi W hE=>by
  obtain⟨b',off',e,hc,-⟩:=hI.cellB (i:=i) hi
  injection e with e
  injection e with e1 e2
  subst e1 e2
  rw[hE.cell hbl,hc,HLg.out i hi])
 have HW:=hide hW
 have hT:=vW gs (i:=n) (j:=gs.length) (by omega)
 obtain⟨T,hTd⟩:∃ T,T=yc gs n:=⟨_,rfl⟩
 rw[← hTd]at CR hT ⊢
 have CT:=fun W=>vY T W (by omega)
 have CN:=fun W=>vY n W (by omega)
 unfold zt at CT CN ⊢
 unfold V4 at CC
 have HL1:=hide (Num.enc_len T)
 have HL2:=hide (Num.enc_len n)
 have HFl:=hide (show [Num.enc T,Num.enc n].flatten=Num.enc T++Num.enc n by simp)
 have HPn:=hide (pairs_next gs ps)
 have HP0:=hide (show pairsTo gs ps 0=[] from rfl)
 have HPl:=hide (pairs_most gs ps)
 have HRn:=hide (rest_next ps n)
 have HR0:=hide (show restTo ps n 0=[] from rfl)
 have HRl:=hide (rest_len ps n)
 have HCut:=hide (fun (W:World)=>show (Instr.slice 48 (.slice (some ⟨b,off,none⟩) m c2) (some (.int .i64 (n:Int))) none none).run Tryz.prog W=.ok (.slice (some ⟨b,off+n,none⟩) (m-n) (c2-n)) W from by
  rw[abY W _ _ _ _ _ (by omega) (by omega),Int.toNat_natCast]
  simp[zQ,show ¬ c2=n by omega,Addr.add])
 have hc2n:n<c2:=by omega
 clear hl hEl hLl hm hs hps hW hI hL0 hTd hc2
 go_enter Tryz.func52,Tryz.ntmps52
 go_wp2_with fail
 refine zq (fun W=>Ext w W) 10 12 #[false,false,false,false,false,false,false,false,false,false,false,false] (by kernel_rfl) rfl rfl (Ext.refl w).drew ?_
 intro hS0
 refine za 0 (some 8) (.pointer (some ⟨g,0,none⟩)) _ rfl rfl rfl (by kernel_rfl) (fun _ _ _ h=>h) hS0 (by rfl) (fun W hX=>by go_simp) ?_
 simp only[sP]
 refine za 3 (some 11) (.pointer (some ⟨g,0,none⟩)) _ rfl rfl rfl (by kernel_rfl) (fun _ _ _ h=>h) hS0 (by rfl) (fun W hX=>by go_simp) ?_
 simp only[sP]
 refine za 4 (some 12) (.pointer (some ⟨g,0,none⟩)) _ rfl rfl rfl (by kernel_rfl) (fun _ _ _ h=>h) hS0 (by rfl) (fun W hX=>by go_simp) ?_
 simp only[sP]
 refine za 5 (some 13) (.pointer (some ⟨g,0,none⟩)) _ rfl rfl rfl (by kernel_rfl) (fun _ _ _ h=>h) hS0 (by rfl) (fun W hX=>by go_simp) ?_
 simp only[sP]
 refine za 6 (some 14) (.slice A1 n c1) _ rfl rfl rfl (by kernel_rfl) (fun _ _ _ h=>h) hS0 (by rfl) (fun W hX=>by have s0:=(HW.out.ext (hX)).at 0 (u:=.slice A1 n c1) rfl;have s1:=(HW.out.ext (hX)).at 1 (u:=.slice (some ⟨b,off,none⟩) m c2) rfl;go_simp) ?_
 simp only[sP]
 refine za 7 (some 15) (.int .i64 (n:Int)) _ rfl rfl rfl (by kernel_rfl) (fun _ _ _ h=>h) hS0 (by rfl) (fun W hX=>by go_simp) ?_
 simp only[sP]
 refine zc 1 _ (by kernel_rfl) rfl rfl (by rfl) (fun K0 hK0=>?_)
 go_simp
 go_at_call 82
 refine (CR _ hS0).mono ?_
 rintro e w2 ⟨rfl,rfl⟩
 refine hK0 _ _ (fun _=>hS0) ?_
 clear hK0 K0
 refine zc 2 _ (by kernel_rfl) rfl rfl (by rfl) (fun K1 hK1=>?_)
 go_simp
 go_at_call 81
 refine (CT _).mono ?_
 rintro e w3 ⟨v3,rfl,hO3,hE3⟩
 obtain⟨A3,c3,rfl,-,hm3,hb3⟩:=hO3.form
 have hS3:=hS0.trans hE3
 clear hO3
 refine hK1 _ _ (fun _=>hS3) ?_
 clear hK1 K1
 refine zc 8 _ (by kernel_rfl) rfl rfl (by rfl) (fun K2 hK2=>?_)
 go_simp
 go_at_call 81
 refine (CN _).mono ?_
 rintro e w4 ⟨v4,rfl,hO4,hE4⟩
 obtain⟨A4,c4,rfl,-,hm4,hb4⟩:=hO4.form
 have hS4:=hS3.trans hE4
 have hP4:=jy w4 (c1:=c3) (c2:=c4) 29 (hE4.bytes hb3) hb4 (by have:=HL1.out;unfold maxLen;omega) (by have:=HL2.out;unfold maxLen;omega)
 have CA:=yS _ 2 [Num.enc T,Num.enc n] _ hP4 (by simp) (by have:=HL1.out;have:=HL2.out;simp;omega)
 have hS5:=hS4.trans (zb w4 (.cells #[.slice A3 (Num.enc T).length c3,.slice A4 (Num.enc n).length c4] 29))
 unfold zt at CA
 rw[HFl.out]at CA
 clear hO4 hP4 hb3 hb4
 refine hK2 _ _ (fun _=>hS4) ?_
 clear hK2 K2
 refine zc 9 _ (by kernel_rfl) rfl rfl (by rfl) (fun K3 hK3=>?_)
 go_simp
 refine hK3 _ _ (fun _=>hS5) ?_
 clear hK3 K3
 refine zc 10 _ (by kernel_rfl) rfl rfl (by rfl) (fun K4 hK4=>?_)
 go_simp
 go_at_call 16
 refine CA.mono ?_
 rintro e w6 ⟨v6,rfl,hO6,hE6⟩
 have hF6:=hS5.trans hE6
 clear CA hE6
 refine hK4 _ _ (fun h=>absurd h (by decide)) ?_
 clear hK4 K4
 refine zc 11 _ (by kernel_rfl) rfl rfl (by rfl) (fun K5 hK5=>?_)
 go_simp
 refine hK5 _ _ (fun h=>absurd h (by decide)) (zj (by kernel_rfl) ?_ _)
 clear hK5 K5
 have CC6:=CC _ hF6
 clear CC CR CT CN
 go_wp2_with fail
 refine CC6.mono ?_
 rintro e w7 ⟨A7,c7,rfl,hI7,hE7⟩
 have hF7:=hF6.trans hE7
 have HO7:=hide ((hO6.ext hE7).mono hS5.le)
 have HI7:=hide (OwnI.lower hI7 hF6.le)
 have HF7:=hide hF7
 clear CC6 hI7 hF6 hF7 hE7 hO6
 go_wp2
 go_loopw [22,3] (fun y v wr=>∃ j:Nat,j≤n∧y=.int .i64 (j:Int)∧OwnB wr w.heap.size v (Num.enc T++Num.enc n++pairsTo gs ps j)∧OwnI wr w.heap.size (.slice A7 n c7) L0∧Ext w wr) (fun y _ _=>n-(intOf y).toNat)
 case atStart=>exact⟨0,by omega,rfl,by rw[HP0.out,List.append_nil];exact HO7.out,HI7.out,HF7.out⟩
 case round =>
  clear HO7 HI7 HF7
  obtain⟨j,hj,rfl,hO,hI,hE⟩:=hrel
  have HO:=hide hO
  have HI:=hide hI
  have HE:=hide hE
  clear hO hI hE
  by_cases hlt:j<n
  ·have hjI:(j:Int)<(n:Int):=by omega
   have hjm:(j:Int)<(m:Int):=by omega
   have hI8:=HI.out.at
   rw[HLc.out]at hI8
   obtain⟨b7,off7,rfl,hc8,hl7⟩:=hI8.cellB hlt
   obtain⟨z1,z2⟩:=HGz.out j hlt
   rw[z2]at hc8
   have hsz:=HSz.out j (by omega)
   have HCy:=hide (fun W (hE:Ext wr W)=>HCl.out j (by omega) W (HE.out.trans hE))
   have HNx:=hide (HPn.out j)
   have hPl:=HPl.out j
   obtain⟨x,hx⟩:∃ x,x=gs.getD j 0:=⟨_,rfl⟩
   obtain⟨y,hy⟩:∃ y,y=(ps.getD j []).length:=⟨_,rfl⟩
   rw[← hx]at hc8 z1 HNx
   rw[← hy]at HCy hsz HNx
   have CX:=fun W=>vY x W (by omega)
   have CY:=fun W=>vY y W (by omega)
   unfold zt at CX CY
   have hLx:=Num.enc_len x
   have hLy:=Num.enc_len y
   have HLx:=hide hLx
   have HLy:=hide hLy
   have HFy:=hide (show [Num.enc x,Num.enc y].flatten=Num.enc x++Num.enc y by simp)
   have HFit:=hide (show (Num.enc T++Num.enc n++pairsTo gs ps j).length+(Num.enc x++Num.enc y).length≤140737488355328 by
    have:=HL1.out
    have:=HL2.out
    simp only[List.length_append]
    omega)
   clear hI8 z2 hx hy hLx hLy hPl
   go_wp2_with fail
   refine zq (fun W=>Ext wr W) 13 15 #[false,false,false,false,false,false,false,false,false,false,false,false,false,false,false] (by kernel_rfl) rfl rfl (Ext.refl wr).drew ?_
   intro hS0
   refine za 0 (some 27) (u3) _ rfl rfl rfl (by kernel_rfl) (fun _ _ _ h=>h) hS0 (by rfl) (fun W hX=>by go_simp) ?_
   simp only[sP]
   refine za 1 (some 28) (.int .i64 (x:Int)) _ rfl rfl rfl (by kernel_rfl) (fun _ _ _ h=>h) hS0 (by rfl) (fun W hX=>by go_simp) ?_
   simp only[sP]
   refine za 3 (some 30) (.pointer (some ⟨g,0,none⟩)) _ rfl rfl rfl (by kernel_rfl) (fun _ _ _ h=>h) hS0 (by rfl) (fun W hX=>by go_simp) ?_
   simp only[sP]
   refine za 4 (some 31) (.pointer (some ⟨g,0,none⟩)) _ rfl rfl rfl (by kernel_rfl) (fun _ _ _ h=>h) hS0 (by rfl) (fun W hX=>by go_simp) ?_
   simp only[sP]
   refine za 5 (some 32) (.pointer (some ⟨g,1,none⟩)) _ rfl rfl rfl (by kernel_rfl) (fun _ _ _ h=>h) hS0 (by rfl) (fun W hX=>by go_simp) ?_
   simp only[sP]
   refine za 6 (some 33) (.slice (some ⟨b,off,none⟩) m c2) _ rfl rfl rfl (by kernel_rfl) (fun _ _ _ h=>h) hS0 (by rfl) (fun W hX=>by have s0:=(HW.out.ext (HE.out.trans hX)).at 0 (u:=.slice A1 n c1) rfl;have s1:=(HW.out.ext (HE.out.trans hX)).at 1 (u:=.slice (some ⟨b,off,none⟩) m c2) rfl;go_simp) ?_
   simp only[sP]
   refine za 7 (some 34) (.int .i64 (j:Int)) _ rfl rfl rfl (by kernel_rfl) (fun _ _ _ h=>h) hS0 (by rfl) (fun W hX=>by go_simp) ?_
   simp only[sP]
   refine za 8 (some 35) (.pointer (some ⟨b,off+j,none⟩)) _ rfl rfl rfl (by kernel_rfl) (fun _ _ _ h=>h) hS0 (by rfl) (fun W hX=>by go_simp) ?_
   simp only[sP]
   refine za 9 (some 36) (.int .i64 (y:Int)) _ rfl rfl rfl (by kernel_rfl) (fun _ _ _ h=>h) hS0 (by rfl) (fun W hX=>by have s2:=HCy.out W hX;go_simp) ?_
   simp only[sP]
   refine zc 2 _ (by kernel_rfl) rfl rfl (by rfl) (fun K0 hK0=>?_)
   go_simp
   go_at_call 81
   refine (CX _).mono ?_
   rintro e w3 ⟨v3,rfl,hO3,hE3⟩
   obtain⟨A3,c3,rfl,-,hm3,hb3⟩:=hO3.form
   have hS3:=hS0.trans hE3
   clear hO3
   refine hK0 _ _ (fun _=>hS3) ?_
   clear hK0 K0
   refine zc 10 _ (by kernel_rfl) rfl rfl (by rfl) (fun K1 hK1=>?_)
   go_simp
   go_at_call 81
   refine (CY _).mono ?_
   rintro e w4 ⟨v4,rfl,hO4,hE4⟩
   obtain⟨A4,c4,rfl,-,hm4,hb4⟩:=hO4.form
   have hS4:=hS3.trans hE4
   have hP4:=jy w4 (c1:=c3) (c2:=c4) 29 (hE4.bytes hb3) hb4 (by have:=HLx.out;unfold maxLen;omega) (by have:=HLy.out;unfold maxLen;omega)
   have CA:=yS _ 2 [Num.enc x,Num.enc y] _ hP4 (by simp) (by have:=HLx.out;have:=HLy.out;simp;omega)
   have hS5:=hS4.trans (zb w4 (.cells #[.slice A3 (Num.enc x).length c3,.slice A4 (Num.enc y).length c4] 29))
   unfold zt at CA
   rw[HFy.out]at CA
   clear hO4 hP4 hb3 hb4
   refine hK1 _ _ (fun _=>hS4) ?_
   clear hK1 K1
   refine zc 11 _ (by kernel_rfl) rfl rfl (by rfl) (fun K2 hK2=>?_)
   go_simp
   refine hK2 _ _ (fun _=>hS5) ?_
   clear hK2 K2
   refine zc 12 _ (by kernel_rfl) rfl rfl (by rfl) (fun K3 hK3=>?_)
   go_simp
   go_at_call 16
   refine CA.mono ?_
   rintro e w6 ⟨v6,rfl,hO6,hE6⟩
   have hS6:=hS5.trans hE6
   obtain⟨A6,c6,rfl,-,-,hb6⟩:=hO6.form
   clear CA hE6 hO6
   refine hK3 _ _ (fun _=>hS6) ?_
   clear hK3 K3
   refine zc 13 _ (by kernel_rfl) rfl rfl (by rfl) (fun K4 hK4=>?_)
   refine V6 (.tmp 27) (.tmp 39) rfl rfl (HO.out.ext hS6) rfl hb6 HFit.out (Nat.le_trans HE.out.le hS6.le) ?_
   intro v7 w7 hO7 hG7
   have hF7:Ext w w7:=OwnB.below (HO.out.ext hS6) (HE.out.trans hS6) hG7 (HE.out.trans hS6).le
   have hI7:=(HI.out.ext hS6).keptB (HO.out.ext hS6) hG7
   clear hG7
   change K4 (Act.put _ (some 40) _) _
   refine hK4 _ _ (fun h=>absurd h (by decide)) ?_
   clear hK4 K4
   refine zc 14 _ (by kernel_rfl) rfl rfl (by rfl) (fun K5 hK5=>?_)
   go_simp
   refine hK5 _ _ (fun h=>absurd h (by decide)) (zj (by kernel_rfl) ?_ _)
   clear hK5 K5
   go_wp2
   go_roundw
   case rel=>exact⟨j+1,by omega,by go_num,by rw[HNx.out,← List.append_assoc];exact hO7,hI7,hF7⟩
   case measure=>simp[intOf];omega
  ·have hjI:¬ (j:Int)<(n:Int):=by omega
   obtain rfl:n=j:=by omega
   go_wp2_with fail
   refine zq (fun W=>Ext wr W) 10 12 #[false,false,false,false,false,false,false,false,false,false,false,false] (by kernel_rfl) rfl rfl (Ext.refl wr).drew ?_
   intro hS0
   refine za 0 (some 42) (.pointer (some ⟨g,0,none⟩)) _ rfl rfl rfl (by kernel_rfl) (fun _ _ _ h=>h) hS0 (by rfl) (fun W hX=>by go_simp) ?_
   simp only[sP]
   refine za 1 (some 43) (.pointer (some ⟨g,0,none⟩)) _ rfl rfl rfl (by kernel_rfl) (fun _ _ _ h=>h) hS0 (by rfl) (fun W hX=>by go_simp) ?_
   simp only[sP]
   refine za 2 (some 44) (.pointer (some ⟨g,1,none⟩)) _ rfl rfl rfl (by kernel_rfl) (fun _ _ _ h=>h) hS0 (by rfl) (fun W hX=>by go_simp) ?_
   simp only[sP]
   refine za 3 (some 45) (.slice (some ⟨b,off,none⟩) m c2) _ rfl rfl rfl (by kernel_rfl) (fun _ _ _ h=>h) hS0 (by rfl) (fun W hX=>by have s0:=(HW.out.ext (HE.out.trans hX)).at 0 (u:=.slice A1 n c1) rfl;have s1:=(HW.out.ext (HE.out.trans hX)).at 1 (u:=.slice (some ⟨b,off,none⟩) m c2) rfl;go_simp) ?_
   simp only[sP]
   refine za 4 (some 46) (.pointer (some ⟨g,0,none⟩)) _ rfl rfl rfl (by kernel_rfl) (fun _ _ _ h=>h) hS0 (by rfl) (fun W hX=>by go_simp) ?_
   simp only[sP]
   refine za 5 (some 47) (.pointer (some ⟨g,0,none⟩)) _ rfl rfl rfl (by kernel_rfl) (fun _ _ _ h=>h) hS0 (by rfl) (fun W hX=>by go_simp) ?_
   simp only[sP]
   refine za 6 (some 48) (.pointer (some ⟨g,0,none⟩)) _ rfl rfl rfl (by kernel_rfl) (fun _ _ _ h=>h) hS0 (by rfl) (fun W hX=>by go_simp) ?_
   simp only[sP]
   refine za 7 (some 49) (.slice A1 n c1) _ rfl rfl rfl (by kernel_rfl) (fun _ _ _ h=>h) hS0 (by rfl) (fun W hX=>by have s0:=(HW.out.ext (HE.out.trans hX)).at 0 (u:=.slice A1 n c1) rfl;have s1:=(HW.out.ext (HE.out.trans hX)).at 1 (u:=.slice (some ⟨b,off,none⟩) m c2) rfl;go_simp) ?_
   simp only[sP]
   refine za 8 (some 50) (.int .i64 (n:Int)) _ rfl rfl rfl (by kernel_rfl) (fun _ _ _ h=>h) hS0 (by rfl) (fun W hX=>by go_simp) ?_
   simp only[sP]
   refine za 9 (some 51) (.slice (some ⟨b,off+n,none⟩) (m-n) (c2-n)) _ rfl rfl rfl (by kernel_rfl) (fun _ _ _ h=>h) hS0 (by rfl) (fun W hX=>by have s2:=HCut.out W;go_simp) ?_
   simp only[sP]
   refine yk 11 (some 53) (.int .i64 0) _ rfl rfl rfl (by kernel_rfl) (fun _ _ _ h=>h) (fun _=>hS0) (by rfl) (fun W=>by go_simp) ?_
   simp only[sP]
   refine zc 10 _ (by kernel_rfl) rfl rfl (by rfl) (fun K0 hK0=>?_)
   go_simp
   refine hK0 _ _ (fun h=>absurd h (by decide)) (zj (by kernel_rfl) ?_ _)
   clear hK0 K0
   go_wp2
   go_loopw [53,3] (fun y v wk=>∃ i:Nat,i≤m-n∧y=.int .i64 (i:Int)∧OwnB wk w.heap.size v (Num.enc T++Num.enc n++pairsTo gs ps n++restTo ps n i)∧Ext w wk) (fun y _ _=>(m-n)-(intOf y).toNat)
   case atStart=>exact⟨0,by omega,rfl,by rw[HR0.out,List.append_nil];exact HO.out.ext hS0,HE.out.trans hS0⟩
   case round =>
    clear HO HE HI
    obtain⟨i,hi,rfl,hO,hE⟩:=hrel
    have HO:=hide hO
    have HE:=hide hE
    clear hO hE
    by_cases hlt2:i<m-n
    ·have hiI:(i:Int)<((m-n:Nat):Int):=by omega
     have hsz:=HSz.out (n+i) (by omega)
     have hc9:=HCl.out (n+i) (by omega) wr HE.out
     have HNx:=hide (HRn.out i)
     have hRl:=HRl.out i
     have hPl:=HPl.out n
     obtain⟨y,hy⟩:∃ y,y=(ps.getD (n+i) []).length:=⟨_,rfl⟩
     rw[← hy]at hc9 hsz HNx
     have CY:=fun W=>vY y W (by omega)
     unfold zt at CY
     rw[← Nat.add_assoc]at hc9
     have HFit:=hide (show (Num.enc T++Num.enc n++pairsTo gs ps n++restTo ps n i).length+(Num.enc y).length≤140737488355328 by
      have:=HL1.out
      have:=HL2.out
      have:=Num.enc_len y
      simp only[List.length_append]
      omega)
     clear hsz hy hRl hPl
     go_wp2_with (first
      | (go_at_call 81;refine (CY _).mono ?_;rintro e w4 ⟨v4,rfl,hO4,hE4⟩;obtain⟨A4,c4,rfl,-,hm4,hb4⟩:=hO4.form;have hS4:=HE.out.trans hE4;have hO5:=HO.out.ext hE4;have hB5:=hS4.le;have hfit:=HFit.out;clear hO4 hE4)
      | (at_builtin;refine zw rfl (.tmp 57) (.tmp 59) rfl rfl hO5 rfl hb4 hfit hB5 ?_;intro v7 w7 hO7 hG7;have hF7:Ext w w7:=OwnB.below hO5 hS4 hG7 hB5;clear hG7 hO5))
     go_roundw
     case rel=>exact⟨i+1,by omega,by go_num,by rw[HNx.out,← List.append_assoc];exact hO7,hF7⟩
     case measure=>simp[intOf];omega
    ·have hiI:¬ (i:Int)<((m-n:Nat):Int):=by omega
     obtain rfl:i=m-n:=by omega
     have hOe:=HO.out
     rw[List.append_assoc,List.append_assoc]at hOe
     go_wp2
     go_ret
     exact⟨_,rfl,hOe,HE.out⟩
end
end Go.Proofs.YtpmedpdjglcdpaaGreatDoor
