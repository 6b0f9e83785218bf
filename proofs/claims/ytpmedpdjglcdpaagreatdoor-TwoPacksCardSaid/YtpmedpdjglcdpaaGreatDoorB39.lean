/- The program's writer of tokens: putCode, writerOf. The program's writer of tokens: putPiece. The program's writer of tokens: Write. -/
import Derived.Test.YtpmedpdjglcdpaaGreatDoorB25
import Derived.Test.YtpmedpdjglcdpaaGreatDoorB26
import Derived.Test.YtpmedpdjglcdpaaGreatDoorB38
import Derived.StillTailTactics
import Derived.Deep.DeepCutAuto
namespace Go.Proofs.YtpmedpdjglcdpaaGreatDoor
section
open Go.RowKit Lz Tok Len Can Huf
theorem WrtX.set2 {t:TypeId}{a b u:Value}{w:World}{base g:Nat}{ob:Option Nat}{B:List Bool}(h:WrtX t [a,b] w base g ob B):WrtX t [u,b] (w.setCell ⟨g,2,none⟩ u) base g ob B:=by
 obtain⟨v,l,⟨hW,hO,hne,hb⟩,hP,rfl⟩:=h
 refine⟨v,l,⟨?_,hO.far hne 2 u,hne,hb⟩,hP,rfl⟩
 have:=hW.set 2 u
 simpa using this
theorem WrtX.set3 {t:TypeId}{a b u:Value}{w:World}{base g:Nat}{ob:Option Nat}{B:List Bool}(h:WrtX t [a,b] w base g ob B):WrtX t [a,u] (w.setCell ⟨g,3,none⟩ u) base g ob B:=by
 obtain⟨v,l,⟨hW,hO,hne,hb⟩,hP,rfl⟩:=h
 refine⟨v,l,⟨?_,hO.far hne 3 u,hne,hb⟩,hP,rfl⟩
 have:=hW.set 3 u
 simpa using this
theorem WrtX.ptrs {t:TypeId}{a b:Value}{w:World}{base g:Nat}{ob:Option Nat}{B:List Bool}(h:WrtX t [a,b] w base g ob B):w.cell? ⟨g,2,none⟩=some a∧w.cell? ⟨g,3,none⟩=some b∧w.frozen? ⟨g,2,none⟩=false∧w.frozen? ⟨g,3,none⟩=false:=by
 obtain⟨v,l,⟨hW,_⟩,_⟩:=h
 exact⟨hW.at 2 (by simp),hW.at 3 (by simp),hW.frozen 2,hW.frozen 3⟩
def aec (R:List Value)(W:World)(base g:Nat)(ob:Option Nat)(B:List Bool)(l:List UInt8)(e:Ending)(w':World):Prop :=
 ∃ cg lo ob',e=.returned (.pointer (some ⟨cg,0,none⟩))∧CodR w' lo w'.heap.size cg l∧W.heap.size≤lo∧(∀ k,ob'=some k→k<lo)∧WrtX 171 R w' base g ob' (B++wbits l)∧NewOb W ob ob'∧Mod W w' g ob
set_option maxHeartbeats 1000000 in
set_option maxRecDepth 100000 in
theorem Z7 {R:List Value}{W:World}{base g:Nat}{ob:Option Nat}{B:List Bool}(hW:WrtX 171 R W base g ob B)(often:List Nat)(A:Option Addr)(n c:Nat)(hn:n≤c)(hc:c≤maxLen)(ho:often.length≤300)(hU:U32At W W.heap.size A n often)(hB:B.length≤100000) :
  Calls Tryz.prog 153 #[.pointer (some ⟨g,0,none⟩),.slice A n c] W (aec R W base g ob B (yr often 15)):=by
 have C1:=abU W often 15 A n c W (Ext.refl W) hn hc hU (by omega) (by omega)
 rw[j5 ho]at C1
 have hr:=j0 (often:=often) ho
 have hll:(yr often 15).length≤300:=by rw[ys];omega
 have hgl:=hW.lt
 have hob:=hW.ob
 have HW:=hide hW
 generalize yr often 15=l at *
 clear hU hW ho
 unfold Zq at C1
 dsimp only at C1
 go_enter Tryz.func153,Tryz.ntmps153
 go_wp2_with fail
 refine C1.mono ?_
 rintro e w1 ⟨v1,rfl,hV1,hE1⟩
 have hW1:=HW.out.ext hE1
 have hkeep:∀ W',Mod w1 W' g ob→OwnB W' W.heap.size v1 l:=fun W' hM=>hM.own hV1 (fun e=>by have:=(hV1.lt g e).1;omega) (by
  cases hv:v1.ownBlock with
  | none=>exact .inl rfl
  | some k =>
   refine .inr fun e=>?_
   have h1:=(hV1.lt k hv).1
   have h2:=(hob k e.symm).2
   omega)
 obtain⟨A1,c1,rfl,hc1,hcm,_⟩:=hV1.form
 have hBy:∀ W',Mod w1 W' g ob→Bytes W' W'.heap.size A1 l.length l:=fun W' hM=>(hkeep W' hM).at rfl
 have C2:=aaa l A1 l.length c1 w1 base g ob B hc1 hcm hBy hW1 hB
 rw[if_pos hr,zU hr]at C2
 have HBy:=hide hBy
 clear hBy hkeep hV1 C1 hW1
 go_wp2_with fail
 refine C2.mono ?_
 rintro e w2 ⟨rfl,ob2,hW2,hN2,hM2⟩
 have C3:=aab A1 l.length c1 l w2 hc1 (HBy.out w2 hM2)
 have hob2:=hW2.ob
 have HW2:=hide hW2
 have HR:=hide hr
 clear C2 hW2 hr
 go_wp2_with fail
 refine C3.mono ?_
 rintro e w3 ⟨hyes,_,hE3⟩
 obtain⟨cg,rfl,hC⟩:=hyes HR.out
 clear hyes C3
 go_wp2
 go_ret
 have hMW:=(Mod.ofExt (g:=g) (ob:=ob) hE1)
 refine⟨cg,w2.heap.size,ob2,rfl,hC,Nat.le_trans hE1.le hM2.size,fun k hk=>(hob2 k hk).2,HW2.out.ext hE3,(NewOb.same W ob).trans hE1.le hN2,(hMW.trans hM2 (.inl rfl)).trans (Mod.ofExt (ob:=ob2) hE3) ((NewOb.same W ob).trans hE1.le hN2)⟩
def Qc (W:World)(x y:List UInt8)(e:Ending)(w':World):Prop :=
 ∃ g c1 c2 lo1 hi1 lo2 hi2 ob,e=.returned (.pointer (some ⟨g,0,none⟩))∧WrtX 171 [.pointer (some ⟨c1,0,none⟩),.pointer (some ⟨c2,0,none⟩)] w' W.heap.size g ob (wbits x++wbits y) ∧
  CodR w' lo1 hi1 c1 x∧CodR w' lo2 hi2 c2 y∧g<lo1∧g<lo2∧(∀ k,ob=some k→k<lo1∨hi1≤k)∧(∀ k,ob=some k→k<lo2∨hi2≤k)∧Ext W w'
set_option maxHeartbeats 1000000 in
set_option maxRecDepth 100000 in
theorem UZ (W:World)(s1 s2:List Nat)(A1 A2:Option Addr)(h1:s1.length=265)(h2:s2.length=12)(hU1:U32At W W.heap.size A1 265 s1)(hU2:U32At W W.heap.size A2 12 s2) :
  Calls Tryz.prog 124 #[.slice A1 265 265,.slice A2 12 12] W (Qc W (yr s1 15) (yr s2 15)):=by
 have hE0:=zb W (.cells #[.slice none 0 0,.int .i64 0,.pointer none,.pointer none] 171)
 have hW0:WrtX 171 [.pointer none,.pointer none] (W.alloc (.cells #[.slice none 0 0,.int .i64 0,.pointer none,.pointer none] 171)) W.heap.size W.heap.size none [] :=
  ⟨.slice none 0 0,[],⟨Whole.new W _ _,OwnB.nil _ _,by simp[Value.ownBlock],Nat.le_refl _⟩,Bit.Packs.nil,rfl⟩
 have hl1:=yP (yr s1 15)
 have hl2:=yP (yr s2 15)
 rw[ys,h1]at hl1
 rw[ys,h2]at hl2
 have C1:=Z7 hW0 s1 A1 265 265 (Nat.le_refl _) (by unfold maxLen;omega) (by omega) (hU1.ext hE0) (by simp)
 have HU2:=hide hU2
 clear hU1 hU2
 generalize yr s1 15=x at *
 generalize hy:yr s2 15=y at *
 go_enter Tryz.func124,Tryz.ntmps124
 go_wp2_with fail
 generalize W.alloc (.cells #[.slice none 0 0,.int .i64 0,.pointer none,.pointer none] 171)=w0 at *
 refine C1.mono ?_
 rintro e w1 ⟨cg1,lo1,ob1,rfl,hC1,hlo1,hob1,hW1,hN1,hM1⟩
 obtain⟨p2,_,f2,_⟩:=hW1.ptrs
 rw[List.nil_append]at hW1
 have hg0:W.heap.size<w0.heap.size:=hW0.lt
 have hlh:lo1<w1.heap.size:=by have:=hC1.1;have:=hC1.2.1;omega
 have hM1s:=(Mod.ofRow (ob:=ob1) (zk w1 W.heap.size 2 (.pointer (some ⟨cg1,0,none⟩))))
 have hC1s:=CodR.keeps.mod hC1 hM1s (.inl (by omega)) (fun k hk=>.inl (hob1 k hk))
 have hW1s:=hW1.set2 (u:=.pointer (some ⟨cg1,0,none⟩))
 have hMs:Mod w0 (w1.setCell ⟨W.heap.size,2,none⟩ (.pointer (some ⟨cg1,0,none⟩))) W.heap.size none:=hM1.trans hM1s hN1
 have hE1:Ext W (w1.setCell ⟨W.heap.size,2,none⟩ (.pointer (some ⟨cg1,0,none⟩))):=Below.trans hE0 (hMs.below (B:=W.heap.size) hE0.le (Nat.le_refl _) (fun k hk=>by cases hk))
 have C2:=Z7 hW1s s2 A2 12 12 (Nat.le_refl _) (by unfold maxLen;omega) (by omega) (HU2.out.ext hE1) (by omega)
 rw[hy]at C2
 have hsz:(w1.setCell ⟨W.heap.size,2,none⟩ (.pointer (some ⟨cg1,0,none⟩))).heap.size=w1.heap.size:=by simp
 have HW1:=hide hW1s
 have HC1:=hide hC1s
 have HE1:=hide hE1
 clear C1 hC1 hW1 hM1 hM1s hC1s hW1s hMs hE1 HU2 hN1
 go_wp2_with fail
 generalize w1.setCell ⟨W.heap.size,2,none⟩ (.pointer (some ⟨cg1,0,none⟩))=w1s at *
 refine C2.mono ?_
 rintro e w2 ⟨cg2,lo2,ob2,rfl,hC2,hlo2,hob2,hW2,hN2,hM2⟩
 obtain⟨_,p3,_,f3⟩:=hW2.ptrs
 have hob21:∀ k,ob2=some k→k<lo1∨w1.heap.size≤k:=fun k hk=>by
  rcases hN2 with e | ⟨n,e,hn⟩
  ·exact .inl (hob1 k (e ▸ hk))
  ·rw[hk]at e
   cases e
   exact .inr (by omega)
 have hC1b:=CodR.keeps.mod HC1.out hM2 (.inl (by omega)) (fun k hk=>.inl (hob1 k hk))
 have hM2s:=(Mod.ofRow (ob:=ob2) (zk w2 W.heap.size 3 (.pointer (some ⟨cg2,0,none⟩))))
 have hC1c:=CodR.keeps.mod hC1b hM2s (.inl (by omega)) hob21
 have hC2c:=CodR.keeps.mod hC2 hM2s (.inl (by omega)) (fun k hk=>.inl (hob2 k hk))
 have hW2s:=hW2.set3 (u:=.pointer (some ⟨cg2,0,none⟩))
 have hE2:Ext W (w2.setCell ⟨W.heap.size,3,none⟩ (.pointer (some ⟨cg2,0,none⟩))):=Below.trans HE1.out ((hM2.trans hM2s hN2).below (B:=W.heap.size) HE1.out.le (Nat.le_refl _) (fun k hk=>(HW1.out.ob k hk).1))
 have hlt2:W.heap.size<lo2:=by omega
 have hlt1:W.heap.size<lo1:=by omega
 have HW2:=hide hW2s
 have HC1c:=hide hC1c
 have HC2c:=hide hC2c
 have HE2:=hide hE2
 clear C2 hC2 hW2 hM2 hM2s hC1b hC1c hC2c hW2s hE2 hN2
 go_wp2
 go_ret
 exact⟨W.heap.size,cg1,cg2,lo1,w1.heap.size,lo2,w2.heap.size,ob2,rfl,HW2.out,HC1c.out,HC2c.out,hlt1,hlt2,hob21,fun k hk=>.inl (hob2 k hk),HE2.out⟩
end
section
open Go.RowKit Lz Tok Len Can Huf
def aaP (R:List Value)(W:World)(base g:Nat)(ob:Option Nat)(B:List Bool)(e:Ending)(w':World):Prop :=
 e=.returned (.tuple #[])∧∃ ob',WrtX 171 R w' base g ob' B∧NewOb W ob ob'∧Mod W w' g ob
theorem adQ (x:Int)(h0:0≤x)(h1:x≤18446744073709551615):IntKind.u64.wrap x=x:=by rw[IntKind.wrap_u64];omega
theorem CodR.ext' {W W':World}{lo hi g:Nat}{l:List UInt8}(h:CodR W lo hi g l)(hE:Ext W W'):CodR W' lo hi g l:=CodR.keeps.ext h hE
set_option maxHeartbeats 1000000 in
set_option maxRecDepth 100000 in
theorem q8 {W:World}{base g c1 c2 lo1 hi1:Nat}{ob:Option Nat}{B:List Bool}{x:List UInt8}(hW:WrtX 171 [.pointer (some ⟨c1,0,none⟩),.pointer (some ⟨c2,0,none⟩)] W base g ob B)(hC:CodR W lo1 hi1 c1 x)(hr:right x=true)
  (a b c d:Int) (ha:a<257) (hB:B.length≤700000000) :
  Calls Tryz.prog 126 #[.pointer (some ⟨g,0,none⟩),pcV ⟨a,b,c,d⟩] W (aaP [.pointer (some ⟨c1,0,none⟩),.pointer (some ⟨c2,0,none⟩)] W base g ob (B++putX x a)):=by
 have hE1:=zb W (.cells #[.int .i64 a,.int .i64 b,.int .i64 c,.int .i64 d] 153)
 have hP1:=Whole.new W 153 #[.int .i64 a,.int .i64 b,.int .i64 c,.int .i64 d]
 have hW1:=hW.ext hE1
 have hC1:=hC.ext' hE1
 have hgl:=hW.lt
 have hob:=hW.ob
 have CI:=fun w=>jb ⟨a,b,c,d⟩ w
 rw[decide_eq_false (show ¬ 257≤a by omega)]at CI
 unfold pcV at *
 dsimp only at CI
 obtain⟨q2,_,_,_⟩:=hW1.ptrs
 have q0:=hP1.at 0 (u:=.int .i64 a) rfl
 have CP:=qf (hC1.ext' (Ext.refl _).drew) hr (hW1.ext (Ext.refl _).drew) (by omega) a
 clear hW hC hC1 hW1
 generalize putX x a=X at *
 generalize X0 x a=E at *
 have hs1:(W.alloc (.cells #[.int .i64 a,.int .i64 b,.int .i64 c,.int .i64 d] 153)).heap.size=W.heap.size+1:=by simp
 go_enter Tryz.func126,Tryz.ntmps126
 go_upto_region 1 with fail
 generalize W.alloc (.cells #[.int .i64 a,.int .i64 b,.int .i64 c,.int .i64 d] 153)=w1 at *
 go_wp2_with fail
 go_still_tail 9,(by kernel_rfl)
 change wpList _ _ _ _ _ (World.drew _)
 go_wp2_with fail
 refine CP.mono ?_
 rintro e w2 ⟨rfl,ob2,hW2,hN2,hM2⟩
 have hM2':Mod W w2 g ob:=(Mod.ofExt (hE1.trans (Ext.refl _).drew)).trans hM2 (.inl rfl)
 have hP1d:Whole w1.drew W.heap.size 153 #[.int .i64 a,.int .i64 b,.int .i64 c,.int .i64 d]:=hP1.ext (Ext.refl _).drew
 have hP2:=hM2.whole hP1d (by omega) (fun e=>by have:=(hob _ e).2;omega)
 have hN2':NewOb W ob ob2:=(NewOb.same W ob).trans (hE1.trans (Ext.refl _).drew).le hN2
 clear CP hM2 hN2 hP1 hP1d q0 q2
 go_wp2_with (refine wpList_load_row rfl 153 (.tmp 3) rfl _ rfl _ _ _ _ hP2 Tryz.underlying153 rfl yh ?_)
 refine (CI _).mono ?_
 rintro e w3 ⟨rfl,hE3⟩
 clear CI
 go_wp2
 go_end0
 exact⟨rfl,ob2,hW2.ext hE3,hN2',hM2'.trans (Mod.ofExt (ob:=ob2) hE3) hN2'⟩
set_option maxHeartbeats 1000000 in
set_option maxRecDepth 100000 in
theorem XG {W:World}{base g c1 c2 lo1 hi1 lo2 hi2:Nat}{ob:Option Nat}{B:List Bool}{x y:List UInt8}(hW:WrtX 171 [.pointer (some ⟨c1,0,none⟩),.pointer (some ⟨c2,0,none⟩)] W base g ob B)(hC:CodR W lo1 hi1 c1 x)(hr:right x=true)
  (hD:CodR W lo2 hi2 c2 y) (hry:right y=true) (hg2:g<lo2) (ho2:∀ k,ob=some k→k<lo2∨hi2≤k)
  (k v cn z:Nat) (hk:k≤7) (hv:v<2 ^ k) (hc:cn≤11) (hz:z<2 ^ cn) (hB:B.length≤700000000) :
  Calls Tryz.prog 126 #[.pointer (some ⟨g,0,none⟩),pcV ⟨257+(k:Int),v,cn,z⟩] W (aaP [.pointer (some ⟨c1,0,none⟩),.pointer (some ⟨c2,0,none⟩)] W base g ob (B++putX x (257+(k:Int))++Bit.num v k++putX y (cn:Int)++Bit.num z cn)):=by
 have hkp:=jo hk
 have hcp:=jo hc
 have hXl:=putX_le (l:=x) (257+(k:Int)) hr
 have hYl:=putX_le (l:=y) (cn:Int) hry
 have HXn:=hide (put_num (x:=v) (k:=k) (by omega) hv)
 have HYn:=hide (put_num (x:=z) (k:=cn) (by omega) hz)
 have hnl1:=Bit.num_length v k
 have CI:=fun w=>jb ⟨257+(k:Int),v,cn,z⟩ w
 rw[decide_eq_true (show 257≤257+(k:Int) by omega)]at CI
 have CL:=fun w=>J2 ⟨257+(k:Int),v,cn,z⟩ w (by dsimp only;omega) (by dsimp only;omega)
 unfold pcV at *
 dsimp only at CI CL
 rw[show 257+(k:Int)-257=(k:Int) by omega]at CL
 have hgl:=hW.lt
 have hob:=hW.ob
 obtain⟨a,ha⟩:∃ a:Int,a=257+(k:Int):=⟨_,rfl⟩
 rw[← ha]at CI CL hXl ⊢
 have hv7:v<128:=by omega
 have hz11:z<2048:=by omega
 clear ha hv hz hkp hcp
 have hE1:=zb W (.cells #[.int .i64 a,.int .i64 (v:Int),.int .i64 (cn:Int),.int .i64 (z:Int)] 153)
 have hP1:=Whole.new W 153 #[.int .i64 a,.int .i64 (v:Int),.int .i64 (cn:Int),.int .i64 (z:Int)]
 have hW1:=hW.ext hE1
 have hC1:=hC.ext' hE1
 have HD:=hide hD
 obtain⟨q2,_,_,_⟩:=hW1.ptrs
 have q0:=hP1.at 0 (u:=.int .i64 a) rfl
 have CP:=qf (hC1.ext' (Ext.refl _).drew) hr (hW1.ext (Ext.refl _).drew) (by omega) a
 clear hW hC hC1 hW1 hD
 generalize putX x a=X at *
 generalize X0 x a=E at *
 have hs1:(W.alloc (.cells #[.int .i64 a,.int .i64 (v:Int),.int .i64 (cn:Int),.int .i64 (z:Int)] 153)).heap.size=W.heap.size+1:=by simp
 go_enter Tryz.func126,Tryz.ntmps126
 go_upto_region 1 with fail
 generalize W.alloc (.cells #[.int .i64 a,.int .i64 (v:Int),.int .i64 (cn:Int),.int .i64 (z:Int)] 153)=w1 at *
 go_wp2_with fail
 go_still_tail 9,(by kernel_rfl)
 change wpList _ _ _ _ _ (World.drew _)
 go_wp2_with fail
 refine CP.mono ?_
 rintro e w2 ⟨rfl,ob2,hW2,hN2,hM2⟩
 have hM2':Mod W w2 g ob:=(Mod.ofExt (hE1.trans (Ext.refl _).drew)).trans hM2 (.inl rfl)
 have hP1d:Whole w1.drew W.heap.size 153 #[.int .i64 a,.int .i64 (v:Int),.int .i64 (cn:Int),.int .i64 (z:Int)]:=hP1.ext (Ext.refl _).drew
 have hP2:=hM2.whole hP1d (by omega) (fun e=>by have:=(hob _ e).2;omega)
 have hN2':NewOb W ob ob2:=(NewOb.same W ob).trans (hE1.trans (Ext.refl _).drew).le hN2
 have hoP:∀ k',ob2=some k'→k'≠W.heap.size:=fun k' hk'=>by
  rcases hN2 with e | ⟨n,e,hn⟩
  ·have:=(hob k' (e ▸ hk')).2
   omega
  ·rw[hk']at e
   cases e
   have:w1.drew.heap.size=W.heap.size+1:=hs1
   omega
 have HoP:=hide hoP
 clear CP hM2 hN2 hP1 hP1d q0 q2 hE1 hoP
 go_wp2_with (refine wpList_load_row rfl 153 (.tmp 3) rfl _ rfl _ _ _ _ hP2 Tryz.underlying153 rfl yh ?_)
 refine (CI _).mono ?_
 rintro e w4 ⟨rfl,hE4⟩
 have hP4:=hP2.ext hE4
 have hW4:=hW2.ext hE4
 have hM4:=hM2'.trans (Mod.ofExt (ob:=ob2) hE4) hN2'
 have HM4:=hide hM4
 have HN4:=hide hN2'
 have HW4:=hide hW4
 clear CI hP2 hW2 hM2' hN2' hE4 hW4 hM4
 have hgH:W.heap.size≠g:=by omega
 have hHl:W.heap.size<w4.heap.size:=hP4.lt
 generalize W.heap.size=H at hP4 hgH HoP hHl ⊢
 go_wp2_with fail
 refine zq (fun W=>Ext w4 W) 8 9 #[false,false,false,false,false,false,false,false,false] (by kernel_rfl) rfl rfl (Ext.refl w4).drew ?_
 intro hS0
 refine za 0 (some 16) (.pointer (some ⟨g,0,none⟩)) _ rfl rfl rfl (by kernel_rfl) (fun _ _ _ h=>h) hS0 (by rfl) (fun W hX=>by go_simp) ?_
 simp only[sP]
 refine za 1 (some 17) (.pointer (some ⟨g,0,none⟩)) _ rfl rfl rfl (by kernel_rfl) (fun _ _ _ h=>h) hS0 (by rfl) (fun W hX=>by go_simp) ?_
 simp only[sP]
 refine za 2 (some 18) (.pointer (some ⟨g,0,none⟩)) _ rfl rfl rfl (by kernel_rfl) (fun _ _ _ h=>h) hS0 (by rfl) (fun W hX=>by go_simp) ?_
 simp only[sP]
 refine za 3 (some 19) (.pointer (some ⟨H,1,none⟩)) _ rfl rfl rfl (by kernel_rfl) (fun _ _ _ h=>h) hS0 (by rfl) (fun W hX=>by go_simp) ?_
 simp only[sP]
 refine za 4 (some 20) (.int .i64 (v:Int)) _ rfl rfl rfl (by kernel_rfl) (fun _ _ _ h=>h) hS0 (by rfl) (fun W hX=>by have s0:=(hP4.ext hX).at 0 (u:=.int .i64 a) rfl;have s1:=(hP4.ext hX).at 1 (u:=.int .i64 (v:Int)) rfl;have s2:=(hP4.ext hX).at 2 (u:=.int .i64 (cn:Int)) rfl;have s3:=(hP4.ext hX).at 3 (u:=.int .i64 (z:Int)) rfl;go_simp) ?_
 simp only[sP]
 refine za 5 (some 21) (.int .u64 (v:Int)) _ rfl rfl rfl (by kernel_rfl) (fun _ _ _ h=>h) hS0 (by rfl) (fun W hX=>by have hwu:=adQ (v:Int) (by omega) (by omega);go_simp) ?_
 simp only[sP]
 refine za 6 (some 22) (.agg #[.int .i64 a,.int .i64 (v:Int),.int .i64 (cn:Int),.int .i64 (z:Int)]) _ rfl rfl rfl (by kernel_rfl) (fun _ _ _ h=>h) hS0 (by rfl) (fun W hX=>by have s0:=(hP4.ext hX).at 0 (u:=.int .i64 a) rfl;have s1:=(hP4.ext hX).at 1 (u:=.int .i64 (v:Int)) rfl;have s2:=(hP4.ext hX).at 2 (u:=.int .i64 (cn:Int)) rfl;have s3:=(hP4.ext hX).at 3 (u:=.int .i64 (z:Int)) rfl;go_simp) ?_
 simp only[sP]
 refine zc 7 _ (by kernel_rfl) rfl rfl (by rfl) (fun K0 hK0=>?_)
 go_simp
 go_at_call 158
 refine (CL _).mono ?_
 rintro e wc0 ⟨rfl,hC0⟩
 have hX0:=hS0.trans hC0
 refine hK0 _ _ (fun _=>hX0) ?_
 clear hK0 K0
 refine zc 8 _ (by kernel_rfl) rfl rfl (by rfl) (fun K1 hK1=>?_)
 go_simp
 go_at_call 157
 refine (jq (HW4.out.ext hX0) v (k:Int) (by rw[List.length_append];omega)).mono ?_
 rintro e w5 ⟨rfl,ob5,hW5,hN5,hM5⟩
 refine hK1 _ _ (fun h=>absurd h (by decide)) (zj (by kernel_rfl) ?_ _)
 clear hK1 K1 CL
 rw[HXn.out]at hW5
 have hM5':=HM4.out.trans ((Mod.ofExt (ob:=ob2) hX0).trans hM5 (.inl rfl)) HN4.out
 have hN5':=HN4.out.trans HM4.out.size ((NewOb.same w4 ob2).trans hX0.le hN5)
 have hP5:=hM5.whole (hP4.ext hX0) hgH (fun e=>HoP.out _ e rfl)
 have hoP5:∀ k',ob5=some k'→k'≠H:=fun k' hk'=>by
  rcases hN5 with e | ⟨n,e,hn⟩
  ·exact HoP.out k' (e ▸ hk')
  ·rw[hk']at e
   cases e
   have:=hX0.le
   omega
 have hD5:=CodR.keeps.mod HD.out hM5' (.inl hg2) ho2
 have HoP5:=hide hoP5
 have HM5:=hide hM5'
 have HN5:=hide hN5'
 obtain⟨_,q3,_,_⟩:=hW5.ptrs
 have s2:=hP5.at 2 (u:=.int .i64 (cn:Int)) rfl
 have hsz5:=hM5.size
 have hXs:=hX0.le
 have CP:=qf (hD5.ext' (Ext.refl _).drew) hry (hW5.ext (Ext.refl _).drew) (by simp only[List.length_append];omega) (cn:Int)
 clear HM4 HN4 HW4 hP4 hM5 hN5 hM5' hN5' hoP5 hS0 hC0 hX0 HD hD5 hW5
 generalize putX y (cn:Int)=Y at *
 generalize X0 y (cn:Int)=E5 at *
 go_wp2_with fail
 go_still_tail 9,(by kernel_rfl)
 change wpList _ _ _ _ _ (World.drew _)
 go_wp2_with fail
 refine CP.mono ?_
 rintro e w6 ⟨rfl,ob6,hW6,hN6,hM6⟩
 have hP6:=hM6.whole (hP5.ext (Ext.refl w5).drew) hgH (fun e=>HoP5.out _ e rfl)
 have hM6':=HM5.out.trans ((Mod.ofExt (ob:=ob5) (Ext.refl w5).drew).trans hM6 (.inl rfl)) HN5.out
 have hN6':=HN5.out.trans HM5.out.size ((NewOb.same w5 ob5).trans (Ext.refl w5).drew.le hN6)
 have r2:=hP6.at 2 (u:=.int .i64 (cn:Int)) rfl
 have r3:=hP6.at 3 (u:=.int .i64 (z:Int)) rfl
 have CQ:=jq (hW6.ext (Ext.refl _).drew) z (cn:Int) (by simp only[List.length_append];omega)
 rw[HYn.out]at CQ
 have HM6:=hide hM6'
 have HN6:=hide hN6'
 clear CP hP5 hW6 hN6 hM6 hM6' hN6' HM5 HN5 q3 s2 hP6
 generalize Bit.putErr z (cn:Int)=E6 at *
 go_wp2_with fail
 go_still_tail 8,(by kernel_rfl)
 change wpList _ _ _ _ _ (World.drew _)
 go_wp2_with fail
 refine CQ.mono ?_
 rintro e w7 ⟨rfl,ob7,hW7,hN7,hM7⟩
 go_wp2
 go_end0
 exact⟨rfl,ob7,hW7,HN6.out.trans HM6.out.size ((NewOb.same w6 ob6).trans (Ext.refl w6).drew.le hN7),HM6.out.trans ((Mod.ofExt (ob:=ob6) (Ext.refl w6).drew).trans hM7 (.inl rfl)) HN6.out⟩
end
section
open Go.RowKit Lz Tok Len Can Huf
set_option maxHeartbeats 1000000 in
theorem adh (w:World):Calls Tryz.prog 127 #[] w fun e w'=>e=.returned (pcV ⟨256,0,0,0⟩)∧Ext w w':=by
 have hP:=Whole.new w 153 #[.int .i64 0,.int .i64 0,.int .i64 0,.int .i64 0]
 have hE:=zb w (.cells #[.int .i64 0,.int .i64 0,.int .i64 0,.int .i64 0] 153)
 go_enter Tryz.func127,Tryz.ntmps127
 go_wp2_with (refine zh rfl 153 (.tmp 0) (.tmp 1) rfl rfl rfl hP rfl yh (qd ..) ?_;intro w5 hW5 hG5 _)
 refine bodyPost_ret (results_cell_row rfl _ _ _ _ _ _ _ rfl hW5 Tryz.underlying153 rfl yh) rfl ?_
 exact⟨rfl,Below.grown hE hG5 hE.le (fun k hk=>by cases hk;omega)⟩
set_option maxHeartbeats 2000000 in
set_option maxRecDepth 100000 in
theorem aak (A:Option Addr)(n c:Nat)(L:List TokV)(w:World)(hn:n≤100000)(hT:ToksAt w w.heap.size A n L):Calls Tryz.prog 98 #[.slice A n c] w (ac4 w (writeE L)):=by
 have C1:=aac A n c L w hn hT
 have hl:=hT.1
 subst hl
 by_cases h32:32768<L.length
 ·have HN:=hide (show writeE L=([],6) from if_pos h32)
  generalize writeE L=res at *
  have hI:(32768:Int)<(L.length:Int):=by omega
  clear h32 hT C1
  go_enter Tryz.func98,Tryz.ntmps98
  go_wp2
  go_ret2
  rw[HN.out]
  exact⟨_,[],rfl,OwnB.nil _ _,fun h=>absurd h (by simp),fun _=>rfl,Ext.refl _⟩
 have hI:¬ (32768:Int)<(L.length:Int):=by omega
 cases hall:L.all may with
 | false =>
  have HN:=hide (show writeE L=([],7) by unfold writeE;rw[if_neg h32,hall];rfl)
  have HA:=hide hall
  generalize writeE L=res at *
  clear h32 hT hall
  go_enter Tryz.func98,Tryz.ntmps98
  go_wp2_with fail
  refine C1.mono ?_
  rintro e w1 ⟨hE1,hC⟩
  rw[HA.out,if_neg (by simp)]at hC
  subst hC
  clear C1
  go_wp2
  go_ret2
  rw[HN.out]
  exact⟨_,[],rfl,OwnB.nil _ _,fun h=>absurd h (by simp),fun _=>rfl,hE1⟩
 | true =>
  have HN:=hide (show writeE L=(vO L,0) by unfold writeE;rw[if_neg h32,if_pos hall])
  have HA:=hide hall
  generalize writeE L=res at *
  have HT:=hide hT
  clear h32 hT hall
  go_enter Tryz.func98,Tryz.ntmps98
  go_wp2_with fail
  refine C1.mono ?_
  rintro e w1 ⟨hE1,hC⟩
  rw[if_pos HA.out]at hC
  obtain⟨g1,g2,hne,rfl,hO1,hO2⟩:=hC
  have hU1:=hO1.at (by rw[yj]) (fun q=>by have:=countsS_lt L q;omega)
  have hU2:=hO2.at (by rw[zL]) (fun q=>by have:=cntF_le L q;omega)
  have C2:=UZ w1 (yG L) (zN L) (some ⟨g1,0,none⟩) (some ⟨g2,0,none⟩) (yj L) (zL L) hU1 hU2
  change Calls _ _ _ _ (Qc _ (zF L) (zR L)) at C2
  clear C1 hO1 hO2 hU1 hU2
  go_wp2_with fail
  refine C2.mono ?_
  rintro e w8 ⟨g,c1,c2,lo1,hi1,lo2,hi2,ob8,rfl,hW8,hC8,hD8,hg1,hg2,ho1,ho2,hE2⟩
  have hE8:=hE1.trans hE2
  have hle1:=hE1.le
  have hWl1:=yP (zF L)
  have hWl2:=yP (zR L)
  rw[vf]at hWl1
  rw[vg]at hWl2
  have hgb:=hW8.le
  have hobb:=fun k hk=>(hW8.ob k hk).1
  have hhi1:=hC8.2.2.1
  have hhi2:=hD8.2.2.1
  have HAll:=hide (show ∀ W,Mod w8 W g ob8→CodR W lo1 hi1 c1 (zF L)∧CodR W lo2 hi2 c2 (zR L)∧Ext w W from fun W hM =>
   ⟨CodR.keeps.mod hC8 hM (.inl hg1) ho1,CodR.keeps.mod hD8 hM (.inl hg2) ho2,Below.trans hE8 (hM.below (B:=w.heap.size) hE8.le (Nat.le_trans hle1 hgb) (fun k hk=>Nat.le_trans hle1 (hobb k hk)))⟩)
  have HO2:=hide (show ∀ (W:World) (ob:Option Nat),w8.heap.size≤W.heap.size→NewOb w8 ob8 ob→∀ k,ob=some k→k<lo2∨hi2≤k from fun W ob hs hN k hk=>by
   rcases hN with e | ⟨n,e,hn⟩
   ·exact ho2 k (e ▸ hk)
   ·rw[hk]at e
    cases e
    exact .inr (by omega))
  have HW8:=hide hW8
  clear C2 hC8 hD8 ho1 ho2 hE2 hE8 hW8 hE1 hobb
  go_wp2_with fail
  go_loopw [29] (fun x wr=>∃ (i:Nat) (ob:Option Nat),i≤L.length∧x=.int .i64 (i:Int)∧WrtX 171 [.pointer (some ⟨c1,0,none⟩),.pointer (some ⟨c2,0,none⟩)] wr w1.heap.size g ob (wbits (zF L)++wbits (zR L)++zV (zF L) (zR L) (L.take i))∧NewOb w8 ob8 ob∧Mod w8 wr g ob8∧(zV (zF L) (zR L) (L.take i)).length≤48*i) (fun x _=>L.length-(intOf x).toNat)
  case atStart=>exact⟨0,ob8,by omega,rfl,by simpa[zV] using HW8.out,.inl rfl,Mod.refl _ _ _,by simp[zV]⟩
  case round =>
   clear HW8
   obtain⟨i,ob,hi,rfl,hR,hN,hM,hlen⟩:=hrel
   by_cases hlt:i<L.length
   ·have hiI:(i:Int)<(L.length:Int):=by omega
    obtain⟨hCr,hDr,hEw⟩:=HAll.out wr hM
    have hoo:=HO2.out wr ob hM.size hN
    have hMem:L.getD i default∈L:=by
     rw[List.getD_eq_getElem?_getD,List.getElem?_eq_getElem hlt]
     exact List.getElem_mem hlt
    have hmay:=List.all_eq_true.1 HA.out _ hMem
    have hfS:=JH hMem hmay
    have hfF:=VL hMem hmay
    have HBn:=hide (bodyB_next (zF L) (zR L) hlt)
    have CM:=fun W=>Xz (L.getD i default) W
    unfold jA at CM
    have hToks:=HT.out.below hEw (Nat.le_refl _)
    rcases hToks.2 with h0 | ⟨b1,o1,rfl,hb1,hc⟩
    ·omega
    obtain⟨hAt,hOk⟩:=hc i hlt
    obtain⟨e0,e1,e2⟩:=hAt.cells
    clear hc hToks hAt hMem
    obtain⟨t,ht⟩:∃ t,t=L.getD i default:=⟨_,rfl⟩
    rw[← ht]at e0 e1 e2 hOk CM hmay hfS hfF HBn
    clear ht
    obtain⟨P,hP⟩:∃ P,P=wbits (zF L)++wbits (zR L)++zV (zF L) (zR L) (L.take i):=⟨_,rfl⟩
    have hPl:P.length≤2770+48*i:=by rw[hP];simp only[List.length_append];omega
    rw[← hP]at hR
    have HP:=hide hP
    have HN2:=hide hN
    have HM2:=hide hM
    have HRr:=hide hR
    have HEw:=hide hEw
    have hET:=zb wr (.cells #[.int .u8 (t.lit.toNat:Int),.int .i64 t.len,.int .i64 t.dist] 157)
    have hWT:=Whole.new wr 157 #[.int .u8 (t.lit.toNat:Int),.int .i64 t.len,.int .i64 t.dist]
    clear hP hN hM hR hEw
    by_cases h0:t.len=0
    ·have hsp:=xq hmay h0
     have HBt:=hide (tokB_lit (y:=zR L) hfS h0)
     rw[hsp]at CM HBt
     dsimp only at HBt
     unfold jx at CM
     dsimp only at CM
     have h8:=UInt8.toNat_lt t.lit
     have hxl:=putX_le (l:=zF L) (t.lit.toNat:Int) (zG L)
     clear hsp hfS hfF hmay h0 hOk
     generalize X3 (zF L) (zR L) t=T at *
     generalize t.lit.toNat=y at *
     generalize t.dist=td at *
     generalize t.len=tl at *
     go_wp2_with (refine wpList_load_row rfl 157 (.tmp 9) rfl _ rfl _ _ _ _ hWT Tryz.underlying157 rfl x8 ?_)
     refine (CM _).mono ?_
     rintro e wa ⟨rfl,hEs⟩
     have hEp:=(hET.trans hEs).trans (zb wa (.cells #[.int .i64 (y:Int),.int .i64 0,.int .i64 0,.int .i64 0] 153))
     have hWP:=Whole.new wa 153 #[.int .i64 (y:Int),.int .i64 0,.int .i64 0,.int .i64 0]
     have CP:=q8 (HRr.out.ext hEp) (hCr.ext' hEp) (zG L) (y:Int) 0 0 0 (by omega) (by omega)
     have HMp:=hide (HM2.out.trans (Mod.ofExt (ob:=ob) hEp) HN2.out)
     have HMe:=hide (Mod.ofExt (g:=g) (ob:=ob) hEp)
     have hsp:=hEp.le
     unfold pcV at CP
     dsimp only at CP
     clear CM e0 e1 e2 hCr hDr hEs hWT hET hEp
     unfold pcV
     dsimp only
     go_wp2_with (refine wpList_load_row rfl 153 (.tmp 10) rfl _ rfl _ _ _ _ hWP Tryz.underlying153 rfl yh ?_)
     refine CP.mono ?_
     rintro e wc ⟨rfl,obc,hRc,hNc,hMc⟩
     have HMw:=hide (HMp.out.trans hMc HN2.out)
     have HNw:=hide (HN2.out.trans HMp.out.size hNc)
     have HRc:=hide hRc
     clear CP hRc hNc hMc hWP
     go_wp2
     go_roundw
     case rel=>exact⟨i+1,obc,by omega,by go_num,(by rw[HBn.out,HBt.out,← List.append_assoc,← HP.out];exact HRc.out),HNw.out,HMw.out,by rw[HBn.out,HBt.out,List.length_append];omega⟩
     case measure=>simp[intOf];omega
    ·obtain⟨k,x,cn,y,hk,hx,hcn,hy,-,-,e3⟩:=xQ hmay h0
     have hfF:=hfF h0
     rw[e3]at hfS hfF
     dsimp only at hfS hfF
     have HBt:=hide (tokB_match (x:=zF L) (y:=zR L) e3 hfS hfF h0)
     rw[e3]at CM
     unfold jx at CM
     dsimp only at CM
     have hxl:=putX_le (l:=zF L) (257+(k:Int)) (zG L)
     have hfl:=putX_le (l:=zR L) (cn:Int) (yJ L)
     have hnl1:=Bit.num_length x k
     have hnl2:=Bit.num_length y cn
     clear e3 hfS hfF hmay h0 hOk
     generalize X3 (zF L) (zR L) t=T at *
     generalize t.lit.toNat=yl at *
     generalize t.dist=td at *
     generalize t.len=tl at *
     go_wp2_with (refine wpList_load_row rfl 157 (.tmp 9) rfl _ rfl _ _ _ _ hWT Tryz.underlying157 rfl x8 ?_)
     refine (CM _).mono ?_
     rintro e wa ⟨rfl,hEs⟩
     have hEp:=(hET.trans hEs).trans (zb wa (.cells #[.int .i64 (257+(k:Int)),.int .i64 (x:Int),.int .i64 (cn:Int),.int .i64 (y:Int)] 153))
     have hWP:=Whole.new wa 153 #[.int .i64 (257+(k:Int)),.int .i64 (x:Int),.int .i64 (cn:Int),.int .i64 (y:Int)]
     have CP:=XG (HRr.out.ext hEp) (hCr.ext' hEp) (zG L) (hDr.ext' hEp) (yJ L) hg2 hoo k x cn y hk hx hcn hy (by omega)
     have HMp:=hide (HM2.out.trans (Mod.ofExt (ob:=ob) hEp) HN2.out)
     unfold pcV at CP
     dsimp only at CP
     clear CM e0 e1 e2 hCr hDr hEs hWT hET hEp hoo hx hy
     unfold pcV
     dsimp only
     generalize 257+(k:Int)=sy at *
     go_wp2_with (refine wpList_load_row rfl 153 (.tmp 10) rfl _ rfl _ _ _ _ hWP Tryz.underlying153 rfl yh ?_)
     refine CP.mono ?_
     rintro e wc ⟨rfl,obc,hRc,hNc,hMc⟩
     have HMw:=hide (HMp.out.trans hMc HN2.out)
     have HNw:=hide (HN2.out.trans HMp.out.size hNc)
     have HRc:=hide hRc
     have HLn:=hide (show (putX (zF L) sy++Bit.num x k++putX (zR L) (cn:Int)++Bit.num y cn).length≤48 by simp only[List.length_append];omega)
     clear CP hRc hNc hMc hWP hxl hfl hnl1 hnl2
     go_wp2
     go_roundw
     case rel=>exact⟨i+1,obc,by omega,by go_num,(by rw[HBn.out,HBt.out,← List.append_assoc,← HP.out];simpa only[List.append_assoc] using HRc.out),HNw.out,HMw.out,by rw[HBn.out,HBt.out,List.length_append];have:=HLn.out;omega⟩
     case measure=>simp[intOf];omega
   ·obtain rfl:L.length=i:=by omega
    rw[List.take_length]at hR hlen
    have HM2:=hide hM
    have HN2:=hide hN
    have HRr:=hide hR
    have hRlen:(wbits (zF L)++wbits (zR L)++zV (zF L) (zR L) L).length≤700000000:=by simp only[List.length_append];omega
    have HRl:=hide hRlen
    have HEnd:=hide (show putX (zF L) 256=XZ (zF L) 256 from if_pos (JG L))
    have HX:=hide (putX_le (l:=zF L) 256 (zG L))
    clear hR hM hN hRlen
    go_wp2_with fail
    refine (adh _).mono ?_
    rintro e wa ⟨rfl,hEa⟩
    have hMa:=HM2.out.trans (Mod.ofExt (ob:=ob) hEa) HN2.out
    obtain⟨hCa,_,_⟩:=HAll.out wa hMa
    have CP:=q8 (HRr.out.ext hEa) hCa (zG L) 256 0 0 0 (by omega) HRl.out
    have HMa:=hide hMa
    clear hCa hMa
    go_wp2_with fail
    refine CP.mono ?_
    rintro e wc ⟨rfl,obc,hRc,hNc,hMc⟩
    obtain⟨_,_,hEc⟩:=HAll.out wc (HMa.out.trans hMc HN2.out)
    have CB:=Y5 hRc (by rw[List.length_append];have:=HRl.out;have:=HX.out;omega)
    clear CP hRc hNc hMc
    go_wp2_with fail
    refine CB.mono ?_
    rintro e wd ⟨l,hPk,v,rfl,hO,hE⟩
    have HPk:=hide hPk
    clear CB hPk
    go_wp2
    go_ret2
    rw[HN.out]
    refine⟨v,l,rfl,hO.mono hEc.le,fun _=>?_,fun h=>absurd rfl h,hEc.trans hE⟩
    have hPk:=HPk.out
    rw[HEnd.out]at hPk
    unfold vO
    simpa only[List.append_assoc] using hPk
end
end Go.Proofs.YtpmedpdjglcdpaaGreatDoor
