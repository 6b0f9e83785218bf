/- Chapter 21: the program's head of an archive as bytes. -/
import Derived.Test.YtaogpmombefmmaaGreatDoorB07
import Derived.Test.YtaogpmombefmmaaGreatDoorB19
import Derived.Test.YtaogpmombefmmaaGreatDoorB24
import Derived.Test.YtaogpmombefmmaaGreatDoorB31
namespace Go.Proofs.YtaogpmombefmmaaGreatDoor
section
open Go.RowKit Arc
theorem oneNum_any (x:Nat)(w:World)(hx:x≤1000000000):Calls Tryz.prog 31 #[.int .i64 (x:Int)] w (MadeB w (Num.enc x)):=by
 have C:=ownNum_any x w (by omega)
 have hw:IntKind.u64.wrap (x:Int)=(x:Int):=by rw [IntKind.wrap_u64];omega
 unfold MadeB at C ⊢
 go_enter Tryz.func31,Tryz.ntmps31
 go_wp2_with fail
 try rw [hw]
 refine C.mono ?_
 rintro e w2 ⟨v2,rfl,hO2,hE2⟩
 go_wp2
 go_ret
 exact ⟨_,rfl,hO2,hE2⟩
theorem onePlain_any (p:Bool)(w:World):Calls Tryz.prog 32 #[.bool p] w fun e w'=>e=.returned (.int .u8 ((flagB p).toNat:Int))∧Ext w w':=by
 cases p
 ·go_enter Tryz.func32,Tryz.ntmps32
  go_wp2
  go_ret
  exact ⟨rfl,Ext.refl _⟩
 ·go_enter Tryz.func32,Tryz.ntmps32
  go_wp2
  go_ret
  exact ⟨rfl,Ext.refl _⟩
theorem parts5New (w:World){A1 A2 A3 A4 A5:Option Addr}{n1 c1 n2 c2 n3 c3 n4 c4 n5 c5:Nat}{a b c d e:List UInt8}(t:TypeId)(h1:Bytes w w.heap.size A1 n1 a)(h2:Bytes w w.heap.size A2 n2 b)(h3:Bytes w w.heap.size A3 n3 c)(h4:Bytes w w.heap.size A4 n4 d)(h5:Bytes w w.heap.size A5 n5 e)
  (m1:n1≤maxLen) (m2:n2≤maxLen) (m3:n3≤maxLen) (m4:n4≤maxLen) (m5:n5≤maxLen) :
  Parts (w.alloc (.cells #[.slice A1 n1 c1,.slice A2 n2 c2,.slice A3 n3 c3,.slice A4 n4 c4,.slice A5 n5 c5] t)) (w.alloc (.cells #[.slice A1 n1 c1,.slice A2 n2 c2,.slice A3 n3 c3,.slice A4 n4 c4,.slice A5 n5 c5] t)).heap.size (some ⟨w.heap.size,0,none⟩) 5 [a,b,c,d,e]:=by
 have hE:=extNew w (.cells #[.slice A1 n1 c1,.slice A2 n2 c2,.slice A3 n3 c3,.slice A4 n4 c4,.slice A5 n5 c5] t)
 refine ⟨rfl,.inr ⟨w.heap.size,0,rfl,by simp,fun i hi=>?_⟩⟩
 match i,hi with
 | 0,_=>exact ⟨A1,n1,c1,cellNew _ _ _ _ _,m1,hE.bytes h1⟩
 | 1,_=>exact ⟨A2,n2,c2,cellNew _ _ _ _ _,m2,hE.bytes h2⟩
 | 2,_=>exact ⟨A3,n3,c3,cellNew _ _ _ _ _,m3,hE.bytes h3⟩
 | 3,_=>exact ⟨A4,n4,c4,cellNew _ _ _ _ _,m4,hE.bytes h4⟩
 | 4,_=>exact ⟨A5,n5,c5,cellNew _ _ _ _ _,m5,hE.bytes h5⟩
set_option maxHeartbeats 8000000 in
set_option maxRecDepth 100000 in
theorem oneHead_any (b r g:Nat)(p:Bool)(k d y c:Int)(w:World)(hb:b≤1000000)(hr:r≤1000000)(hg:g≤1000000) :
  Calls Tryz.prog 15 #[.agg #[.int .i64 (b:Int),.bool p,.int .i64 k,.int .i64 d,.int .i64 y,.int .i64 c,.int .i64 (r:Int),.int .i64 (g:Int)]] w (MadeE w (headE b (flagB p) r g) 0):=by
 have CM:=fun W=>pMark_any 1 W (by omega)
 rw [show UInt8.ofNat (1:Int).toNat=1 from rfl] at CM
 have CP:=fun W=>onePlain_any p W
 have CB:=fun W=>oneNum_any b W (by omega)
 have CR:=fun W=>oneNum_any r W (by omega)
 have CG:=fun W=>oneNum_any g W (by omega)
 unfold MadeB at CB CR CG
 have HL:=hide (And.intro (Num.enc_len b) (And.intro (Num.enc_len r) (Num.enc_len g)))
 have HH:=hide (show headE b (flagB p) r g=[[70,73,82,75,1],Num.enc b,[flagB p],Num.enc r,Num.enc g].flatten by unfold headE;simp)
 unfold MadeE
 generalize headE b (flagB p) r g=H at *
 generalize flagB p=f at *
 generalize Num.enc b=EB at *
 generalize Num.enc r=ER at *
 generalize Num.enc g=EG at *
 obtain ⟨w1,hw1⟩:∃ w1,w1=w.alloc (.cells #[.int .i64 (b:Int),.bool p,.int .i64 k,.int .i64 d,.int .i64 y,.int .i64 c,.int .i64 (r:Int),.int .i64 (g:Int)] 45):=⟨_,rfl⟩
 have HE1:=hide (show Ext w w1 by rw [hw1];exact extNew w _)
 have HW1:=hide (show Whole w1 w.heap.size 45 #[.int .i64 (b:Int),.bool p,.int .i64 k,.int .i64 d,.int .i64 y,.int .i64 c,.int .i64 (r:Int),.int .i64 (g:Int)] by rw [hw1];exact Whole.new w _ _)
 go_enter Tryz.func15,Tryz.ntmps15
 go_wp2_with fail
 rw [← hw1]
 clear hw1
 refine (CM _).mono ?_
 rintro e w2 ⟨⟨v2,rfl,hO2⟩,hE2⟩
 obtain ⟨A2,c2,rfl,-,hm2,hb2⟩:=hO2.form
 have HE2:=hide (HE1.out.trans hE2)
 have HW:=hide (HW1.out.ext hE2)
 clear hE2 hO2 HW1 CM
 dsimp only [List.length_cons,List.length_nil] at hb2 hm2 ⊢
 go_wp2_with fail
 refine wp_region_T (fun W=>Ext w2 W) 17 20 #[false,false,false,false,false,false,false,false,false,false,false,false,false,false,false,false,false,false,false,false] (by kernel_rfl) rfl rfl (Ext.refl w2).drew ?_
 intro hS0
 refine wpAnyT_take 0 (some 13) (.slice A2 5 c2) _ rfl rfl rfl (by kernel_rfl) (fun _ _ _ h=>h) hS0 (by rfl) (fun W hX=>by go_simp) ?_
 simp only [sP]
 refine wpAnyT_take 1 (some 14) (.pointer (some ⟨w.heap.size,0,none⟩)) _ rfl rfl rfl (by kernel_rfl) (fun _ _ _ h=>h) hS0 (by rfl) (fun W hX=>by go_simp) ?_
 simp only [sP]
 refine wpAnyT_take 2 (some 15) (.pointer (some ⟨w.heap.size,0,none⟩)) _ rfl rfl rfl (by kernel_rfl) (fun _ _ _ h=>h) hS0 (by rfl) (fun W hX=>by go_simp) ?_
 simp only [sP]
 refine wpAnyT_take 3 (some 16) (.int .i64 (b:Int)) _ rfl rfl rfl (by kernel_rfl) (fun _ _ _ h=>h) hS0 (by rfl) (fun W hX=>by have s0:=(HW.out.ext hX).at 0 (u:=.int .i64 (b:Int)) rfl;go_simp) ?_
 simp only [sP]
 refine wpAnyT_take 5 (some 18) (.pointer (some ⟨w.heap.size,0,none⟩)) _ rfl rfl rfl (by kernel_rfl) (fun _ _ _ h=>h) hS0 (by rfl) (fun W hX=>by go_simp) ?_
 simp only [sP]
 refine wpAnyT_take 6 (some 19) (.pointer (some ⟨w.heap.size,1,none⟩)) _ rfl rfl rfl (by kernel_rfl) (fun _ _ _ h=>h) hS0 (by rfl) (fun W hX=>by go_simp) ?_
 simp only [sP]
 refine wpAnyT_take 7 (some 20) (.bool p) _ rfl rfl rfl (by kernel_rfl) (fun _ _ _ h=>h) hS0 (by rfl) (fun W hX=>by have s0:=(HW.out.ext hX).at 1 (u:=.bool p) rfl;go_simp) ?_
 simp only [sP]
 refine wpAnyT_take 10 (some 23) (.pointer (some ⟨w.heap.size,6,none⟩)) _ rfl rfl rfl (by kernel_rfl) (fun _ _ _ h=>h) hS0 (by rfl) (fun W hX=>by go_simp) ?_
 simp only [sP]
 refine wpAnyT_take 11 (some 24) (.int .i64 (r:Int)) _ rfl rfl rfl (by kernel_rfl) (fun _ _ _ h=>h) hS0 (by rfl) (fun W hX=>by have s0:=(HW.out.ext hX).at 6 (u:=.int .i64 (r:Int)) rfl;go_simp) ?_
 simp only [sP]
 refine wpAnyT_take 13 (some 26) (.pointer (some ⟨w.heap.size,7,none⟩)) _ rfl rfl rfl (by kernel_rfl) (fun _ _ _ h=>h) hS0 (by rfl) (fun W hX=>by go_simp) ?_
 simp only [sP]
 refine wpAnyT_take 14 (some 27) (.int .i64 (g:Int)) _ rfl rfl rfl (by kernel_rfl) (fun _ _ _ h=>h) hS0 (by rfl) (fun W hX=>by have s0:=(HW.out.ext hX).at 7 (u:=.int .i64 (g:Int)) rfl;go_simp) ?_
 simp only [sP]
 refine wpAnyT_only 4 _ (by kernel_rfl) rfl rfl (by rfl) (fun K0 hK0=>?_)
 go_simp
 go_at_call 31
 refine (CB _).mono ?_
 rintro e w3 ⟨v3,rfl,hO3,hE3⟩
 obtain ⟨A3,c3,rfl,-,hm3,hb3⟩:=hO3.form
 have hS3:=hS0.trans hE3
 refine hK0 _ _ (fun _=>hS3) ?_
 clear hK0 K0
 refine wpAnyT_only 8 _ (by kernel_rfl) rfl rfl (by rfl) (fun K1 hK1=>?_)
 go_simp
 go_at_call 32
 refine (CP _).mono ?_
 rintro e w4 ⟨rfl,hE4⟩
 have hS4:=hS3.trans hE4
 refine hK1 _ _ (fun _=>hS4) ?_
 clear hK1 K1
 refine wpAnyT_two 9 12 #[true,true,true,true,true,true,true,true,true,true,true,true,false,true,true,false,false,false,false,false] #[true,true,true,true,true,true,true,true,true,false,true,true,true,true,true,false,false,false,false,false] (by kernel_rfl) rfl rfl rfl rfl (by rfl) (by rfl) (fun K3 hK3=>?_) (fun K3 hK3=>?_)
 ·go_simp
  have hS5:=hS4.trans (extNew w4 (.cells #[.int .u8 (f.toNat:Int)] 5))
  have hf5:=bytesNew w4 [f] #[.int .u8 (f.toNat:Int)] 5 (0,0) rfl 1 rfl
  refine hK3 _ _ (fun _=>hS5) ?_
  clear hK3 K3
  obtain ⟨w5,hw5⟩:∃ W,W=w4.alloc (.cells #[.int .u8 (f.toNat:Int)] 5):=⟨_,rfl⟩
  have hE5:Ext w4 w5:=by rw [hw5];exact extNew _ _
  rw [← hw5] at hS5 hf5 ⊢
  clear hw5
  refine wpAnyT_only 12 _ (by kernel_rfl) rfl rfl (by rfl) (fun K4 hK4=>?_)
  go_simp
  go_at_call 31
  refine (CR _).mono ?_
  rintro e w6 ⟨v6,rfl,hO6,hE6⟩
  obtain ⟨A6,c6,rfl,-,hm6,hb6⟩:=hO6.form
  have hS6:=hS5.trans hE6
  refine hK4 _ _ (fun _=>hS6) ?_
  clear hK4 K4
  refine wpAnyT_only 15 _ (by kernel_rfl) rfl rfl (by rfl) (fun K5 hK5=>?_)
  go_simp
  go_at_call 31
  refine (CG _).mono ?_
  rintro e w7 ⟨v7,rfl,hO7,hE7⟩
  obtain ⟨A7,c7,rfl,-,hm7,hb7⟩:=hO7.form
  have hS7:=hS6.trans hE7
  refine hK5 _ _ (fun _=>hS7) ?_
  clear hK5 K5
  refine wpAnyT_only 16 _ (by kernel_rfl) rfl rfl (by rfl) (fun K6 hK6=>?_)
  go_simp
  have hP:=parts5New w7 (c1:=c2) (c2:=c3) (c3:=1) (c4:=c6) (c5:=c7) 29 (((((hS3.trans hE4).trans hE5).trans hE6).trans hE7).bytes hb2) ((((hE4.trans hE5).trans hE6).trans hE7).bytes hb3) ((hE6.trans hE7).bytes hf5) (hE7.bytes hb6) hb7 (by unfold maxLen;omega) (by have:=HL.out;unfold maxLen;omega) (by unfold maxLen;omega) (by have:=HL.out;unfold maxLen;omega) (by have:=HL.out;unfold maxLen;omega)
  have CA:=all_any _ 5 [[70,73,82,75,1],EB,[f],ER,EG] _ hP (by simp) (by have:=HL.out;simp only [List.flatten_cons,List.flatten_nil,List.length_append,List.length_cons,List.length_nil];omega)
  have hS9:=hS7.trans (extNew w7 (.cells #[.slice A2 5 c2,.slice A3 EB.length c3,.slice (some ⟨w4.heap.size,0,none⟩) 1 1,.slice A6 ER.length c6,.slice A7 EG.length c7] 29))
  unfold MadeB at CA
  rw [← HH.out] at CA
  clear hP
  refine hK6 _ _ (fun _=>hS9) ?_
  clear hK6 K6
  refine wpAnyT_only 17 _ (by kernel_rfl) rfl rfl (by rfl) (fun K7 hK7=>?_)
  go_simp
  go_at_call 18
  refine CA.mono ?_
  rintro e w10 ⟨v10,rfl,hO10,hE10⟩
  have hF10:=HE2.out.trans (hS9.trans hE10)
  have hO11:=hO10.mono (HE2.out.trans hS9).le
  clear CA hO10 hE10
  refine hK7 _ _ (fun h=>absurd h (by decide)) ?_
  clear hK7 K7
  refine wpAnyT_only 18 _ (by kernel_rfl) rfl rfl (by rfl) (fun K8 hK8=>?_)
  go_simp
  refine hK8 _ _ (fun h=>absurd h (by decide)) ?_
  clear hK8 K8
  refine wpAnyT_only 19 _ (by kernel_rfl) rfl rfl (by rfl) (fun K9 hK9=>?_)
  go_simp
  refine hK9 _ _ (fun h=>absurd h (by decide)) (wpAnyT_done (by kernel_rfl) ?_ _)
  clear hK9 K9
  go_wp2
  go_ret2
  exact ⟨_,rfl,hO11,hF10⟩
 ·go_simp
  go_at_call 31
  refine (CR _).mono ?_
  rintro e w6 ⟨v6,rfl,hO6,hE6⟩
  obtain ⟨A6,c6,rfl,-,hm6,hb6⟩:=hO6.form
  have hS6:=hS4.trans hE6
  refine hK3 _ _ (fun _=>hS6) ?_
  clear hK3 K3
  refine wpAnyT_two 9 15 #[true,true,true,true,true,true,true,true,true,true,true,true,true,true,true,false,false,false,false,false] #[true,true,true,true,true,true,true,true,true,false,true,true,true,true,true,true,false,false,false,false] (by kernel_rfl) rfl rfl rfl rfl (by rfl) (by rfl) (fun K4 hK4=>?_) (fun K4 hK4=>?_)
  ·go_simp
   have hS5:=hS6.trans (extNew w6 (.cells #[.int .u8 (f.toNat:Int)] 5))
   have hf5:=bytesNew w6 [f] #[.int .u8 (f.toNat:Int)] 5 (0,0) rfl 1 rfl
   refine hK4 _ _ (fun _=>hS5) ?_
   clear hK4 K4
   obtain ⟨w5,hw5⟩:∃ W,W=w6.alloc (.cells #[.int .u8 (f.toNat:Int)] 5):=⟨_,rfl⟩
   have hE5:Ext w6 w5:=by rw [hw5];exact extNew _ _
   rw [← hw5] at hS5 hf5 ⊢
   clear hw5
   refine wpAnyT_only 15 _ (by kernel_rfl) rfl rfl (by rfl) (fun K5 hK5=>?_)
   go_simp
   go_at_call 31
   refine (CG _).mono ?_
   rintro e w7 ⟨v7,rfl,hO7,hE7⟩
   obtain ⟨A7,c7,rfl,-,hm7,hb7⟩:=hO7.form
   have hS7:=hS5.trans hE7
   refine hK5 _ _ (fun _=>hS7) ?_
   clear hK5 K5
   refine wpAnyT_only 16 _ (by kernel_rfl) rfl rfl (by rfl) (fun K6 hK6=>?_)
   go_simp
   have hP:=parts5New w7 (c1:=c2) (c2:=c3) (c3:=1) (c4:=c6) (c5:=c7) 29 (((((hS3.trans hE4).trans hE6).trans hE5).trans hE7).bytes hb2) ((((hE4.trans hE6).trans hE5).trans hE7).bytes hb3) (hE7.bytes hf5) ((hE5.trans hE7).bytes hb6) hb7 (by unfold maxLen;omega) (by have:=HL.out;unfold maxLen;omega) (by unfold maxLen;omega) (by have:=HL.out;unfold maxLen;omega) (by have:=HL.out;unfold maxLen;omega)
   have CA:=all_any _ 5 [[70,73,82,75,1],EB,[f],ER,EG] _ hP (by simp) (by have:=HL.out;simp only [List.flatten_cons,List.flatten_nil,List.length_append,List.length_cons,List.length_nil];omega)
   have hS9:=hS7.trans (extNew w7 (.cells #[.slice A2 5 c2,.slice A3 EB.length c3,.slice (some ⟨w6.heap.size,0,none⟩) 1 1,.slice A6 ER.length c6,.slice A7 EG.length c7] 29))
   unfold MadeB at CA
   rw [← HH.out] at CA
   clear hP
   refine hK6 _ _ (fun _=>hS9) ?_
   clear hK6 K6
   refine wpAnyT_only 17 _ (by kernel_rfl) rfl rfl (by rfl) (fun K7 hK7=>?_)
   go_simp
   go_at_call 18
   refine CA.mono ?_
   rintro e w10 ⟨v10,rfl,hO10,hE10⟩
   have hF10:=HE2.out.trans (hS9.trans hE10)
   have hO11:=hO10.mono (HE2.out.trans hS9).le
   clear CA hO10 hE10
   refine hK7 _ _ (fun h=>absurd h (by decide)) ?_
   clear hK7 K7
   refine wpAnyT_only 18 _ (by kernel_rfl) rfl rfl (by rfl) (fun K8 hK8=>?_)
   go_simp
   refine hK8 _ _ (fun h=>absurd h (by decide)) ?_
   clear hK8 K8
   refine wpAnyT_only 19 _ (by kernel_rfl) rfl rfl (by rfl) (fun K9 hK9=>?_)
   go_simp
   refine hK9 _ _ (fun h=>absurd h (by decide)) (wpAnyT_done (by kernel_rfl) ?_ _)
   clear hK9 K9
   go_wp2
   go_ret2
   exact ⟨_,rfl,hO11,hF10⟩
  ·go_simp
   go_at_call 31
   refine (CG _).mono ?_
   rintro e w7 ⟨v7,rfl,hO7,hE7⟩
   obtain ⟨A7,c7,rfl,-,hm7,hb7⟩:=hO7.form
   have hS7:=hS6.trans hE7
   refine hK4 _ _ (fun _=>hS7) ?_
   clear hK4 K4
   refine wpAnyT_only 9 _ (by kernel_rfl) rfl rfl (by rfl) (fun K5 hK5=>?_)
   go_simp
   have hS5:=hS7.trans (extNew w7 (.cells #[.int .u8 (f.toNat:Int)] 5))
   have hf5:=bytesNew w7 [f] #[.int .u8 (f.toNat:Int)] 5 (0,0) rfl 1 rfl
   refine hK5 _ _ (fun _=>hS5) ?_
   clear hK5 K5
   obtain ⟨w5,hw5⟩:∃ W,W=w7.alloc (.cells #[.int .u8 (f.toNat:Int)] 5):=⟨_,rfl⟩
   have hE5:Ext w7 w5:=by rw [hw5];exact extNew _ _
   rw [← hw5] at hS5 hf5 ⊢
   clear hw5
   refine wpAnyT_only 16 _ (by kernel_rfl) rfl rfl (by rfl) (fun K6 hK6=>?_)
   go_simp
   have hP:=parts5New w5 (c1:=c2) (c2:=c3) (c3:=1) (c4:=c6) (c5:=c7) 29 (((((hS3.trans hE4).trans hE6).trans hE7).trans hE5).bytes hb2) ((((hE4.trans hE6).trans hE7).trans hE5).bytes hb3) hf5 ((hE7.trans hE5).bytes hb6) (hE5.bytes hb7) (by unfold maxLen;omega) (by have:=HL.out;unfold maxLen;omega) (by unfold maxLen;omega) (by have:=HL.out;unfold maxLen;omega) (by have:=HL.out;unfold maxLen;omega)
   have CA:=all_any _ 5 [[70,73,82,75,1],EB,[f],ER,EG] _ hP (by simp) (by have:=HL.out;simp only [List.flatten_cons,List.flatten_nil,List.length_append,List.length_cons,List.length_nil];omega)
   have hS9:=hS5.trans (extNew w5 (.cells #[.slice A2 5 c2,.slice A3 EB.length c3,.slice (some ⟨w7.heap.size,0,none⟩) 1 1,.slice A6 ER.length c6,.slice A7 EG.length c7] 29))
   unfold MadeB at CA
   rw [← HH.out] at CA
   clear hP
   refine hK6 _ _ (fun _=>hS9) ?_
   clear hK6 K6
   refine wpAnyT_only 17 _ (by kernel_rfl) rfl rfl (by rfl) (fun K7 hK7=>?_)
   go_simp
   go_at_call 18
   refine CA.mono ?_
   rintro e w10 ⟨v10,rfl,hO10,hE10⟩
   have hF10:=HE2.out.trans (hS9.trans hE10)
   have hO11:=hO10.mono (HE2.out.trans hS9).le
   clear CA hO10 hE10
   refine hK7 _ _ (fun h=>absurd h (by decide)) ?_
   clear hK7 K7
   refine wpAnyT_only 18 _ (by kernel_rfl) rfl rfl (by rfl) (fun K8 hK8=>?_)
   go_simp
   refine hK8 _ _ (fun h=>absurd h (by decide)) ?_
   clear hK8 K8
   refine wpAnyT_only 19 _ (by kernel_rfl) rfl rfl (by rfl) (fun K9 hK9=>?_)
   go_simp
   refine hK9 _ _ (fun h=>absurd h (by decide)) (wpAnyT_done (by kernel_rfl) ?_ _)
   clear hK9 K9
   go_wp2
   go_ret2
   exact ⟨_,rfl,hO11,hF10⟩
end
end Go.Proofs.YtaogpmombefmmaaGreatDoor
