/- Chapter 20: how great the parts of a small log's body are. Chapter 22: archives of version 2, as plain mathematics. Chapter 20: the program's directory: first, records, count, counts. The program's pieces: whole, tokenOf, Split, Join. The program's pieces: Join. -/
import Derived.Test.YtpmedpdjglcdpaaGreatDoorB02
import Derived.Test.YtpmedpdjglcdpaaGreatDoorB06
import Derived.Test.YtpmedpdjglcdpaaGreatDoorB08
import Derived.Test.YtpmedpdjglcdpaaGreatDoorB10
import Derived.Test.YtpmedpdjglcdpaaGreatDoorB17
import Derived.Test.YtpmedpdjglcdpaaGreatDoorB18
import Derived.Test.YtpmedpdjglcdpaaGreatDoorB19
import Derived.Test.YtpmedpdjglcdpaaGreatDoorB20
import Derived.Test.YtpmedpdjglcdpaaGreatDoorB22
import Derived.OpenShut
namespace Go.Proofs.YtpmedpdjglcdpaaGreatDoor
section
open Rcs Num
theorem Wrd.words_half:∀ (p:Bool) (l:List UInt8),2*(zE p l).length≤l.length+(if p=true then 0 else 1)
 | p,[]=>by simp[zE]
 | p,c::t=>by
  have h:=words_half (isL c) t
  rw[zE,List.length_append,List.length_cons]
  cases hc:isL c<;>cases p<;>simp[hc]at h ⊢ <;> omega
namespace Pst
open Wrd
theorem Q8 (r:Rc):2*(zl r).length≤r.src.length+r.text.length+2:=by
 have h1:=xS ((zv r.src).map fun w=>64::w) ((zv r.text).foldl zM [])
 have h2:=xS (zv r.text) []
 have h3:=words_half false r.text
 have h4:=words_half false r.src
 unfold zl xh
 unfold zv at *
 rw[List.length_map]at h1
 simp only[List.length_nil,Bool.false_eq_true,if_false]at h2 h3 h4
 omega
theorem qS:∀ (l:List Rc) (out:List (List UInt8)),2*(yU out l).length≤2*out.length+Rcs.weightE l
 | [],out=>by simp[yU,Rcs.weightE]
 | r::t,out=>by
  have h1:=qS t ((zl r).foldl zM out)
  have h2:=xS (zl r) out
  have h3:=Q8 r
  have e:Rcs.weightE (r::t)=16+r.src.length+r.text.length+Rcs.weightE t:=by unfold Rcs.weightE;simp
  have e2:yU out (r::t)=yU ((zl r).foldl zM out) t:=rfl
  rw[e,e2]
  omega
theorem gather_half (l:List Rc):2*(gather l).length≤Rcs.weightE l:=by
 have:=qS l []
 simp only[List.length_nil]at this
 unfold gather
 omega
end Pst
namespace Bdy
theorem Z6 (whole:Bool):∀ l:List Rc,(bytesB whole l).length≤2*weightE l
 | []=>by simp[bytesB]
 | r::t=>by
  have h1:=Z6 whole t
  have h2:=jp whole r
  have e:weightE (r::t)=16+r.src.length+r.text.length+weightE t:=by unfold weightE;simp
  unfold bytesB at h1 ⊢
  rw[List.flatMap_cons,List.length_append,e]
  omega
theorem Xw (a b:List Rc):weightE (a++b)=weightE a+weightE b:=by simp[weightE]
theorem vL (l:List Rc)(i n:Nat):weightE ((l.drop i).take n)≤weightE l:=by
 have h1:=Xw (l.take i) (l.drop i)
 have h2:=Xw ((l.drop i).take n) ((l.drop i).drop n)
 rw[List.take_append_drop]at h1 h2
 omega
theorem JZ {l:List Rc}(h:weightE l≤1500)(plain:Bool):(Blk.writeF (bytesB false l) plain).2=0∧(Blk.writeF (bytesB false l) plain).1.length≤4000:=by
 have hb:=Z6 false l
 have hlt:¬ 32768<(bytesB false l).length:=by omega
 unfold Blk.writeF
 rw[if_neg hlt]
 refine⟨rfl,?_⟩
 dsimp only
 rw[Blk.frame_len]
 have h1:=enc_len (bytesB false l).length
 have h2:=enc_len (Blk.bodyOf (bytesB false l) plain).length
 have h3:=Blk.body_le (bytesB false l) plain
 omega
theorem flat_le {k:Nat}:∀ ls:List (List UInt8),(∀ s,s∈ls→s.length≤k)→ls.flatten.length≤k*ls.length
 | [],_=>by simp
 | s::t,h=>by
  have h1:=h s (by simp)
  have h2:=flat_le t fun s hs=>h s (by simp[hs])
  rw[List.flatten_cons,List.length_append,List.length_cons,Nat.mul_add]
  omega
theorem J0 {l:List Rc}(h:weightE l≤1500)(plain:Bool)(gs:List Nat)(j:Nat):(qQ plain l gs j).length≤4000 :=
 (JZ (Nat.le_trans (vL l _ _) h) plain).2
theorem frames_small {l:List Rc}(h:weightE l≤1500)(plain:Bool)(gs:List Nat)(j:Nat):∀ s,s∈framesTo plain l gs j→s.length≤4000:=fun s hs=>by
 obtain⟨i,_,rfl⟩:=List.mem_map.1 hs
 exact J0 h plain gs i
theorem len_small {l:List Rc}(h:weightE l≤1500):l.length≤93:=by
 have:=weight_len l
 omega
theorem columns_small {l:List Rc}(h:weightE l≤1500):(columnsE l).length≤2000:=by
 have h1:=times_len l 0
 have h2:=levels_len l none
 have h3:=len_small h
 unfold columnsE
 rw[List.length_append]
 omega
theorem ja {l:List Rc}(h:weightE l≤1500):(Pst.buildE l).terms.length≤750∧(Pst.buildE l).lists.length≤750∧(∀ s,s∈(Pst.buildE l).terms→s.length≤25)∧∀ s,s∈(Pst.buildE l).lists→s.length≤93:=by
 have h1:=Pst.gather_half l
 have h3:=len_small h
 refine⟨by show (Pst.gather l).length≤750;omega,by show ((Pst.gather l).map _).length≤750;rw[List.length_map];omega,fun s hs=>(Pst.term_size hs).2,fun s hs=>?_⟩
 obtain⟨t,_,rfl⟩:=List.mem_map.1 hs
 have:=Pst.ids_len l t
 omega
theorem index_ok {k:Int}(hk:1≤k∧k≤64){l:List Rc}(h:weightE l≤1500):(Pst.bytesE k l.length (Pst.buildE l)).2=0∧(Pst.bytesE k l.length (Pst.buildE l)).1.length≤200000:=by
 obtain⟨h1,h2,_,h4⟩:=ja h
 have h3:=len_small h
 have hm:=Pst.build_may (l:=l) (by omega) (by omega)
 have hc:¬ (k<1∨64<k∨Pst.mayE (l.length:Int) (Pst.buildE l)=false):=by
  rw[hm]
  simp
  omega
 unfold Pst.bytesE
 rw[if_neg hc]
 refine⟨rfl,?_⟩
 obtain⟨hb,hl,hd,ho⟩:=Pst.may_facts hm
 obtain⟨-,d2,-⟩:=Dic.may_facts hd
 have k1:=Dic.dict_small (size:=k.toNat) (by omega) (by omega) (l:=(Pst.buildE l).terms) (fun s hs=>(d2 s hs).2)
 have k2:=Pst.rows_most (bound:=(l.length:Int)) (k:=220) (U:=(Pst.buildE l).lists) (fun s hs=>Pst.row_hundred hb (ho s hs) (by have:=h4 s hs;omega))
 dsimp only
 rw[List.length_append]
 omega
theorem VS (gs:List Nat)(fs:List (List UInt8)):∀ j,(pairsTo gs fs j).length≤20*j
 | 0=>by simp[pairsTo]
 | j+1=>by
  have h1:=VS gs fs j
  have h2:=enc_len (gs.getD j 0)
  have h3:=enc_len (fs.getD j []).length
  rw[pairs_next,List.length_append,List.length_append]
  omega
theorem put_len (l:List UInt8):(Crc.put l).length=l.length+4:=Blk.put_len l
theorem fix_ok {x:Nat}(h:x<1000000):fixErr x 4=0∧(fixBytes x 4).length=4:=by
 have hc:(1:Int)≤4∧(4:Int)≤8∧x<256 ^ (4:Int).toNat:=⟨by omega,by omega,Nat.lt_of_lt_of_le h (by decide)⟩
 unfold fixErr fixBytes
 rw[if_pos hc,if_pos hc]
 exact⟨rfl,by simp[fix]⟩
theorem chk_facts {b k:Int}(h:Opt.chk 2 b k 0 0 0=0):(16≤b∧b≤32768)∧1≤k∧k≤64:=by
 unfold Opt.chk at h
 rw[if_pos (by omega)]at h
 split at h
 ·rename_i hm
  unfold Opt.MayE at hm
  omega
 ·simp at h
end Bdy
end
section
namespace Tp
open Num Rcs
def zP (b:Nat)(f:UInt8)(g:Nat):List UInt8:=[70,73,82,75,2]++enc b++[f]++enc g
def vz (b:Nat)(f:UInt8)(g:Nat):List UInt8:=Crc.put (zP b f g)
def xU (b:Int)(plain:Bool)(k d y c:Int)(l:List Rc):List UInt8×Int :=
 if Opt.chk 2 b k d y c≠0 then ([],Opt.chk 2 b k d y c) else if (Bdy.makeE b k plain l).2≠0 then ([],(Bdy.makeE b k plain l).2) else
  (vz b.toNat (Arc.flagB plain) k.toNat++(Bdy.makeE b k plain l).1,0)
theorem ZB (b:Nat)(f:UInt8)(g:Nat):(zP b f g).length≤26:=by
 have h1:=enc_len b
 have h2:=enc_len g
 unfold zP
 simp only[List.length_append,List.length_cons,List.length_nil]
 omega
theorem head_len (b:Nat)(f:UInt8)(g:Nat):(vz b f g).length≤30:=by
 have h:=ZB b f g
 unfold vz
 rw[Bdy.put_len]
 omega
theorem chk_facts {b k d y c:Int}(h:Opt.chk 2 b k d y c=0):(16≤b∧b≤32768)∧1≤k∧k≤64:=by
 unfold Opt.chk at h
 rw[if_pos (by omega)]at h
 split at h
 ·rename_i hm
  unfold Opt.MayE at hm
  omega
 ·simp at h
theorem J1 (gs:List Nat)(fs:List (List UInt8)):∀ j,(Bdy.pairsTo gs fs j).length≤20*j
 | 0=>by simp[Bdy.pairsTo]
 | j+1=>by
  have h1:=enc_len (gs.getD j 0)
  have h2:=enc_len (fs.getD j []).length
  have h3:=J1 gs fs j
  rw[Bdy.pairs_next,List.length_append,List.length_append]
  omega
theorem Xx {b k:Int}{p:Bool}{l:List Rc}(hw:checkE l=0→weightE l≤1500):(Bdy.makeE b k p l).1.length≤1000000:=by
 unfold Bdy.makeE
 split
 ·simp
 ·rename_i hc
  split
  ·simp
  ·rename_i hl
   have hwl:=hw (by omega)
   obtain⟨-,hk⟩:=Bdy.chk_facts (b:=b) (k:=k) (by omega)
   have h1:=Bdy.flat_le (k:=4000) _ (Bdy.frames_small hwl p (Bdy.groupsN b l) (Bdy.groupsN b l).length)
   rw[Bdy.frames_len]at h1
   have h2:=Bdy.groups_few b l
   have h3:=Bdy.len_small hwl
   have h4:=Bdy.columns_small hwl
   have h5:=(Bdy.index_ok hk hwl).2
   have h6:=J1 (Bdy.groupsN b l) (Bdy.framesTo p l (Bdy.groupsN b l) (Bdy.groupsN b l).length) (Bdy.groupsN b l).length
   dsimp only
   generalize Bdy.framesTo p l (Bdy.groupsN b l) (Bdy.groupsN b l).length=fs at *
   generalize (Pst.bytesE k l.length (Pst.buildE l)).1=I at *
   generalize columnsE l=K at *
   generalize Bdy.groupsN b l=gs at *
   have h7:(Bdy.dirB l.length gs fs (Crc.put K) (Crc.put I)).length≤2000:=by
    have a1:=enc_len l.length
    have a2:=enc_len gs.length
    have a3:=enc_len (Crc.put K).length
    have a4:=enc_len (Crc.put I).length
    unfold Bdy.dirB
    simp only[List.length_append]
    omega
   unfold Bdy.joinE
   generalize Bdy.dirB l.length gs fs (Crc.put K) (Crc.put I)=D at *
   have h8:=(Bdy.fix_ok (x:=(Crc.put D).length) (by rw[Bdy.put_len];omega)).2
   simp only[List.length_append,Bdy.put_len]at *
   omega
theorem pack_none:xU 16 false 1 0 0 0 []=(vz 16 0 1++Bdy.joinE 0 [] [] [] [0],0):=by decide +kernel
end Tp
end
section
open Go.RowKit Bdy
def DirAt (w:World)(g:Nat)(E L:List Int):Prop:=∃ A1 c1 A2 c2,Whole w g 59 #[.slice A1 E.length c1,.slice A2 L.length c2]∧(E.length≤c1∧c1≤maxLen)∧(L.length≤c2∧c2≤maxLen)∧IntsAt w w.heap.size A1 E.length E∧IntsAt w w.heap.size A2 L.length L
theorem DirAt.ext {w w':World}{g:Nat}{E L:List Int}(h:DirAt w g E L)(hE:Ext w w'):DirAt w' g E L:=by
 obtain⟨A1,c1,A2,c2,hW,h1,h2,h3,h4⟩:=h
 exact⟨A1,c1,A2,c2,hW.ext hE,h1,h2,h3.later hE,h4.later hE⟩
def Bdy.firstE (E:List Int)(k:Nat):Int:=if k=0 then 0 else E.getD (k-1) 0
theorem IntsAt.cellB {w:World}{B n i:Nat}{A:Option Addr}{L:List Int}(h:IntsAt w B A n L)(hi:i<n):∃ b o,A=some ⟨b,o,none⟩∧w.cell? ⟨b,o+i,none⟩=some (.int .i64 (L.getD i 0))∧b<B:=by
 rcases h.2 with h0 | ⟨b,off,rfl,hb,hc⟩
 ·omega
 ·exact⟨b,off,rfl,hc i hi,hb⟩
set_option maxHeartbeats 1000000 in
set_option maxRecDepth 100000 in
theorem Xy {w:World}{g:Nat}{E L:List Int}(h:DirAt w g E L)(k:Nat)(hk:k≤E.length)(hm:E.length≤1000000) :
  Calls Tryz.prog 113 #[.pointer (some ⟨g,0,none⟩),.int .i64 (k:Int)] w fun e w'=>e=.returned (.int .i64 (firstE E k))∧w=w':=by
 obtain⟨A1,c1,A2,c2,hW,-,-,hI,-⟩:=h
 have s0:=hW.at 0 (u:=.slice A1 E.length c1) rfl
 rcases Nat.eq_zero_or_pos k with rfl|hp
 ·clear hI hW hk hm
  go_enter Tryz.func113,Tryz.ntmps113
  go_wp2
  go_ret
  exact⟨rfl,rfl⟩
 ·obtain⟨j,hj⟩:∃ j,j=k-1:=⟨_,rfl⟩
  obtain⟨b,off,rfl,hc,-⟩:=hI.cellB (i:=j) (by omega)
  have hv:firstE E k=E.getD j 0:=by unfold firstE;rw[if_neg (by omega),hj]
  rw[hv]
  have hjk:(k:Int)-1=(j:Int):=by omega
  have hk0:((k:Int)==0)=false:=by rw[beq_eq_false_iff_ne];omega
  have hk1:¬ (k:Int)=0:=by omega
  have hjn:j<E.length:=by omega
  have hk9:(k:Int)≤1000000:=by omega
  generalize E.getD j 0=x at *
  generalize E.length=n at *
  clear hW hI hj hp hv hk hm
  go_enter Tryz.func113,Tryz.ntmps113
  go_wp2
  go_ret
  exact⟨rfl,rfl⟩
set_option maxHeartbeats 1000000 in
set_option maxRecDepth 100000 in
theorem qT {w:World}{g:Nat}{E L:List Int}(h:DirAt w g E L)(hm:E.length≤1000000) :
  Calls Tryz.prog 82 #[.pointer (some ⟨g,0,none⟩)] w fun e w'=>e=.returned (.int .i64 (firstE E E.length))∧w=w':=by
 have C:=Xy h E.length (Nat.le_refl _) hm
 obtain⟨A1,c1,A2,c2,hW,-,-,hI,-⟩:=h
 have s0:=hW.at 0 (u:=.slice A1 E.length c1) rfl
 generalize firstE E E.length=x at *
 generalize E.length=n at *
 clear hW hI
 go_enter Tryz.func82,Tryz.ntmps82
 go_wp2_with fail
 refine C.mono ?_
 rintro e w2 ⟨rfl,rfl⟩
 go_wp2
 go_ret
 exact⟨rfl,rfl⟩
set_option maxHeartbeats 1000000 in
set_option maxRecDepth 100000 in
theorem Q9 {w:World}{g:Nat}{E L:List Int}(h:DirAt w g E L)(k:Nat)(hk:k<E.length)(hm:E.length≤1000000)(h1:-1000000≤firstE E k∧firstE E k≤1000000)(h2:-1000000≤E.getD k 0∧E.getD k 0≤1000000) :
  Calls Tryz.prog 114 #[.pointer (some ⟨g,0,none⟩),.int .i64 (k:Int)] w fun e w'=>e=.returned (.int .i64 (E.getD k 0-firstE E k))∧Ext w w':=by
 have C:=fun W (hE:Ext w W)=>Xy (h.ext hE) k (by omega) hm
 obtain⟨A1,c1,A2,c2,hW,-,-,hI,-⟩:=h
 obtain⟨b,off,rfl,hc,hlt⟩:=hI.cellB (i:=k) hk
 have HW:=hide hW
 have HC:=hide (show ∀ W,Ext w W→W.cell? ⟨b,off+k,none⟩=some (.int .i64 (E.getD k 0)) from fun W hE=>(hE.cell hlt).trans hc)
 generalize firstE E k=x at *
 generalize E.getD k 0=y at *
 have HWr:=hide (show IntKind.i64.wrap (y-x)=y-x by rw[IntKind.wrap_i64];omega)
 generalize E.length=n at *
 clear hW hI hc h1 h2
 go_enter Tryz.func114,Tryz.ntmps114
 go_wp2_with fail
 refine zq (fun W=>Ext w W) 10 12 #[false,false,false,false,false,false,false,false,false,false,false,false] (by kernel_rfl) rfl rfl (Ext.refl w).drew ?_
 intro hS0
 refine za 0 (some 5) (.pointer (some ⟨g,0,none⟩)) _ rfl rfl rfl (by kernel_rfl) (fun _ _ _ h=>h) hS0 (by rfl) (fun W hX=>by have s0:=(HW.out.ext hX).at 0 (u:=.slice (some ⟨b,off,none⟩) n c1) rfl;have s1:=HC.out W hX;go_simp) ?_
 simp only[sP]
 refine za 1 (some 6) (.pointer (some ⟨g,0,none⟩)) _ rfl rfl rfl (by kernel_rfl) (fun _ _ _ h=>h) hS0 (by rfl) (fun W hX=>by have s0:=(HW.out.ext hX).at 0 (u:=.slice (some ⟨b,off,none⟩) n c1) rfl;have s1:=HC.out W hX;go_simp) ?_
 simp only[sP]
 refine za 2 (some 7) (.pointer (some ⟨g,0,none⟩)) _ rfl rfl rfl (by kernel_rfl) (fun _ _ _ h=>h) hS0 (by rfl) (fun W hX=>by have s0:=(HW.out.ext hX).at 0 (u:=.slice (some ⟨b,off,none⟩) n c1) rfl;have s1:=HC.out W hX;go_simp) ?_
 simp only[sP]
 refine za 3 (some 8) (.slice (some ⟨b,off,none⟩) n c1) _ rfl rfl rfl (by kernel_rfl) (fun _ _ _ h=>h) hS0 (by rfl) (fun W hX=>by have s0:=(HW.out.ext hX).at 0 (u:=.slice (some ⟨b,off,none⟩) n c1) rfl;have s1:=HC.out W hX;go_simp) ?_
 simp only[sP]
 refine za 4 (some 9) (.int .i64 (k:Int)) _ rfl rfl rfl (by kernel_rfl) (fun _ _ _ h=>h) hS0 (by rfl) (fun W hX=>by have s0:=(HW.out.ext hX).at 0 (u:=.slice (some ⟨b,off,none⟩) n c1) rfl;have s1:=HC.out W hX;go_simp) ?_
 simp only[sP]
 refine za 5 (some 10) (.pointer (some ⟨b,off+k,none⟩)) _ rfl rfl rfl (by kernel_rfl) (fun _ _ _ h=>h) hS0 (by rfl) (fun W hX=>by have s0:=(HW.out.ext hX).at 0 (u:=.slice (some ⟨b,off,none⟩) n c1) rfl;have s1:=HC.out W hX;go_simp) ?_
 simp only[sP]
 refine za 6 (some 11) (.int .i64 y) _ rfl rfl rfl (by kernel_rfl) (fun _ _ _ h=>h) hS0 (by rfl) (fun W hX=>by have s0:=(HW.out.ext hX).at 0 (u:=.slice (some ⟨b,off,none⟩) n c1) rfl;have s1:=HC.out W hX;go_simp) ?_
 simp only[sP]
 refine za 7 (some 12) (.pointer (some ⟨g,0,none⟩)) _ rfl rfl rfl (by kernel_rfl) (fun _ _ _ h=>h) hS0 (by rfl) (fun W hX=>by have s0:=(HW.out.ext hX).at 0 (u:=.slice (some ⟨b,off,none⟩) n c1) rfl;have s1:=HC.out W hX;go_simp) ?_
 simp only[sP]
 refine za 8 (some 13) (.int .i64 (k:Int)) _ rfl rfl rfl (by kernel_rfl) (fun _ _ _ h=>h) hS0 (by rfl) (fun W hX=>by have s0:=(HW.out.ext hX).at 0 (u:=.slice (some ⟨b,off,none⟩) n c1) rfl;have s1:=HC.out W hX;go_simp) ?_
 simp only[sP]
 refine zc 9 _ (by kernel_rfl) rfl rfl (by rfl) (fun K0 hK0=>?_)
 go_simp
 go_at_call 113
 refine (C _ hS0).mono ?_
 rintro e w2 ⟨rfl,rfl⟩
 refine hK0 _ _ (fun _=>hS0) ?_
 clear hK0 K0
 refine zc 10 _ (by kernel_rfl) rfl rfl (by rfl) (fun K1 hK1=>?_)
 go_simp
 rw[HWr.out]
 refine hK1 _ _ (fun h=>absurd h (by decide)) ?_
 clear hK1 K1
 refine zc 11 _ (by kernel_rfl) rfl rfl (by rfl) (fun K2 hK2=>?_)
 go_simp
 refine hK2 _ _ (fun h=>absurd h (by decide)) (zj (by kernel_rfl) ?_ _)
 clear hK2 K2
 go_wp2
 go_ret
 exact⟨rfl,hS0⟩
end
section
open Go.RowKit Lz Tok
set_option maxHeartbeats 1000000 in
theorem jb (p:PcV)(w:World):Calls Tryz.prog 152 #[pcV p] w fun e w'=>e=.returned (.bool (decide (257≤p.sym)))∧Ext w w':=by
 have hE:=zb w (.cells #[.int .i64 p.sym,.int .i64 p.len,.int .i64 p.dist,.int .i64 p.far] 153)
 have c0:=(Whole.new w 153 #[.int .i64 p.sym,.int .i64 p.len,.int .i64 p.dist,.int .i64 p.far]).at 0 (u:=.int .i64 p.sym) rfl
 unfold pcV
 go_enter Tryz.func152,Tryz.ntmps152
 go_wp2
 go_ret
 exact⟨rfl,hE⟩
set_option maxHeartbeats 1000000 in
theorem J2 (p:PcV)(w:World)(h0:257≤p.sym)(h1:p.sym≤9223372036854775807):Calls Tryz.prog 158 #[pcV p] w fun e w'=>e=.returned (.int .i64 (p.sym-257))∧Ext w w':=by
 have hE:=zb w (.cells #[.int .i64 p.sym,.int .i64 p.len,.int .i64 p.dist,.int .i64 p.far] 153)
 have c0:=(Whole.new w 153 #[.int .i64 p.sym,.int .i64 p.len,.int .i64 p.dist,.int .i64 p.far]).at 0 (u:=.int .i64 p.sym) rfl
 unfold pcV
 go_enter Tryz.func158,Tryz.ntmps158
 go_wp2
 go_ret
 exact⟨rfl,hE⟩
set_option maxHeartbeats 2000000 in
set_option maxRecDepth 100000 in
theorem Xz (t:TokV)(w:World):Calls Tryz.prog 125 #[jA t] w (jx w (zC t)):=by
 have hE1:=(zb w (.cells #[.int .u8 (t.lit.toNat:Int),.int .i64 t.len,.int .i64 t.dist] 157)).alloc (.cells #[.int .i64 0,.int .i64 0,.int .i64 0,.int .i64 0] 153)
 have hW1:=(Whole.new w 157 #[.int .u8 (t.lit.toNat:Int),.int .i64 t.len,.int .i64 t.dist]).alloc (.cells #[.int .i64 0,.int .i64 0,.int .i64 0,.int .i64 0] 153)
 have hP1:=Whole.new (w.alloc (.cells #[.int .u8 (t.lit.toNat:Int),.int .i64 t.len,.int .i64 t.dist] 157)) 153 #[.int .i64 0,.int .i64 0,.int .i64 0,.int .i64 0]
 rw[World.size_alloc]at hP1
 have CM:=fun W=>abG t W
 unfold jA at CM ⊢
 cases hm:may t with
 | false =>
  rw[hm]at CM
  have HN:=hide (jn hm)
  generalize zC t=res at *
  clear hm
  generalize t.lit.toNat=y at *
  generalize t.len=tn at *
  generalize t.dist=td at *
  go_enter Tryz.func125,Tryz.ntmps125
  go_wp2_with (refine wpList_load_row rfl 157 (.tmp 1) rfl _ rfl _ _ _ _ hW1 Tryz.underlying157 rfl x8 ?_)
  refine (CM _).mono ?_
  rintro e w2 ⟨rfl,hE2⟩
  have hP2:=hP1.ext hE2
  clear CM
  go_wp2_with (refine zh rfl 153 (.tmp 2) (.tmp 12) rfl rfl rfl hP2 rfl yh (qd ..) ?_;intro w5 hW5 hG5 _)
  refine bodyPost_ret (zH rfl _ rfl rfl (run_loadVar_row _ _ _ _ _ _ _ hW5 Tryz.underlying153 rfl yh)) rfl ?_
  have hE:=hE1.trans hE2
  rw[HN.out]
  exact⟨rfl,Below.grown hE hG5 hE.le (fun k hk=>by cases hk;omega)⟩
 | true =>
  rw[hm]at CM
  have hwp:=hP1.lt
  by_cases h0:t.len=0
  ·have HN:=hide (xq hm h0)
   generalize zC t=res at *
   rw[h0]at CM hE1 hW1 hP1 ⊢
   clear hm h0
   have h8:=UInt8.toNat_lt t.lit
   generalize t.lit.toNat=y at *
   generalize t.dist=td at *
   go_enter Tryz.func125,Tryz.ntmps125
   go_wp2_with (refine wpList_load_row rfl 157 (.tmp 1) rfl _ rfl _ _ _ _ hW1 Tryz.underlying157 rfl x8 ?_)
   refine (CM _).mono ?_
   rintro e w2 ⟨rfl,hE2⟩
   have hP2:=hP1.ext hE2
   have hW2:=hW1.ext hE2
   have c0:=hW2.at 0 (u:=.int .u8 (y:Int)) rfl
   have c1:=hW2.at 1 (u:=.int .i64 0) rfl
   clear CM
   go_wp2_with (refine zh rfl 153 (.tmp 2) (.tmp 20) rfl rfl rfl hP2 rfl yh (qd ..) ?_;intro w5 hW5 hG5 _)
   refine bodyPost_ret (zH rfl _ rfl rfl (run_loadVar_row _ _ _ _ _ _ _ hW5 Tryz.underlying153 rfl yh)) rfl ?_
   have hE:=hE1.trans hE2
   rw[HN.out]
   exact⟨rfl,Below.grown hE hG5 hE.le (fun k hk=>by cases hk;omega)⟩
  ·obtain⟨_,m1,m2,m3,m4⟩:=may_facts hm h0
   obtain⟨v,hv⟩:=Int.eq_ofNat_of_zero_le (show 0≤t.len-2 by omega)
   obtain⟨d,hd⟩:=Int.eq_ofNat_of_zero_le (show 0≤t.dist by omega)
   have hlv:t.len=(v:Int)+2:=by omega
   have HN:=hide (show zC t=(⟨257+(Nat.log2 v:Nat),(v-2 ^ Nat.log2 v:Nat),(Nat.log2 d:Nat),(d-2 ^ Nat.log2 d:Nat)⟩,0) by
    unfold zC
    rw[if_neg (by rw[hm];simp),if_neg h0,hv,hd,Int.toNat_natCast,Int.toNat_natCast])
   have C1:=fun W=>VR v W (by omega) (by omega)
   have C2:=fun W=>VR d W (by omega) (by omega)
   have b1:Nat.log2 v<8:=jU (by omega) (by omega)
   have b2:Nat.log2 d<12:=jU (by omega) (by omega)
   generalize zC t=res at *
   rw[hlv,hd]at CM hE1 hW1 hP1 ⊢
   have hv8:v≤255:=by omega
   have hd4:d≤4095:=by omega
   clear hm h0 m1 m2 m3 m4 hv hd hlv
   generalize t.lit.toNat=y at *
   generalize v-2 ^ Nat.log2 v=x1 at *
   generalize d-2 ^ Nat.log2 d=x2 at *
   generalize Nat.log2 v=l1 at *
   generalize Nat.log2 d=l2 at *
   have hlb:(((v:Int)+2)==0)=false:=by rw[beq_eq_false_iff_ne];omega
   go_enter Tryz.func125,Tryz.ntmps125
   go_wp2_with (refine wpList_load_row rfl 157 (.tmp 1) rfl _ rfl _ _ _ _ hW1 Tryz.underlying157 rfl x8 ?_)
   refine (CM _).mono ?_
   rintro e w2 ⟨rfl,hE2⟩
   have hP2:=hP1.ext hE2
   have hW2:=hW1.ext hE2
   have c1:=hW2.at 1 (u:=.int .i64 ((v:Int)+2)) rfl
   clear CM
   go_wp2_with fail
   have hv2:(v:Int)+2-2=(v:Int):=by omega
   try rw[hv2]
   refine (C1 _).mono ?_
   rintro e w3 ⟨rfl,hE3⟩
   have hP3:=hP2.ext hE3
   have hW3:=hW2.ext hE3
   have c2:=hW3.at 2 (u:=.int .i64 (d:Int)) rfl
   clear C1
   go_wp2_with fail
   refine (C2 _).mono ?_
   rintro e w4 ⟨rfl,hE4⟩
   have hP4:=hP3.ext hE4
   have hE:=((hE1.trans hE2).trans hE3).trans hE4
   clear C2
   go_wp2_with (refine zh rfl 153 (.tmp 2) (.tmp 39) rfl rfl rfl hP4 rfl yh (qd ..) ?_;intro w5 hW5 hG5 _)
   refine bodyPost_ret (zH rfl _ rfl rfl (run_loadVar_row _ _ _ _ _ _ _ hW5 Tryz.underlying153 rfl yh)) rfl ?_
   rw[HN.out]
   exact⟨rfl,Below.grown hE hG5 hE.le (fun k hk=>by cases hk;omega)⟩
end
end Go.Proofs.YtpmedpdjglcdpaaGreatDoor
